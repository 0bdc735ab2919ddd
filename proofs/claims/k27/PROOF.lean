import PyProof.Rows.All
import Wide.All
import OpenK.AllK
import Wide.FinOn
import Lean
import PyProof.EqAt
import PyProof.EqKinds
import PyProof.TupleCall
import PyProof.EnumMake
import PyProof.EnumFor
import PyProof.NeKinds
import PyProof.EnumStmt
import PyProof.DictCompW
import KE.KDictList
import KE.KRevSl
import PyProof.ListRange
import PyProof.ConsumeWalk
import PyProof.SumWalk
import PyProof.MinMaxWalk
import PyProof.DictWalks
import PyProof.StrWalks
import PyProof.Rows.SortStr
import PyProof.Rows.SortShell
import PyProof.Rows.SortWalk
import PyProof.StrBlockG
import PyProof.StrLawsTight
import PyProof.Rows.RuleB_and
import PyProof.Rows.RuleB_or
import PyProof.Rows.SetFrom
import PyProof.SetRoads
import PyProof.Rows.SumAny
import KE.KRevIter
import PyProof.Rows.Range3
import KE.KDictLaws
import PyProof.ConsumeS
import PyProof.ZipIter
import PyProof.ListNew
import PyProof.Draws
import PyProof.SeqI3
import PyProof.CallStr
import PyProof.StrLawsChain
import PySem.Challenge.RW_drawnword_k27_rings
set_option Elab.async false
set_option linter.all false
set_option maxRecDepth 100000
theorem Qb{α β:Type _}{x:Option α}{f:α->Option β}{b:β}(h:x.bind f=some b):∃ a,x=some a/\f a=some b:=Option.bind_eq_some_iff.mp h
theorem Qm{α β:Type _}{x:Option α}{f:α->β}{b:β}(h:x.map f=some b):∃ a,x=some a/\f a=b:=Option.map_eq_some_iff.mp h
namespace L2
open PySem PySem.Spec PyProof.Rows
abbrev Key:=Sum Int Str
def keyIs:Key->Value->Bool
 | .inl k,v=>Value.isInt k v
 | .inr x,v=>Value.isStrOf x v
def keyH(w:World):Key->Int
 | .inl k=>hashInt k
 | .inr x=>hashStr w x
theorem keyIs_shape:∀ {k:Key} {v:Value},keyIs k v=true->(∃ i t,k=Sum.inl i/\v=Value.int i t)∨(∃ x t,k=Sum.inr x/\v=Value.str x t)
 | .inl i,v,h=>by
  obtain ⟨t,e⟩:=Value.isInt_shape (k:=i) (v:=v) h
  exact .inl ⟨i,t,rfl,e⟩
 | .inr x,v,h=>by
  obtain ⟨t,e⟩:=Value.isStrOf_shape (x:=x) (v:=v) h
  exact .inr ⟨x,t,rfl,e⟩
theorem keyIs_int(i:Int)(t:Tok):keyIs (.inl i) (.int i t)=true:=by simp [keyIs,Value.isInt]
theorem keyIs_str(x:Str)(t:Tok):keyIs (.inr x) (.str x t)=true:=by simp [keyIs,Value.isStrOf]
theorem key_ll(a b:Int):decide ((Sum.inl a:Key)=Sum.inl b)=(a == b):=by
 by_cases e:a=b
 ·subst e; simp
 ·have h:¬ (Sum.inl a:Key)=Sum.inl b:=fun q=>e (Sum.inl.inj q)
  rw [decide_eq_false h]
  exact (beq_eq_false_iff_ne.mpr e).symm
theorem key_rr(a b:Str):decide ((Sum.inr a:Key)=Sum.inr b)=decide (a=b):=by
 by_cases e:a=b
 ·subst e; simp
 ·have h:¬ (Sum.inr a:Key)=Sum.inr b:=fun q=>e (Sum.inr.inj q)
  rw [decide_eq_false h,decide_eq_false e]
theorem key_lr(a:Int)(b:Str):decide ((Sum.inl a:Key)=Sum.inr b)=false:=decide_eq_false (fun q=>nomatch q)
theorem key_rl(a:Str)(b:Int):decide ((Sum.inr a:Key)=Sum.inl b)=false:=decide_eq_false (fun q=>nomatch q)
def mixKind(prog:Program)(w:World):PySem.KeyKind prog w Key where
 is:=keyIs
 hash:=keyH w
 inj:=fun v a b ha hb=>by
  rcases keyIs_shape ha with ⟨i,t,rfl,rfl⟩ | ⟨x,t,rfl,rfl⟩
  ·rcases keyIs_shape hb with ⟨j,u,rfl,e⟩ | ⟨y,u,rfl,e⟩
   ·injection e with e1 _; rw [e1]
   ·exact nomatch e
  ·rcases keyIs_shape hb with ⟨j,u,rfl,e⟩ | ⟨y,u,rfl,e⟩
   ·exact nomatch e
   ·injection e with e1 _; rw [e1]
 byValue:=fun k v h=>by
  rcases keyIs_shape h with ⟨i,t,rfl,rfl⟩ | ⟨x,t,rfl,rfl⟩<;>rfl
 pyHash:=fun hv h=>by
  rcases keyIs_shape hv with ⟨i,t,rfl,rfl⟩ | ⟨x,t,rfl,rfl⟩
  ·exact wpAny_pyHash_int h
  ·exact wpAny_pyHash_str h
 eqBool:=fun hu hv h=>by
  rcases keyIs_shape hu with ⟨i,t,rfl,rfl⟩ | ⟨x,t,rfl,rfl⟩
  ·rcases keyIs_shape hv with ⟨j,u,rfl,rfl⟩ | ⟨y,u,rfl,rfl⟩
   ·rw [key_ll] at h; exact wpAny_eqBool_int h
   ·rw [key_lr] at h; exact SeqAt.EqAt.int_str i t y u _ _ _ _ h
  ·rcases keyIs_shape hv with ⟨j,u,rfl,rfl⟩ | ⟨y,u,rfl,rfl⟩
   ·rw [key_rl] at h; exact SeqAt.EqAt.str_int x t j u _ _ _ _ h
   ·rw [key_rr] at h; exact wpAny_eqBool_str h
 «strs»:=fun k x t v h=>by
  rcases keyIs_shape h with ⟨i,u,rfl,e⟩ | ⟨y,u,rfl,e⟩
  ·exact nomatch e
  ·injection e with e1 _
   subst e1
   cases v<;>rfl
theorem mixKind_int(prog:Program)(w:World)(i:Int)(t:Tok):(mixKind prog w).is (.inl i) (.int i t)=true:=keyIs_int i t
theorem mixKind_str(prog:Program)(w:World)(x:Str)(t:Tok):(mixKind prog w).is (.inr x) (.str x t)=true:=keyIs_str x t
end L2
namespace L2
open PySem PySem.Spec PyProof.Rows
inductive V where
 | non | bl (b:Bool) | int (i:Int) | str (x:Str) | byt (b:Array UInt8) | flt (b:UInt64) | ref (a:Addr) | ty (n:String)
 deriving DecidableEq
def RelV:V->Value->Prop
 | .non,u=>u=Value.none
 | .bl b,u=>u=Value.bool b
 | .int i,u=>∃ t,u=Value.int i t
 | .str x,u=>∃ t,u=Value.str x t
 | .byt b,u=>∃ t,u=Value.bytes b t
 | .flt b,u=>∃ t,u=Value.float b t
 | .ref a,u=>u=Value.ref a
 | .ty n,u=>u=Value.type n
abbrev Vals:List V->List Value->Prop:=Paired RelV
theorem Vals.length{xs:List V}{us:List Value}(r:Vals xs us):xs.length=us.length:=Paired.length r
theorem Vals.get:∀ {xs:List V} {us:List Value} {i:Nat} {x:V},Vals xs us->xs[i]?=some x->∃ u,us[i]?=some u/\RelV x u
 | _,_,_,_,.nil,e=>by simp at e
 | _,_,0,_,.cons r _,e=>by simp at e; subst e; exact ⟨_,rfl,r⟩
 | _,_,i+1,x,.cons _ t,e=>by
  obtain ⟨u,h1,h2⟩:=Vals.get (i:=i) (x:=x) t (by simpa using e)
  exact ⟨u,by simpa using h1,h2⟩
theorem Vals.set{x:V}{u:Value}(r:RelV x u):∀ {xs:List V} {us:List Value} (i:Nat),Vals xs us->Vals (xs.set i x) (us.set i u)
 | _,_,_,.nil=>.nil
 | _,_,0,.cons _ t=>.cons r t
 | _,_,i+1,.cons q t=>.cons q (Vals.set r i t)
theorem Vals.append:∀ {xs ys:List V} {us ws:List Value},Vals xs us->Vals ys ws->Vals (xs++ys) (us++ws)
 | _,_,_,_,.nil,s=>s
 | _,_,_,_,.cons r t,s=>.cons r (Vals.append t s)
theorem Vals.take:∀ {xs:List V} {us:List Value} (n:Nat),Vals xs us->Vals (xs.take n) (us.take n)
 | _,_,0,_=>.nil
 | _,_,_+1,.nil=>.nil
 | _,_,n+1,.cons r t=>.cons r (Vals.take n t)
theorem Vals.drop:∀ {xs:List V} {us:List Value} (n:Nat),Vals xs us->Vals (xs.drop n) (us.drop n)
 | _,_,0,r=>r
 | _,_,_+1,.nil=>.nil
 | _,_,n+1,.cons _ t=>Vals.drop n t
def RelO:Option V->Option Value->Prop
 | some v,some u=>RelV v u
 | none,none=>True
 | _,_=>False
def KV{κ:Type}:List (κ × V)->List (κ × Value)->Prop:=Paired fun (p:κ × V) (q:κ × Value)=>p.1=q.1/\RelV p.2 q.2
def kV:Key->V
 | .inl i=>.int i
 | .inr x=>.str x
inductive HO where
 /-- a list -/
 | lst (xs:List V)
 /-- a tuple (never changes) -/
 | tup (xs:List V)
 /-- a dict whose keys are ints and texts; one whose keys are tuples of ints and texts (the empty one is both) -/
 | dK (kvs:List (Key × V)) | dT (kvs:List (List Key × V))
 /-- a set of ints: its members,its size -/
 | set (S:Int->Bool) (n:Nat)
 /-- an instance of the class at C,its dict at dx,its attributes -/
 | ins (C dx:Addr) (fs:List (Str × V))
 /-- the dict of the instance at x -/
 | own (x:Addr)
 /-- the dict of an exception -/
 | xd (fs:List (Str × V))
 /-- a bound method,f of x -/
 | met (f x:Addr)
 /-- a range object lo,lo+1,.. below hi -/
 | rng (lo hi:Int)
 /-- a thing that is known to the object (the script; a dict while a loop walks it): read,never written while it is so -/
 | frz (o:Obj) (u:HO)
 /-- a code object's table -/
 | tbl (ps:Array Value)
 /-- any other thing,by what is true of its one object (a def of one's own: SetO a S n:=HO.ext fun h=>..) -/
 | ext (φ:Heap->Prop)
abbrev Hp:=Addr->Option HO
def upd(H:Hp)(a:Addr)(o:HO):Hp:=fun b=>if b=a then some o else H b
theorem upd_same{H:Hp}{a:Addr}{o:HO}:upd H a o a=some o:=by unfold upd; rw [if_pos rfl]
theorem upd_ne{H:Hp}{a b:Addr}{o:HO}(h:b≠a):upd H a o b=H b:=by unfold upd; rw [if_neg h]
theorem ne_of_none{H:Hp}{a b:Addr}{o:HO}(h:H a=some o)(h':H b=none):a≠b:=by
 intro e; subst e; rw [h] at h'; cases h'
section
variable (P:Program)(w:World)
def ObjOk(H:Hp)(h:Heap)(a:Addr):HO->Prop
 | .lst xs=>xs.length<=sizeLine/\∃ (its:List Value) (n:Nat),Vals xs its/\h.get? a=some { cls:=.type "list",data:=.seq its.toArray n }
 | .tup xs=>xs.length<=sizeLine/\∃ its:List Value,Vals xs its/\IsTup h a its.toArray
 | .dK kvs=>kvs.length<=sizeLine/\(a == sysModules)=false/\∃ vs,KV kvs vs/\h.DictOf (mixKind P w) a vs
 | .dT kvs=>kvs.length<=sizeLine/\(a == sysModules)=false/\∃ xs:List (List Key × Addr × Value),
   Paired (fun (p:List Key × V) (q:List Key × Addr × Value)=>p.1=q.1/\H q.2.1=some (.tup (p.1.map kV))/\RelV p.2 q.2.2) kvs xs /\
   ∃ o es ep,h.get? a=some o/\o.ExactDict/\o.data=.dict es ep/\es.toList=xs.map (entryOfKey (tupleKind (mixKind P w)))/\(xs.map (·.1)).Nodup
 | .set S n=>h.SetOf (intKind P w) a S n
 | .ins C dx fs=>H dx=some (.own a)/\fs.length<=1000/\dx≠a/\h.get? a=some (PySem.W.instObj C dx) /\
   ∃ mA,h.Ns1 dx mA/\(∀ f,RelO (fs.lookup f) (mA f))/\PySem.Within mA (fs.map (·.1))
 | .own _=>∃ o,h.get? a=some o
 | .xd fs=>∃ mA,h.Ns1 a mA/\∀ f,RelO (fs.lookup f) (mA f)
 | .rng lo hi=>∃ t u v,h.get? a=some { cls:=.type "range",data:=.fields #[.int lo t,.int hi u,.int 1 v] }
 | .frz o u=>h.get? a=some o/\ObjOk H h a u
 | .tbl ps=>h.get? a=some { cls:=.none,data:=.fields ps }
 | .met f x=>h.get? a=some (PySem.W.methodObj (.ref f) (.ref x))
 | .ext φ=>φ h/\(∃ o,h.get? a=some o)/\∀ h1 h2:Heap,φ h1->(∀ o,h1.get? a=some o->h2.get? a=some o)->φ h2
def HOk(H:Hp)(h:Heap):Prop:=∀ a o,H a=some o->ObjOk P w H h a o
end
section
variable {P:Program}{w:World}{H H':Hp}{h h':Heap}{a:Addr}{o:HO}
theorem ObjOk.lt(x:ObjOk P w H h a o):a < h.objs.size:=by
 cases o with
 | lst xs=>obtain ⟨_,_,_,_,e⟩:=x; exact Heap.lt_size e
 | tup xs=>obtain ⟨_,_,_,p⟩:=x; exact p.lt
 | dK kvs=>obtain ⟨_,_,_,_,o,_,_,e,_⟩:=x; exact Heap.lt_size e
 | dT kvs=>obtain ⟨_,_,_,_,o,_,_,e,_⟩:=x; exact Heap.lt_size e
 | set S n=>obtain ⟨o,_,_,_,e,_⟩:=x; exact Heap.lt_size e
 | ins C dx fs=>obtain ⟨_,_,_,e,_⟩:=x; exact Heap.lt_size e
 | own y=>obtain ⟨_,e⟩:=x; exact Heap.lt_size e
 | xd fs=>obtain ⟨_,⟨_,_,_,e,_⟩,_⟩:=x; exact Heap.lt_size e
 | rng lo hi=>obtain ⟨_,_,_,e⟩:=x; exact Heap.lt_size e
 | frz ob u=>obtain ⟨e,_⟩:=x; exact Heap.lt_size e
 | tbl ps=>exact Heap.lt_size (show h.get? a=some _ from x)
 | met f y=>exact Heap.lt_size (show h.get? a=some _ from x)
 | ext φ=>obtain ⟨_,⟨_,e⟩,_⟩:=x; exact Heap.lt_size e
theorem Paired.mapP{α β:Type}{F G:α->β->Prop}:∀ {l₁:List α} {l₂:List β},Paired F l₁ l₂->(∀ a b,F a b->G a b)->Paired G l₁ l₂
 | _,_,.nil,_=>.nil
 | _,_,.cons r t,f=>.cons (f _ _ r) (Paired.mapP t f)
theorem ObjOk.stay(x:ObjOk P w H h a o)(k:∀ b u,(b=a∨H b=some (.own a))->h.get? b=some u->h'.get? b=some u)
  (ho:∀ b,H b=some (.own a)->H' b=some (.own a)) (ht:∀ b xs,H b=some (.tup xs)->H' b=some (.tup xs)):ObjOk P w H' h' a o:=by
 induction o with
 | lst xs=>obtain ⟨z,its,n,r,e⟩:=x; exact ⟨z,its,n,r,k _ _ (.inl rfl) e⟩
 | tup xs=>obtain ⟨z,its,r,ob,e,c⟩:=x; exact ⟨z,its,r,ob,k _ _ (.inl rfl) e,c⟩
 | dK kvs=>obtain ⟨z,y,vs,r,ob,es,ep,e,c⟩:=x; exact ⟨z,y,vs,r,ob,es,ep,k _ _ (.inl rfl) e,c⟩
 | dT kvs=>
  obtain ⟨z,y,xs,r,ob,es,ep,e,c⟩:=x
  exact ⟨z,y,xs,Paired.mapP r fun p q z=>⟨z.1,ht _ _ z.2.1,z.2.2⟩,ob,es,ep,k _ _ (.inl rfl) e,c⟩
 | set S n=>obtain ⟨ob,es,ep,t,e,c⟩:=x; exact ⟨ob,es,ep,t,k _ _ (.inl rfl) e,c⟩
 | ins C dx fs=>
  obtain ⟨d,z,ne,e,mA,⟨od,es,ep,e2,c⟩,r⟩:=x
  exact ⟨ho _ d,z,ne,k _ _ (.inl rfl) e,mA,⟨od,es,ep,k _ _ (.inr d) e2,c⟩,r⟩
 | own y=>obtain ⟨ob,e⟩:=x; exact ⟨ob,k _ _ (.inl rfl) e⟩
 | xd fs=>obtain ⟨mA,⟨od,es,ep,e,c⟩,r⟩:=x; exact ⟨mA,⟨od,es,ep,k _ _ (.inl rfl) e,c⟩,r⟩
 | rng lo hi=>obtain ⟨t,u,v,e⟩:=x; exact ⟨t,u,v,k _ _ (.inl rfl) e⟩
 | frz ob u ih=>obtain ⟨e,q⟩:=x; exact ⟨k _ _ (.inl rfl) e,ih q⟩
 | tbl ps=>
  have e:h.get? a=some { cls:=.none,data:=.fields ps }:=x
  show h'.get? a=some { cls:=.none,data:=.fields ps }
  exact k a _ (.inl rfl) e
 | met f y=>
  have e:h.get? a=some (PySem.W.methodObj (.ref f) (.ref y)):=x
  show h'.get? a=some (PySem.W.methodObj (.ref f) (.ref y))
  exact k a _ (.inl rfl) e
 | ext φ=>obtain ⟨p,⟨o,e⟩,st⟩:=x; exact ⟨st _ _ p fun o q=>k _ _ (.inl rfl) q,⟨o,k _ _ (.inl rfl) e⟩,st⟩
theorem HOk.lt(x:HOk P w H h)(e:H a=some o):a < h.objs.size:=(x a o e).lt
theorem HOk.fresh(x:HOk P w H h)(e:h.objs.size<=a):H a=none:=by
 cases q:H a with
 | none=>rfl
 | some u=>exact absurd (Nat.lt_of_lt_of_le (x.lt q) e) (Nat.lt_irrefl _)
theorem HOk.kept(x:HOk P w H h)(k:∀ b u,h.get? b=some u->h'.get? b=some u):HOk P w H h':=fun a o e=>
 (x a o e).stay (fun b u _ q=>k b u q) (fun _ q=>q) fun _ _ q=>q
theorem HOk.laid(x:HOk P w H h)(k:∀ b u,h.get? b=some u->h'.get? b=some u)(hp:h.objs.size<=a)(new:ObjOk P w (upd H a o) h' a o):HOk P w (upd H a o) h':=fun b u e=>by
 have hn:=x.fresh hp
 by_cases hb:b=a
 ·subst hb; rw [upd_same] at e; cases e; exact new
 ·rw [upd_ne hb] at e
  exact (x b u e).stay (fun c v _ q=>k c v q) (fun c q=>by rw [upd_ne (ne_of_none q hn)]; exact q) fun c xs q=>by rw [upd_ne (ne_of_none q hn)]; exact q
end
def Rd(H:Hp)(a:Addr)(u:HO):Prop:=H a=some u∨∃ o,H a=some (.frz o u)
theorem Rd.ok{P:Program}{w:World}{H:Hp}{h:Heap}{a:Addr}{u:HO}(r:Rd H a u)(x:HOk P w H h):ObjOk P w H h a u:=by
 rcases r with r | ⟨o,r⟩
 ·exact x a u r
 ·obtain ⟨_,q⟩:=x a _ r
  exact q
def Mut:Option HO->Prop
 | some (.lst _)=>True
 | some (.dK _)=>True
 | some (.dT _)=>True
 | some (.set _ _)=>True
 | some (.ins _ _ _)=>True
 | some (.ext _)=>True
 | _=>False
section
variable {P:Program}{w:World}{H:Hp}{h h':Heap}{x e:Addr}{o':HO}
theorem HOk.write(ok:HOk P w H h)(mu:Mut (H x))(he:e=x∨H e=some (.own x))(k:∀ b u,b≠e->h.get? b=some u->h'.get? b=some u)(heo:∃ u,h'.get? e=some u)
  (new:ObjOk P w (upd H x o') h' x o'):HOk P w (upd H x o') h':=fun b u q=>by
 have nown:∀ c y,H c=some (.own y)->c≠x:=fun c y r z=>by subst z; rw [r] at mu; exact mu
 have ntup:∀ c xs,H c=some (.tup xs)->c≠x:=fun c xs r z=>by subst z; rw [r] at mu; exact mu
 by_cases hb:b=x
 ·subst hb; rw [upd_same] at q; cases q; exact new
 ·rw [upd_ne hb] at q
  by_cases hbe:b=e
  ·have q':H b=some (.own x):=by
    rcases he with z | z
    ·exact absurd (hbe.trans z) hb
    ·rw [hbe]; exact z
   rw [q] at q'; cases q'
   obtain ⟨v,hv⟩:=heo
   exact ⟨v,by rw [hbe]; exact hv⟩
  ·refine (ok b u q).stay (fun c v hc r=>k c v ?_ r) (fun c r=>by rw [upd_ne (nown c b r)]; exact r) fun c xs r=>by rw [upd_ne (ntup c xs r)]; exact r
   rcases hc with rfl | hc
   ·exact hbe
   ·rintro rfl
    rcases he with z | z
    ·exact nown c b hc z
    ·rw [hc] at z; cases z; exact hb rfl
end
structure Un (fs ex:List Addr) (H H':Hp) (h h':Heap):Prop where
 keep:∀ b o,h.get? b=some o->H b=none->b∉fs->b∉ex->h'.get? b=some o
 slot:∀ b o,h.get? b=some o->H b=none->b∈fs->b∉ex->∃ sl,h'.get? b=some { o with slots:=sl }
 free:∀ b o,h.get? b=some o->H b=none->b∉ex->H' b=none
 there:∀ b o,h.get? b=some o->b∉ex->∃ o',h'.get? b=some o'
 tups:∀ b xs,H b=some (.tup xs)->H' b=some (.tup xs)
 frzs:∀ b o u,H b=some (.frz o u)->H' b=some (.frz o u)
 tbls:∀ b ps,H b=some (.tbl ps)->∃ more,H' b=some (.tbl (ps++more))
section
variable {fs fs' ex ex':List Addr}{H H1 H2:Hp}{h h1 h2 h':Heap}{a x e:Addr}{o:HO}
theorem Un.any(u:Un fs ex H H1 h h1){b:Addr}{ob:Obj}(q:h.get? b=some ob)(n:H b=none)(hx:b∉ex):∃ sl,h1.get? b=some { ob with slots:=sl }:=by
 by_cases hb:b∈fs
 ·exact u.slot b ob q n hb hx
 ·exact ⟨ob.slots,u.keep b ob q n hb hx⟩
theorem Un.kept(k:∀ b u,h.get? b=some u->h'.get? b=some u):Un fs ex H H h h':=
 ⟨fun b ob q _ _ _=>k b ob q,fun b ob q _ _ _=>⟨ob.slots,k b ob q⟩,fun _ _ _ n _=>n,fun b ob q _=>⟨ob,k b ob q⟩,fun _ _ q=>q,fun _ _ _ q=>q,fun _ ps q=>⟨#[],by rw [q]; simp⟩⟩
theorem Un.refl:Un fs ex H H h h:=Un.kept fun _ _ q=>q
theorem Un.laid(k:∀ b u,h.get? b=some u->h'.get? b=some u)(hp:h.objs.size<=a)(hn:H a=none):Un fs ex H (upd H a o) h h' where
 keep:=fun b u q _ _ _=>k b u q
 slot:=fun b u q _ _ _=>⟨u.slots,k b u q⟩
 free:=fun b u q n _=>by rw [upd_ne (Nat.ne_of_lt (Nat.lt_of_lt_of_le (Heap.lt_size q) hp))]; exact n
 there:=fun b u q _=>⟨u,k b u q⟩
 tups:=fun b xs q=>by rw [upd_ne (ne_of_none q hn)]; exact q
 frzs:=fun b u xs q=>by rw [upd_ne (ne_of_none q hn)]; exact q
 tbls:=fun b ps q=>⟨#[],by rw [upd_ne (ne_of_none q hn),q]; simp⟩
theorem Un.write(mu:Mut (H x))(he:e=x∨H e=some (.own x))(k:∀ b u,b≠e->h.get? b=some u->h'.get? b=some u)(heo:∃ u,h'.get? e=some u):Un fs ex H (upd H x o) h h':=by
 have hx:∀ b,H b=none->b≠x:=fun b n z=>by subst z; rw [n] at mu; exact mu
 have hb:∀ b,H b=none->b≠e:=fun b n z=>by
  subst z
  rcases he with r | r
  ·exact hx b n r
  ·rw [n] at r; cases r
 have hm:∀ b u,H b=some u->¬ Mut (some u)->b≠x:=fun b u q nm z=>by subst z; rw [q] at mu; exact nm mu
 refine ⟨fun b u q n _ _=>k b u (hb b n) q,fun b u q n _ _=>⟨u.slots,k b u (hb b n) q⟩,fun b u q n _=>by rw [upd_ne (hx b n)]; exact n,fun b u q _=>?_,
  fun b xs q=>by rw [upd_ne (hm b _ q fun z=>z)]; exact q,fun b u xs q=>by rw [upd_ne (hm b _ q fun z=>z)]; exact q,fun b ps q=>⟨#[],by rw [upd_ne (hm b _ q fun z=>z),q]; simp⟩⟩
 by_cases hbe:b=e
 ·subst hbe; exact heo
 ·exact ⟨u,k b u hbe q⟩
end
def trk(h:Heap)(H:Hp):List Addr:=(List.range h.objs.size).filter fun a=>(H a).isSome
def hidT(h:Heap)(H:Hp):Heap:=PySem.W.hideAll h (trk h H)
theorem hidT_size(h:Heap)(H:Hp):(hidT h H).objs.size=h.objs.size:=PySem.W.hideAll_size _ _
theorem hidT_get{h:Heap}{H:Hp}{b:Addr}{o:Obj}(e:h.get? b=some o)(n:H b=none):(hidT h H).get? b=some o:=
 PySem.W.hideAll_get _ e fun hm=>by
  have q:(H b).isSome=true:=(List.mem_filter.mp hm).2
  rw [n] at q; simp at q
theorem of_hidT{h:Heap}{H:Hp}{b:Addr}{o:Obj}(e:(hidT h H).get? b=some o):h.get? b=some o/\H b=none:=by
 have e':h.get? b=some o:=PySem.W.of_hideAll (trk h H) e
 refine ⟨e',?_⟩
 cases q:H b with
 | none=>rfl
 | some x=>
  have hm:b∈trk h H:=List.mem_filter.mpr ⟨List.mem_range.mpr (Heap.lt_size e'),by simp [q]⟩
  have z:(hidT h H).get? b=none:=PySem.W.hideAll_none (trk h H) hm
  rw [z] at e; cases e
def allNews(g h:Heap)(L:Addr):List (Addr × Obj):=(List.range h.objs.size).filterMap fun a=>if a=L∨(g.get? a).isSome=true then none else (h.get? a).map fun o=>(a,o)
def rest(g h:Heap)(L d:Addr):List (Addr × Obj):=(allNews g h L).filter fun p=>decide (p.1≠d)
end L2
namespace L2
open PySem PySem.Spec PyProof.Rows
structure Mod (K:PySem.W.Frag) (mg:Str->Option Value) (base:Heap):Prop where
 kin:K.In base
 glob:base.Ns mainGlobals mg
 blt:∃ mb,base.Ns builtinsNs mb/\∀ x:Str,x≠"__name__"->mb x=bootBuiltins x
 nolimit:base.NoLimit
structure Cx where
 prog:Program
 w:World
 K:PySem.W.Frag
 mg:Str->Option Value
 base:Heap
 A:Around
 N:List Str
 s₀:Shared
 H₀:Hp
 env:Env
 outer:List Env
 stack:List Env
 ex:List Addr
 fn:Str->Bool
 calm:Bool
 pn:List (Addr × Obj)
 xe:Value->Shared->Prop
def frs(l:List Env):List Addr:=l.filterMap (·.frame)
abbrev Cx.fs(X:Cx):List Addr:=frs X.outer
def Vis(sc:Scope)(x:Str):Prop:=sc.names.lookup x=some .local∨sc.names.lookup x=some .cell∨sc.names.lookup x=some .free
def Loc(sc:Scope)(x:Str):Prop:=sc.names.lookup x=some .local∨sc.names.lookup x=some .cell
def Look(env:Env)(h:Heap)(m:Str->Option Value)(x:Str)(u:Value):Prop:=
 (env.kindOf x=some .local/\m x=some u)∨((env.kindOf x=some .cell∨env.kindOf x=some .free)/\∃ c,env.cells.lookup x=some c/\h.IsCell c (some u))
structure Cx.Ok (X:Cx):Prop where
 mod:Mod X.K X.mg X.base
 kind:X.env.scope.kind=.function
 glob:X.env.globals=mainGlobals
 blt:X.env.builtins=builtinsNs
 above:X.s₀.heap.objs.size<=X.env.locals
 inj:∀ x y c,X.env.cells.lookup x=some c->X.env.cells.lookup y=some c->x=y
 has:∀ x,(X.env.kindOf x=some .cell∨X.env.kindOf x=some .free)->∃ c,X.env.cells.lookup x=some c
 cab:∀ x c,X.fn x=true->X.env.cells.lookup x=some c->X.s₀.heap.objs.size<=c
 hd:X.calm=true->X.A.handled=none
 frames:X.A.frames=some X.stack
 stk:X.stack=X.outer∨(X.stack=X.env::X.outer/\X.env.frame=some X.env.locals)
 exf:∀ b∈X.ex,b≠X.env.locals/\∀ x c,X.env.cells.lookup x=some c->c≠b
 bs:∀ b o,X.base.get? b=some o->X.s₀.heap.get? b=some o/\X.H₀ b=none
 bsz:X.base.objs.size<=X.s₀.heap.objs.size
 noex:∀ b o,X.base.get? b=some o->b∉X.ex
 exfs:∀ b∈X.ex,b∉X.fs
 funs:X.s₀.heap.FunFrames X.base X.outer
 frf:∀ b∈X.fs,X.H₀ b=none
structure Inv (X:Cx) (pins:List (Addr × Obj)) (σ:List (Option V)) (H:Hp) (s:Shared):Prop where
 ok:X.Ok
 os:s.os=X.s₀.os
 bare:AllBare s.gens
 base:Un X.fs X.ex X.H₀ H X.s₀.heap s.heap
 loc:∃ m,s.heap.Ns X.env.locals m/\∀ (i:Nat) (x:Str) (v:V),X.N[i]?=some x->σ[i]?=some (some v)->Vis X.env.scope x->∃ u,RelV v u/\Look X.env s.heap m x u
 cell:∀ x c,X.env.cells.lookup x=some c->∃ v,s.heap.IsCell c v
 free:H X.env.locals=none
 freeC:∀ x c,X.env.cells.lookup x=some c->H c=none
 pin:∀ p∈X.pn++pins,s.heap.get? p.1=some p.2/\H p.1=none/\p.1≠X.env.locals/\p.1∉X.fs/\∀ v,p.2.data≠.cell v
 hok:HOk X.prog X.w H s.heap
 len:σ.length=X.N.length
section
variable {X:Cx}{pins:List (Addr × Obj)}{σ:List (Option V)}{H H':Hp}{s:Shared}{h':Heap}
theorem Cx.Ok.nofr(ok:X.Ok){b:Addr}{o:Obj}(e:X.base.get? b=some o):b∉X.fs:=fun hb=>by
 have:=(ok.funs.mem hb).1
 rw [e] at this; cases this
theorem Inv.bs(I:Inv X pins σ H s):∀ b o,X.base.get? b=some o->s.heap.get? b=some o/\H b=none:=fun b o e=>
 ⟨I.base.keep b o (I.ok.bs b o e).1 (I.ok.bs b o e).2 (I.ok.nofr e) (I.ok.noex b o e),I.base.free b o (I.ok.bs b o e).1 (I.ok.bs b o e).2 (I.ok.noex b o e)⟩
theorem Inv.bk(I:Inv X pins σ H s):∀ b o,X.base.get? b=some o->s.heap.get? b=some o:=fun b o e=>(I.bs b o e).1
theorem Inv.mod(I:Inv X pins σ H s):Mod X.K X.mg X.base:=I.ok.mod
theorem Inv.kIn(I:Inv X pins σ H s):X.K.In s.heap:=I.ok.mod.kin.keeps I.bk
theorem Inv.lt(I:Inv X pins σ H s):X.env.locals < s.heap.objs.size:=let ⟨_,hn,_⟩:=I.loc; hn.lt
theorem Inv.sz(I:Inv X pins σ H s):X.s₀.heap.objs.size<=s.heap.objs.size:=Nat.le_trans I.ok.above (Nat.le_of_lt I.lt)
theorem Inv.nofs(I:Inv X pins σ H s){a:Addr}(h:s.heap.objs.size<=a):a∉X.fs:=fun hb=>by
 obtain ⟨_,o,ho,_⟩:=I.ok.funs.mem hb
 exact absurd (Nat.lt_of_lt_of_le (Heap.lt_size ho) (Nat.le_trans I.sz h)) (Nat.lt_irrefl _)
theorem Inv.cne(I:Inv X pins σ H s):∀ x c,X.env.cells.lookup x=some c->c≠X.env.locals:=fun x c e z=>by
 obtain ⟨v,o,ho,hd⟩:=I.cell x c e
 obtain ⟨m,⟨o',es,ep,ho',hd',_⟩,_⟩:=I.loc
 rw [z,ho'] at ho; cases ho; rw [hd'] at hd; cases hd
theorem Inv.funs(I:Inv X pins σ H s):s.heap.FunFrames X.base X.outer:=by
 have all:∀ (l:List Env),(∀ b∈frs l,b∈X.fs)->X.s₀.heap.FunFrames X.base l->s.heap.FunFrames X.base l:=by
  intro l
  induction l with
  | nil=>intro _ _; trivial
  | cons env r ih=>
   intro hs hl
   obtain ⟨hk,⟨L,o,hf,hn,ho,hd⟩,hr⟩:=hl
   have hL:L∈X.fs:=hs L (by unfold frs; rw [List.filterMap_cons,hf]; exact List.mem_cons_self)
   obtain ⟨sl,e⟩:=I.base.slot L o ho (I.ok.frf L hL) hL fun z=>I.ok.exfs L z hL
   exact ⟨hk,⟨L,_,hf,hn,e,hd⟩,ih (fun b hb=>hs b (by unfold frs; rw [List.filterMap_cons,hf]; exact List.mem_cons_of_mem _ hb)) hr⟩
 exact all X.outer (fun _ hb=>hb) I.ok.funs
theorem Inv.stack(I:Inv X pins σ H s):s.heap.FunFrames X.base X.stack:=by
 rcases I.ok.stk with e | ⟨e,hf⟩
 ·rw [e]; exact I.funs
 ·rw [e]
  obtain ⟨m,hn,_⟩:=I.loc
  refine .cons (by rw [I.ok.kind]; decide) hf hn ?_ I.funs
  exact Heap.get?_none_of_le (Nat.le_trans I.ok.bsz I.ok.above)
theorem Inv.stkSub(I:Inv X pins σ H s):∀ b∈frs X.stack,b∈X.env.locals::X.fs:=fun b hb=>by
 rcases I.ok.stk with e | ⟨e,hf⟩
 ·rw [e] at hb; exact List.mem_cons_of_mem _ hb
 ·rw [e] at hb
  unfold frs at hb
  rw [List.filterMap_cons,hf] at hb
  exact hb
theorem Inv.stkFree(I:Inv X pins σ H s):∀ b∈frs X.stack,H b=none:=fun b hb=>by
 rcases List.mem_cons.mp (I.stkSub b hb) with e | hb
 ·rw [e]; exact I.free
 ·obtain ⟨_,o,ho,_⟩:=I.ok.funs.mem hb
  exact I.base.free b o ho (I.ok.frf b hb) fun z=>I.ok.exfs b z hb
theorem Inv.step{g':Array GenState}{t':Nat}{d':Drawn}{ch:List Addr}(I:Inv X pins σ H s)
  (hch:∀ b∈ch,(b∈X.ex∨X.s₀.heap.objs.size<=b)/\b≠X.env.locals/\(∀ x c,X.env.cells.lookup x=some c->c≠b)/\∀ p∈X.pn++pins,p.1≠b)
  (keep:∀ b o,b≠X.env.locals->b∉X.fs->b∉ch->s.heap.get? b=some o->H b=none->h'.get? b=some o)
  (slot:∀ b o,b≠X.env.locals->b∈X.fs->b∉ch->s.heap.get? b=some o->H b=none->∃ sl,h'.get? b=some { o with slots:=sl }) (free:∀ b o,b∉ch->s.heap.get? b=some o->H b=none->H' b=none)
  (there:∀ b o,b∉ch->s.heap.get? b=some o->∃ o',h'.get? b=some o')
  (tups:∀ b xs,H b=some (.tup xs)->H' b=some (.tup xs)) (frzs:∀ b o u,H b=some (.frz o u)->H' b=some (.frz o u)) (tbls:∀ b ps,H b=some (.tbl ps)->∃ more,H' b=some (.tbl (ps++more)))
  (ns:∀ m,s.heap.Ns X.env.locals m->h'.Ns X.env.locals m) (hok:HOk X.prog X.w H' h') (hg:AllBare g') :
  Inv X pins σ H' { s with heap:=h',gens:=g',drawn:=d',toks:=t' }:=by
 have neL:∀ b o,X.s₀.heap.get? b=some o->b≠X.env.locals:=fun b o e=>Nat.ne_of_lt (Nat.lt_of_lt_of_le (Heap.lt_size e) I.ok.above)
 have neC:∀ b o,X.s₀.heap.get? b=some o->b∉X.ex->b∉ch:=fun b o e hx hb=>by
  rcases (hch b hb).1 with z | z
  ·exact hx z
  ·exact absurd (Nat.lt_of_lt_of_le (Heap.lt_size e) z) (Nat.lt_irrefl _)
 have cellK:∀ x c,X.env.cells.lookup x=some c->∀ v,s.heap.IsCell c v->h'.IsCell c v:=fun x c e v ⟨o,ho,hd⟩=>by
  have nch:c∉ch:=fun z=>(hch c z).2.2.1 x c e rfl
  by_cases hc:c∈X.fs
  ·obtain ⟨sl,q⟩:=slot c o (I.cne x c e) hc nch ho (I.freeC x c e)
   exact ⟨_,q,hd⟩
  ·exact ⟨o,keep c o (I.cne x c e) hc nch ho (I.freeC x c e),hd⟩
 refine ⟨I.ok,I.os,hg,⟨fun b o e n hb hx=>?_,fun b o e n hb hx=>?_,fun b o e n hx=>?_,fun b o e hx=>?_,fun b xs e=>tups b xs (I.base.tups b xs e),fun b o xs e=>frzs b o xs (I.base.frzs b o xs e),fun b ps e=>?_⟩,?_,fun x c e=>?_,?_,fun x c e=>?_,fun p hp=>?_,hok,I.len⟩
 ·exact keep b o (neL b o e) hb (neC b o e hx) (I.base.keep b o e n hb hx) (I.base.free b o e n hx)
 ·obtain ⟨sl,e1⟩:=I.base.slot b o e n hb hx
  obtain ⟨sl',e2⟩:=slot b _ (neL b o e) hb (neC b o e hx) e1 (I.base.free b o e n hx)
  exact ⟨sl',e2⟩
 ·obtain ⟨o',e1⟩:=I.base.there b o e hx
  exact free b o' (neC b o e hx) e1 (I.base.free b o e n hx)
 ·obtain ⟨o',e1⟩:=I.base.there b o e hx
  exact there b o' (neC b o e hx) e1
 ·obtain ⟨m1,e1⟩:=I.base.tbls b ps e
  obtain ⟨m2,e2⟩:=tbls b _ e1
  exact ⟨m1++m2,by rw [e2,Array.append_assoc]⟩
 ·obtain ⟨m,hn,hl⟩:=I.loc
  refine ⟨m,ns m hn,fun i x v e1 e2 e3=>?_⟩
  obtain ⟨u,r,l⟩:=hl i x v e1 e2 e3
  refine ⟨u,r,?_⟩
  rcases l with l | ⟨k,c,e,z⟩
  ·exact .inl l
  ·exact .inr ⟨k,c,e,cellK x c e _ z⟩
 ·obtain ⟨v,z⟩:=I.cell x c e
  exact ⟨v,cellK x c e v z⟩
 ·obtain ⟨m,⟨o,_,_,ho,_⟩,_⟩:=I.loc
  exact free _ o (fun z=>(hch _ z).2.1 rfl) ho I.free
 ·obtain ⟨v,o,ho,hd⟩:=I.cell x c e
  exact free c o (fun z=>(hch c z).2.2.1 x c e rfl) ho (I.freeC x c e)
 ·obtain ⟨e,n,ne,nf,d⟩:=I.pin p hp
  have nch:p.1∉ch:=fun z=>(hch p.1 z).2.2.2 p hp rfl
  exact ⟨keep p.1 p.2 ne nf nch e n,free p.1 p.2 nch e n,ne,nf,d⟩
theorem Inv.un{t':Nat}(I:Inv X pins σ H s)(u:Un X.fs [] H H' s.heap h')(hok:HOk X.prog X.w H' h'):Inv X pins σ H' { s with heap:=h',toks:=t' }:=by
 obtain ⟨m,⟨o,es,ep,ho,r⟩,_⟩:=id I.loc
 obtain ⟨sl,hL⟩:=u.any ho I.free (by simp)
 exact I.step (g':=s.gens) (d':=s.drawn) (ch:=[]) (fun _ z=>nomatch z) (fun b o _ hb _ e n=>u.keep b o e n hb (by simp)) (fun b o _ hb _ e n=>u.slot b o e n hb (by simp)) (fun b o _ e n=>u.free b o e n (by simp)) (fun b o _ e=>u.there b o e (by simp)) u.tups u.frzs u.tbls (fun m' hm=>by
  obtain ⟨o',es',ep',ho',r'⟩:=hm
  rw [ho] at ho'; cases ho'
  exact ⟨_,es',ep',hL,r'⟩) hok I.bare
theorem Inv.call{g':Array GenState}{t':Nat}{d':Drawn}{ch:List Addr}(I:Inv X pins σ H s)(u:Un (frs X.stack) ch H H' s.heap h')(hok:HOk X.prog X.w H' h')(hg:AllBare g')
  (hch:∀ b∈ch,(b∈X.ex∨X.s₀.heap.objs.size<=b)/\b≠X.env.locals/\(∀ x c,X.env.cells.lookup x=some c->c≠b)/\∀ p∈X.pn++pins,p.1≠b) :
  Inv X pins σ H' { s with heap:=h',gens:=g',drawn:=d',toks:=t' }:=by
 obtain ⟨m,⟨o,es,ep,ho,r⟩,_⟩:=id I.loc
 obtain ⟨sl,hL⟩:=u.any ho I.free fun z=>(hch _ z).2.1 rfl
 exact I.step (ch:=ch) hch (fun b o hL hb hc e n=>u.keep b o e n (fun z=>(List.mem_cons.mp (I.stkSub b z)).elim hL hb) hc) (fun b o _ _ hc e n=>u.any e n hc) (fun b o hc e n=>u.free b o e n hc) (fun b o hc e=>u.there b o e hc) u.tups u.frzs u.tbls (fun m' hm=>by
  obtain ⟨o',es',ep',ho',r'⟩:=hm
  rw [ho] at ho'; cases ho'
  exact ⟨_,es',ep',hL,r'⟩) hok hg
theorem Inv.turned{t':Nat}{it:Addr}(I:Inv X pins σ H s)(k:∀ b o,b≠it->s.heap.get? b=some o->h'.get? b=some o)(hn:H it=none)(hL:it≠X.env.locals)
  (h1:it∈X.ex∨X.s₀.heap.objs.size<=it) (h2:∀ x c,X.env.cells.lookup x=some c->c≠it) (h3:∀ p∈X.pn++pins,p.1≠it):Inv X pins σ H { s with heap:=h',toks:=t' }:=by
 have nit:∀ b u,H b=some u->b≠it:=fun b u e z=>by rw [z,hn] at e; cases e
 refine I.step (g':=s.gens) (d':=s.drawn) (ch:=[it]) (fun b hb=>?_) (fun b o _ _ hc e _=>k b o (fun z=>hc (by simp [z])) e) (fun b o _ _ hc e _=>⟨o.slots,k b o (fun z=>hc (by simp [z])) e⟩) (fun _ _ _ _ n=>n)
  (fun b o hc e=>⟨o,k b o (fun z=>hc (by simp [z])) e⟩) (fun _ _ e=>e) (fun _ _ _ e=>e) (fun b ps e=>⟨#[],by rw [e]; simp⟩) (fun m hm=>?_) (fun b u e=>?_) I.bare
 ·have e:b=it:=by simpa using hb
  subst e
  exact ⟨h1,hL,h2,h3⟩
 ·obtain ⟨o,es,ep,ho,r⟩:=hm
  exact ⟨o,es,ep,k _ o (Ne.symm hL) ho,r⟩
 ·refine (I.hok b u e).stay (fun c v hc q=>k c v ?_ q) (fun _ q=>q) fun _ _ q=>q
  rcases hc with z | z
  ·rw [z]; exact nit b u e
  ·exact nit c _ z
theorem Inv.tok(I:Inv X pins σ H s)(t:Nat):Inv X pins σ H { s with toks:=t }:=I.un (h':=s.heap) (t':=t) Un.refl I.hok
theorem Inv.kept{t':Nat}(I:Inv X pins σ H s)(k:∀ b u,s.heap.get? b=some u->h'.get? b=some u):Inv X pins σ H { s with heap:=h',toks:=t' }:=I.un (Un.kept k) (I.hok.kept k)
theorem Inv.laid{a:Addr}{o:HO}{t':Nat}(I:Inv X pins σ H s)(k:∀ b u,s.heap.get? b=some u->h'.get? b=some u)(hp:s.heap.objs.size<=a)(new:ObjOk X.prog X.w (upd H a o) h' a o) :
  Inv X pins σ (upd H a o) { s with heap:=h',toks:=t' }:=I.un (Un.laid k hp (I.hok.fresh hp)) (I.hok.laid k hp new)
theorem Inv.write{x e:Addr}{o:HO}{t':Nat}(I:Inv X pins σ H s)(mu:Mut (H x))(he:e=x∨H e=some (.own x))(k:∀ b u,b≠e->s.heap.get? b=some u->h'.get? b=some u)(heo:∃ u,h'.get? e=some u)
  (new:ObjOk X.prog X.w (upd H x o) h' x o):Inv X pins σ (upd H x o) { s with heap:=h',toks:=t' }:=I.un (Un.write mu he k heo) (I.hok.write mu he k heo new)
theorem Inv.pins_of{pins':List (Addr × Obj)}(I:Inv X pins σ H s)(h:∀ p∈pins',s.heap.get? p.1=some p.2/\H p.1=none/\p.1≠X.env.locals/\p.1∉X.fs/\∀ v,p.2.data≠.cell v):Inv X pins' σ H s:=
 ⟨I.ok,I.os,I.bare,I.base,I.loc,I.cell,I.free,I.freeC,fun p hp=>(List.mem_append.mp hp).elim (fun z=>I.pin p (List.mem_append_left _ z)) (h p),I.hok,I.len⟩
theorem nodup_ix{N:List Str}(hN:N.Nodup){i j:Nat}{x:Str}(a:N[i]?=some x)(b:N[j]?=some x):i=j:=by
 obtain ⟨h1,e1⟩:=List.getElem?_eq_some_iff.mp a
 obtain ⟨h2,e2⟩:=List.getElem?_eq_some_iff.mp b
 exact (List.getElem_inj hN).mp (e1.trans e2.symm)
theorem store_ok2{M:Model}{A:Around}{E:Value->Shared->Prop}{i:Nat}{x:Str}{v:V}{u:Value}{Q:Unit->Shared->Prop}(I:Inv X pins σ H s)(hN:X.N.Nodup)(hi:X.N[i]?=some x)(hx:Loc X.env.scope x)(r:RelV v u)
  (h:∀ s',Inv X pins (σ.set i (some v)) H s'->(∃ a,Heap.SameBut a s.heap s'.heap/\(a=X.env.locals∨X.env.cells.lookup x=some a))->Q () s') (hf:X.fn x=true∨X.env.scope.names.lookup x=some .local:=by first | exact .inl rfl | exact .inr rfl | assumption):wpAny M A (storeName X.env x u) Q E s:=by
 obtain ⟨m,hn,hl⟩:=id I.loc
 have hcls:(X.env.scope.kind == .class||(X.env.scope.kind == .module&&X.env.locals != X.env.globals))=false:=by rw [I.ok.kind]; rfl
 have hiσ:i < σ.length:=by rw [I.len]; exact (List.getElem?_eq_some_iff.mp hi).1
 have cne:=I.cne
 have tracked:∀ {a:Addr} {h':Heap},(∃ o,s.heap.get? a=some o/\H a=none)->Heap.SameBut a s.heap h'->HOk X.prog X.w H h':=fun {a h'} ha hs b ob e=>by
  obtain ⟨_,_,hfree⟩:=ha
  refine (I.hok b ob e).stay (fun c w' hc q=>(hs.2 c ?_).trans q) (fun _ q=>q) fun _ _ q=>q
  rintro rfl
  rcases hc with rfl | hc
  ·rw [hfree] at e; cases e
  ·rw [hfree] at hc; cases hc
 rcases hx with hk | hk
 ·refine wpAny_storeName_local hk hn (fun h' hn' hs=>?_) hcls
  obtain ⟨oL,_,_,hoL,_⟩:=id hn
  refine h _ ⟨I.ok,I.os,I.bare,⟨fun b o e n hb hx=>?_,fun b o e n hb hx=>?_,I.base.free,fun b o e hx=>?_,I.base.tups,I.base.frzs,I.base.tbls⟩,⟨_,hn',fun j y v' e1 e2 e3=>?_⟩,fun y c e=>?_,I.free,I.freeC,fun p hp=>?_,tracked ⟨oL,hoL,I.free⟩ hs,by simpa using I.len⟩ ⟨_,hs,.inl rfl⟩
  ·exact (hs.2 b (Nat.ne_of_lt (Nat.lt_of_lt_of_le (Heap.lt_size e) I.ok.above))).trans (I.base.keep b o e n hb hx)
  ·obtain ⟨sl,e1⟩:=I.base.slot b o e n hb hx
   exact ⟨sl,(hs.2 b (Nat.ne_of_lt (Nat.lt_of_lt_of_le (Heap.lt_size e) I.ok.above))).trans e1⟩
  ·obtain ⟨o',e1⟩:=I.base.there b o e hx
   exact ⟨o',(hs.2 b (Nat.ne_of_lt (Nat.lt_of_lt_of_le (Heap.lt_size e) I.ok.above))).trans e1⟩
  ·by_cases hj:j=i
   ·subst hj
    rw [hi] at e1; cases e1
    rw [List.getElem?_set_self hiσ] at e2
    cases e2
    exact ⟨u,r,.inl ⟨hk,by simp⟩⟩
   ·rw [List.getElem?_set_ne (Ne.symm hj)] at e2
    obtain ⟨u',r',q⟩:=hl j y v' e1 e2 e3
    refine ⟨u',r',?_⟩
    rcases q with ⟨k,e⟩ | ⟨k,c,e,z⟩
    ·refine .inl ⟨k,?_⟩
     have:y≠x:=fun e=>hj (nodup_ix hN e1 (e▸hi))
     simp [this,e]
    ·exact .inr ⟨k,c,e,z.sameBut hs (cne y c e)⟩
  ·obtain ⟨w',z⟩:=I.cell y c e
   exact ⟨w',z.sameBut hs (cne y c e)⟩
  ·obtain ⟨e,n,ne,nf,d⟩:=I.pin p hp
   exact ⟨(hs.2 p.1 ne).trans e,n,ne,nf,d⟩
 ·have hfn:X.fn x=true:=by
   rcases hf with z | z
   ·exact z
   ·rw [z] at hk; cases hk
  obtain ⟨c,hc⟩:=I.ok.has x (.inl hk)
  obtain ⟨w',z⟩:=I.cell x c hc
  refine wpAny_storeName_cell I.ok.kind hk hc z (fun h' hc' hs=>?_)
  obtain ⟨oc,hoc,hocd⟩:=id z
  refine h { s with heap:=h' } ⟨I.ok,I.os,I.bare,⟨fun b o e n hb hx=>?_,fun b o e n hb hx=>?_,I.base.free,fun b o e hx=>?_,I.base.tups,I.base.frzs,I.base.tbls⟩,⟨m,hn.sameBut hs (Ne.symm (cne x c hc)),fun j y v' e1 e2 e3=>?_⟩,fun y c' e=>?_,I.free,I.freeC,fun p hp=>?_,tracked ⟨oc,hoc,I.freeC x c hc⟩ hs,by simpa using I.len⟩ ⟨c,hs,.inr hc⟩
  ·exact (hs.2 b (Nat.ne_of_lt (Nat.lt_of_lt_of_le (Heap.lt_size e) (I.ok.cab x c hfn hc)))).trans (I.base.keep b o e n hb hx)
  ·obtain ⟨sl,e1⟩:=I.base.slot b o e n hb hx
   exact ⟨sl,(hs.2 b (Nat.ne_of_lt (Nat.lt_of_lt_of_le (Heap.lt_size e) (I.ok.cab x c hfn hc)))).trans e1⟩
  ·obtain ⟨o',e1⟩:=I.base.there b o e hx
   exact ⟨o',(hs.2 b (Nat.ne_of_lt (Nat.lt_of_lt_of_le (Heap.lt_size e) (I.ok.cab x c hfn hc)))).trans e1⟩
  ·by_cases hj:j=i
   ·subst hj
    rw [hi] at e1; cases e1
    rw [List.getElem?_set_self hiσ] at e2
    cases e2
    exact ⟨u,r,.inr ⟨.inl hk,c,hc,hc'⟩⟩
   ·rw [List.getElem?_set_ne (Ne.symm hj)] at e2
    obtain ⟨u',r',q⟩:=hl j y v' e1 e2 e3
    refine ⟨u',r',?_⟩
    rcases q with q | ⟨k,c',e,z'⟩
    ·exact .inl q
    ·refine .inr ⟨k,c',e,z'.sameBut hs ?_⟩
     rintro rfl
     exact hj (nodup_ix hN e1 (I.ok.inj _ _ _ e hc▸hi))
  ·by_cases hcc:c'=c
   ·subst hcc; exact ⟨_,hc'⟩
   ·obtain ⟨w2,z2⟩:=I.cell y c' e
    exact ⟨w2,z2.sameBut hs hcc⟩
  ·obtain ⟨e,n,ne,nf,d⟩:=I.pin p hp
   refine ⟨(hs.2 p.1 ?_).trans e,n,ne,nf,d⟩
   intro q
   rw [q,hoc] at e
   have q':oc=p.2:=Option.some.inj e
   exact d w' (by rw [<-q']; exact hocd)
theorem store_ok{M:Model}{A:Around}{E:Value->Shared->Prop}{i:Nat}{x:Str}{v:V}{u:Value}{Q:Unit->Shared->Prop}(I:Inv X pins σ H s)(hN:X.N.Nodup)(hi:X.N[i]?=some x)(hx:Loc X.env.scope x)(r:RelV v u)
  (h:∀ s',Inv X pins (σ.set i (some v)) H s'->Q () s') (hf:X.fn x=true∨X.env.scope.names.lookup x=some .local:=by first | exact .inl rfl | exact .inr rfl | assumption):wpAny M A (storeName X.env x u) Q E s:=
 store_ok2 I hN hi hx r (fun s' I' _=>h s' I') hf
theorem Inv.call'{s':Shared}{ch:List Addr}(I:Inv X pins σ H s)(ho:s'.os=s.os)(u:Un (frs X.stack) ch H H' s.heap s'.heap)(hok:HOk X.prog X.w H' s'.heap)(hg:AllBare s'.gens)
  (hch:∀ b∈ch,(b∈X.ex∨X.s₀.heap.objs.size<=b)/\b≠X.env.locals/\(∀ x c,X.env.cells.lookup x=some c->c≠b)/\∀ p∈X.pn++pins,p.1≠b):Inv X pins σ H' s':=by
 obtain ⟨h',g',d',t',o'⟩:=s'
 have e:o'=s.os:=ho
 subst e
 exact I.call (g':=g') (t':=t') (d':=d') u hok hg hch
end
abbrev XK:=Value->Option Addr->Hp->Prop
abbrev St:=List (Option V)
abbrev VK:=V->Hp->Prop
abbrev TE:=St->Hp->VK->Prop
abbrev TT:=St->Hp->(Bool->Hp->Prop)->Prop
abbrev TA:=St->Hp->(List V->Hp->Prop)->Prop
structure Ends where
 nx:St->Hp->Prop
 rt:VK
 bk:St->Hp->Prop:=fun _ _=>False
 ct:St->Hp->Prop:=fun _ _=>False
abbrev TS:=Ends->St->Hp->Prop
def EP(X:Cx)(pins:List (Addr × Obj))(σ:St)(Q:VK)(u:Value)(s':Shared):Prop:=∃ v H',Inv X pins σ H' s'/\RelV v u/\Q v H'
def TP(X:Cx)(pins:List (Addr × Obj))(σ:St)(Q:Bool->Hp->Prop)(b:Bool)(s':Shared):Prop:=∃ H',Inv X pins σ H' s'/\Q b H'
def AP(X:Cx)(pins:List (Addr × Obj))(σ:St)(Q:List V->Hp->Prop)(us:List Value)(s':Shared):Prop:=∃ vs H',Inv X pins σ H' s'/\Vals vs us/\Q vs H'
def SP(X:Cx)(pins:List (Addr × Obj))(D:Ends)(f:Flow)(s':Shared):Prop:=
 match f with
 | .next=>∃ σ' H',Inv X pins σ' H' s'/\D.nx σ' H'
 | .brk=>∃ σ' H',Inv X pins σ' H' s'/\D.bk σ' H'
 | .cont=>∃ σ' H',Inv X pins σ' H' s'/\D.ct σ' H'
 | .ret u=>∃ v σ' H',Inv X pins σ' H' s'/\RelV v u/\D.rt v H'
def PE(X:Cx)(e:Expr)(t:TE):Prop:=
 ∀ (pins:List (Addr × Obj)) (s:Shared) (σ:St) (H:Hp) (Q:VK),Inv X pins σ H s->t σ H Q->wpAny (model X.prog X.w) X.A (eval e X.env) (EP X pins σ Q) X.xe s
def PT(X:Cx)(e:Expr)(t:TT):Prop:=
 ∀ (pins:List (Addr × Obj)) (s:Shared) (σ:St) (H:Hp) (Q:Bool->Hp->Prop),Inv X pins σ H s->t σ H Q->wpAny (model X.prog X.w) X.A (isTrue e X.env (eval e X.env)) (TP X pins σ Q) X.xe s
def PW(X:Cx)(e:Expr)(t:TT):Prop:=
 ∀ (whole:Sem Value) (pins:List (Addr × Obj)) (s:Shared) (σ:St) (H:Hp) (Q:Bool->Hp->Prop),Inv X pins σ H s->t σ H Q->wpAny (model X.prog X.w) X.A (isTrue e X.env whole) (TP X pins σ Q) X.xe s
theorem PW.pt{X:Cx}{e:Expr}{t:TT}(h:PW X e t):PT X e t:=h _
def PA(X:Cx)(es:List Expr)(t:TA):Prop:=
 ∀ (pos:Pos) (pins:List (Addr × Obj)) (s:Shared) (σ:St) (H:Hp) (Q:List V->Hp->Prop),Inv X pins σ H s->t σ H Q->wpAny (model X.prog X.w) X.A (spliced (backTo pos (starEach es X.env))) (AP X pins σ Q) X.xe s
def PS(X:Cx)(st:Stmt)(t:TS):Prop:=
 ∀ (pins:List (Addr × Obj)) (s:Shared) (σ:St) (H:Hp) (D:Ends),Inv X pins σ H s->t D σ H->wpAny (model X.prog X.w) X.A (exec st X.env) (SP X pins D) X.xe s
def PSs(X:Cx)(st:List Stmt)(t:TS):Prop:=
 ∀ (pins:List (Addr × Obj)) (s:Shared) (σ:St) (H:Hp) (D:Ends),Inv X pins σ H s->t D σ H->wpAny (model X.prog X.w) X.A (execs st X.env) (SP X pins D) X.xe s
theorem thn{α:Type}{t:Sem α}{Q Q':α->Shared->Prop}{M:Model}{A:Around}{E:Value->Shared->Prop}{s:Shared}(h:wpAny M A t Q E s)(hQ:∀ a s,Q a s->Q' a s):wpAny M A t Q' E s:=wpAny_mono h hQ fun _ _ x=>x
end L2
namespace L2
open PySem PySem.Spec PyProof.Rows
section
variable {X:Cx}
theorem bin{a b:Expr}{ta tb:TE}(ha:PE X a ta)(hb:PE X b tb){pins:List (Addr × Obj)}{s:Shared}{σ:St}{H:Hp}{R:V->V->Hp->Prop}(I:Inv X pins σ H s)(h:ta σ H fun x H1=>tb σ H1 fun y H2=>R x y H2)
  {α:Type} {Q:α->Shared->Prop} {f:Value->Value->Sem α}
  (hf:∀ v u s2 x y H2,Inv X pins σ H2 s2->RelV x v->RelV y u->R x y H2->wpAny (model X.prog X.w) X.A (f v u) Q X.xe s2) :
  wpAny (model X.prog X.w) X.A (eval a X.env) (fun v s₁=>wpAny (model X.prog X.w) X.A (eval b X.env) (fun u s₂=>wpAny (model X.prog X.w) X.A (f v u) Q X.xe s₂) X.xe s₁) X.xe s:=by
 refine thn (ha pins s σ H _ I h) fun v s1 h_=>?_; obtain ⟨x,H1,I1,r1,q1⟩:=h_
 refine thn (hb pins s1 σ H1 _ I1 q1) fun u s2 h_=>?_; obtain ⟨y,H2,I2,r2,q2⟩:=h_
 exact hf v u s2 x y H2 I2 r1 r2 q2
def tVar(i:Nat):TE:=fun σ H Q=>∃ v,σ[i]?=some (some v)/\Q v H
def tC(v:V):TE:=fun _ H Q=>Q v H
theorem pe_var{i:Nat}{x:Str}{pos:Pos}(hN:X.N[i]?=some x)(hv:Vis X.env.scope x)(hd:(x == ("__debug__":Str))=false:=by decide)(hcd:(x == ("__classdict__":Str))=false:=by decide):PE X (.Name x pos) (tVar i):=by
 intro pins s σ H Q I h
 obtain ⟨v,e,h⟩:=h
 obtain ⟨m,hn,hl⟩:=I.loc
 obtain ⟨u,r,l⟩:=hl i x v hN e hv
 have fin:EP X pins σ Q u s:=⟨v,H,I,r,h⟩
 rcases l with ⟨hk,hm⟩ | ⟨hk,c,hc,hcell⟩
 ·exact wpAny_Name (wpAny_loadName_local I.ok.kind hk hn hm fin) hd
 ·rcases hk with hk | hk
  ·exact wpAny_Name (wpAny_loadName_cell I.ok.kind hk hc hcell fin) hd
  ·exact wpAny_Name (wpAny_loadName_free I.ok.kind hk hc hcell fin hcd) hd
theorem pe_int{i j pos}:PE X (.Constant (.int i) j pos) (tC (.int i)):=fun _ _ _ H _ I h=>wpAny_Constant_int ⟨.int i,H,I.tok _,⟨_,rfl⟩,h⟩
theorem pe_bl{b j pos}:PE X (.Constant (.bool b) j pos) (tC (.bl b)):=fun _ _ _ H _ I h=>Constant_bool ⟨.bl b,H,I,rfl,h⟩
theorem pe_str{x j pos}:PE X (.Constant (.str x) j pos) (tC (.str x)):=fun _ _ _ H _ I h=>Calls.Constant_str ⟨.str x,H,I.tok _,⟨_,rfl⟩,h⟩
def Gl(X:Cx)(x:Str):Prop:=X.env.kindOf x=some .globalImplicit
theorem ld_glob{E:Value->Shared->Prop}{pins:List (Addr × Obj)}{s:Shared}{σ:St}{H:Hp}{x:Str}{u:Value}{pos:Pos}{Q:Value->Shared->Prop}(I:Inv X pins σ H s)(hg:Gl X x)(hm:X.mg x=some u)(h:Q u s)
  (hd:(x == ("__debug__":Str))=false:=by decide):wpAny (model X.prog X.w) X.A (eval (.Name x pos) X.env) Q E s:=
 Calls.Name_function_global I.ok.kind hg (Calls.loadGlobal_global (by rw [I.ok.glob]; exact I.mod.glob.keeps I.bk) hm h) hd
theorem ld_blt{E:Value->Shared->Prop}{pins:List (Addr × Obj)}{s:Shared}{σ:St}{H:Hp}{x:Str}{u:Value}{pos:Pos}{Q:Value->Shared->Prop}(I:Inv X pins σ H s)(hg:Gl X x)(hm:X.mg x=none)(hv:bootBuiltins x=some u)(h:Q u s)
  (hn:x≠"__name__":=by decide) (hd:(x == ("__debug__":Str))=false:=by decide):wpAny (model X.prog X.w) X.A (eval (.Name x pos) X.env) Q E s:=by
 obtain ⟨mb,h1,h2⟩:=I.mod.blt
 exact Calls.Name_function_global I.ok.kind hg (Calls.loadGlobal_builtin (by rw [I.ok.glob]; exact I.mod.glob.keeps I.bk) hm (by rw [I.ok.blt]; exact h1.keeps I.bk) ((h2 x hn).trans hv) h) hd
theorem pe_bltn{x:Str}{v:V}{u:Value}{pos:Pos}(hg:Gl X x)(hm:X.mg x=none)(hv:bootBuiltins x=some u)(r:RelV v u)(hn:x≠"__name__":=by decide)(hd:(x == ("__debug__":Str))=false:=by decide):PE X (.Name x pos) (tC v):=
 fun _ _ _ H _ I h=>ld_blt I hg hm hv ⟨v,H,I,r,h⟩ hn hd
variable {a b:Expr}{ta tb:TE}{pos:Pos}
def PC(X:Cx)(op:CmpOp)(a b:Expr)(t:TE):Prop:=
 ∀ (pins:List (Addr × Obj)) (s:Shared) (σ:St) (H:Hp) (Q:VK),Inv X pins σ H s->t σ H Q->
  wpAny (model X.prog X.w) X.A (eval a X.env) (fun v s₁=>wpAny (model X.prog X.w) X.A (eval b X.env) (fun u s₂=>wpAny (model X.prog X.w) X.A (compareOp op v u) (EP X pins σ Q) X.xe s₂) X.xe s₁) X.xe s
theorem nobehind(b:Expr){op:CmpOp}(h:op≠.In)(h2:op≠.NotIn):behindInMarks op b=false:=by
 have e1:(op == CmpOp.In)=false:=by cases op<;>first | rfl | exact absurd rfl h
 have e2:(op == CmpOp.NotIn)=false:=by cases op<;>first | rfl | exact absurd rfl h2
 cases b<;>simp [behindInMarks,e1,e2]
def tB(t:TE):TT:=fun σ H Q=>t σ H fun x H1=>∃ c,x=.bl c/\Q c H1
theorem pt_cmp{op:CmpOp}{t:TE}(h:PC X op a b t)(h1:behindInMarks op b=false:=by first | exact nobehind _ (by decide) (by decide) | rfl):PT X (.Compare a [op] [b] pos) (tB t):=by
 intro pins s σ H Q I hw
 refine wpAny_isTrue_Compare1 (thn (h pins s σ H _ I hw) fun v s1 h1=>thn h1 fun u s2 h2=>thn h2 fun c s3 ⟨x,H1,I1,r1,q1⟩=>?_) h1
 obtain ⟨d,rfl,q⟩:=q1
 cases r1
 exact wpAny_truthy_bool ⟨H1,I1,q⟩
variable {tA tB':TT}{rest:List Expr}
def tAnd(t u:TT):TT:=fun σ H Q=>t σ H fun c H1=>if c=true then u σ H1 Q else Q false H1
def tOr(t u:TT):TT:=fun σ H Q=>t σ H fun c H1=>if c=true then Q true H1 else u σ H1 Q
def tNot(t:TT):TT:=fun σ H Q=>t σ H fun c H1=>Q (!c) H1
theorem pw_and1(ha:PT X a tA):PW X (.BoolOp .And [a] pos) tA:=by
 intro wh pins s σ H Q I h
 refine isTrue_and (thn (ha pins s σ H Q I h) fun c s1 e=>?_)
 cases c with
 | true=>exact isTrue_and_nil e
 | false=>exact e
theorem pw_or1(ha:PT X a tA):PW X (.BoolOp .Or [a] pos) tA:=by
 intro wh pins s σ H Q I h
 refine isTrue_or (thn (ha pins s σ H Q I h) fun c s1 e=>?_)
 cases c with
 | false=>exact isTrue_or_nil e
 | true=>exact e
theorem pw_and(ha:PT X a tA)(hb:PW X (.BoolOp .And (b::rest) pos) tB'):PW X (.BoolOp .And (a::b::rest) pos) (tAnd tA tB'):=by
 intro wh pins s σ H Q I h
 refine isTrue_and (thn (ha pins s σ H _ I h) fun c s1 h_=>?_); obtain ⟨H1,I1,q1⟩:=h_
 cases c with
 | true=>exact hb wh pins s1 σ H1 Q I1 q1
 | false=>exact ⟨H1,I1,q1⟩
theorem pw_or(ha:PT X a tA)(hb:PW X (.BoolOp .Or (b::rest) pos) tB'):PW X (.BoolOp .Or (a::b::rest) pos) (tOr tA tB'):=by
 intro wh pins s σ H Q I h
 refine isTrue_or (thn (ha pins s σ H _ I h) fun c s1 h_=>?_); obtain ⟨H1,I1,q1⟩:=h_
 cases c with
 | true=>exact ⟨H1,I1,q1⟩
 | false=>exact hb wh pins s1 σ H1 Q I1 q1
theorem pt_not(ha:PT X a tA):PT X (.UnaryOp .Not a pos) (tNot tA):=by
 intro pins s σ H Q I h
 exact isTrue_not (ha pins s σ H (fun c H1=>Q (!c) H1) I h)
def tAndV(ta tb:TE):TE:=fun σ H Q=>ta σ H fun x H1=>∃ c,x=.bl c/\if c=true then tb σ H1 Q else Q (.bl false) H1
def tNotV(ta:TE):TE:=fun σ H Q=>ta σ H fun x H1=>∃ c,x=.bl c/\Q (.bl (!c)) H1
theorem pe_one{op}{t:TE}(h:PE X a t):PE X (.BoolOp op [a] pos) t:=fun pins s σ H Q I hw=>BoolOp_one (h pins s σ H Q I hw)
theorem pe_and(ha:PE X a ta)(hb:PE X (.BoolOp .And (b::rest) pos) tb):PE X (.BoolOp .And (a::b::rest) pos) (tAndV ta tb):=by
 intro pins s σ H Q I h
 refine BoolOp_and (thn (ha pins s σ H _ I h) fun v s1 h_=>?_); obtain ⟨x,H1,I1,r1,q1⟩:=h_
 obtain ⟨c,rfl,q1⟩:=q1
 cases r1
 refine wpAny_truthy_bool ?_
 cases c with
 | true=>exact hb pins s1 σ H1 Q I1 q1
 | false=>exact ⟨.bl false,H1,I1,rfl,q1⟩
theorem pe_not(ha:PE X a ta):PE X (.UnaryOp .Not a pos) (tNotV ta):=by
 intro pins s σ H Q I h
 refine UnaryOp_ (thn (ha pins s σ H _ I h) fun v s1 h_=>?_); obtain ⟨x,H1,I1,r1,q1⟩:=h_
 obtain ⟨c,rfl,q1⟩:=q1
 cases r1
 exact not_of (wpAny_truthy_bool ⟨.bl (!c),H1,I1,rfl,q1⟩)
def tIf(t:TT)(ta tb:TE):TE:=fun σ H Q=>t σ H fun c H1=>if c=true then ta σ H1 Q else tb σ H1 Q
theorem pe_ifExp{c:Expr}(hc:PT X c tA)(ha:PE X a ta)(hb:PE X b tb):PE X (.IfExp c a b pos) (tIf tA ta tb):=by
 intro pins s σ H Q I h
 refine wpAny_IfExp (thn (hc pins s σ H _ I h) fun d s1 h_=>?_); obtain ⟨H1,I1,q1⟩:=h_
 cases d with
 | true=>exact ha pins s1 σ H1 Q I1 q1
 | false=>exact hb pins s1 σ H1 Q I1 q1
end
end L2
namespace L2
open PySem PySem.Spec PyProof.Rows
def SqL(K:PySem.W.Frag)(H:Hp)(a:Addr)(xs:List V):Prop:=
 Rd H a (.lst xs) ∨
  ∃ (o:Obj) (its:Array Value) (n:Nat),K.lookup a=some o/\o.cls=.type "list"/\o.dict=none/\o.data=.seq its n/\its.size<=sizeLine/\Vals xs its.toList
def SqT(K:PySem.W.Frag)(H:Hp)(a:Addr)(xs:List V):Prop:=
 Rd H a (.tup xs) ∨
  ∃ (o:Obj) (its:Array Value) (n:Nat),K.lookup a=some o/\o.cls=.type "tuple"/\o.data=.seq its n/\its.size<=sizeLine/\Vals xs its.toList
def absV:Value->Option V
 | .none=>some .non
 | .bool b=>some (.bl b)
 | .int i _=>some (.int i)
 | .str x _=>some (.str x)
 | .bytes b _=>some (.byt b)
 | .float b _=>some (.flt b)
 | .ref a=>some (.ref a)
 | .type n=>some (.ty n)
 | _=>none
theorem RelV.abs{x:V}{u:Value}(r:RelV x u):absV u=some x:=by
 cases x with
 | non=>cases r; rfl
 | bl _=>cases r; rfl
 | int _=>obtain ⟨t,rfl⟩:=r; rfl
 | str _=>obtain ⟨t,rfl⟩:=r; rfl
 | byt _=>obtain ⟨t,rfl⟩:=r; rfl
 | flt _=>obtain ⟨t,rfl⟩:=r; rfl
 | ref _=>cases r; rfl
 | ty _=>cases r; rfl
theorem RelV.inj{x y:V}{u:Value}(r:RelV x u)(q:RelV y u):x=y:=Option.some.inj (r.abs.symm.trans q.abs)
theorem Vals.inj:∀ {xs ys:List V} {us:List Value},Vals xs us->Vals ys us->xs=ys
 | _,_,_,.nil,.nil=>rfl
 | _,_,_,.cons r t,.cons r' t'=>by rw [r.inj r',Vals.inj t t']
section
variable {X:Cx}{pins:List (Addr × Obj)}{σ:St}{H:Hp}{s:Shared}{a:Addr}{xs ys:List V}
theorem SqL.of{K:PySem.W.Frag}(h:H a=some (.lst xs)):SqL K H a xs:=.inl (.inl h)
theorem SqT.of{K:PySem.W.Frag}(h:H a=some (.tup xs)):SqT K H a xs:=.inl (.inl h)
theorem Inv.list(I:Inv X pins σ H s)(h:SqL X.K H a xs):∃ its:List Value,Vals xs its/\PlainL s.heap a its.toArray/\xs.length<=sizeLine:=by
 rcases h with h | ⟨o,its,n,hk,hc,hd,hs,hz,r⟩
 ·obtain ⟨z,its,n,r,e⟩:=h.ok I.hok
  exact ⟨its,r,⟨_,n,e,rfl,rfl,rfl⟩,z⟩
 ·refine ⟨its.toList,r,⟨o,n,I.kIn a o hk,hc,hd,by simpa using hs⟩,?_⟩
  have e:=r.length
  simp only [Array.length_toList] at e
  lia
theorem Inv.tuple(I:Inv X pins σ H s)(h:SqT X.K H a xs):∃ its:List Value,Vals xs its/\IsTup s.heap a its.toArray/\xs.length<=sizeLine:=by
 rcases h with h | ⟨o,its,n,hk,hc,hs,hz,r⟩
 ·obtain ⟨z,its,r,p⟩:=h.ok I.hok
  exact ⟨its,r,p,z⟩
 ·refine ⟨its.toList,r,⟨o,I.kIn a o hk,hc,n,by simpa using hs⟩,?_⟩
  have e:=r.length
  simp only [Array.length_toList] at e
  lia
theorem Inv.list_inj(I:Inv X pins σ H s)(h:SqL X.K H a xs)(h':SqL X.K H a ys):xs=ys:=by
 obtain ⟨its,r,⟨o,n,e,_,_,d⟩,_⟩:=I.list h
 obtain ⟨its',r',⟨o',n',e',_,_,d'⟩,_⟩:=I.list h'
 rw [e] at e'; cases e'
 rw [d] at d'
 injection d' with d1 _
 have:its=its':=by simpa using congrArg Array.toList d1
 subst this
 exact r.inj r'
theorem Inv.tuple_inj(I:Inv X pins σ H s)(h:SqT X.K H a xs)(h':SqT X.K H a ys):xs=ys:=by
 obtain ⟨its,r,⟨o,e,_,n,d⟩,_⟩:=I.tuple h
 obtain ⟨its',r',⟨o',e',_,n',d'⟩,_⟩:=I.tuple h'
 rw [e] at e'; cases e'
 rw [d] at d'
 injection d' with d1 _
 have:its=its':=by simpa using congrArg Array.toList d1
 subst this
 exact r.inj r'
end
abbrev Cx.wish(X:Cx)(E:Value->Shared->Prop):Cx:={ X with xe:=E }
abbrev Cx.nox(X:Cx):Cx:=X.wish fun _ _=>False
theorem Cx.Ok.wish{X:Cx}(ok:X.Ok)(E:Value->Shared->Prop):(X.wish E).Ok:=
 ⟨ok.mod,ok.kind,ok.glob,ok.blt,ok.above,ok.inj,ok.has,ok.cab,ok.hd,ok.frames,ok.stk,ok.exf,ok.bs,ok.bsz,ok.noex,ok.exfs,ok.funs,ok.frf⟩
theorem Cx.Ok.unwish{X:Cx}{E:Value->Shared->Prop}(ok:(X.wish E).Ok):X.Ok:=
 ⟨ok.mod,ok.kind,ok.glob,ok.blt,ok.above,ok.inj,ok.has,ok.cab,ok.hd,ok.frames,ok.stk,ok.exf,ok.bs,ok.bsz,ok.noex,ok.exfs,ok.funs,ok.frf⟩
section
variable {X:Cx}{pins:List (Addr × Obj)}{σ:St}{H:Hp}{s:Shared}{E:Value->Shared->Prop}
theorem Inv.wish(I:Inv X pins σ H s)(E:Value->Shared->Prop):Inv (X.wish E) pins σ H s:=⟨I.ok.wish E,I.os,I.bare,I.base,I.loc,I.cell,I.free,I.freeC,I.pin,I.hok,I.len⟩
theorem Inv.unwish(I:Inv (X.wish E) pins σ H s):Inv X pins σ H s:=⟨I.ok.unwish,I.os,I.bare,I.base,I.loc,I.cell,I.free,I.freeC,I.pin,I.hok,I.len⟩
theorem SP.unwish{D:Ends}{f:Flow}{s':Shared}(h:SP (X.wish E) pins D f s'):SP X pins D f s':=by
 cases f with
 | next=>obtain ⟨σ',H',I,q⟩:=h; exact ⟨σ',H',I.unwish,q⟩
 | brk=>obtain ⟨σ',H',I,q⟩:=h; exact ⟨σ',H',I.unwish,q⟩
 | cont=>obtain ⟨σ',H',I,q⟩:=h; exact ⟨σ',H',I.unwish,q⟩
 | ret u=>obtain ⟨v,σ',H',I,r,q⟩:=h; exact ⟨v,σ',H',I.unwish,r,q⟩
theorem PSs.nox{st:List Stmt}{t:TS}(h:PSs X.nox st t):PSs X st t:=fun pins s σ H D I hw=>
 wpAny_mono (h pins s σ H D (I.wish _) hw) (fun _ _ q=>q.unwish) fun _ _ z=>False.elim z
end
section
variable {X:Cx}{st:Stmt}{rest:List Stmt}{t u:TS}{e:Expr}{te:TE}{pos:Pos}
def tNext:TS:=fun D σ H=>D.nx σ H
def tSeq(t u:TS):TS:=fun D σ H=>t { D with nx:=u D } σ H
theorem pss_nil:PSs X [] tNext:=fun _ _ σ H _ I h=>wpAny_execs_nil ⟨σ,H,I,h⟩
theorem pss_cons(h1:PS X st t)(h2:PSs X rest u):PSs X (st::rest) (tSeq t u):=by
 intro pins s σ H D I h
 refine wpAny_execs_cons (thn (h1 pins s σ H { D with nx:=u D } I h) fun f s1 q=>?_)
 cases f with
 | next=>
  obtain ⟨σ',H',I',q⟩:=q
  exact h2 pins s1 σ' H' D I' q
 | ret v=>exact q
 | brk=>exact q
 | cont=>exact q
theorem pss_one(h1:PS X st t):PSs X [st] t:=by
 intro pins s σ H D I h
 refine wpAny_execs_cons (thn (h1 pins s σ H D I h) fun f s1 q=>?_)
 cases f with
 | next=>exact wpAny_execs_nil q
 | ret v=>exact q
 | brk=>exact q
 | cont=>exact q
theorem Inv.quiet{pins:List (Addr × Obj)}{σ:St}{H:Hp}{s:Shared}(I:Inv X pins σ H s):interactive X.env=false:=by simp [interactive,I.ok.kind]
def tDrop(te:TE):TS:=fun D σ H=>te σ H fun _ H1=>D.nx σ H1
theorem ps_expr(he:PE X e te)(hs:swapsWith e none pos.line X.env=pure false:=by rfl):PS X (.Expr e pos) (tDrop te):=by
 intro pins s σ H D I h
 exact wpAny_Expr_any (thn (he pins s σ H _ I h) fun v s1 ⟨x,H1,I1,r1,q1⟩=>⟨σ,H1,I1,q1⟩) I.quiet hs
def tRet(te:TE):TS:=fun D σ H=>te σ H D.rt
theorem ps_ret(he:PE X e te):PS X (.Return (some e) pos) (tRet te):=by
 intro pins s σ H D I h
 exact wpAny_Return_some (thn (he pins s σ H _ I h) fun v s1 ⟨x,H1,I1,r1,q1⟩=>⟨x,σ,H1,I1,r1,q1⟩)
def tIfS(c:TT)(t u:TS):TS:=fun D σ H=>c σ H fun b H1=>if b=true then t D σ H1 else u D σ H1
theorem ps_if{c:Expr}{a b:List Stmt}{tc:TT}(hc:PT X c tc)(ha:PSs X a t)(hb:PSs X b u):PS X (.If c a b pos) (tIfS tc t u):=by
 intro pins s σ H D I h
 refine wpAny_If (thn (hc pins s σ H _ I h) fun d s1 h_=>?_); obtain ⟨H1,I1,q1⟩:=h_
 cases d with
 | true=>exact ha pins s1 σ H1 D I1 q1
 | false=>exact hb pins s1 σ H1 D I1 q1
end
abbrev TG:=V->St->Hp->(St->Hp->Prop)->Prop
abbrev TGs:=List V->St->Hp->(St->Hp->Prop)->Prop
def PG(X:Cx)(target:Expr)(t:TG):Prop:=
 ∀ (pins:List (Addr × Obj)) (s:Shared) (σ:St) (H:Hp) (v:V) (u:Value) (Q:St->Hp->Prop),Inv X pins σ H s->RelV v u->t v σ H Q->
  wpAny (model X.prog X.w) X.A (assign target X.env u) (fun _ s'=>∃ σ' H',Inv X pins σ' H' s'/\Q σ' H') X.xe s
def PGs(X:Cx)(ts:List Expr)(t:TGs):Prop:=
 ∀ (pins:List (Addr × Obj)) (s:Shared) (σ:St) (H:Hp) (vs:List V) (us:List Value) (Q:St->Hp->Prop),Inv X pins σ H s->Vals vs us->t vs σ H Q->
  wpAny (model X.prog X.w) X.A (assignInOrder ((assignEach ts X.env).map (·.2)) us) (fun _ s'=>∃ σ' H',Inv X pins σ' H' s'/\Q σ' H') X.xe s
abbrev TSet:=V->V->V->Hp->(Hp->Prop)->Prop
def PSet(X:Cx)(t:TSet):Prop:=
 ∀ (pins:List (Addr × Obj)) (s:Shared) (σ:St) (H:Hp) (o i v:V) (ov iv u:Value) (Q:Hp->Prop),Inv X pins σ H s->RelV o ov->RelV i iv->RelV v u->t o i v H Q->
  wpAny (model X.prog X.w) X.A (setItem ov iv u) (fun _ s'=>∃ H',Inv X pins σ H' s'/\Q H') X.xe s
section
variable {X:Cx}{pos:Pos}
def gName(i:Nat):TG:=fun v σ H Q=>Q (σ.set i (some v)) H
theorem pg_name{i:Nat}{x:Str}(hN:X.N.Nodup)(hi:X.N[i]?=some x)(hx:Loc X.env.scope x)(hf:X.fn x=true∨X.env.scope.names.lookup x=some .local:=by first | exact .inl rfl | exact .inr rfl | assumption):PG X (.Name x pos) (gName i):=by
 intro pins s σ H v u Q I r h
 exact wpAny_assign_Name (store_ok I hN hi hx r (fun s' I'=>⟨_,H,I',h⟩) hf)
def gNil:TGs:=fun vs σ H Q=>vs=[]/\Q σ H
def gCons(t:TG)(u:TGs):TGs:=fun vs σ H Q=>∃ v r,vs=v::r/\t v σ H fun σ' H'=>u r σ' H' Q
theorem pgs_nil:PGs X [] gNil:=by
 intro pins s σ H vs us Q I r h
 obtain ⟨e,h⟩:=h
 subst e
 cases r
 exact assignInOrder_nil ⟨σ,H,I,h⟩
theorem pgs_cons{e:Expr}{es:List Expr}{t:TG}{u:TGs}(h1:PG X e t)(h2:PGs X es u)
  (hs:(assignEach (e::es) X.env).map (·.2)=assign e X.env::(assignEach es X.env).map (·.2):=by rfl):PGs X (e::es) (gCons t u):=by
 intro pins s σ H vs us Q I r h
 obtain ⟨v,vr,e1,h⟩:=h
 subst e1
 cases r with
 | cons r rr=>
  rw [hs]
  refine assignInOrder_cons (thn (h1 pins s σ H _ _ _ I r h) fun _ s1 h_=>?_); obtain ⟨σ1,H1,I1,q1⟩:=h_
  exact h2 pins s1 σ1 H1 _ _ Q I1 rr q1
def gTup(K:PySem.W.Frag)(n:Nat)(t:TGs):TG:=fun v σ H Q=>∃ a xs,v=.ref a/\SqT K H a xs/\xs.length=n/\t xs σ H Q
theorem pg_tup{es:List Expr}{k:Nat}{t:TGs}{n:Nat}(hc:X.calm=true)(h:PGs X es t)
  (hn:(assignEach es X.env).length=n:=by rfl) (hst:(assignEach es X.env).findIdx? (·.1)=none:=by rfl):PG X (.Tuple es k pos) (gTup X.K n t):=by
 intro pins s σ H v u Q I r hw
 obtain ⟨a,xs,e1,hq,hl,hw⟩:=hw
 subst e1
 cases r
 obtain ⟨its,rv,ht,hz⟩:=I.tuple hq
 refine assign_Tuple_tuple (I.ok.hd hc) ht (by simp [hn,<-hl,rv.length]) hst fun h' hx=>?_
 have I1:Inv X pins σ H { s with heap:=h' }:=I.kept (t':=s.toks) fun b o e=>hx b o (Nat.ne_of_lt (Heap.lt_size e)) e
 exact h pins _ σ H xs _ Q I1 (by simpa using rv) hw
def gSub(to ti:TE)(t:TSet):TG:=fun v σ H Q=>to σ H fun o H1=>ti σ H1 fun i H2=>t o i v H2 fun H3=>Q σ H3
theorem pg_sub{o i:Expr}{to ti:TE}{t:TSet}(ho:PE X o to)(hi:PE X i ti)(hs:PSet X t)
  (ha:∀ v,assign (.Subscript o i pos) X.env v=(do
   let ov <-holding [v] (eval o X.env)
   let iv <-holding [v,ov] (eval i X.env)
   standAt pos
   holding [v,ov,iv] (setItem ov iv v)
   release [v,ov,iv] []):=by intro _; rfl):PG X (.Subscript o i pos) (gSub to ti t):=by
 intro pins s σ H v u Q I r h
 rw [ha]
 refine wpAny_bind (wpAny_holding (thn (ho pins s σ H _ I h) fun ov s1 h_=>?_)); obtain ⟨x,H1,I1,r1,q1⟩:=h_
 refine wpAny_bind (wpAny_holding (thn (hi pins s1 σ H1 _ I1 q1) fun iv s2 h_=>?_)); obtain ⟨y,H2,I2,r2,q2⟩:=h_
 refine wpAny_bind (wpAny_standAt (wpAny_bind (wpAny_holding (thn (hs pins s2 σ H2 x y v ov iv u _ I2 r1 r2 r q2) fun _ s3 h_=>?_)))); obtain ⟨H3,I3,q3⟩:=h_
 exact wpAny_release ⟨σ,H3,I3,q3⟩
def tAsg(te:TE)(g:TG):TS:=fun D σ H=>te σ H fun x H1=>g x σ H1 D.nx
theorem ps_asg{tg e:Expr}{te:TE}{g:TG}(he:PE X e te)(hg:PG X tg g)(hs:swapsWithSole [tg] e pos.line X.env=pure false:=by rfl)(hw:swappedStores [tg] e X.env=pure none:=by rfl)
  (h1:(assignEach [tg] X.env).map (·.2)=[assign tg X.env]:=by rfl):PS X (.Assign [tg] e pos) (tAsg te g):=by
 intro pins s σ H D I h
 refine wpAny_Assign_stores (thn (he pins s σ H _ I h) fun v s1 ⟨x,H1,I1,r1,q1⟩=>?_) hs hw
 rw [h1]
 exact thn (hg pins s1 σ H1 x v _ I1 r1 q1) fun _ s2 q=>q
theorem ps_set{i:Nat}{x:Str}{e:Expr}{te:TE}{pos':Pos}(hN:X.N.Nodup)(hi:X.N[i]?=some x)(hx:Loc X.env.scope x)(he:PE X e te)(hs:swapsWith e (some (.Name x pos')) pos.line X.env=pure false:=by rfl)(hf:X.fn x=true∨X.env.scope.names.lookup x=some .local:=by first | exact .inl rfl | exact .inr rfl | assumption) :
  PS X (.Assign [.Name x pos'] e pos) (tAsg te (gName i)):=by
 intro pins s σ H D I h
 refine wpAny_Assign_Name (thn (he pins s σ H _ I h) fun v s1 ⟨y,H1,I1,r1,q1⟩=>?_) hs
 exact store_ok I1 hN hi hx r1 (fun s2 I2=>⟨_,H1,I2,q1⟩) hf
end
section
variable {X:Cx}{pos:Pos}
def tWhile(c:TT)(tb:TS):TS:=fun D σ H=>∃ W:Nat->St->Hp->Prop,(∃ m,W m σ H)/\∀ m σ H,W m σ H->
 c σ H fun b H1=>if b=true then ∃ N:St->Hp->Prop,(∀ σ' H',N σ' H'->∃ m',m' < m/\W m' σ' H')/\tb { D with nx:=N,ct:=N,bk:=D.nx } σ H1 else D.nx σ H1
theorem ps_while{c:Expr}{body:List Stmt}{tc:TT}{tb:TS}(hp:PassesOwn (model X.prog X.w) X.A X.env X.xe)(hc:PT X c tc)(hb:PSs X body tb):PS X (.While c body [] pos) (tWhile tc tb):=by
 intro pins s σ H D I h
 obtain ⟨W,⟨m0,w0⟩,turn⟩:=h
 refine wpAny_While (codeAny_whileLoop (fun n s'=>∃ σ' H',Inv X pins σ' H' s'/\W n σ' H') ?_ m0 ⟨σ,H,I,w0⟩)
 rintro n s1 ⟨σ1,H1,I1,w1⟩
 refine wpAny_passesOwn hp (thn (hc pins s1 σ1 H1 _ I1 (turn n σ1 H1 w1)) fun b s2 h_=>?_); obtain ⟨H2,I2,q2⟩:=h_
 cases b with
 | true=>
  obtain ⟨N,hN,q2⟩:=q2
  rw [if_pos rfl]
  refine wpAny_passesOwn hp (thn (hb pins s2 σ1 H2 _ I2 q2) fun f s3 q3=>?_)
  cases f with
  | next=>
   obtain ⟨σ3,H3,I3,n3⟩:=q3
   obtain ⟨m',hm,w3⟩:=hN σ3 H3 n3
   exact ⟨m',hm,σ3,H3,I3,w3⟩
  | cont=>
   obtain ⟨σ3,H3,I3,n3⟩:=q3
   obtain ⟨m',hm,w3⟩:=hN σ3 H3 n3
   exact ⟨m',hm,σ3,H3,I3,w3⟩
  | brk=>exact q3
  | ret v=>exact q3
 | false=>
  rw [if_neg Bool.false_ne_true]
  exact wpAny_execs_nil ⟨σ1,H2,I2,q2⟩
end
structure It where
 go:Nat->Hp->Prop
 yld:Nat->Hp->V->Hp->Prop
 stop:Nat->Hp->Prop
def FpOk(X:Cx)(pins:List (Addr × Obj))(H:Hp)(b:Addr):Prop:=
 H b=none/\b≠X.env.locals/\b∉X.fs/\(b∈X.ex∨X.s₀.heap.objs.size<=b)/\(∀ x c,X.env.cells.lookup x=some c->c≠b)/\∀ p∈X.pn++pins,p.1≠b
theorem Inv.fpOk{X:Cx}{pins:List (Addr × Obj)}{σ:St}{H H':Hp}{s:Shared}{b:Addr}(I:Inv X pins σ H s)(hb:s.heap.objs.size<=b)(hn:H' b=none):FpOk X pins H' b:=by
 refine ⟨hn,Nat.ne_of_gt (Nat.lt_of_lt_of_le I.lt hb),I.nofs hb,.inr (Nat.le_trans I.sz hb),fun x c e z=>?_,fun p hp z=>?_⟩
 ·obtain ⟨v,q⟩:=I.cell x c e
  exact absurd (Nat.lt_of_lt_of_le q.lt (by rw [z]; exact hb)) (Nat.lt_irrefl _)
 ·exact absurd (Nat.lt_of_lt_of_le (Heap.lt_size (I.pin p hp).1) (by rw [z]; exact hb)) (Nat.lt_irrefl _)
structure Turn (P:Program) (w:World) (K:PySem.W.Frag) (tg:Expr) (J:It) (fp:List Addr) (it:Addr) (tn:Nat->Heap->Prop):Prop where
 mem:it∈fp
 obj:∀ i h,tn i h->∀ b∈fp,∃ o,h.get? b=some o/\∀ v,o.data≠.cell v
 keep:∀ i h h',tn i h->(∀ b∈fp,∀ o,h.get? b=some o->h'.get? b=some o)->tn i h'
 item:∀ (X:Cx),X.prog=P->X.w=w->X.K=K->X.calm=true->∀ (i:Nat) (pins:List (Addr × Obj)) (s:Shared) (σ:St) (H:Hp) (E:Value->Shared->Prop),Inv X pins σ H s->(∀ b∈fp,FpOk X pins H b)->tn i s.heap->J.go i H->
  wpAny (model P w) X.A (pyNext (.ref it)) (fun r s1=>∃ u,r=some u /\
   wpAny (model P w) X.A (letOwnedTupleGo tg (.ref it) u) (fun _ s2=>∃ x H',Inv X pins σ H' s2/\RelV x u/\J.yld i H x H'/\tn (i+1) s2.heap/\∀ b∈fp,H' b=none) E s1) E s
 done:∀ (X:Cx),X.prog=P->X.w=w->X.K=K->X.calm=true->∀ (i:Nat) (pins:List (Addr × Obj)) (s:Shared) (σ:St) (H:Hp) (E:Value->Shared->Prop),Inv X pins σ H s->(∀ b∈fp,FpOk X pins H b)->tn i s.heap->J.stop i H->
  wpAny (model P w) X.A (pyNext (.ref it)) (fun r s1=>r=none/\Inv X pins σ H s1) E s
 self:∀ (A:Around) (i:Nat) (s:Shared) (Q:Value->Shared->Prop) (E:Value->Shared->Prop),tn i s.heap->Q (.ref it) s->wpAny (model P w) A (pyIter (.ref it)) Q E s
abbrev TI:=St->Hp->(It->Hp->Prop)->Prop
def PIE(X:Cx)(pins:List (Addr × Obj))(σ:St)(tg:Expr)(R:It->Hp->Prop)(itv:Value)(s2:Shared):Prop:=
 ∃ (it:Addr) (fp:List Addr) (tn:Nat->Heap->Prop) (J:It) (H':Hp),itv=.ref it/\Inv X pins σ H' s2/\Turn X.prog X.w X.K tg J fp it tn/\tn 0 s2.heap/\(∀ b∈fp,FpOk X pins H' b)/\R J H'
def PI(X:Cx)(tg iter:Expr)(wi:TI):Prop:=
 ∀ (pins:List (Addr × Obj)) (s:Shared) (σ:St) (H:Hp) (R:It->Hp->Prop),Inv X pins σ H s->wi σ H R->
  wpAny (model X.prog X.w) X.A (eval iter X.env) (fun v s1=>wpAny (model X.prog X.w) X.A (pyIter v) (PIE X pins σ tg R) X.xe s1) X.xe s
theorem go_of{M:Model}{A:Around}{E:Value->Shared->Prop}{s:Shared}{tg:Expr}{it:Addr}{u:Value}{o:Obj}{n:String}{vs:Array Value}{Q:Unit->Shared->Prop}(ho:s.heap.get? it=some o)(hc:o.cls=.type n)(hd:o.data=.fields vs)
    (hn:["enumerate","zip","dict_itemiterator","dict_reverseitemiterator","odict_iterator","itertools.zip_longest","itertools.pairwise"].contains n=false) (hQ:Q () s):wpAny M A (letOwnedTupleGo tg (.ref it) u) Q E s:=by
  unfold letOwnedTupleGo
  cases tg<;>first
    | exact wpAny_pure hQ
    | (cases u<;>first
        | exact wpAny_pure hQ
        | (refine wpAny_bind (wpAny_load ho ?_)
           rw [hc,hd]
           show wpAny M A (if (["enumerate","zip","dict_itemiterator","dict_reverseitemiterator","odict_iterator","itertools.zip_longest","itertools.pairwise"].contains n&&vs[0]? == some (rawInt _))=true then _ else _) Q E s
           rw [if_neg (by intro h; rw [hn,Bool.false_and] at h; cases h)]
           exact wpAny_pure hQ))
def Itl(K:PySem.W.Frag)(a:Addr):It:=
 ⟨fun i H=>∃ xs x,SqL K H a xs/\xs[i]?=some x,fun i H x H'=>H'=H/\∀ xs,SqL K H a xs->xs[i]?=some x,fun i H=>∃ xs,SqL K H a xs/\xs.length<=i⟩
def Itt(K:PySem.W.Frag)(a:Addr):It:=
 ⟨fun i H=>∃ xs x,SqT K H a xs/\xs[i]?=some x,fun i H x H'=>H'=H/\∀ xs,SqT K H a xs->xs[i]?=some x,fun i H=>∃ xs,SqT K H a xs/\xs.length<=i⟩
def Itr(lo:Int)(n:Nat):It:=⟨fun i _=>i < n,fun i H x H'=>H'=H/\x=.int (lo+i),fun i _=>n<=i⟩
theorem turn_list{P:Program}{w:World}{K:PySem.W.Frag}{tg:Expr}(a it:Addr):Turn P w K tg (Itl K a) [it] it (fun i h=>h.IsListIter it a i) where
 mem:=by simp
 obj:=fun i h st b hb=>by
  have e:b=it:=by simpa using hb
  subst e
  obtain ⟨o,e,c,d⟩:=st
  exact ⟨o,e,fun v z=>by rw [d] at z; cases z⟩
 keep:=fun i h h' st k=>st.at fun o e=>k it (by simp) o e
 item:=by
  intro X hP hw hK hc i pins s σ H E I hf st hg
  subst hP hw hK
  obtain ⟨xs,x,hq,hx⟩:=hg
  obtain ⟨its,rv,p,hz⟩:=I.list hq
  obtain ⟨u,hu,ru⟩:=rv.get hx
  obtain ⟨f0,f1,f2,f3,f4,f5⟩:=hf it (by simp)
  refine wpAny_pyNext_list_item st p.isList (x:=u) (by simpa using hu) fun h' st' sb=>?_
  have I1:Inv X pins σ H { s with heap:=h' }:=I.turned (t':=s.toks) (fun b o hb e=>(sb.2 b hb).trans e) f0 f1 f3 f4 f5
  obtain ⟨o,e,c,d⟩:=id st'
  exact ⟨u,rfl,go_of (s:={ s with heap:=h' }) e c d (by decide) ⟨x,H,I1,ru,⟨rfl,fun ys hy=>by rw [I.list_inj hy hq]; exact hx⟩,st',fun b hb=>(hf b hb).1⟩⟩
 done:=by
  intro X hP hw hK hc i pins s σ H E I hf st hg
  subst hP hw hK
  obtain ⟨xs,hq,hx⟩:=hg
  obtain ⟨its,rv,p,hz⟩:=I.list hq
  obtain ⟨f0,f1,f2,f3,f4,f5⟩:=hf it (by simp)
  have hl:=rv.length
  exact wpAny_pyNext_list_end (I.ok.hd hc) st p.isList (by simp; lia) fun h' eb=>⟨rfl,I.turned (t':=s.toks) (fun b o hb e=>eb b o hb e) f0 f1 f3 f4 f5⟩
 self:=fun _ _ _ _ _ st h=>wpAny_pyIter_listiter st h
theorem turn_tuple{P:Program}{w:World}{K:PySem.W.Frag}{tg:Expr}(a it:Addr):Turn P w K tg (Itt K a) [it] it (fun i h=>h.IsTupleIter it a i) where
 mem:=by simp
 obj:=fun i h st b hb=>by
  have e:b=it:=by simpa using hb
  subst e
  obtain ⟨o,e,c,d⟩:=st
  exact ⟨o,e,fun v z=>by rw [d] at z; cases z⟩
 keep:=fun i h h' st k=>st.at fun o e=>k it (by simp) o e
 item:=by
  intro X hP hw hK hc i pins s σ H E I hf st hg
  subst hP hw hK
  obtain ⟨xs,x,hq,hx⟩:=hg
  obtain ⟨its,rv,p,hz⟩:=I.tuple hq
  obtain ⟨u,hu,ru⟩:=rv.get hx
  obtain ⟨f0,f1,f2,f3,f4,f5⟩:=hf it (by simp)
  refine wpAny_pyNext_tuple_item st (show s.heap.IsTuple a its.toArray from p) (x:=u) (by simpa using hu) fun h' st' sb=>?_
  have I1:Inv X pins σ H { s with heap:=h' }:=I.turned (t':=s.toks) (fun b o hb e=>(sb.2 b hb).trans e) f0 f1 f3 f4 f5
  obtain ⟨o,e,c,d⟩:=id st'
  exact ⟨u,rfl,go_of (s:={ s with heap:=h' }) e c d (by decide) ⟨x,H,I1,ru,⟨rfl,fun ys hy=>by rw [I.tuple_inj hy hq]; exact hx⟩,st',fun b hb=>(hf b hb).1⟩⟩
 done:=by
  intro X hP hw hK hc i pins s σ H E I hf st hg
  subst hP hw hK
  obtain ⟨xs,hq,hx⟩:=hg
  obtain ⟨its,rv,p,hz⟩:=I.tuple hq
  obtain ⟨f0,f1,f2,f3,f4,f5⟩:=hf it (by simp)
  have hl:=rv.length
  exact wpAny_pyNext_tuple_end (I.ok.hd hc) st (show s.heap.IsTuple a its.toArray from p) (by simp; lia) fun h' eb=>⟨rfl,I.turned (t':=s.toks) (fun b o hb e=>eb b o hb e) f0 f1 f3 f4 f5⟩
 self:=fun _ _ _ _ _ st h=>wpAny_pyIter_tupleiter st h
theorem turn_range{P:Program}{w:World}{K:PySem.W.Frag}{tg:Expr}(it:Addr)(lo:Int)(n:Nat):Turn P w K tg (Itr lo n) [it] it (fun i h=>IsRangeIter h it (lo+(i:Nat)*1) ((n:Int) - (i:Nat)) 1) where
 mem:=by simp
 obj:=fun i h st b hb=>by
  have e:b=it:=by simpa using hb
  subst e
  exact ⟨_,st,fun v z=>by
   have z':Data.fields _=Data.cell v:=z
   cases z'⟩
 keep:=fun i h h' st k=>k it (by simp) _ st
 item:=by
  intro X hP hw hK hc i pins s σ H E I hf st hg
  subst hP hw hK
  obtain ⟨f0,f1,f2,f3,f4,f5⟩:=hf it (by simp)
  have W:=Walks.range (prog:=X.prog) (w:=X.w) (I.ok.hd hc) it lo 1 n
  refine W.item i s _ _ hg st fun v h' tk hv st' kk=>?_
  obtain ⟨t,rfl⟩:=hv
  have I1:Inv X pins σ H { s with heap:=h',toks:=tk }:=I.turned (fun b o hb e=>kk b o (by simpa using hb) e) f0 f1 f3 f4 f5
  refine ⟨_,rfl,go_of (s:={ s with heap:=h',toks:=tk }) (n:="range_iterator") st' rfl rfl (by decide) ⟨.int (lo+i),H,I1,⟨t,?_⟩,⟨rfl,rfl⟩,st',fun b hb=>(hf b hb).1⟩⟩
  rw [Int.mul_one]
 done:=by
  intro X hP hw hK hc i pins s σ H E I hf st hg
  subst hP hw hK
  obtain ⟨f0,f1,f2,f3,f4,f5⟩:=hf it (by simp)
  exact wpAny_pyNext_range_end (I.ok.hd hc) st (by have:n<=i:=hg; lia) fun h' eb=>⟨rfl,I.turned (t':=s.toks) (fun b o hb e=>eb b o hb e) f0 f1 f3 f4 f5⟩
 self:=fun _ _ _ _ _ st h=>wpAny_pyIter_rangeiter st h
end L2
namespace L2
open PySem PySem.Spec PyProof.Rows
section
variable {X:Cx}{tg:Expr}
def iList(K:PySem.W.Frag)(tl:TE):TI:=fun σ H R=>tl σ H fun x H1=>∃ a,x=.ref a/\(∃ xs,SqL K H1 a xs)/\R (Itl K a) H1
def iTup(K:PySem.W.Frag)(tl:TE):TI:=fun σ H R=>tl σ H fun x H1=>∃ a,x=.ref a/\(∃ xs,SqT K H1 a xs)/\R (Itt K a) H1
theorem pi_list{l:Expr}{tl:TE}(hl:PE X l tl):PI X tg l (iList X.K tl):=by
 intro pins s σ H R I h
 refine thn (hl pins s σ H _ I h) fun v s1 h_=>?_; obtain ⟨x,H1,I1,r1,q1⟩:=h_
 obtain ⟨a,e,⟨xs,hq⟩,q⟩:=q1
 subst e
 cases r1
 obtain ⟨its,rv,p,hz⟩:=I1.list hq
 refine wpAny_pyIter_list p.isList ?_
 refine ⟨s1.heap.objs.size,[s1.heap.objs.size],_,_,H1,rfl,I1.kept (t':=s1.toks) fun b o e=>Heap.get?_push_of_some _ e,turn_list a _,⟨_,Heap.get?_push_size _ rfl,rfl,rfl⟩,fun b hb=>?_,q⟩
 have e:b=s1.heap.objs.size:=by simpa using hb
 subst e
 exact I1.fpOk (Nat.le_refl _) (I1.hok.fresh (Nat.le_refl _))
theorem pi_tup{l:Expr}{tl:TE}(hl:PE X l tl):PI X tg l (iTup X.K tl):=by
 intro pins s σ H R I h
 refine thn (hl pins s σ H _ I h) fun v s1 h_=>?_; obtain ⟨x,H1,I1,r1,q1⟩:=h_
 obtain ⟨a,e,⟨xs,hq⟩,q⟩:=q1
 subst e
 cases r1
 obtain ⟨its,rv,p,hz⟩:=I1.tuple hq
 refine wpAny_pyIter_tuple (show s1.heap.IsTuple a its.toArray from p) ?_
 refine ⟨s1.heap.objs.size,[s1.heap.objs.size],_,_,H1,rfl,I1.kept (t':=s1.toks) fun b o e=>Heap.get?_push_of_some _ e,turn_tuple a _,⟨_,Heap.get?_push_size _ rfl,rfl,rfl⟩,fun b hb=>?_,q⟩
 have e:b=s1.heap.objs.size:=by simpa using hb
 subst e
 exact I1.fpOk (Nat.le_refl _) (I1.hok.fresh (Nat.le_refl _))
theorem range_it{pins:List (Addr × Obj)}{σ:St}{H:Hp}{s:Shared}{R:It->Hp->Prop}{E:Value->Shared->Prop}{lo hi:Int}{t u v:Tok}{tk:Nat}(I:Inv X pins σ H s)(h1:-(2 ^ 62)<=lo)(h2:lo < 2 ^ 62)(h3:-(2 ^ 62)<=hi)(h4:hi < 2 ^ 62)
  (q:R (Itr lo (hi - lo).toNat) H):wpAny (model X.prog X.w) X.A (pyIter (.ref s.heap.objs.size)) (PIE X pins σ tg R) E { s with heap:=s.heap.push { cls:=.type "range",data:=.fields #[.int lo t,.int hi u,.int 1 v] },toks:=tk }:=by
 refine wpAny_pyIter_range (IsRange.new ..) (small_one h1 h2 h3 h4) ?_
 have I1:Inv X pins σ H { s with heap:=s.heap.push { cls:=.type "range",data:=.fields #[.int lo t,.int hi u,.int 1 v] },toks:=tk }:=I.kept fun b o e=>Heap.get?_push_of_some _ e
 refine ⟨(s.heap.push { cls:=.type "range",data:=.fields #[.int lo t,.int hi u,.int 1 v] }).objs.size,[(s.heap.push { cls:=.type "range",data:=.fields #[.int lo t,.int hi u,.int 1 v] }).objs.size],_,_,H,rfl,
  I1.kept (t':=tk) fun b o e=>Heap.get?_push_of_some _ e,turn_range _ lo (hi - lo).toNat,?_,fun b hb=>?_,q⟩
 ·have e1:lo+((0:Nat):Int)*1=lo:=by simp
  have e2:(((hi - lo).toNat:Nat):Int) - ((0:Nat):Int)=Builtin.Range.rangeSize lo hi 1:=by rw [rangeSize_one]; split<;>lia
  show IsRangeIter _ _ (lo+((0:Nat):Int)*1) ((((hi - lo).toNat:Nat):Int) - ((0:Nat):Int)) 1
  rw [e1,e2]
  exact Heap.get?_push_size _ rfl
 ·have e:b=(s.heap.push { cls:=.type "range",data:=.fields #[.int lo t,.int hi u,.int 1 v] }).objs.size:=by simpa using hb
  subst e
  exact I1.fpOk (Nat.le_refl _) (I1.hok.fresh (Nat.le_refl _))
def iRng1(ta:TA):TI:=fun σ H R=>ta σ H fun vs H1=>∃ j:Int,vs=[.int j]/\-(2 ^ 62)<=j/\j < 2 ^ 62/\R (Itr 0 j.toNat) H1
def iRng2(ta:TA):TI:=fun σ H R=>ta σ H fun vs H1=>∃ i j:Int,vs=[.int i,.int j]/\(-(2 ^ 62)<=i/\i < 2 ^ 62/\-(2 ^ 62)<=j/\j < 2 ^ 62)/\R (Itr i (j - i).toNat) H1
theorem pi_range1{a:Expr}{ta:TA}{p pos:Pos}(hg:Gl X "range")(hm:X.mg "range"=none)(ha:PA X [a] ta)(hs:starEach [a] X.env=[(false,eval a X.env)]:=by rfl):PI X tg (.Call (.Name "range" p) [a] [] pos) (iRng1 ta):=by
 intro pins s σ H R I h
 refine Call_ (ld_blt I hg hm boot_range (PyProof.Rows.callWith_type1 (thn (ha pos pins s σ H _ I h) fun us s1 ⟨vs,H1,I1,r1,q1⟩=>?_) hs rfl))
 obtain ⟨j,e,q1,q2,q⟩:=q1
 subst e
 cases r1 with
 | cons r rr=>
  cases rr
  obtain ⟨t,rfl⟩:=r
  exact call_range_1 (range_it I1 (by lia) (by lia) q1 q2 (by simpa using q))
theorem pi_range2{a b:Expr}{ta:TA}{p pos:Pos}(hg:Gl X "range")(hm:X.mg "range"=none)(ha:PA X [a,b] ta)(hs:starEach [a,b] X.env=[(false,eval a X.env),(false,eval b X.env)]:=by rfl)(hs2:starEach [b] X.env=[(false,eval b X.env)]:=by rfl) :
  PI X tg (.Call (.Name "range" p) [a,b] [] pos) (iRng2 ta):=by
 intro pins s σ H R I h
 refine Call_ (ld_blt I hg hm boot_range (PyProof.Rows.callWith_type1 (thn (ha pos pins s σ H _ I h) fun us s1 ⟨vs,H1,I1,r1,q1⟩=>?_) (by rw [hs,hs2]) (by rw [hs2]; rfl)))
 obtain ⟨i,j,e,⟨q1,q2,q3,q4⟩,q⟩:=q1
 subst e
 cases r1 with
 | cons r rr=>
  cases rr with
  | cons r' rr=>
   cases rr
   obtain ⟨t,rfl⟩:=r
   obtain ⟨t',rfl⟩:=r'
   exact call_range_2 (range_it I1 q1 q2 q3 q4 q)
def tFor(wi:TI)(g:TG)(tb:TS):TS:=fun D σ H=>wi σ H fun J H1=>∃ W:Nat->Nat->St->Hp->Prop,(∃ m,W 0 m σ H1)/\∀ i m σ H,W i m σ H->
 (J.stop i H/\D.nx σ H)∨(J.go i H/\∃ N:St->Hp->Prop,(∀ σ' H',N σ' H'->∃ m',m' < m/\W (i+1) m' σ' H')/\∀ x H',J.yld i H x H'->g x σ H' fun σ2 H2=>tb { D with nx:=N,ct:=N,bk:=D.nx } σ2 H2)
def pinsAt(fp:List Addr)(h:Heap):List (Addr × Obj):=fp.filterMap fun b=>(h.get? b).map fun o=>(b,o)
theorem mem_pinsAt{fp:List Addr}{h:Heap}{b:Addr}{o:Obj}(hb:b∈fp)(e:h.get? b=some o):(b,o)∈pinsAt fp h:=List.mem_filterMap.mpr ⟨b,hb,by rw [e]; rfl⟩
theorem of_pinsAt{fp:List Addr}{h:Heap}{p:Addr × Obj}(hp:p∈pinsAt fp h):p.1∈fp/\h.get? p.1=some p.2:=by
 obtain ⟨b,hb,e⟩:=List.mem_filterMap.mp hp
 cases q:h.get? b with
 | none=>rw [q] at e; cases e
 | some o=>
  rw [q] at e
  have e':(b,o)=p:=Option.some.inj e
  subst e'
  exact ⟨hb,q⟩
theorem Inv.pinned{pins:List (Addr × Obj)}{σ:St}{H:Hp}{s:Shared}{fp:List Addr}(I:Inv X pins σ H s)(hf:∀ b∈fp,FpOk X pins H b)(ho:∀ b∈fp,∃ o,s.heap.get? b=some o/\∀ v,o.data≠.cell v):Inv X (pins++pinsAt fp s.heap) σ H s:=
 I.pins_of fun p hp=>(List.mem_append.mp hp).elim (fun z=>I.pin p (List.mem_append_right _ z)) fun z=>by
  obtain ⟨hb,e⟩:=of_pinsAt z
  obtain ⟨f0,f1,f2,_⟩:=hf p.1 hb
  obtain ⟨o,e',d⟩:=ho p.1 hb
  rw [e] at e'; cases e'
  exact ⟨e,f0,f1,f2,d⟩
theorem Inv.unpinned{pins pl:List (Addr × Obj)}{σ:St}{H:Hp}{s:Shared}(I:Inv X (pins++pl) σ H s):Inv X pins σ H s:=I.pins_of fun p hp=>I.pin p (List.mem_append_right _ (List.mem_append_left _ hp))
theorem ps_for{iter:Expr}{body:List Stmt}{wi:TI}{g:TG}{tb:TS}{pos:Pos}(hp:PassesOwn (model X.prog X.w) X.A X.env X.xe)(hc:X.calm=true)(hi:PI X tg iter wi)(hg:PG X tg g)(hb:PSs X body tb)
  (hs:∀ x,foldedSetIterable iter X.env x=pure x:=by intro _; rfl):PS X (.For tg iter body [] pos) (tFor wi g tb):=by
 intro pins s σ H D I h
 refine wpAny_For (thn (hi pins s σ H _ I h) fun v s1 h1=>thn h1 fun itv s2 h2=>?_) hs
 obtain ⟨it,fp,tn,J,H2,e,I2,T,st2,f2,W,⟨m0,w0⟩,turn⟩:=h2
 subst e
 -- what stays true of the iterator's objects through the loop
 have stat:∀ {H':Hp},(∀ b∈fp,H' b=none)->∀ b∈fp,FpOk X pins H' b:=fun hn b hb=>⟨hn b hb,(f2 b hb).2⟩
 refine codeAny_forLoop_any (fun n s'=>∃ i σ' H',Inv X pins σ' H' s'/\tn i s'.heap/\(∀ b∈fp,H' b=none)/\W i n σ' H') ?_ m0 ⟨0,σ,H2,I2,st2,fun b hb=>(f2 b hb).1,w0⟩
 rintro n s3 ⟨i,σ3,H3,I3,st3,fr3,w3⟩
 rcases turn i n σ3 H3 w3 with ⟨stop,qn⟩ | ⟨go,N,hN,step⟩
 ·refine wpAny_passesOwn hp (thn (T.done X rfl rfl rfl hc i pins s3 σ3 H3 X.xe I3 (stat fr3) st3 stop) fun r s4 h_=>?_); obtain ⟨hr,I4⟩:=h_
  subst hr
  exact wpAny_execs_nil ⟨σ3,H3,I4,qn⟩
 ·refine wpAny_passesOwn hp (thn (T.item X rfl rfl rfl hc i pins s3 σ3 H3 X.xe I3 (stat fr3) st3 go) fun r s4 h_=>?_); obtain ⟨u,hr,h4⟩:=h_
  subst hr
  refine wpAny_passesOwn hp (thn h4 fun _ s5 h_=>?_); obtain ⟨x,H5,I5,r5,y5,st5,fr5⟩:=h_
  have I5':=I5.pinned (stat fr5) (T.obj _ _ st5)
  refine wpAny_passesOwn hp (thn (hg _ s5 σ3 H5 x u _ I5' r5 (step x H5 y5)) fun _ s6 h_=>?_); obtain ⟨σ6,H6,I6,q6⟩:=h_
  refine wpAny_passesOwn hp (thn (hb _ s6 σ6 H6 _ I6 q6) fun f s7 q7=>?_)
  have again:∀ {σ7:St} {H7:Hp},Inv X (pins++pinsAt fp s5.heap) σ7 H7 s7->N σ7 H7->∃ m,m < n/\∃ i σ' H',Inv X pins σ' H' s7/\tn i s7.heap/\(∀ b∈fp,H' b=none)/\W i m σ' H':=fun {σ7 H7} I7 n7=>by
   obtain ⟨m',hm,w7⟩:=hN σ7 H7 n7
   refine ⟨m',hm,i+1,σ7,H7,I7.unpinned,T.keep _ _ _ st5 fun b hb o e=>(I7.pin (b,o) (List.mem_append_right _ (List.mem_append_right _ (mem_pinsAt hb e)))).1,fun b hb=>?_,w7⟩
   obtain ⟨o,e,d⟩:=T.obj _ _ st5 b hb
   exact (I7.pin (b,o) (List.mem_append_right _ (List.mem_append_right _ (mem_pinsAt hb e)))).2.1
  cases f with
  | next=>obtain ⟨σ7,H7,I7,n7⟩:=q7; exact again I7 n7
  | cont=>obtain ⟨σ7,H7,I7,n7⟩:=q7; exact again I7 n7
  | brk=>obtain ⟨σ7,H7,I7,q7⟩:=q7; exact ⟨σ7,H7,I7.unpinned,q7⟩
  | ret v=>obtain ⟨x7,σ7,H7,I7,r7,q7⟩:=q7; exact ⟨x7,σ7,H7,I7.unpinned,r7,q7⟩
end
end L2
namespace L2
open PySem PySem.Spec PyProof.Rows
abbrev R2:=V->V->Hp->VK->Prop
def OpR(X:Cx)(f:Value->Value->Sem Value)(r:R2):Prop:=
 ∀ (pins:List (Addr × Obj)) (s:Shared) (σ:St) (H:Hp) (x y:V) (v u:Value) (Q:VK),Inv X pins σ H s->RelV x v->RelV y u->r x y H Q->
  wpAny (model X.prog X.w) X.A (f v u) (EP X pins σ Q) X.xe s
def CallR(X:Cx)(f:Value)(r:List V->Hp->VK->Prop):Prop:=
 ∀ (pins:List (Addr × Obj)) (s:Shared) (σ:St) (H:Hp) (xs:List V) (us:List Value) (Q:VK),Inv X pins σ H s->Vals xs us->r xs H Q->
  wpAny (model X.prog X.w) X.A (call f us) (EP X pins σ Q) X.xe s
def TruR(X:Cx)(r:V->Hp->(Bool->Hp->Prop)->Prop):Prop:=
 ∀ (pins:List (Addr × Obj)) (s:Shared) (σ:St) (H:Hp) (x:V) (v:Value) (Q:Bool->Hp->Prop),Inv X pins σ H s->RelV x v->r x H Q->
  wpAny (model X.prog X.w) X.A (truthy v) (TP X pins σ Q) X.xe s
def tOp(r:R2)(ta tb:TE):TE:=fun σ H Q=>ta σ H fun x H1=>tb σ H1 fun y H2=>r x y H2 Q
def rI(C:Int->Int->Prop)(g:Int->Int->V):R2:=fun x y H Q=>∃ i j,x=.int i/\y=.int j/\C i j/\Q (g i j) H
def rI0(g:Int->Int->V):R2:=fun x y H Q=>∃ i j,x=.int i/\y=.int j/\Q (g i j) H
section
variable {X:Cx}{a b c:Expr}{ta tb tc:TE}{pos:Pos}
theorem binT(ha:PE X a ta)(hb:PE X b tb){pins:List (Addr × Obj)}{s:Shared}{σ:St}{H:Hp}{R:V->V->Hp->Prop}(I:Inv X pins σ H s)
  (h:ta σ H fun x H1=>tb σ H1 fun y H2=>R x y H2) {Q:Value->Shared->Prop} {f:Value->Value->Sem Value}
  (hf:∀ v u s2 x y H2,Inv X pins σ H2 s2->RelV x v->RelV y u->R x y H2->wpAny (model X.prog X.w) X.A (f v u) Q X.xe s2) :
  wpAny (model X.prog X.w) X.A (eval a X.env) (fun v s₁=>wpAny (model X.prog X.w) X.A (eval b X.env) (fun u s₂=>wpAny (model X.prog X.w) X.A (f v u) Q X.xe s₂) X.xe s₁) X.xe s:=by
 refine thn (ha pins s σ H _ I h) fun v s1 h_=>?_; obtain ⟨x,H1,I1,r1,q1⟩:=h_
 refine thn (hb pins s1 σ H1 _ I1 q1) fun u s2 h_=>?_; obtain ⟨y,H2,I2,r2,q2⟩:=h_
 exact hf v u s2 x y H2 I2 r1 r2 q2
theorem pe_op{op:Operator}{r:R2}(ho:OpR X (binaryOp op) r)(ha:PE X a ta)(hb:PE X b tb):PE X (.BinOp a op b pos) (tOp r ta tb):=by
 intro pins s σ H Q I h
 exact wpAny_BinOp (binT ha hb I h fun v u s2 x y H2 I2 rx ry q=>ho pins s2 σ H2 x y v u Q I2 rx ry q)
theorem opI{f:Value->Value->Sem Value}{C:Int->Int->Prop}{g:Int->Int->Int}
  (rule:∀ (i j:Int) (t u:Tok) (s:Shared) (Q:Value->Shared->Prop) (E:Value->Shared->Prop),C i j->Q (.int (g i j) s.toks) { s with toks:=s.toks+1 }->wpAny (model X.prog X.w) X.A (f (.int i t) (.int j u)) Q E s) :
  OpR X f (rI C fun i j=>.int (g i j)):=by
 intro pins s σ H x y v u Q I rx ry h
 obtain ⟨i,j,rfl,rfl,hc,q⟩:=h
 obtain ⟨t,rfl⟩:=rx
 obtain ⟨t',rfl⟩:=ry
 exact rule i j t t' s _ _ hc ⟨.int (g i j),H,I.tok _,⟨_,rfl⟩,q⟩
theorem opI0{f:Value->Value->Sem Value}{g:Int->Int->Int}
  (rule:∀ (i j:Int) (t u:Tok) (s:Shared) (Q:Value->Shared->Prop) (E:Value->Shared->Prop),Q (.int (g i j) s.toks) { s with toks:=s.toks+1 }->wpAny (model X.prog X.w) X.A (f (.int i t) (.int j u)) Q E s) :
  OpR X f (rI0 fun i j=>.int (g i j)):=by
 intro pins s σ H x y v u Q I rx ry h
 obtain ⟨i,j,rfl,rfl,q⟩:=h
 obtain ⟨t,rfl⟩:=rx
 obtain ⟨t',rfl⟩:=ry
 exact rule i j t t' s _ _ ⟨.int (g i j),H,I.tok _,⟨_,rfl⟩,q⟩
theorem opB0{f:Value->Value->Sem Value}{g:Int->Int->Bool}
  (rule:∀ (i j:Int) (t u:Tok) (s:Shared) (Q:Value->Shared->Prop) (E:Value->Shared->Prop),Q (.bool (g i j)) s->wpAny (model X.prog X.w) X.A (f (.int i t) (.int j u)) Q E s) :
  OpR X f (rI0 fun i j=>.bl (g i j)):=by
 intro pins s σ H x y v u Q I rx ry h
 obtain ⟨i,j,rfl,rfl,q⟩:=h
 obtain ⟨t,rfl⟩:=rx
 obtain ⟨t',rfl⟩:=ry
 exact rule i j t t' s _ _ ⟨.bl (g i j),H,I,rfl,q⟩
def CDiv(i j:Int):Prop:=0 < j/\j < 1073741824
def CPow(i j:Int):Prop:=0<=j/\j<=1000000/\i.natAbs < 2 ^ 64
def CMul(i j:Int):Prop:=(-(2 ^ 64) < i/\i < 2 ^ 64)∨(-(2 ^ 64) < j/\j < 2 ^ 64)
theorem CMul.ok{i j:Int}(h:CMul i j):IntMulOk i j:=by
 rcases h with ⟨h1,h2⟩ | ⟨h1,h2⟩
 ·exact .of_left (intBits_le_64 h1 h2)
 ·exact .of_right (intBits_le_64 h1 h2)
theorem op_add:OpR X (binaryOp .Add) (rI0 fun i j=>.int (i+j)):=opI0 fun _ _ _ _ _ _ _ q=>add_int q
theorem op_sub:OpR X (binaryOp .Sub) (rI0 fun i j=>.int (i - j)):=opI0 fun _ _ _ _ _ _ _ q=>sub_int q
theorem op_mul:OpR X (binaryOp .Mult) (rI CMul fun i j=>.int (i*j)):=opI fun _ _ _ _ _ _ _ hc q=>mul_int q hc.ok
theorem op_fdiv:OpR X (binaryOp .FloorDiv) (rI CDiv fun i j=>.int (i / j)):=opI fun i j _ _ _ _ _ hc q=>by
 have h1:(0:Int) < j:=hc.1
 have h2:j < 1073741824:=hc.2
 exact floordiv_int (by lia) (by rw [Int.fdiv_eq_ediv_of_nonneg i (by lia)]; exact q) (.inl (PyProof.noPylong_small (by lia)))
theorem op_mod:OpR X (binaryOp .Mod) (rI (fun _ j=>0 < j) fun i j=>.int (i%j)):=opI fun i j _ _ _ _ _ hc q=>by
 have h1:(0:Int) < j:=hc
 exact mod_int' (by lia) (by rw [Int.fmod_eq_emod_of_nonneg i (by lia)]; exact q)
theorem op_pow:OpR X (binaryOp .Pow) (rI CPow fun i j=>.int (i ^ j.toNat)):=opI fun _ _ _ _ _ _ _ hc q=>pow_int_small hc.1 hc.2.1 hc.2.2 q
end
section
variable {X:Cx}{a b c:Expr}{ta tb tc:TE}{pos:Pos}
theorem fin_bl{pins:List (Addr × Obj)}{σ:St}{H:Hp}{s:Shared}{Q:VK}{k k':Bool}(I:Inv X pins σ H s)(q:Q (.bl k) H)(e:k=k'):EP X pins σ Q (.bool k') s:=by
 subst e
 exact ⟨.bl k,H,I,rfl,q⟩
theorem op_lt:OpR X (compareOp .Lt) (rI0 fun i j=>.bl (decide (i < j))):=opB0 fun _ _ _ _ _ _ _ q=>lt_int q
theorem op_gt:OpR X (compareOp .Gt) (rI0 fun i j=>.bl (decide (j < i))):=opB0 fun _ _ _ _ _ _ _ q=>gt_int q
theorem op_ge:OpR X (compareOp .GtE) (rI0 fun i j=>.bl (decide (j<=i))):=opB0 fun _ _ _ _ _ _ _ q=>ge_int q
theorem op_lt_str:OpR X (compareOp .Lt) (fun x y H Q=>∃ i j,x=.str i/\y=.str j/\Q (.bl (decide (i.cps.toList < j.cps.toList))) H):=by
 intro pins s σ H x y v u Q I rx ry h
 obtain ⟨i,j,rfl,rfl,q⟩:=h
 obtain ⟨t,rfl⟩:=rx
 obtain ⟨t',rfl⟩:=ry
 exact lt_str (fin_bl I q rfl)
theorem OpR.or{f:Value->Value->Sem Value}{r r':R2}(h:OpR X f r)(h':OpR X f r'):OpR X f (fun x y H Q=>r x y H Q∨r' x y H Q):=by
 intro pins s σ H x y v u Q I rx ry q
 rcases q with q | q
 ·exact h pins s σ H x y v u Q I rx ry q
 ·exact h' pins s σ H x y v u Q I rx ry q
theorem nomark(b:Expr){op:CmpOp}(h:op≠.In:=by decide)(h2:op≠.NotIn:=by decide):behindInMarks op b=false:=by
 have e1:(op == CmpOp.In)=false:=by cases op<;>first | rfl | exact absurd rfl h
 have e2:(op == CmpOp.NotIn)=false:=by cases op<;>first | rfl | exact absurd rfl h2
 cases b<;>simp [behindInMarks,e1,e2]
theorem pe_cmpR{op:CmpOp}{r:R2}(ho:OpR X (compareOp op) r)(ha:PE X a ta)(hb:PE X b tb)(hm:behindInMarks op b=false):PE X (.Compare a [op] [b] pos) (tOp r ta tb):=by
 intro pins s σ H Q I h
 exact wpAny_Compare1 (binT ha hb I h fun v u s2 x y H2 I2 rx ry q=>ho pins s2 σ H2 x y v u Q I2 rx ry q) hm
def tTest(t:TE):TT:=fun σ H Q=>t σ H fun x H'=>∃ k,x=.bl k/\Q k H'
theorem pt_cmpR{op:CmpOp}{r:R2}(ho:OpR X (compareOp op) r)(ha:PE X a ta)(hb:PE X b tb)(hm:behindInMarks op b=false):PT X (.Compare a [op] [b] pos) (tTest (tOp r ta tb)):=by
 intro pins s σ H Q I h
 refine wpAny_isTrue_Compare1 (thn (ha pins s σ H _ I h) fun v s1 ⟨x,H1,I1,r1,q1⟩=>thn (hb pins s1 σ H1 _ I1 q1) fun u s2 ⟨y,H2,I2,r2,q2⟩=>
  thn (ho pins s2 σ H2 x y v u _ I2 r1 r2 q2) fun c s3 ⟨z,H3,I3,r3,k,e,q3⟩=>?_) hm
 subst e
 cases r3
 exact wpAny_truthy_bool ⟨H3,I3,q3⟩
def TruV(K:PySem.W.Frag)(x:V)(H:Hp)(k:Bool):Prop:=
 match x with
 | .non=>k=false
 | .bl b=>k=b
 | .int i=>k=(i != 0)
 | .str y=>y.length<=sizeLine/\k=((y.length:Int) != 0)
 | .byt y=>y.size<=sizeLine/\k=((y.size:Int) != 0)
 | .ref p=>(∃ xs,SqL K H p xs/\k=!xs.isEmpty)∨(∃ xs,SqT K H p xs/\k=!xs.isEmpty)∨∃ kvs,H p=some (.dK kvs)/\k=!kvs.isEmpty
 | _=>False
theorem isEmpty_kv{κ:Type}{kvs:List (κ × V)}{vs:List (κ × Value)}(r:KV kvs vs):(!vs.isEmpty)=!kvs.isEmpty:=by
 cases r<;>rfl
theorem isEmpty_of{xs:List V}{its:List Value}(r:Vals xs its):(!its.toArray.isEmpty)=!xs.isEmpty:=by
 cases r<;>simp
theorem line63:(sizeLine:Nat) < 2 ^ 63:=by rw [sizeLine_eq]; decide
theorem tru_ok:TruR X (fun x H Q=>∃ k,TruV X.K x H k/\Q k H):=by
 intro pins s σ H x v Q I rx h
 obtain ⟨k,e,q⟩:=h
 have hl:=line63
 have hs:sizeLine=16777216:=sizeLine_eq
 cases x with
 | non=>
  cases rx
  have e':k=false:=e
  subst e'
  exact truthy_none ⟨H,I,q⟩
 | bl b=>
  cases rx
  have e':k=b:=e
  subst e'
  exact wpAny_truthy_bool ⟨H,I,q⟩
 | int i=>
  obtain ⟨t,rfl⟩:=rx
  have e':k=(i != 0):=e
  subst e'
  exact PySem.P.truthy_int ⟨H,I,q⟩
 | str y=>
  obtain ⟨t,rfl⟩:=rx
  obtain ⟨hy,e'⟩:y.length<=sizeLine/\k=((y.length:Int) != 0):=e
  subst e'
  exact PySem.P.truthy_str (by lia) ⟨H,I.tok _,q⟩
 | byt y=>
  obtain ⟨t,rfl⟩:=rx
  obtain ⟨hy,e'⟩:y.size<=sizeLine/\k=((y.size:Int) != 0):=e
  subst e'
  exact PySem.W.truthy_bytes (by lia) ⟨H,I.tok _,q⟩
 | ref p=>
  cases rx
  have e':(∃ xs,SqL X.K H p xs/\k=!xs.isEmpty)∨(∃ xs,SqT X.K H p xs/\k=!xs.isEmpty)∨∃ kvs,H p=some (.dK kvs)/\k=!kvs.isEmpty:=e
  rcases e' with ⟨xs,hx,e'⟩ | ⟨xs,hx,e'⟩ | ⟨kvs,hx,e'⟩
  ·subst e'
   obtain ⟨its,r,pl,hz⟩:=I.list hx
   have hlen:=r.length
   exact wpAny_truthy_list pl.isList (by simp only [List.size_toArray]; lia) ⟨H,I.tok _,by rw [isEmpty_of r]; exact q⟩
  ·subst e'
   obtain ⟨its,r,pl,hz⟩:=I.tuple hx
   have hlen:=r.length
   exact truthy_tuple pl (by simp only [List.size_toArray]; lia) ⟨H,I.tok _,by rw [isEmpty_of r]; exact q⟩
  ·subst e'
   obtain ⟨hz,hS,vs,r,m⟩:kvs.length<=sizeLine/\(p == sysModules)=false/\∃ vs,KV kvs vs/\s.heap.DictOf (mixKind X.prog X.w) p vs:=I.hok p _ hx
   have hlen:kvs.length=vs.length:=Paired.length r
   exact wpAny_truthy_dict hS m (by lia) ⟨H,I.tok _,by rw [isEmpty_kv r]; exact q⟩
 | _=>exact (show False from e).elim
theorem pt_truth(ha:PE X a ta)(he:∀ whole,isTrue a X.env whole=(do let v <-whole; standAt a.pos; holding [v] (truthy v))) :
  PT X a (fun σ H Q=>ta σ H fun x H'=>∃ k,TruV X.K x H' k/\Q k H'):=by
 intro pins s σ H Q I h
 exact isTrue_plain (thn (ha pins s σ H _ I h) fun v s1 ⟨x,H1,I1,r1,q1⟩=>tru_ok pins s1 σ H1 x v Q I1 r1 q1) (he _)
theorem op_add_str:OpR X (binaryOp .Add) (fun x y H Q=>∃ i j,x=.str i/\y=.str j/\i.length+j.length<=sizeLine/\Q (.str (i++j)) H):=by
 intro pins s σ H x y v u Q I rx ry h
 obtain ⟨i,j,rfl,rfl,hz,q⟩:=h
 obtain ⟨t,rfl⟩:=rx
 obtain ⟨t',rfl⟩:=ry
 exact add_str (fun t' tk=>⟨.str (i++j),H,I.tok _,⟨_,rfl⟩,q⟩) hz
theorem vals1{x:V}{us:List Value}(r:Vals [x] us):∃ u,us=[u]/\RelV x u:=by
 cases r with
 | cons r1 r2=>cases r2; exact ⟨_,rfl,r1⟩
theorem vals2{x y:V}{us:List Value}(r:Vals [x,y] us):∃ u w',us=[u,w']/\RelV x u/\RelV y w':=by
 cases r with
 | cons r1 r2=>
  cases r2 with
  | cons r3 r4=>cases r4; exact ⟨_,_,rfl,r1,r3⟩
end
end L2
namespace L2
open PySem PySem.Spec PyProof.Rows
structure ObjM (h:Heap) (x dx C:Addr) (mA:Str->Option Value):Prop where
 obj:h.get? x=some (PySem.W.instObj C dx)
 ns:h.Ns1 dx mA
 ne:dx≠x
theorem lookIn_ns{h:Heap}{dx:Addr}{mA:Str->Option Value}(n:h.Ns1 dx mA):∃ od,h.get? dx=some od/\∀ name,PySem.W.lookIn name od=some (mA name):=by
 obtain ⟨o,es,ep,ho,hd,hk,_,hm⟩:=n
 refine ⟨o,ho,fun name=>?_⟩
 have e:=hm name
 unfold nsFind findBy at e
 rw [<-Array.find?_toList] at e
 unfold PySem.W.lookIn
 rw [hd]
 dsimp only
 split
 ·rename_i y q
  rw [q] at e
  exact congrArg some e
 ·rename_i q
  rw [q] at e
  have a:es.toList.any (·.refKey)=false:=by
   rw [List.any_eq_false]
   intro y hy
   obtain ⟨z,t,hkey⟩:=hk y (Array.mem_toList_iff.mp hy)
   simp [DictEntry.refKey,hkey]
  have a':¬ es.toList.any (·.refKey)=true:=by rw [a]; exact Bool.false_ne_true
  rw [if_neg a']
  exact congrArg some e
theorem ObjM.look{h:Heap}{x dx C:Addr}{mA:Str->Option Value}(I:ObjM h x dx C mA):∃ od,PySem.W.InstAt h x (PySem.W.instObj C dx) C (some od)/\∀ name,PySem.W.lookIn name od=some (mA name):=
 let ⟨od,ho,hl⟩:=lookIn_ns I.ns
 ⟨od,⟨I.obj,rfl,rfl,ho⟩,hl⟩
theorem RelO.some_of{v:V}{o:Option Value}(r:RelO (some v) o):∃ u,o=some u/\RelV v u:=by
 cases o with
 | none=>exact (show False from r).elim
 | some u=>exact ⟨u,rfl,r⟩
section
variable {P:Program}{w:World}{H H':Hp}{h h':Heap}{a C dx:Addr}{fs fs':List (Str × V)}
theorem ins_get(hok:HOk P w H h)(e:H a=some (.ins C dx fs)):∃ mA,ObjM h a dx C mA/\(∀ f,RelO (fs.lookup f) (mA f))/\PySem.Within mA (fs.map (·.1))/\fs.length<=1000/\H dx=some (.own a):=by
 obtain ⟨d,z,ne,ob,mA,n,r,q⟩:=(show ObjOk P w H h a (.ins C dx fs) from hok a _ e)
 exact ⟨mA,⟨ob,n,ne⟩,r,q,z,d⟩
end
structure Cls (K:PySem.W.Frag) (C:Addr):Prop where
 pg:PySem.W.plainGet K C Str.empty=true
 hd:PySem.W.hasDictIn K C=true
 po:PySem.W.plainOver K C=true
 sa:PySem.W.findIn K (.ref C) "__setattr__"=some (some (.builtin "object.__setattr__"))
theorem Cls.get{K:PySem.W.Frag}{C:Addr}(c:Cls K C)(f:Str):PySem.W.plainGet K C f=true:=c.pg
section
variable {X:Cx}{pins:List (Addr × Obj)}{σ:St}{H:Hp}{s:Shared}{A:Around}{E:Value->Shared->Prop}{Q:Value->Shared->Prop}{c:Value}{b:Bool}
inductive TyOf (K:PySem.W.Frag) (H:Hp):V->Value->Prop where
 | non:TyOf K H .non (.type "NoneType")
 | bl (x:Bool):TyOf K H (.bl x) (.type "bool")
 | int (i:Int):TyOf K H (.int i) (.type "int")
 | str (x:Str):TyOf K H (.str x) (.type "str")
 | flt (x:UInt64):TyOf K H (.flt x) (.type "float")
 | lst {a:Addr} {xs:List V} (e:H a=some (.lst xs)):TyOf K H (.ref a) (.type "list")
 | frz {a:Addr} {o:Obj} {xs:List V} (e:H a=some (.frz o (.lst xs))):TyOf K H (.ref a) (.type "list")
 | tup {a:Addr} {xs:List V} (e:H a=some (.tup xs)):TyOf K H (.ref a) (.type "tuple")
 | dK {a:Addr} {kvs:List (Key × V)} (e:H a=some (.dK kvs)):TyOf K H (.ref a) (.type "dict")
 | dT {a:Addr} {kvs:List (List Key × V)} (e:H a=some (.dT kvs)):TyOf K H (.ref a) (.type "dict")
 | ins {a C dx:Addr} {fs:List (Str × V)} (e:H a=some (.ins C dx fs)) (cl:Cls K C) (ha:PySem.W.findIn K (.ref C) "__class__"=some (some (.builtin "object.__class__")))
   (hn:PySem.W.specialIn K (.builtin "object.__class__") "__get__"=some (some (.builtin "getset_descriptor.__get__"))) (htk:PySem.W.takesIn K (.builtin "object.__class__")=some true)
   (hm:PySem.W.mroIn K C (.type "object")=some true):TyOf K H (.ref a) (.ref C)
theorem isinst_ok{x:V}{u t:Value}(I:Inv X pins σ H s)(rx:RelV x u)(ty:TyOf X.K H x t)(e:PySem.W.kitOne X.K t c=some b)(h:∀ tk,Q (.bool b) { s with toks:=tk }) :
  wpAny (model X.prog X.w) A (call (.builtin "isinstance") [u,c]) Q E s:=by
 cases ty with
 | non=>cases (show u=Value.none from rx); exact PySem.W.kia_one PySem.W.kitx_none I.kIn True.intro e (fun z=>nomatch z) h
 | bl y=>cases (show u=Value.bool y from rx); exact PySem.W.kia_one PySem.W.kitx_bool I.kIn True.intro e (fun z=>nomatch z) h
 | int i=>obtain ⟨t,q⟩:=(show ∃ t,u=Value.int i t from rx); cases q; exact PySem.W.kia_one PySem.W.kitx_int I.kIn True.intro e (fun z=>nomatch z) h
 | str y=>obtain ⟨t,q⟩:=(show ∃ t,u=Value.str y t from rx); cases q; exact PySem.W.kia_one PySem.W.kitx_str I.kIn True.intro e (fun z=>nomatch z) h
 | flt y=>obtain ⟨t,q⟩:=(show ∃ t,u=Value.float y t from rx); cases q; exact PySem.W.kia_one PySem.W.kitx_float I.kIn True.intro e (fun z=>nomatch z) h
 | @lst a xs ea=>
  cases (show u=Value.ref a from rx)
  obtain ⟨_,_,n,_,h1⟩:=(show ObjOk X.prog X.w H s.heap a (.lst xs) from I.hok a _ ea)
  exact PySem.W.kia_one PySem.W.kitx_list I.kIn ⟨_,h1,rfl⟩ e (fun z=>nomatch z) h
 | @frz a ob xs ea=>
  cases (show u=Value.ref a from rx)
  obtain ⟨_,_,_,n,_,h1⟩:=(show ObjOk X.prog X.w H s.heap a (.frz ob (.lst xs)) from I.hok a _ ea)
  exact PySem.W.kia_one PySem.W.kitx_list I.kIn ⟨_,h1,rfl⟩ e (fun z=>nomatch z) h
 | @tup a xs ea=>
  cases (show u=Value.ref a from rx)
  obtain ⟨_,_,_,p⟩:=(show ObjOk X.prog X.w H s.heap a (.tup xs) from I.hok a _ ea)
  obtain ⟨o,h1,h2,_⟩:=p
  exact PySem.W.kia_one PySem.W.kitx_tuple I.kIn ⟨o,h1,h2⟩ e (fun z=>nomatch z) h
 | @dK a kvs ea=>
  cases (show u=Value.ref a from rx)
  obtain ⟨_,_,vs,_,p⟩:=(show ObjOk X.prog X.w H s.heap a (.dK kvs) from I.hok a _ ea)
  obtain ⟨o,es,ep,h1,h2,_⟩:=p
  exact PySem.W.kia_one PySem.W.kitx_dict I.kIn ⟨o,h1,h2.1⟩ e (fun z=>nomatch z) h
 | @dT a kvs ea=>
  cases (show u=Value.ref a from rx)
  obtain ⟨_,_,xs,_,o,es,ep,h1,h2,_⟩:=(show ObjOk X.prog X.w H s.heap a (.dT kvs) from I.hok a _ ea)
  exact PySem.W.kia_one PySem.W.kitx_dict I.kIn ⟨o,h1,h2.1⟩ e (fun z=>nomatch z) h
 | @ins a C dx fs ea cl ha hn htk hm=>
  cases (show u=Value.ref a from rx)
  obtain ⟨mA,O,_⟩:=ins_get I.hok ea
  obtain ⟨od,J,_⟩:=O.look
  exact PySem.W.kia_one (PySem.W.kitx_own (cl.get _) cl.hd ha hn htk hm) I.kIn J e (fun z=>nomatch z) h
end
end L2
namespace L2
open PySem PySem.Spec PyProof.Rows
structure Room (k:Nat) (A:Around):Prop where
 hd:A.handled=none
 dp:A.depth+3*k+5 < recursionLimit
 un:A.units+16*k+200 < cLine
theorem Room.mono{j k:Nat}{A:Around}(r:Room k A)(h:j<=k):Room j A:=⟨r.hd,by have:=r.dp; lia,by have:=r.un; lia⟩
theorem Room.deeper{k:Nat}{A:Around}(r:Room (k+1) A)(env:Env):Room k (A.deeper env):=
 ⟨r.hd,by have:=r.dp; show A.depth+1+3*k+5 < _; lia,by have:=r.un; show A.units+3+16*k+200 < _; lia⟩
theorem Room.depth{k:Nat}{A:Around}(r:Room k A):A.depth < recursionLimit:=by have:=r.dp; lia
theorem Room.units{k:Nat}{A:Around}(r:Room k A):A.units+64 < cLine:=by have:=r.un; lia
def tNil:TA:=fun _ H Q=>Q [] H
def tCons(ta:TE)(tr:TA):TA:=fun σ H Q=>ta σ H fun x H1=>tr σ H1 fun xs H2=>Q (x::xs) H2
section
variable {X:Cx}{e:Expr}{es:List Expr}{te:TE}{t:TA}{pos:Pos}
theorem pa_nil:PA X [] tNil:=fun _ _ _ _ H Q I h=>Calls.spliced_nil ⟨[],H,I,.nil,h⟩
theorem pa_cons(ha:PE X e te)(hr:PA X es t)(hs:starEach (e::es) X.env=(false,eval e X.env)::starEach es X.env:=by rfl):PA X (e::es) (tCons te t):=by
 intro pos pins s σ H Q I h
 rw [hs]
 show wpAny _ _ (spliced ((false,eval e X.env)::backTo pos (starEach es X.env))) _ _ s
 refine Calls.spliced_cons (thn (ha pins s σ H _ I h) fun u s1 h_=>?_); obtain ⟨x,H1,I1,r1,q1⟩:=h_
 exact thn (hr pos pins s1 σ H1 _ I1 q1) fun us s2 ⟨xs,H2,I2,r2,q2⟩=>⟨x::xs,H2,I2,.cons r1 r2,q2⟩
def tLst(t:TA):TE:=fun σ H Q=>t σ H fun xs H1=>xs.length<=sizeLine/\∀ p,H1 p=none->Q (.ref p) (upd H1 p (.lst xs))
theorem pe_lst(h:PA X es t):PE X (.List es pos) (tLst t):=by
 intro pins s σ H Q I hq
 refine wpAny_List_spliced (thn (h pos pins s σ H _ I hq) fun us s1 ⟨xs,H1,I1,r,z,q⟩=>⟨by rw [<-r.length]; exact z,?_⟩)
 have hf:H1 s1.heap.objs.size=none:=I1.hok.fresh (Nat.le_refl _)
 refine ⟨.ref s1.heap.objs.size,upd H1 s1.heap.objs.size (.lst xs),I1.laid (t':=s1.toks) (fun b u e=>Heap.get?_push_of_some _ e) (Nat.le_refl _) ?_,rfl,q _ hf⟩
 exact ⟨z,us,0,r,Heap.get?_push_size _ rfl⟩
end
abbrev Sp:=List V->Hp->VK->XK->Prop
abbrev CXT:=List Env->Hp->Shared->XK->Value->Shared->Prop
structure Env0 (P:Program) (w:World) (K:PySem.W.Frag) (mg:Str->Option Value) (base:Heap) (A:Around) (outer:List Env) (s:Shared) (H:Hp):Prop where
 frames:A.frames=some outer
 mod:Mod K mg base
 bs:∀ b o,base.get? b=some o->s.heap.get? b=some o/\H b=none
 bsz:base.objs.size<=s.heap.objs.size
 funs:s.heap.FunFrames base outer
 frf:∀ b∈frs outer,H b=none
 hok:HOk P w H s.heap
 bare:AllBare s.gens
def CE(outer:List Env)(P:Program)(w:World)(H:Hp)(s:Shared)(Q:VK)(u:Value)(s':Shared):Prop:=
 ∃ v H',s'.os=s.os/\AllBare s'.gens/\Un (frs outer) [] H H' s.heap s'.heap/\HOk P w H' s'.heap/\RelV v u/\Q v H'
def CR(CX:CXT)(outer:List Env)(P:Program)(w:World)(H:Hp)(s:Shared)(Q:VK)(E:XK)(r:Result)(s':Shared):Prop:=
 match r with
 | .ok (.ret u)=>CE outer P w H s Q u s'
 | .ok _=>False
 | .error e=>CX outer H s E e s'
structure FnOk (P:Program) (w:World) (K:PySem.W.Frag) (mg:Str->Option Value) (base:Heap) (CX:CXT) (k:Nat) (f:Addr) (fd:FuncData) (ps:List Str) (sp:Sp):Prop where
 len:∀ vs H Q E,sp vs H Q E->vs.length=ps.length
 run:∀ (A:Around) (outer:List Env) (s:Shared) (H:Hp) (args:Args) (us:List Value) (vs:List V) (Q:VK) (E:XK),Room k A->Env0 P w K mg base A outer s H->BindsTo s fd args (ps.zip us)->Vals vs us->sp vs H Q E->
  codeAny (model P w) A (.call (.ref f) args) (CR CX outer P w H s Q E) s
theorem FnOk.mono{P:Program}{w:World}{K:PySem.W.Frag}{mg:Str->Option Value}{base:Heap}{CX:CXT}{j k:Nat}{f:Addr}{fd:FuncData}{ps:List Str}{sp:Sp}(F:FnOk P w K mg base CX j f fd ps sp)(h:j<=k) :
  FnOk P w K mg base CX k f fd ps sp:=⟨F.len,fun A outer s H args us vs Q E hr=>F.run A outer s H args us vs Q E (hr.mono h)⟩
theorem FnOk.imp{P:Program}{w:World}{K:PySem.W.Frag}{mg:Str->Option Value}{base:Heap}{CX:CXT}{k:Nat}{f:Addr}{fd:FuncData}{ps:List Str}{sp sp':Sp}(F:FnOk P w K mg base CX k f fd ps sp)
  (h:∀ vs H Q E,sp' vs H Q E->sp vs H Q E):FnOk P w K mg base CX k f fd ps sp':=
 ⟨fun vs H Q E q=>F.len vs H Q E (h _ _ _ _ q),fun A outer s H args us vs Q E hr he hb hv hs=>F.run A outer s H args us vs Q E hr he hb hv (h _ _ _ _ hs)⟩
section
variable {X:Cx}{pins:List (Addr × Obj)}{σ:St}{H:Hp}{s s':Shared}
theorem Inv.env0(I:Inv X pins σ H s):Env0 X.prog X.w X.K X.mg X.base X.A X.stack s H:=
 ⟨I.ok.frames,I.ok.mod,I.bs,Nat.le_trans I.ok.bsz I.sz,I.stack,I.stkFree,I.hok,I.bare⟩
theorem Inv.after{Q:VK}{u:Value}(I:Inv X pins σ H s)(h:CE X.stack X.prog X.w H s Q u s'):EP X pins σ Q u s':=by
 obtain ⟨v,H',os,bare,un,hok,r,q⟩:=h
 obtain ⟨hh,g,d,t,os'⟩:=s'
 obtain rfl:os'=s.os:=os
 exact ⟨v,H',I.call (h':=hh) (g':=g) (d':=d) (t':=t) (ch:=[]) un hok bare (fun b z=>absurd z (by simp)),r,q⟩
end
def tCall(sp:Sp)(dvs:List V)(E:XK)(t:TA):TE:=fun σ H Q=>t σ H fun vs H1=>sp (vs++dvs) H1 Q E
def Binds(K:PySem.W.Frag)(fd:FuncData)(ps:List Str)(ds:List Value):Prop:=
 ∀ (s:Shared) (us:List Value),K.In s.heap->(us++ds).length=ps.length->BindsTo s fd ⟨us,[]⟩ (ps.zip (us++ds))
theorem Binds.all{K:PySem.W.Frag}{fd:FuncData}{ps:List Str}(h:∀ us:List Value,us.length=ps.length->bindArgs fd ⟨us,[]⟩=pure (ps.zip us)):Binds K fd ps []:=fun s us _ hl=>by
 rw [List.append_nil] at hl ⊢
 exact .of_eq (h us hl)
def Passes(CX:CXT)(X:Cx)(E:XK):Prop:=∀ (pins:List (Addr × Obj)) (σ:St) (H:Hp) (s:Shared) (e:Value) (s':Shared),Inv X pins σ H s->CX X.stack H s E e s'->X.xe e s'
section
variable {X:Cx}{CX:CXT}{k:Nat}{f C:Addr}{fd:FuncData}{ps:List Str}{sp:Sp}{dvs:List V}{ds:List Value}{E:XK}{x m:Str}{p pos apos:Pos}{e o:Expr}{es:List Expr}{ta:TE}{t:TA}
theorem run_fn{pins:List (Addr × Obj)}{σ:St}{H:Hp}{s:Shared}{Q:VK}{us:List Value}{vs:List V}(F:FnOk X.prog X.w X.K X.mg X.base CX k f fd ps sp)(hr:Room k X.A)(hb:Binds X.K fd ps ds)(hd:Vals dvs ds)(hx:Passes CX X E)
  (I:Inv X pins σ H s) (r:Vals vs us) (h:sp (vs++dvs) H Q E):wpAny (model X.prog X.w) X.A (call (.ref f) us) (EP X pins σ Q) X.xe s:=by
 have r2:Vals (vs++dvs) (us++ds):=r.append hd
 have hl:(us++ds).length=ps.length:=by rw [<-r2.length]; exact F.len _ _ _ _ h
 refine wpAny_call (codeAny_mono (F.run X.A X.stack s H ⟨us,[]⟩ (us++ds) (vs++dvs) Q E hr I.env0 (hb s us I.kIn hl) r2 h) fun r s' hq=>?_)
 cases r with
 | error e=>exact hx pins σ H s e s' I hq
 | ok fl=>
  cases fl with
  | ret u=>exact I.after hq
  | next=>exact False.elim hq
  | brk=>exact False.elim hq
  | cont=>exact False.elim hq
theorem pe_call(F:FnOk X.prog X.w X.K X.mg X.base CX k f fd ps sp)(hr:Room k X.A)(hg:Gl X x)(hm:X.mg x=some (.ref f))(hk:PySem.W.keepIn X.K (.ref f)=true)(hb:Binds X.K fd ps ds)(hd:Vals dvs ds)(hx:Passes CX X E)
  (ha:PA X (e::es) t) (hdb:(x == ("__debug__":Str))=false:=by decide) (he:starEach (e::es) X.env=(false,eval e X.env)::starEach es X.env:=by rfl) (hpl:(backTo pos (starEach es X.env)).any (·.1)=false:=by rfl) :
  PE X (.Call (.Name x p) (e::es) [] pos) (tCall sp dvs E t):=by
 intro pins s σ H Q I h
 refine wpAny_Call_Name_kw (ld_glob I hg hm ?_ hdb)
 refine PySem.W.callWith_K (h₀:=X.base) I.ok.mod.kin hk (thn (ha pos pins s σ H _ I h) fun us s1 ⟨vs,H1,I1,r,q⟩=>⟨I1.kIn,?_⟩) he hpl
 exact run_fn F hr hb hd hx I1 r q
end
structure FnScope (N P:List Str) (sc:Scope):Prop where
 kind:sc.kind=.function
 co:sc.isCoroutine=false
 gen:sc.isGenerator=false
 nd:N.Nodup
 pre:N.take P.length=P
 par:∀ x∈P,sc.names.lookup x=some .local∨sc.names.lookup x=some .cell
 nofree:∀ y∈sc.names,y.2≠.free
theorem bindL_out{kindOf:Str->Option NameKind}{x:Str}:∀ {binds:List (Str × Value)} {m:Str->Option Value},(∀ v,(x,v)∉binds)->bindL kindOf binds m x=m x
 | [],_,_=>rfl
 | (n,v)::r,m,h=>by
  unfold bindL
  rw [bindL_out fun w hw=>h w (List.mem_cons_of_mem _ hw)]
  split
  ·have:x≠n:=by rintro rfl; exact h v List.mem_cons_self
   simp [this]
  ·rfl
theorem bindC_out{kindOf:Str->Option NameKind}{x:Str}:∀ {binds:List (Str × Value)} {m:Str->Option Value},(∀ v,(x,v)∉binds)->bindC kindOf binds m x=m x
 | [],_,_=>rfl
 | (n,v)::r,m,h=>by
  unfold bindC
  rw [bindC_out fun w hw=>h w (List.mem_cons_of_mem _ hw)]
  split
  ·rfl
  ·have:x≠n:=by rintro rfl; exact h v List.mem_cons_self
   simp [this]
theorem bindL_get{kindOf:Str->Option NameKind}{x:Str}{v:Value}:∀ {P:List Str} {vs:List Value} {i:Nat} {m:Str->Option Value},P.Nodup->P[i]?=some x->vs[i]?=some v->kindOf x=some .local->
  bindL kindOf (P.zip vs) m x=some v
 | [],_,_,_,_,h,_,_=>by simp at h
 | _::_,[],_,_,_,_,h,_=>by simp at h
 | p::P,w::vs,0,m,nd,h1,h2,hk=>by
  simp at h1 h2; subst h1; subst h2
  show bindL kindOf ((p,w)::P.zip vs) m p=_
  unfold bindL
  rw [bindL_out fun v hv=>(List.nodup_cons.mp nd).1 (List.of_mem_zip hv).1,if_pos hk]
  simp
 | p::P,w::vs,i+1,m,nd,h1,h2,hk=>by
  show bindL kindOf ((p,w)::P.zip vs) m x=_
  unfold bindL
  exact bindL_get (i:=i) (List.nodup_cons.mp nd).2 (by simpa using h1) (by simpa using h2) hk
theorem bindC_get{kindOf:Str->Option NameKind}{x:Str}{v:Value}:∀ {P:List Str} {vs:List Value} {i:Nat} {m:Str->Option Value},P.Nodup->P[i]?=some x->vs[i]?=some v->kindOf x≠some .local->
  bindC kindOf (P.zip vs) m x=some v
 | [],_,_,_,_,h,_,_=>by simp at h
 | _::_,[],_,_,_,_,h,_=>by simp at h
 | p::P,w::vs,0,m,nd,h1,h2,hk=>by
  simp at h1 h2; subst h1; subst h2
  show bindC kindOf ((p,w)::P.zip vs) m p=_
  unfold bindC
  rw [bindC_out fun v hv=>(List.nodup_cons.mp nd).1 (List.of_mem_zip hv).1,if_neg hk]
  simp
 | p::P,w::vs,i+1,m,nd,h1,h2,hk=>by
  show bindC kindOf ((p,w)::P.zip vs) m x=_
  unfold bindC
  exact bindC_get (i:=i) (List.nodup_cons.mp nd).2 (by simpa using h1) (by simpa using h2) hk
def start(N:List Str)(vs:List V):St:=vs.map some++List.replicate (N.length - vs.length) none
def cxOf(CX:CXT)(P:Program)(w:World)(K:PySem.W.Frag)(mg:Str->Option Value)(base:Heap)(N:List Str)(qual:Str)(scope:Scope)(f:Addr)(cd:Value)(A:Around)(outer:List Env)(s:Shared)(H:Hp)(E:XK):Cx where
 prog:=P
 w:=w
 K:=K
 mg:=mg
 base:=base
 A:=A.deeper (envOfC qual scope s.heap.objs.size f cd)
 N:=N
 s₀:=s
 H₀:=H
 env:=envOfC qual scope s.heap.objs.size f cd
 outer:=outer
 stack:=envOfC qual scope s.heap.objs.size f cd::outer
 ex:=[]
 calm:=true
 fn:=fun _=>true
 pn:=[]
 xe:=fun e s'=>wpAny (model P w) (A.deeper (envOfC qual scope s.heap.objs.size f cd)) (leaving (envOfC qual scope s.heap.objs.size f cd) e) (fun _ s''=>CX outer H s E e s'') (fun e' s''=>CX outer H s E e' s'') s'
theorem cell_has{sc:Scope}{n:Nat}{x:Str}(h:sc.names.lookup x=some .cell):∃ c,(cellsFrom n sc.names []).lookup x=some c:=by
 have q:=PySem.W.cellsFrom_some sc.names n [] (.inl h)
 exact Option.isSome_iff_exists.mp q
theorem inv_start{CX:CXT}{P:Program}{w:World}{K:PySem.W.Frag}{mg:Str->Option Value}{base:Heap}{N ps:List Str}{qual:Str}{scope:Scope}{f:Addr}{cd:Value}{A:Around}{outer:List Env}{s s1:Shared}{H:Hp}{E:XK}{us:List Value}{vs:List V}
  (S:FnScope N ps scope) (hd:A.handled=none) (e0:Env0 P w K mg base A outer s H) (hl:vs.length=ps.length) (r:Vals vs us)
  (x:InCallC s s.heap.objs.size (bindL (envOfC qual scope s.heap.objs.size f cd).kindOf (ps.zip us) fun _=>none) (cellsFrom (s.heap.objs.size+1) scope.names []) (bindC (envOfC qual scope s.heap.objs.size f cd).kindOf (ps.zip us) fun _=>none) s1) :
  Inv (cxOf CX P w K mg base N qual scope f cd A outer s H E) [] (start N vs) H s1:=by
 have hpl:ps.length<=N.length:=by have:=congrArg List.length S.pre; rw [List.length_take] at this; lia
 obtain ⟨h1,tk,rfl,hk⟩:=x.done
 have noA:∀ b:Addr,b∉(cxOf CX P w K mg base N qual scope f cd A outer s H E).ex:=fun b z=>absurd (show b∈([]:List Addr) from z) (by simp)
 refine ⟨⟨e0.mod,S.kind,rfl,rfl,Nat.le_refl _,fun y z c h1 h2=>?_,fun y hy=>?_,fun y c _ h=>?_,fun _=>hd,Around.frames_deeper e0.frames,.inr ⟨rfl,rfl⟩,fun b z=>absurd z (noA b),e0.bs,e0.bsz,fun b _ _=>noA b,fun b z=>absurd z (noA b),e0.funs,e0.frf⟩,
  rfl,e0.bare,Un.kept hk,⟨_,x.toInCall.ns,fun i y v h1 h2 h3=>?_⟩,fun y c h=>⟨_,x.cell y c h⟩,e0.hok.fresh (Nat.le_refl _),fun y c h=>?_,fun p hp=>absurd (show p∈([]:List (Addr × Obj)) from hp) (by simp),e0.hok.kept hk,?_⟩
 ·exact name_of_addr x.apart (PySem.mem_of_lookup h1) (PySem.mem_of_lookup h2)
 ·have hy:scope.names.lookup y=some .cell∨scope.names.lookup y=some .free:=hy
  rcases hy with hy | hy
  ·exact cell_has hy
  ·exact absurd rfl (S.nofree _ (PySem.mem_of_lookup hy))
 ·exact Nat.le_of_lt (x.above y c (PySem.mem_of_lookup h))
 ·have hi:i < vs.length:=by
   unfold start at h2
   by_cases hi:i < vs.length
   ·exact hi
   ·rw [List.getElem?_append_right (by simpa using hi)] at h2
    rw [List.getElem?_replicate] at h2
    split at h2<;>cases h2
  have ha:vs[i]?=some v:=by
   unfold start at h2
   rw [List.getElem?_append_left (by simpa using hi),List.getElem?_map] at h2
   cases e:vs[i]? with
   | none=>rw [e] at h2; cases h2
   | some a=>rw [e] at h2; cases h2; rfl
  obtain ⟨u,hu,rv⟩:=r.get ha
  have hp:ps[i]?=some y:=by
   rw [<-S.pre,List.getElem?_take_of_lt (by lia)]; exact h1
  have ndP:ps.Nodup:=by rw [<-S.pre]; exact S.nd.sublist (List.take_sublist _ _)
  refine ⟨u,rv,?_⟩
  rcases S.par y (List.mem_of_getElem? hp) with k | k
  ·exact .inl ⟨k,bindL_get ndP hp hu k⟩
  ·obtain ⟨c,e⟩:=cell_has (n:=s.heap.objs.size+1) k
   refine .inr ⟨.inl k,c,e,?_⟩
   have q:=x.cell y c e
   rw [bindC_get ndP hp hu (by show scope.names.lookup y≠_; rw [k]; decide)] at q
   exact q
 ·exact e0.hok.fresh (Nat.le_of_lt (x.above y c (PySem.mem_of_lookup h)))
 ·unfold start
  show _=N.length
  rw [List.length_append,List.length_map,List.length_replicate]
  lia
theorem fn_of{CX:CXT}{P:Program}{w:World}{K:PySem.W.Frag}{mg:Str->Option Value}{base:Heap}{k:Nat}{f:Addr}{name qual:Str}{params:Arguments}{body:List Stmt}{scope:Scope}{dV kV doc pm cdv ct oc:Value}{an od:Option Addr}
  {osl:Array (Option Value)} {N ps:List Str} {sp:Sp} (lk:K.lookup f=some ⟨oc,od,.func (PySem.W.fnOf name qual params body scope dV kV doc pm an cdv ct),osl⟩) (hcd:PySem.W.codeIn K cdv qual=true) (S:FnScope N ps scope)
  (len:∀ vs H Q E,sp vs H Q E->vs.length=ps.length)
  (hbody:∀ (A:Around) (outer:List Env) (s:Shared) (H:Hp) (vs:List V) (Q:VK) (E:XK),Room k (A.deeper (envOfC qual scope s.heap.objs.size f cdv))->sp vs H Q E->
   ∃ t,PSs (cxOf CX P w K mg base N qual scope f cdv A outer s H E) body t/\t { nx:=fun _ H'=>Q .non H',rt:=Q } (start N vs) H) :
  FnOk P w K mg base CX (k+1) f (PySem.W.fnOf name qual params body scope dV kV doc pm an cdv ct) ps sp:=by
 refine ⟨len,fun A outer s H args us vs Q E hr e0 hb r hsp=>?_⟩
 have hl:=len _ _ _ _ hsp
 have KX:K.In s.heap:=e0.mod.kin.keeps fun b o e=>(e0.bs b o e).1
 have lim:s.heap.NoLimit:=e0.mod.nolimit.keeps fun b o e=>(e0.bs b o e).1
 have hkind:∀ y∈ps.zip us,scope.names.lookup y.1=some .local∨(scope.names.lookup y.1=some .cell/\((cellsFrom (s.heap.objs.size+1) scope.names []).lookup y.1).isSome=true):=fun ⟨n,v⟩ hy=>by
  rcases S.par n (List.of_mem_zip hy).1 with q | q
  ·exact .inl q
  ·exact .inr ⟨q,PySem.W.cellsFrom_some _ _ _ (.inl q)⟩
 refine codeAny_call_function hr.depth (KX _ _ lk) rfl S.co S.gen rfl (PySem.W.codeRec_of KX hcd) (hb _ _ _ _ ?_)
 refine wpAny_newFunctionEnv_cells S.kind hkind fun env he s1 x=>?_
 subst he
 refine ⟨lim.keeps x.toInCall.keep,codeAny_func ?_⟩
 obtain ⟨t,ht,hq⟩:=hbody A outer s H vs Q E (hr.deeper _) hsp
 have I:Inv (cxOf CX P w K mg base N qual scope f cdv A outer s H E) [] (start N vs) H s1:=inv_start S hr.hd e0 hl r x
 refine wpAny_mono (ht [] s1 (start N vs) H _ I hq) (fun fl s' hs=>?_) fun e s' hs=>hs
 have fin:∀ {σ':St} {H':Hp} {v:V} {u:Value},Inv (cxOf CX P w K mg base N qual scope f cdv A outer s H E) [] σ' H' s'->RelV v u->Q v H'->CE outer P w H s Q u s':=
  fun {σ' H' v u} J rv q=>⟨v,H',J.os,J.bare,J.base,J.hok,rv,q⟩
 cases fl with
 | ret u=>
  obtain ⟨v,σ',H',J,rv,q⟩:=hs
  exact fin J rv q
 | next=>
  obtain ⟨σ',H',J,q⟩:=hs
  exact fin (v:=V.non) (u:=Value.none) J rfl q
 | brk=>
  obtain ⟨_,_,_,q⟩:=hs
  exact False.elim q
 | cont=>
  obtain ⟨_,_,_,q⟩:=hs
  exact False.elim q
end L2
namespace L2
open PySem PySem.Spec PyProof.Rows
section
variable {X:Cx}{x:Str}{p pos:Pos}{e:Expr}{es:List Expr}{t:TA}{id T:String}{r:List V->Hp->VK->Prop}
def tCB(r:List V->Hp->VK->Prop)(t:TA):TE:=fun σ H Q=>t σ H fun vs H1=>r vs H1 Q
theorem pe_callB(hc:CallR X (.builtin id) r)(hg:Gl X x)(hm:X.mg x=none)(hv:bootBuiltins x=some (.builtin id))(ha:PA X (e::es) t)(hn:x≠"__name__":=by decide)(hdb:(x == ("__debug__":Str))=false:=by decide)
  (he:starEach (e::es) X.env=(false,eval e X.env)::starEach es X.env:=by rfl) (hpl:(backTo pos (starEach es X.env)).any (·.1)=false:=by rfl):PE X (.Call (.Name x p) (e::es) [] pos) (tCB r t):=by
 intro pins s σ H Q I h
 refine wpAny_Call_Name_kw (ld_blt I hg hm hv ?_ hn hdb)
 exact PyProof.Rows.callWith_builtin1 (thn (ha pos pins s σ H _ I h) fun us s1 ⟨vs,H1,I1,r1,q1⟩=>hc pins s1 σ H1 vs us Q I1 r1 q1) he hpl
theorem pe_callTy(hc:CallR X (.type T) r)(hg:Gl X x)(hm:X.mg x=none)(hv:bootBuiltins x=some (.type T))(ha:PA X (e::es) t)(hn:x≠"__name__":=by decide)(hdb:(x == ("__debug__":Str))=false:=by decide)
  (he:starEach (e::es) X.env=(false,eval e X.env)::starEach es X.env:=by rfl) (hpl:(backTo pos (starEach es X.env)).any (·.1)=false:=by rfl):PE X (.Call (.Name x p) (e::es) [] pos) (tCB r t):=by
 intro pins s σ H Q I h
 refine wpAny_Call_Name_kw (ld_blt I hg hm hv ?_ hn hdb)
 exact PyProof.Rows.callWith_type1 (thn (ha pos pins s σ H _ I h) fun us s1 ⟨vs,H1,I1,r1,q1⟩=>hc pins s1 σ H1 vs us Q I1 r1 q1) he hpl
theorem pe_callTy0(hc:CallR X (.type T) r)(hg:Gl X x)(hm:X.mg x=none)(hv:bootBuiltins x=some (.type T))(hn:x≠"__name__":=by decide)(hdb:(x == ("__debug__":Str))=false:=by decide) :
  PE X (.Call (.Name x p) [] [] pos) (tCB r tNil):=by
 intro pins s σ H Q I h
 refine wpAny_Call_Name_kw (ld_blt I hg hm hv ?_ hn hdb)
 exact PyProof.Rows.callWith_type0 (hc pins s σ H [] [] Q I .nil h)
end
end L2
namespace HT
open PySem PyProof.Rows
def lexLt:List Int->List Int->Bool
 | [],[]=>false
 | [],_::_=>true
 | _::_,[]=>false
 | x::xs,y::ys=>if x=y then lexLt xs ys else decide (x < y)
theorem eqAt_int(A:Around)(s:Shared)(a:Int)(t:Tok)(c:Int)(u:Tok):∃ e,SeqAt.EqAt A s (.int a t) (.int c u) e/\(e=true↔a=c):=
 ⟨(a == c),SeqAt.EqAt.int_int a t c u,by simp⟩
theorem rcLt_int(A:Around)(s:Shared)(a:Int)(t:Tok)(c:Int)(u:Tok)(prog:Program)(w:World)(E:Value->Shared->Prop)(Q:Value->Shared->Prop)(h:Q (.bool (decide (a < c))) s) :
  wpAny (model prog w) A (richCompare .Lt (.int a t) (.int c u)) Q E s:=
 (PyProof.Rows.lt_int h:wpAny (model prog w) A (compareOp .Lt (.int a t) (.int c u)) Q E s)
section
variable {prog:Program}{w:World}{A:Around}{E:Value->Shared->Prop}{s:Shared}
def sIx(n d:Nat):Option Int->Nat
 | none=>d
 | some v=>if v < 0 then (v+(n:Int)).toNat else min v.toNat n
theorem sIx_nat(n d k:Nat):sIx n d (some (k:Int))=min k n:=by
 show (if (k:Int) < 0 then ((k:Int)+(n:Int)).toNat else min (k:Int).toNat n)=min k n
 rw [if_neg (by lia),Int.toNat_natCast]
end
end HT
namespace L2
open PySem PySem.Spec PyProof.Rows
abbrev TO:=St->Hp->(Option Int->Hp->Prop)->Prop
def PO(X:Cx)(e:Option Expr)(t:TO):Prop:=
 ∀ (pins:List (Addr × Obj)) (s:Shared) (σ:St) (H:Hp) (Q:Option Int->Hp->Prop),Inv X pins σ H s->t σ H Q->
  wpAny (model X.prog X.w) X.A (evalPart e X.env) (fun u s'=>∃ o H',Inv X pins σ H' s'/\IsPart u o/\Q o H') X.xe s
def tNoPart:TO:=fun _ H Q=>Q none H
def tPart(t:TE):TO:=fun σ H Q=>t σ H fun x H1=>∃ i,x=.int i/\Q (some i) H1
theorem intsAre_of{ns:List Int}:∀ {us:List Value},Vals (ns.map V.int) us->IntsAre us ns:=by
 induction ns with
 | nil=>intro us r; rw [List.map_nil] at r; cases r; exact .nil
 | cons n ns ih=>
  intro us r
  rw [List.map_cons] at r
  cases r with
  | cons r1 r2=>
   obtain ⟨t,e⟩:=r1
   subst e
   exact .cons n t (ih r2)
section
variable {X:Cx}{e:Expr}{te:TE}{lo hi:Option Expr}{tl th:TO}{pos p2:Pos}
theorem po_none:PO X none tNoPart:=by
 intro pins s σ H Q I h
 rw [evalPart_none]
 exact wpAny_pure ⟨none,H,I,.none,h⟩
theorem po_some(h:PE X e te):PO X (some e) (tPart te):=by
 intro pins s σ H Q I hw
 rw [evalPart_some]
 refine thn (h pins s σ H _ I hw) fun u s1 h_=>?_; obtain ⟨x,H1,I1,r1,q1⟩:=h_
 obtain ⟨i,rfl,q⟩:=q1
 obtain ⟨t,rfl⟩:=r1
 exact ⟨some i,H1,I1,.int i t,q⟩
def SlR(X:Cx)(r:V->Option Int->Option Int->Hp->VK->Prop):Prop:=
 ∀ (pins:List (Addr × Obj)) (s:Shared) (σ:St) (H:Hp) (x:V) (v vl vu:Value) (lo hi:Option Int) (sl:Addr) (Q:VK),Inv X pins σ H s->RelV x v->s.heap.IsSliceOf sl vl vu .none->IsPart vl lo->IsPart vu hi->r x lo hi H Q->
  ∃ T id,typeLookup (.type T) "__getitem__"=pure (some (.builtin id))/\s.TypeIs v T/\wpAny (model X.prog X.w) X.A (getItem v (.ref sl)) (EP X pins σ Q) X.xe s
def tSl(r:V->Option Int->Option Int->Hp->VK->Prop)(te:TE)(tl th:TO):TE:=fun σ H Q=>te σ H fun x H1=>tl σ H1 fun l H2=>th σ H2 fun u H3=>r x l u H3 Q
theorem pe_slice{r:V->Option Int->Option Int->Hp->VK->Prop}(hr:SlR X r)(he:PE X e te)(hl:PO X lo tl)(hu:PO X hi th):PE X (.Subscript e (.Slice lo hi none p2) pos) (tSl r te tl th):=by
 intro pins s σ H Q I h
 refine Subscript_ (thn (he pins s σ H _ I h) fun v s1 h_=>?_); obtain ⟨x,H1,I1,r1,q1⟩:=h_
 refine wpAny_Slice (thn (hl pins s1 σ H1 _ I1 q1) fun vl s2 h_=>?_); obtain ⟨l,H2,I2,pl,q2⟩:=h_; refine thn (hu pins s2 σ H2 _ I2 q2) fun vu s3 h_=>?_; obtain ⟨u,H3,I3,pu,q3⟩:=h_
 rw [evalPart_none]
 refine wpAny_pure ?_
 have I4:Inv X pins σ H3 { s3 with heap:=s3.heap.push { cls:=.type "slice",data:=.fields #[vl,vu,.none] } }:=I3.kept (t':=s3.toks) fun b ob q=>Heap.get?_push_of_some _ q
 obtain ⟨T,id,hT,ht,hg⟩:=hr pins { s3 with heap:=s3.heap.push { cls:=.type "slice",data:=.fields #[vl,vu,.none] } } σ H3 x v vl vu l u s3.heap.objs.size Q I4 r1 (Heap.IsSliceOf.new ..) pl pu q3
 show wpAny (model X.prog X.w) X.A (subscriptTail e (.Slice lo hi none p2) v (.ref s3.heap.objs.size)) (EP X pins σ Q) X.xe { s3 with heap:=s3.heap.push { cls:=.type "slice",data:=.fields #[vl,vu,.none] } }
 exact tail_any (ops:=[.ref s3.heap.objs.size,v]) ht hT hg (by with_unfolding_all rfl)
def cutV(xs:List V)(lo hi:Option Int):List V:=(xs.drop (HT.sIx xs.length 0 lo)).take (HT.sIx xs.length xs.length hi - HT.sIx xs.length 0 lo)
theorem cutV_length(xs:List V)(lo hi:Option Int):(cutV xs lo hi).length<=xs.length:=by
 unfold cutV
 rw [List.length_take,List.length_drop]
 lia
end
end L2
namespace L2
open PySem PySem.Spec PyProof.Rows
def ixN(n:Nat)(i:Int):Option Nat:=if 0<=i then (if i < n then some i.toNat else none) else if -(n:Int)<=i then some (i+n).toNat else none
def atI{α:Type}(xs:List α)(i:Int):Option α:=(ixN xs.length i).bind fun j=>xs[j]?
theorem ixN_seq{n:Nat}{i:Int}{j:Nat}(h:ixN n i=some j):seqIndex? i n=some j/\j < n/\-(n:Int)<=i/\i < n:=by
 unfold ixN at h
 by_cases h0:0<=i
 ·rw [if_pos h0] at h
  by_cases h1:i < n
  ·rw [if_pos h1] at h
   have e:i.toNat=j:=Option.some.inj h
   exact ⟨by rw [seqIndex_of h0 h1,e],by lia,by lia,h1⟩
  ·rw [if_neg h1] at h; cases h
 ·rw [if_neg h0] at h
  by_cases h1:-(n:Int)<=i
  ·rw [if_pos h1] at h
   have e:(i+n).toNat=j:=Option.some.inj h
   exact ⟨by rw [seqIndex_neg (by lia) h1,e],by lia,h1,by lia⟩
  ·rw [if_neg h1] at h; cases h
theorem atI_get{α:Type}{xs:List α}{i:Int}{v:α}(h:atI xs i=some v):∃ j,seqIndex? i xs.length=some j/\xs[j]?=some v/\j < xs.length/\-(xs.length:Int)<=i/\i < xs.length:=by
 unfold atI at h
 cases e:ixN xs.length i with
 | none=>rw [e] at h; cases h
 | some j=>
  rw [e] at h
  obtain ⟨h1,h2,h3,h4⟩:=ixN_seq e
  exact ⟨j,h1,h,h2,h3,h4⟩
theorem atI_nat{α:Type}{xs:List α}{j:Nat}{v:α}(h:xs[j]?=some v):atI xs (j:Int)=some v:=by
 have hj:j < xs.length:=(List.getElem?_eq_some_iff.mp h).1
 have e:ixN xs.length (j:Int)=some j:=by
  unfold ixN
  rw [if_pos (by lia),if_pos (by lia)]; simp
 unfold atI; rw [e]; exact h
def PlainIx(b:Expr):Prop:=∀ o i,subscripted b false o i=operate [o,i] (getItem o i)
def IxR(X:Cx)(r:R2):Prop:=
 ∀ (value slice:Expr) (pins:List (Addr × Obj)) (s:Shared) (σ:St) (H:Hp) (x y:V) (v u:Value) (Q:VK),Inv X pins σ H s->RelV x v->RelV y u->r x y H Q->
  subscripted slice false v u=operate [v,u] (getItem v u)->wpAny (model X.prog X.w) X.A (subscriptTail value slice v u) (EP X pins σ Q) X.xe s
def MtR(X:Cx)(id:String)(r:V->List V->Hp->VK->Prop):Prop:=
 ∀ (pins:List (Addr × Obj)) (s:Shared) (σ:St) (H:Hp) (x:V) (xs:List V) (v:Value) (us:List Value) (Q:VK),Inv X pins σ H s->RelV x v->Vals xs us->r x xs H Q->
  wpAny (model X.prog X.w) X.A (call (.builtin id) (v::us)) (EP X pins σ Q) X.xe s
section
variable {X:Cx}{a b:Expr}{ta tb:TE}{pos:Pos}
theorem IxR.or{r r':R2}(h:IxR X r)(h':IxR X r'):IxR X (fun x y H Q=>r x y H Q∨r' x y H Q):=by
 intro value slice pins s σ H x y v u Q I rx ry q hs
 rcases q with q | q
 ·exact h value slice pins s σ H x y v u Q I rx ry q hs
 ·exact h' value slice pins s σ H x y v u Q I rx ry q hs
theorem pe_ix{r:R2}(hr:IxR X r)(ha:PE X a ta)(hb:PE X b tb)(hs:PlainIx b):PE X (.Subscript a b pos) (tOp r ta tb):=by
 intro pins s σ H Q I h
 exact Subscript_ (binT ha hb I h fun v u s2 x y H2 I2 rx ry q=>hr a b pins s2 σ H2 x y v u Q I2 rx ry q (hs _ _))
def rIxL(K:PySem.W.Frag):R2:=fun x y H Q=>∃ p xs i v,x=.ref p/\y=.int i/\SqL K H p xs/\atI xs i=some v/\Q v H
def rIxT(K:PySem.W.Frag):R2:=fun x y H Q=>∃ p xs i v,x=.ref p/\y=.int i/\SqT K H p xs/\atI xs i=some v/\Q v H
def rIxS:R2:=fun x y H Q=>∃ z i c,x=.str z/\y=.int i/\z.length<=sizeLine/\atI z.cps.toList i=some c/\Q (.str ⟨#[c]⟩) H
theorem ix_list:IxR X (rIxL X.K):=by
 intro value slice pins s σ H x y v u Q I rx ry h hs
 obtain ⟨p,xs,i,z,rfl,rfl,hq,he,q⟩:=h
 cases rx
 obtain ⟨t,rfl⟩:=ry
 obtain ⟨its,r,pl,hz⟩:=I.list hq
 obtain ⟨j,h1,h2,h3,h4,h5⟩:=atI_get he
 obtain ⟨w,ew,rw'⟩:=r.get h2
 have hl:=r.length
 have hn:=line63
 have fin:EP X pins σ Q w s:=⟨z,H,I,rw',q⟩
 by_cases h0:0<=i
 ·have hj:i.toNat=j:=by
   rw [seqIndex_of h0 h5] at h1
   exact Option.some.inj h1
  exact item_listR pl.isList h0 (by lia) (by rw [hj]; simpa using ew) fin hs
 ·have hj:(i+(its.toArray.size:Int)).toNat=j:=by
   rw [seqIndex_neg (by lia) h4] at h1
   rw [List.size_toArray,<-hl]
   exact Option.some.inj h1
  exact subscriptTail_builtinR (x:=w) pl.isList.typeIs slot_list_getitem.lookup
   (wpAny_getItem_list_neg (Q:=fun r s'=>r=w/\EP X pins σ Q r s') pl.isList (by lia) (by rw [List.size_toArray]<;>lia) (by lia) (by rw [hj]; simpa using ew) ⟨rfl,fin⟩) hs
theorem ix_tup:IxR X (rIxT X.K):=by
 intro value slice pins s σ H x y v u Q I rx ry h hs
 obtain ⟨p,xs,i,z,rfl,rfl,hq,he,q⟩:=h
 cases rx
 obtain ⟨t,rfl⟩:=ry
 obtain ⟨its,r,pl,hz⟩:=I.tuple hq
 obtain ⟨j,h1,h2,h3,h4,h5⟩:=atI_get he
 obtain ⟨w,ew,rw'⟩:=r.get h2
 have hl:=r.length
 have hn:=line63
 have fin:EP X pins σ Q w s:=⟨z,H,I,rw',q⟩
 exact subscriptTail_builtinR (x:=w) pl.typeIs slot_tuple_getitem.lookup
  (getItem_tuple (j:=j) (Q:=fun r s'=>r=w/\EP X pins σ Q r s') pl (by lia) (by lia) (by rw [List.size_toArray,<-hl]; exact h1) (by simpa using ew) ⟨rfl,fin⟩) hs
theorem ix_str:IxR X rIxS:=by
 intro value slice pins s σ H x y v u Q I rx ry h hs
 obtain ⟨z,i,c,rfl,rfl,hz,he,q⟩:=h
 obtain ⟨t,rfl⟩:=rx
 obtain ⟨t',rfl⟩:=ry
 obtain ⟨j,h1,h2,h3,h4,h5⟩:=atI_get he
 have hl:z.cps.toList.length=z.length:=by simp [Str.length]
 rw [hl] at h1 h4 h5
 have hn:=line63
 exact tail_any (typeIs_str s z t) slot_str_getitem.lookup (getItem_str (c:=c) (by
  have e1:decide (i < -(2 ^ 63:Int))=false:=decide_eq_false (by lia)
  have e2:decide (i≥2 ^ 63)=false:=decide_eq_false (by lia)
  rw [e1,e2,Bool.or_false]) (by rw [h1]; simpa using h2) ⟨.str ⟨#[c]⟩,H,I.tok _,⟨_,rfl⟩,q⟩) hs
def rIx(K:PySem.W.Frag):R2:=fun x y H Q=>rIxL K x y H Q∨rIxT K x y H Q∨rIxS x y H Q
theorem ix_seq:IxR X (rIx X.K):=ix_list.or (ix_tup.or ix_str)
theorem mapSeq_set(its:List Value)(n j:Nat)(u:Value):Obj.mapSeq (·.setIfInBounds j u) { cls:=.type "list",data:=.seq its.toArray n }={ cls:=.type "list",data:=.seq (its.set j u).toArray n }:=by
 simp [Obj.mapSeq]
theorem Inv.lst{pins:List (Addr × Obj)}{σ:St}{H:Hp}{s:Shared}{p:Addr}{xs:List V}(I:Inv X pins σ H s)(h:H p=some (.lst xs)) :
  ∃ (its:List Value) (n:Nat),Vals xs its/\s.heap.get? p=some { cls:=.type "list",data:=.seq its.toArray n }/\xs.length<=sizeLine:=by
 obtain ⟨z,its,n,r,e⟩:=I.hok p _ h
 exact ⟨its,n,r,e,z⟩
theorem Inv.lstUpd{pins:List (Addr × Obj)}{σ:St}{H:Hp}{s:Shared}{p:Addr}{xs ys:List V}{its its':List Value}{n n':Nat}{f:Obj->Obj}(I:Inv X pins σ H s)(h:H p=some (.lst xs))
  (ho:s.heap.get? p=some { cls:=.type "list",data:=.seq its.toArray n }) (hf:f { cls:=.type "list",data:=.seq its.toArray n }={ cls:=.type "list",data:=.seq its'.toArray n' }) (r:Vals ys its') (hz:ys.length<=sizeLine) (t:Nat) :
  Inv X pins σ (upd H p (.lst ys)) { s with heap:=s.heap.update p f,toks:=t }:=by
 have e:(s.heap.update p f).get? p=some { cls:=.type "list",data:=.seq its'.toArray n' }:=by
  rw [Heap.get?_update_self f ho (by rw [hf]<;>rfl),hf]
 refine I.write (x:=p) (e:=p) (by rw [h]; trivial) (.inl rfl) (fun b u hb q=>(Heap.get?_update_other _ _ (Ne.symm hb)).trans q) ⟨_,e⟩ ?_
 exact ⟨hz,its',n',r,e⟩
def rSetL:V->V->V->Hp->(Hp->Prop)->Prop:=fun o i v H Q=>∃ p xs k j,o=.ref p/\i=.int k/\H p=some (.lst xs)/\ixN xs.length k=some j/\Q (upd H p (.lst (xs.set j v)))
theorem set_list:PSet X rSetL:=by
 intro pins s σ H o i v ov iv u Q I ro ri rv h
 obtain ⟨p,xs,k,j,rfl,rfl,hp,hj,q⟩:=h
 cases ro
 obtain ⟨t,rfl⟩:=ri
 obtain ⟨its,n,r,ho,hz⟩:=I.lst hp
 obtain ⟨h1,h2,h3,h4⟩:=ixN_seq hj
 have hl:=r.length
 have hn:=line63
 have I':Inv X pins σ (upd H p (.lst (xs.set j v))) { s with heap:=s.heap.update p (Obj.mapSeq (·.setIfInBounds j u)) }:=
  I.lstUpd hp ho (mapSeq_set its n j u) (r.set rv j) (by rw [List.length_set]; exact hz) s.toks
 by_cases h0:0<=k
 ·have hk:k.toNat=j:=by
   rw [seqIndex_of h0 h4] at h1
   exact Option.some.inj h1
  exact PySem.W.ki_setAt ho h0 (by lia) (by rw [List.size_toArray,<-hl]; exact h4) (by rw [hk]; exact ⟨_,I',q⟩)
 ·have hk:(k+(its.toArray.size:Int)).toNat=j:=by
   rw [seqIndex_neg (by lia) h3] at h1
   rw [List.size_toArray,<-hl]
   exact Option.some.inj h1
  exact PySem.W.ki_setBack ho (by lia) (by rw [List.size_toArray,<-hl]; exact h3) (by lia) (by rw [hk]; exact ⟨_,I',q⟩)
theorem slice_bounds(lo hi:Option Int)(n:Nat):(sliceBounds lo hi none n).1=((HT.sIx n 0 lo:Nat):Int)/\(sliceBounds lo hi none n).2.1=((HT.sIx n n hi:Nat):Int)/\(sliceBounds lo hi none n).2.2=1:=by
 refine ⟨?_,?_,rfl⟩
 ·cases lo with
  | none=>simp [sliceBounds,HT.sIx]
  | some i=>
   simp only [sliceBounds,HT.sIx,Option.getD_none,show (1:Int) > 0 by decide,if_true]
   by_cases h:i < 0
   ·simp only [h,if_true]<;>lia
   ·simp only [h,if_false]<;>lia
 ·cases hi with
  | none=>simp [sliceBounds,HT.sIx]
  | some i=>
   simp only [sliceBounds,HT.sIx,Option.getD_none,show (1:Int) > 0 by decide,if_true]
   by_cases h:i < 0
   ·simp only [h,if_true]<;>lia
   ·simp only [h,if_false]<;>lia
theorem slicePick_cut(its:List Value)(lo hi:Option Int):slicePick its.toArray lo hi none=((its.drop (HT.sIx its.length 0 lo)).take (HT.sIx its.length its.length hi - HT.sIx its.length 0 lo)).toArray:=by
 obtain ⟨h1,h2,h3⟩:=slice_bounds lo hi its.toArray.size
 unfold slicePick
 rw [h1,h2,h3]
 simp only [sliceRange_one,pick_run,List.size_toArray]<;>rfl
def rSlL(K:PySem.W.Frag):V->Option Int->Option Int->Hp->VK->Prop:=fun x lo hi H Q=>∃ a xs,x=.ref a/\SqL K H a xs/\∀ p,H p=none->Q (.ref p) (upd H p (.lst (cutV xs lo hi)))
theorem sl_list:SlR X (rSlL X.K):=by
 intro pins s σ H x v vl vu lo hi sl Q I rx hs pl pu h
 obtain ⟨a,xs,rfl,hx,q⟩:=h
 cases rx
 obtain ⟨its,r,ht,hz⟩:=I.list hx
 have hlen:=r.length
 refine ⟨"list",_,slot_list_getitem.lookup,ht.isList.typeIs,?_⟩
 refine wpAny_getItem_list_slice ht.isList hs pl pu .none (by simp) ?_ (by rw [List.size_toArray]<;>lia)
 rw [slicePick_cut,<-hlen]
 refine ⟨.ref s.heap.objs.size,_,I.laid (t':=s.toks) (o:=.lst (cutV xs lo hi)) (fun b ob q=>Heap.get?_push_of_some _ q) (Nat.le_refl _) ?_,rfl,q _ (I.hok.fresh (Nat.le_refl _))⟩
 exact ⟨Nat.le_trans (cutV_length xs lo hi) hz,_,0,(r.drop (HT.sIx xs.length 0 lo)).take (HT.sIx xs.length xs.length hi - HT.sIx xs.length 0 lo),Heap.get?_push_size _ rfl⟩
def flatV:V->Bool
 | .non=>true
 | .bl _=>true
 | .int _=>true
 | .str _=>true
 | _=>false
def eqV:V->V->Bool
 | .non,.non=>true
 | .bl a,.bl b=>a == b
 | .bl a,.int b=>(if a then 1 else 0) == b
 | .int a,.bl b=>a == (if b then 1 else 0)
 | .int a,.int b=>a == b
 | .str a,.str b=>a == b
 | _,_=>false
theorem eqAt_V{A:Around}{s:Shared}{y x:V}{u v:Value}(ry:RelV y u)(rx:RelV x v)(fy:flatV y=true)(fx:flatV x=true):SeqAt.EqAt A s u v (eqV y x):=by
 cases y with
 | non=>
  cases ry
  cases x with
  | non=>cases rx; exact SeqAt.EqAt.same _
  | bl b=>cases rx; exact SeqAt.EqAt.none_bool b
  | int b=>obtain ⟨t,rfl⟩:=rx; exact SeqAt.EqAt.none_int b t
  | str b=>obtain ⟨t,rfl⟩:=rx; exact SeqAt.EqAt.none_str b t
  | _=>exact absurd (show false=true from fx) Bool.false_ne_true
 | bl a=>
  cases ry
  cases x with
  | non=>cases rx; exact SeqAt.EqAt.bool_none a
  | bl b=>cases rx; exact SeqAt.EqAt.bool_bool a b
  | int b=>obtain ⟨t,rfl⟩:=rx; exact SeqAt.EqAt.bool_int a b t
  | str b=>obtain ⟨t,rfl⟩:=rx; exact SeqAt.EqAt.bool_str a b t
  | _=>exact absurd (show false=true from fx) Bool.false_ne_true
 | int a=>
  obtain ⟨t',rfl⟩:=ry
  cases x with
  | non=>cases rx; exact SeqAt.EqAt.int_none a t'
  | bl b=>cases rx; exact SeqAt.EqAt.int_bool a t' b
  | int b=>obtain ⟨t,rfl⟩:=rx; exact SeqAt.EqAt.int_int a t' b t
  | str b=>obtain ⟨t,rfl⟩:=rx; exact SeqAt.EqAt.int_str a t' b t
  | _=>exact absurd (show false=true from fx) Bool.false_ne_true
 | str a=>
  obtain ⟨t',rfl⟩:=ry
  cases x with
  | non=>cases rx; exact SeqAt.EqAt.str_none a t'
  | bl b=>cases rx; exact SeqAt.EqAt.str_bool a t' b
  | int b=>obtain ⟨t,rfl⟩:=rx; exact SeqAt.EqAt.str_int a t' b t
  | str b=>obtain ⟨t,rfl⟩:=rx; exact SeqAt.EqAt.str_str a t' b t
  | _=>exact absurd (show false=true from fx) Bool.false_ne_true
 | _=>exact absurd (show false=true from fy) Bool.false_ne_true
def eqU(x:V)(u:Value):Bool:=match u with
 | .none=>eqV .non x
 | .bool b=>eqV (.bl b) x
 | .int i _=>eqV (.int i) x
 | .str z _=>eqV (.str z) x
 | _=>false
theorem eqU_of{x y:V}{u:Value}(r:RelV y u)(f:flatV y=true):eqU x u=eqV y x:=by
 cases y with
 | non=>cases r; rfl
 | bl b=>cases r; rfl
 | int i=>obtain ⟨t,rfl⟩:=r; rfl
 | str z=>obtain ⟨t,rfl⟩:=r; rfl
 | _=>exact absurd (show false=true from f) Bool.false_ne_true
theorem any_eqU{x:V}:∀ {xs:List V} {us:List Value},Vals xs us->xs.all flatV=true->us.any (eqU x)=xs.any fun y=>eqV y x
 | _,_,.nil,_=>rfl
 | y::xs,u::us,.cons r t,f=>by
  rw [List.all_cons,Bool.and_eq_true] at f
  rw [List.any_cons,List.any_cons,eqU_of r f.1,any_eqU t f.2]
theorem mem_eqAt{A:Around}{s:Shared}{x:V}{v:Value}(rx:RelV x v)(fx:flatV x=true):∀ {xs:List V} {us:List Value},Vals xs us->xs.all flatV=true->∀ u∈us,SeqAt.EqAt A s u v (eqU x u)
 | _,_,.nil,_=>fun u hu=>by cases hu
 | y::xs,u::us,.cons r t,f=>fun u' hu=>by
  rw [List.all_cons,Bool.and_eq_true] at f
  rcases List.mem_cons.mp hu with rfl | hu
  ·rw [eqU_of r f.1]; exact eqAt_V r rx f.1 fx
  ·exact mem_eqAt rx fx t f.2 u' hu
def inV(x:V)(xs:List V):Bool:=xs.any fun y=>eqV y x
def rIn(K:PySem.W.Frag)(neg:Bool):R2:=fun x y H Q=>∃ p xs,y=.ref p/\(SqL K H p xs∨SqT K H p xs)/\flatV x=true/\xs.all flatV=true/\Q (.bl (if neg then !inV x xs else inV x xs)) H
theorem op_notIn_seq:OpR X (compareOp .NotIn) (rIn X.K true):=by
 intro pins s σ H x y v u Q I rx ry h
 obtain ⟨p,xs,rfl,hq,fx,fs,q⟩:=h
 cases ry
 rcases hq with hq | hq
 ·obtain ⟨its,r,pl,hz⟩:=I.list hq
  refine SeqAt.notIn_listAt (eqU x) pl.isList (fun w hw=>mem_eqAt rx fx r fs w (by simpa using hw)) ⟨.bl _,H,I,rfl,?_⟩
  rw [show its.toArray.any (eqU x)=its.any (eqU x) by simp,any_eqU r fs]
  exact q
 ·obtain ⟨its,r,pl,hz⟩:=I.tuple hq
  refine SeqAt.notIn_tupleAt (eqU x) pl (fun w hw=>mem_eqAt rx fx r fs w (by simpa using hw)) ⟨.bl _,H,I,rfl,?_⟩
  rw [show its.toArray.any (eqU x)=its.any (eqU x) by simp,any_eqU r fs]
  exact q
theorem call_len_seq:CallR X (.builtin "len") (fun xs H Q=>∃ p ys,xs=[.ref p]/\(SqL X.K H p ys∨SqT X.K H p ys)/\Q (.int ys.length) H):=by
 intro pins s σ H xs us Q I r h
 obtain ⟨p,ys,rfl,hq,q⟩:=h
 obtain ⟨u,rfl,rx⟩:=vals1 r
 cases rx
 have hn:=line63
 rcases hq with hq | hq
 ·obtain ⟨its,r',pl,hz⟩:=I.list hq
  have hlen:=r'.length
  exact Calls.call_len_list pl.isList (by simp only [List.size_toArray]<;>lia) ⟨.int ys.length,H,I.tok _,⟨s.toks+1,by rw [List.size_toArray,hlen]⟩,q⟩
 ·obtain ⟨its,r',pl,hz⟩:=I.tuple hq
  have hlen:=r'.length
  exact len_tuple pl (by simp only [List.size_toArray]<;>lia) ⟨.int ys.length,H,I.tok _,⟨s.toks+1,by rw [List.size_toArray,hlen]⟩,q⟩
theorem call_len_str:CallR X (.builtin "len") (fun xs H Q=>∃ z,xs=[.str z]/\z.length<=sizeLine/\Q (.int z.length) H):=by
 intro pins s σ H xs us Q I r h
 obtain ⟨z,rfl,hz,q⟩:=h
 obtain ⟨u,rfl,t,rfl⟩:=vals1 r
 have hn:=line63
 exact len_str (by lia) ⟨.int z.length,H,I.tok _,⟨_,rfl⟩,q⟩
theorem CallR.or{f:Value}{r r':List V->Hp->VK->Prop}(h:CallR X f r)(h':CallR X f r'):CallR X f (fun xs H Q=>r xs H Q∨r' xs H Q):=by
 intro pins s σ H xs us Q I rs q
 rcases q with q | q
 ·exact h pins s σ H xs us Q I rs q
 ·exact h' pins s σ H xs us Q I rs q
theorem call_list_of:CallR X (.type "list") (fun xs H Q=>∃ p ys,xs=[.ref p]/\(SqL X.K H p ys∨SqT X.K H p ys)/\∀ l,H l=none->Q (.ref l) (upd H l (.lst ys))):=by
 intro pins s σ H xs us Q I r h
 obtain ⟨p,ys,rfl,hq,q⟩:=h
 obtain ⟨u,rfl,rx⟩:=vals1 r
 cases rx
 have fin:∀ (its:List Value),Vals ys its->ys.length<=sizeLine->∀ (h':Heap) (c':Nat),(∀ b o',s.heap.get? b=some o'->h'.get? b=some o')->
   h'.get? s.heap.objs.size=some { cls:=.type "list",dict:=none,data:=.seq its.toArray c',slots:=#[] }->EP X pins σ Q (.ref s.heap.objs.size) { s with heap:=h' }:=fun its r' hz h' c' kp e=>
  ⟨.ref s.heap.objs.size,_,I.laid (t':=s.toks) kp (Nat.le_refl _) (show ObjOk X.prog X.w _ h' _ (.lst ys) from ⟨hz,its,c',r',e⟩),rfl,q _ (I.hok.fresh (Nat.le_refl _))⟩
 rcases hq with hq | hq
 ·obtain ⟨its,r',pl,hz⟩:=I.list hq
  have hlen:=r'.length
  obtain ⟨o,ho,hc,n,hd⟩:=pl.isList
  exact call_list_seq p (.inl rfl) ho hc hd (fun h' c' kp e=>fin its r' hz h' c' kp e) (by simp only [List.size_toArray]<;>lia)
 ·obtain ⟨its,r',pl,hz⟩:=I.tuple hq
  have hlen:=r'.length
  obtain ⟨o,ho,hc,n,hd⟩:=pl
  exact call_list_seq p (.inr rfl) ho hc hd (fun h' c' kp e=>fin its r' hz h' c' kp e) (by simp only [List.size_toArray]<;>lia)
def tyV(K:PySem.W.Frag)(T:String)(x:V)(H:Hp):Prop:=match x with
 | .str _=>T="str"
 | .int _=>T="int"
 | .ref p=>(T="list"/\∃ xs,SqL K H p xs)∨(T="tuple"/\∃ o,K.lookup p=some o/\o.cls=.type "tuple"/\o.dict=none) ∨
   (T="dict"/\((∃ kvs,H p=some (.dK kvs))∨∃ kvs,H p=some (.dT kvs)))∨(T="set"/\∃ S n,H p=some (.set S n))
 | _=>False
theorem tyV_is{pins:List (Addr × Obj)}{σ:St}{H:Hp}{s:Shared}{T:String}{x:V}{v:Value}(I:Inv X pins σ H s)(r:RelV x v)(ty:tyV X.K T x H) :
  s.TypeIs v T/\∀ a,v=.ref a->∃ ob,s.heap.get? a=some ob/\ob.dict=none:=by
 cases x with
 | str z=>
  obtain ⟨t,rfl⟩:=r
  cases (show T="str" from ty)
  exact ⟨typeIs_str s z t,fun _ e=>nomatch e⟩
 | int i=>
  obtain ⟨t,rfl⟩:=r
  cases (show T="int" from ty)
  exact ⟨typeIs_int s i t,fun _ e=>nomatch e⟩
 | ref p=>
  cases r
  rcases ty with ⟨rfl,xs,hq⟩ | ⟨rfl,o,hk,hc,hd⟩ | ⟨rfl,hk⟩ | ⟨rfl,S,n,hk⟩
  ·obtain ⟨its,_,pl,_⟩:=I.list hq
   refine ⟨pl.isList.typeIs,fun a e=>?_⟩
   cases e
   obtain ⟨o,n,e,c,hd,_⟩:=pl
   exact ⟨o,e,hd⟩
  ·refine ⟨⟨o,I.kIn p o hk,hc⟩,fun a e=>?_⟩
   cases e
   exact ⟨o,I.kIn _ o hk,hd⟩
  ·have z:∃ o,s.heap.get? p=some o/\o.ExactDict:=by
    rcases hk with ⟨kvs,hk⟩ | ⟨kvs,hk⟩
    ·obtain ⟨_,_,_,_,o,_,_,e,ex,_⟩:=I.hok p _ hk
     exact ⟨o,e,ex⟩
    ·obtain ⟨_,_,_,_,o,_,_,e,ex,_⟩:=I.hok p _ hk
     exact ⟨o,e,ex⟩
   obtain ⟨o,e,ex⟩:=z
   refine ⟨⟨o,e,ex.1⟩,fun a e2=>?_⟩
   cases e2
   exact ⟨o,e,ex.2.1⟩
  ·obtain ⟨o,_,_,_,e,ex,_⟩:=I.hok p _ hk
   refine ⟨⟨o,e,ex.1⟩,fun a e2=>?_⟩
   cases e2
   exact ⟨o,e,ex.2.1⟩
 | _=>exact False.elim ty
def tBM0(K:PySem.W.Frag)(T:String)(r:V->List V->Hp->VK->Prop)(to:TE):TE:=fun σ H Q=>to σ H fun x H1=>tyV K T x H1/\r x [] H1 Q
def tBM(K:PySem.W.Frag)(T:String)(r:V->List V->Hp->VK->Prop)(to:TE)(t:TA):TE:=fun σ H Q=>to σ H fun x H1=>tyV K T x H1/\t σ H1 fun xs H2=>r x xs H2 Q
variable {o e:Expr}{es:List Expr}{to:TE}{t:TA}{name:Str}{apos cpos:Pos}{T id:String}{r:V->List V->Hp->VK->Prop}
theorem pe_bm0(pa:PlainAttrs T)(slot:Slot T name id)(hty:typeOf (.builtin id)=pure (.type "method_descriptor"))(hm:MtR X id r)(ho:PE X o to)
  (hbase:attributeBase o name X.env (eval o X.env)=eval o X.env:=by rfl) (hline:(apos.endLine == cpos.line)=true:=by rfl):PE X (.Call (.Attribute o name apos) [] [] cpos) (tBM0 X.K T r to):=by
 intro pins s σ H Q I h
 refine wpAny_Call_method0_late hbase hline (thn (ho pins s σ H _ I h) fun v s1 h_=>?_); obtain ⟨x,H1,I1,r1,ty,q1⟩:=h_
 obtain ⟨h1,h2⟩:=tyV_is I1 r1 ty
 exact ⟨T,id,pa,slot,hty,h1,h2,Calls.callWith_builtin rfl (PySem.evalArgs_none (hm pins s1 σ H1 x [] v [] Q I1 r1 .nil q1))⟩
theorem pe_bm(pa:PlainAttrs T)(slot:Slot T name id)(hty:typeOf (.builtin id)=pure (.type "method_descriptor"))(hm:MtR X id r)(ho:PE X o to)(ha:PA X (e::es) t)
  (hbase:attributeBase o name X.env (eval o X.env)=eval o X.env:=by rfl)
  (hfew:((backTo cpos (starEach (e::es) X.env)).all (fun x=>!x.1)&&(backToKw cpos (keywordEach [] X.env)).all (fun x=>x.1.isSome)
   && decide ((e::es).length+([]:List Keyword).length+(if ([]:List Keyword).isEmpty then 0 else 1) < 30))=true:=by rfl)
  (hline:(apos.endLine == cpos.line)=true:=by rfl) (hs:starEach (e::es) X.env=(false,eval e X.env)::starEach es X.env:=by rfl) (hplain:(backTo cpos (starEach es X.env)).any (·.1)=false:=by rfl) :
  PE X (.Call (.Attribute o name apos) (e::es) [] cpos) (tBM X.K T r to t):=by
 intro pins s σ H Q I h
 refine wpAny_Call_method_late hbase hfew hline rfl (thn (ho pins s σ H _ I h) fun v s1 h_=>?_); obtain ⟨x,H1,I1,r1,ty,q1⟩:=h_
 obtain ⟨h1,h2⟩:=tyV_is I1 r1 ty
 refine ⟨T,id,pa,slot,hty,h1,h2,?_⟩
 have hA:=ha cpos pins s1 σ H1 _ I1 q1
 rw [hs] at hA ⊢
 refine Calls.callWith_builtin (by show (false||(backTo cpos (starEach es X.env)).any (·.1))=false; rw [hplain]<;>rfl) (Calls.evalArgs_plain ?_)
 exact thn hA fun us s2 ⟨vs,H2,I2,r2,q2⟩=>hm pins s2 σ H2 x vs v us Q I2 r1 r2 q2
end
end L2
namespace L2
open PySem PySem.Spec PyProof.Rows
def MtM(X:Cx)(id:String)(r:V->List V->Hp->VK->Prop):Prop:=
 ∀ (pins:List (Addr × Obj)) (s:Shared) (σ:St) (H:Hp) (x:V) (xs:List V) (v:Value) (us:List Value) (Q:VK),Inv X pins σ H s->RelV x v->Vals xs us->r x xs H Q->
  wpAny (model X.prog X.w) X.A (call (.builtin id) (v::us)) (EP X pins σ Q) X.xe s
theorem Vals.one{x:V}{us:List Value}(h:Vals [x] us):∃ u,us=[u]/\RelV x u:=by
 cases h with
 | cons r t=>cases t; exact ⟨_,rfl,r⟩
theorem Vals.zero:∀ {us:List Value},Vals [] us->us=[]
 | _,.nil=>rfl
section
variable {X:Cx}{pins:List (Addr × Obj)}{σ:St}{H:Hp}{s:Shared}{l b:Addr}{xs ys zs:List V}
theorem Inv.lset{its its':List Value}{n:Nat}{f:Array Value->Array Value}{t':Nat}(I:Inv X pins σ H s)(hH:H l=some (.lst xs))
  (e:s.heap.get? l=some { cls:=.type "list",data:=.seq its.toArray n }) (hf:f its.toArray=its'.toArray) (hv:Vals ys its') (hz:ys.length<=sizeLine) :
  Inv X pins σ (upd H l (.lst ys)) { s with heap:=s.heap.update l (Obj.mapSeq f),toks:=t' }:=by
 have q:=PySem.IsL.update e f
 rw [hf] at q
 refine I.write (x:=l) (e:=l) (by rw [hH]; exact trivial) (.inl rfl) (fun b' u hb hu=>(Heap.get?_update_other s.heap (Obj.mapSeq f) (Ne.symm hb)).trans hu) ⟨_,q⟩ ?_
 exact ⟨hz,its',_,hv,q⟩
theorem Inv.lnew{its:List Value}{t':Nat}(I:Inv X pins σ H s)(hv:Vals ys its)(hz:ys.length<=sizeLine) :
  Inv X pins σ (upd H s.heap.objs.size (.lst ys)) { s with heap:=s.heap.push { cls:=.type "list",data:=.seq its.toArray },toks:=t' }:=
 I.laid (fun _ _ q=>Heap.get?_push_of_some _ q) (Nat.le_refl _) ⟨hz,its,0,hv,Heap.get?_push_size _ rfl⟩
theorem Inv.fresh(I:Inv X pins σ H s):H s.heap.objs.size=none:=I.hok.fresh (Nat.le_refl _)
theorem Inv.lstM(I:Inv X pins σ H s)(hH:H l=some (.lst xs)):xs.length<=sizeLine/\∃ (its:List Value) (n:Nat),Vals xs its/\xs.length=its.length/\s.heap.get? l=some { cls:=.type "list",data:=.seq its.toArray n }:=by
 obtain ⟨z,its,n,r,e⟩:=I.hok l _ hH
 exact ⟨z,its,n,r,r.length,e⟩
theorem notLongL{n:Nat}(h:n<=sizeLine):Builtin.List.listTooLong n=false:=by
 unfold Builtin.List.listTooLong
 exact decide_eq_false (by lia)
end
section
variable {X:Cx}
def rAppend:V->List V->Hp->VK->Prop:=fun x vs H Q=>∃ l xs y,x=.ref l/\vs=[y]/\H l=some (.lst xs)/\xs.length < sizeLine/\Q .non (upd H l (.lst (xs++[y])))
theorem mt_append:MtM X "list.append" rAppend:=by
 intro pins s σ H x vs v us Q I rx rv h
 obtain ⟨l,xs,y,rfl,rfl,hH,hz,q⟩:=h
 cases rx
 obtain ⟨u,rfl,ru⟩:=rv.one
 obtain ⟨z,its,n,r,hl,e⟩:=I.lstM hH
 refine call_meets F.slot_list_append ⟨_,e,rfl⟩ F.entry_list_append (F.args_list_append_2 _ _) (PySem.list_append l its.toArray n u (by rw [List.size_toArray]; lia)) ⟨e,?_⟩
 refine ⟨.non,_,I.lset (its':=its++[u]) hH e (by simp) (r.append (.cons ru .nil)) ?_,rfl,q⟩
 rw [List.length_append,List.length_singleton]
 lia
def rExtend:V->List V->Hp->VK->Prop:=fun x vs H Q=>∃ l b xs zs,x=.ref l/\vs=[.ref b]/\H l=some (.lst xs)/\H b=some (.lst zs)/\xs.length+zs.length<=sizeLine/\Q .non (upd H l (.lst (xs++zs)))
theorem mt_extend:MtM X "list.extend" rExtend:=by
 intro pins s σ H x vs v us Q I rx rv h
 obtain ⟨l,b,xs,zs,rfl,rfl,hH,hB,hz,q⟩:=h
 cases rx
 obtain ⟨u,rfl,ru⟩:=rv.one
 cases ru
 obtain ⟨z,its,n,r,hl,e⟩:=I.lstM hH
 obtain ⟨z2,its2,n2,r2,hl2,e2⟩:=I.lstM hB
 have hsz:its.toArray.size+its2.toArray.size<=sizeLine:=by rw [List.size_toArray,List.size_toArray]; lia
 have hlong:¬ (!its.toArray.isEmpty&&Builtin.List.listTooLong (its.toArray.size+its2.toArray.size))=true:=by
  rw [notLongL hsz,Bool.and_false]
  exact Bool.false_ne_true
 refine call_meets F.slot_list_extend ⟨_,e,rfl⟩ F.entry_list_extend (F.args_list_extend_2 _ _)
  (AutoSeq1.list_extend_list_list_0 l its.toArray n b its2.toArray n2 hlong (by rw [List.size_toArray]; lia) (by lia)) ⟨e,e2,?_⟩
 refine ⟨.non,_,I.lset (its':=its++its2) hH e (by simp) (r.append r2) ?_,rfl,q⟩
 rw [List.length_append]
 lia
def rClear:V->List V->Hp->VK->Prop:=fun x vs H Q=>∃ l xs,x=.ref l/\vs=[]/\H l=some (.lst xs)/\Q .non (upd H l (.lst []))
theorem mt_clear:MtM X "list.clear" rClear:=by
 intro pins s σ H x vs v us Q I rx rv h
 obtain ⟨l,xs,rfl,rfl,hH,q⟩:=h
 cases rx
 have hus:=rv.zero
 subst hus
 obtain ⟨z,its,n,r,hl,e⟩:=I.lstM hH
 refine call_meets F.slot_list_clear ⟨_,e,rfl⟩ F.entry_list_clear (F.args_list_clear_1 _) (AutoSeq1.list_clear_list_0 l its.toArray n (by rw [List.size_toArray]; lia)) ⟨e,?_⟩
 exact ⟨.non,_,I.lset (its':=[]) (ys:=[]) hH e rfl .nil (Nat.zero_le _),rfl,q⟩
def rCat:R2:=fun x y H Q=>∃ l b xs zs,x=.ref l/\y=.ref b/\H l=some (.lst xs)/\H b=some (.lst zs)/\xs.length+zs.length<=sizeLine/\∀ p,H p=none->Q (.ref p) (upd H p (.lst (xs++zs)))
theorem op_cat:OpR X (binaryOp .Add) rCat:=by
 intro pins s σ H x y v u Q I rx ry h
 obtain ⟨l,b,xs,zs,rfl,rfl,hH,hB,hz,q⟩:=h
 cases rx
 cases ry
 obtain ⟨z,its,n,r,hl,e⟩:=I.lstM hH
 obtain ⟨z2,its2,n2,r2,hl2,e2⟩:=I.lstM hB
 refine PySem.P.add_list e e2 ?_ (by rw [List.size_toArray,List.size_toArray]; lia)
 have ea:its.toArray++its2.toArray=(its++its2).toArray:=by simp
 rw [ea]
 exact ⟨.ref _,_,I.lnew (t':=s.toks) (r.append r2) (by rw [List.length_append]; lia),rfl,q _ I.fresh⟩
end
end L2
namespace L2
open PySem PySem.Spec PyProof.Rows
section
variable {κ:Type}[DecidableEq κ]
def valV(kvs:List (κ × V))(k:κ):Option V:=(kvs.find? fun kv=>decide (kv.1=k)).map (·.2)
theorem valV_pos{p:κ × V}{r:List (κ × V)}{k:κ}(e:p.1=k):valV (p::r) k=some p.2:=by simp [valV,List.find?_cons,e]
theorem valV_neg{p:κ × V}{r:List (κ × V)}{k:κ}(e:¬ p.1=k):valV (p::r) k=valV r k:=by simp [valV,List.find?_cons,e]
theorem RelO.isSome_eq{o:Option V}{u:Option Value}(r:RelO o u):o.isSome=u.isSome:=by
 cases o with
 | none=>cases u with
  | none=>rfl
  | some _=>exact (show False from r).elim
 | some _=>cases u with
  | none=>exact (show False from r).elim
  | some _=>rfl
theorem KV.val{kvs:List (κ × V)}{vs:List (κ × Value)}(r:KV kvs vs)(k:κ):RelO (valV kvs k) (valueAt vs k):=by
 unfold KV at r
 induction r with
 | nil=>exact True.intro
 | @cons p q ps qs h t ih=>
  obtain ⟨h1,h2⟩:=h
  by_cases e:p.1=k
  ·have e':q.1=k:=h1.symm.trans e
   have b:valueAt (q::qs) k=some q.2:=by simp [valueAt,List.find?_cons,e']
   rw [valV_pos e,b]; exact h2
  ·have e':¬ q.1=k:=fun z=>e (h1.trans z)
   have b:valueAt (q::qs) k=valueAt qs k:=by simp [valueAt,List.find?_cons,e']
   rw [valV_neg e,b]; exact ih
theorem KV.length{kvs:List (κ × V)}{vs:List (κ × Value)}(r:KV kvs vs):kvs.length=vs.length:=Paired.length r
end
theorem kV_is{P:Program}{w:World}{k:Key}{u:Value}(r:RelV (kV k) u):(mixKind P w).is k u=true:=by
 cases k with
 | inl i=>obtain ⟨t,e⟩:=(show ∃ t,u=Value.int i t from r); subst e; exact mixKind_int P w i t
 | inr x=>obtain ⟨t,e⟩:=(show ∃ t,u=Value.str x t from r); subst e; exact mixKind_str P w x t
theorem items_are{P:Program}{w:World}:∀ {ks:List Key} {us:List Value},Vals (ks.map kV) us->ItemsAre (mixKind P w) ks us
 | [],_,r=>by rw [List.map_nil] at r; cases r; exact .nil
 | k::ks,_,r=>by
  rw [List.map_cons] at r
  cases r with
  | cons h t=>exact .cons (kV_is h) (items_are t)
abbrev KT(H:Hp):List (List Key × V)->List (List Key × Addr × Value)->Prop:=Paired fun p q=>p.1=q.1/\H q.2.1=some (.tup (p.1.map kV))/\RelV p.2 q.2.2
theorem KT.val{H:Hp}{kvs:List (List Key × V)}{xs:List (List Key × Addr × Value)}(r:KT H kvs xs)(k:List Key):RelO (valV kvs k) ((atKey xs k).map (·.2)):=by
 induction r with
 | nil=>exact True.intro
 | @cons p q ps qs h t ih=>
  obtain ⟨h1,_,h2⟩:=h
  by_cases e:p.1=k
  ·have e':q.1=k:=h1.symm.trans e
   have b:atKey (q::qs) k=some q.2:=by simp [atKey,List.find?_cons,e']
   rw [valV_pos e,b]; exact h2
  ·have e':¬ q.1=k:=fun z=>e (h1.trans z)
   have b:atKey (q::qs) k=atKey qs k:=by simp [atKey,List.find?_cons,e']
   rw [valV_neg e,b]; exact ih
section
variable {P:Program}{w:World}{H:Hp}{h:Heap}{a:Addr}
theorem rd_of{u:HO}(ok:HOk P w H h)(e:Rd H a u):ObjOk P w H h a u:=e.ok ok
theorem dk_rd{kvs:List (Key × V)}(ok:HOk P w H h)(e:Rd H a (.dK kvs)):kvs.length<=sizeLine/\(a == sysModules)=false/\∃ vs,KV kvs vs/\h.DictOf (mixKind P w) a vs:=
 show ObjOk P w H h a (.dK kvs) from rd_of ok e
theorem key_of{ks:List Key}(ok:HOk P w H h)(e:H a=some (.tup (ks.map kV))):(tupleKind (mixKind P w)).is h ks a:=by
 obtain ⟨_,its,r,o,h1,h2,n,h3⟩:=(show ObjOk P w H h a (.tup (ks.map kV)) from ok a _ e)
 exact ⟨o,its.toArray,n,h1,h2,h3,by simpa using items_are r⟩
theorem dt_rd{kvs:List (List Key × V)}(ok:HOk P w H h)(e:Rd H a (.dT kvs)):kvs.length<=sizeLine/\(a == sysModules)=false /\
  ∃ xs,KT H kvs xs/\h.DictOfH (tupleKind (mixKind P w)) a xs:=by
 obtain ⟨z,y,xs,r,o,es,ep,h1,h2,h3,h4,h5⟩:=(show ObjOk P w H h a (.dT kvs) from rd_of ok e)
 refine ⟨z,y,xs,r,o,es,ep,h1,h2,h3,h4,fun x hx=>?_,h5⟩
 have all:∀ {l:List (List Key × V)} {m:List (List Key × Addr × Value)},KT H l m->∀ x∈m,(tupleKind (mixKind P w)).is h x.1 x.2.1:=by
  intro l m q
  induction q with
  | nil=>intro x hx; exact nomatch hx
  | @cons p q ps qs hq t ih=>
   intro x hx
   rcases List.mem_cons.mp hx with e | hx
   ·subst e
    exact key_of ok (by rw [<-hq.1]; exact hq.2.1)
   ·exact ih x hx
 exact all r x hx
end
def DGet(H:Hp)(a:Addr)(y:V)(r:Option V):Prop:=
 (∃ kvs k,Rd H a (.dK kvs)/\y=kV k/\r=valV kvs k)∨∃ kvs k b,Rd H a (.dT kvs)/\y=.ref b/\H b=some (.tup (k.map kV))/\r=valV kvs k
theorem DGet.k{H:Hp}{a:Addr}{kvs:List (Key × V)}{k:Key}(e:H a=some (.dK kvs)):DGet H a (kV k) (valV kvs k):=.inl ⟨kvs,k,.inl e,rfl,rfl⟩
section
variable {X:Cx}{pins:List (Addr × Obj)}{σ:St}{H:Hp}{s:Shared}{a:Addr}{y v:V}{u r:Value}{o:Option V}{A:Around}{E:Value->Shared->Prop}
theorem d_getItem{Q:Value->Shared->Prop}(hu:A.units+1 < cLine)(I:Inv X pins σ H s)(g:DGet H a y (some v))(ry:RelV y u)(h:∀ w' s',Inv X pins σ H s'->RelV v w'->Q w' s') :
  wpAny (model X.prog X.w) A (getItem (.ref a) u) Q E s:=by
 rcases g with ⟨kvs,k,e,ey,l⟩ | ⟨kvs,k,b,e,ey,eb,l⟩
 ·subst ey
  obtain ⟨z,hd,vs,rel,dd⟩:=dk_rd I.hok e
  obtain ⟨w',hw,rw'⟩:=RelO.some_of (v:=v) (o:=valueAt vs k) (by rw [l]; exact rel.val k)
  exact wpAny_getItem_of (kV_is ry) dd.mapOf hw (h w' _ (I.tok _) rw')
 ·subst ey
  cases (show u=Value.ref b from ry)
  obtain ⟨z,hd,xs,rel,dd⟩:=dt_rd I.hok e
  obtain ⟨w',hw,rw'⟩:=RelO.some_of (v:=v) (o:=(atKey xs k).map (·.2)) (by rw [l]; exact rel.val k)
  obtain ⟨p,hp,hp2⟩:=Qm hw
  refine wpAny_getItem_heap (tupleKind_room_in1 hu) (key_of I.hok eb) dd hp ?_
  rw [hp2]
  exact h w' _ (I.tok _) rw'
theorem d_notIn{Q:Value->Shared->Prop}(hu:A.units+1 < cLine)(I:Inv X pins σ H s)(g:DGet H a y o)(ry:RelV y u)(h:∀ s',Inv X pins σ H s'->Q (.bool (!o.isSome)) s') :
  wpAny (model X.prog X.w) A (compareOp .NotIn u (.ref a)) Q E s:=by
 rcases g with ⟨kvs,k,e,ey,l⟩ | ⟨kvs,k,b,e,ey,eb,l⟩
 ·subst ey
  obtain ⟨z,hd,vs,rel,dd⟩:=dk_rd I.hok e
  refine wpAny_notIn_of (kV_is ry) hd dd.mapOf ?_
  rw [<-(rel.val k).isSome_eq,<-l]
  exact h _ (I.tok _)
 ·subst ey
  cases (show u=Value.ref b from ry)
  obtain ⟨z,hd,xs,rel,dd⟩:=dt_rd I.hok e
  refine wpAny_notIn_heap (tupleKind_room_in1 hu) (key_of I.hok eb) hd dd ?_
  have q:=(rel.val k).isSome_eq
  rw [Option.isSome_map] at q
  rw [<-q,<-l]
  exact h _ (I.tok _)
theorem d_write{h':Heap}{t':Nat}{ob:HO}(I:Inv X pins σ H s)(mu:Mut (H a))(hs:Heap.SameBut a s.heap h')(he:∃ q,h'.get? a=some q)(new:ObjOk X.prog X.w (upd H a ob) h' a ob) :
  Inv X pins σ (upd H a ob) { s with heap:=h',toks:=t' }:=
 I.write (x:=a) (e:=a) mu (.inl rfl) (fun b q hb z=>(hs.2 b hb).trans z) he new
end
section
variable {X:Cx}{pins:List (Addr × Obj)}{σ:St}{H:Hp}{s:Shared}{a:Addr}{kvs:List (Key × V)}{k:Key}{u:Value}{A:Around}{E:Value->Shared->Prop}
theorem d_len{Q:Value->Shared->Prop}(I:Inv X pins σ H s)(e:Rd H a (.dK kvs))(h:∀ t s',Inv X pins σ H s'->Q (.int kvs.length t) s'):wpAny (model X.prog X.w) A (call (.builtin "len") [.ref a]) Q E s:=by
 obtain ⟨z,hd,vs,rel,dd⟩:=dk_rd I.hok e
 refine call_len_dict hd dd (by rw [<-rel.length]; rw [sizeLine_eq] at z; lia) ?_
 rw [<-rel.length]
 exact h _ _ (I.tok _)
end
def NoSl(i:Expr):Prop:=∀ ov iv,subscripted i false ov iv=operate [ov,iv] (getItem ov iv)
theorem subD_of{prog:Program}{w:World}{A:Around}{E:Value->Shared->Prop}{s:Shared}{env:Env}{value slice:Expr}{pos:Pos}{T id:String}{Q:Value->Shared->Prop}
  (hl:typeLookup (.type T) "__getitem__"=pure (some (.builtin id))) (hs:NoSl slice)
  (h:wpAny (model prog w) A (eval value env) (fun o s₁=>wpAny (model prog w) A (eval slice env) (fun i s₂=>s₂.TypeIs o T/\wpAny (model prog w) A (getItem o i) Q E s₂) E s₁) E s) :
  wpAny (model prog w) A (eval (.Subscript value slice pos) env) Q E s:=by
 refine Subscript_ (wpAny_mono h (fun o s₁ h₁=>wpAny_mono h₁ (fun i s₂ h₂=>?_) fun _ _ x=>x) fun _ _ x=>x)
 obtain ⟨hT,h₂⟩:=h₂
 unfold subscriptTail
 refine wpAny_bind ?_
 rw [getitemInPython_of_ne hT.not_modules]
 refine wpAny_bind (wpAny_specialOf hT hl ?_)
 have fin:wpAny (model prog w) A (subscripted slice false o i) (fun r s₃=>wpAny (model prog w) A (letTemporaryGo value o r >>= fun _=>pure r) Q E s₃) E s₂:=by
  rw [hs o i]
  exact wpAny_operating (wpAny_mono h₂ (fun r s₃ h₃=>wpAny_bind (wpAny_letTemporaryGo (wpAny_pure h₃))) fun _ _ x=>x)
 first
  | exact wpAny_pure (wpAny_bind fin)
  | exact wpAny_bind (wpAny_pure (wpAny_bind fin))
  | exact wpAny_bind fin
theorem dict_typeIs{X:Cx}{pins:List (Addr × Obj)}{σ:St}{H:Hp}{s:Shared}{a:Addr}{y:V}{o:Option V}(I:Inv X pins σ H s)(g:DGet H a y o):s.TypeIs (.ref a) "dict":=by
 rcases g with ⟨kvs,k,e,_,_⟩ | ⟨kvs,k,b,e,_,_,_⟩
 ·obtain ⟨_,_,vs,_,dd⟩:=dk_rd I.hok e
  exact dd.typeIs
 ·obtain ⟨_,_,xs,_,dd⟩:=dt_rd I.hok e
  exact dd.typeIs
def tDGet(td ty:TE):TE:=fun σ H Q=>td σ H fun x H1=>ty σ H1 fun y H2=>∃ a v,x=.ref a/\DGet H2 a y (some v)/\Q v H2
def tDNotIn(ty td:TE):TE:=fun σ H Q=>ty σ H fun y H1=>td σ H1 fun x H2=>∃ a o,x=.ref a/\DGet H2 a y o/\Q (.bl (!o.isSome)) H2
section
variable {X:Cx}{o i e value:Expr}{pos pos' tpos:Pos}{td ty tv:TE}
theorem pe_dget(hu:X.A.units+1 < cLine)(ho:PE X o td)(hi:PE X i ty)(hs:NoSl i):PE X (.Subscript o i pos) (tDGet td ty):=by
 intro pins s σ H Q I h
 refine subD_of PySem.F.slot_dict_getitem.lookup hs (thn (ho pins s σ H _ I h) fun u s1 h_=>?_); obtain ⟨x,H1,I1,rx,q1⟩:=h_; refine thn (hi pins s1 σ H1 _ I1 q1) fun iv s2 h_=>?_; obtain ⟨y,H2,I2,ry,a,v,ex,g,q2⟩:=h_
 subst ex
 obtain rfl:u=Value.ref a:=rx
 exact ⟨dict_typeIs I2 g,d_getItem hu I2 g ry fun w' s3 I3 rw'=>⟨v,H2,I3,rw',q2⟩⟩
theorem pc_dnotin(hu:X.A.units+1 < cLine)(hi:PE X i ty)(ho:PE X o td):PC X .NotIn i o (tDNotIn ty td):=by
 intro pins s σ H Q I h
 refine thn (hi pins s σ H _ I h) fun iv s1 h_=>?_; obtain ⟨y,H1,I1,ry,q1⟩:=h_; refine thn (ho pins s1 σ H1 _ I1 q1) fun u s2 h_=>?_; obtain ⟨x,H2,I2,rx,a,ov,ex,g,q2⟩:=h_
 subst ex
 obtain rfl:u=Value.ref a:=rx
 exact d_notIn hu I2 g ry fun s3 I3=>⟨.bl (!ov.isSome),H2,I3,rfl,q2⟩
end
end L2
namespace Att
open PySem PySem.W PySem.Calls PyProof.Rows
theorem ints_of_wellAll{P:Params}{h:Heap}:∀ (ns:List Int) (vs:List Value),WellAll P h vs (ns.map WData.int)->IntsAre vs ns:=by
 intro ns
 induction ns with
 | nil=>
  intro vs w
  rw [List.map_nil] at w
  cases w
  exact .nil
 | cons n ns ih=>
  intro vs w
  rw [List.map_cons] at w
  cases w with
  | cons a b=>
   cases a
   exact .cons _ _ (ih _ b)
theorem script_of{l:OpenLaw}{n:Nat}(hn:l.most=some n){P:Params}{h:Heap}{args:List WData}{vals:List Value}
  (hpre:l.row.toRowW.claim.pre args=true) (hwl:WellAll P h vals args) :
  ∃ a vs ns,vals=[Value.ref a]/\args=[WData.list (ns.map WData.int)]/\h.get? a=some { cls:=.type "list",data:=.seq vs.toArray }/\IntsAre vs ns/\ns.length<=n:=by
 have hsh:WShape.hasAll [] args [.list .int]=true:=(pre_splitW hpre).1
 have hc:l.pre.holds [] { args:=args }=true:=(pre_splitW hpre).2
 obtain ⟨d,r,rfl,h1,h2⟩:=hasAllW_cons hsh
 obtain rfl:=hasAllW_nil h2
 obtain ⟨xs,rfl,h3⟩:=hasW_list h1
 obtain ⟨ns,rfl⟩:=items_int h3
 have hlen:ns.length<=n:=by
  unfold OpenLaw.pre at hc
  have h4:(WTm.not (.lt (.lit (.int (n:Int))) (.len (.arg 0)))).holds [] { args:=[.list (ns.map .int)] }=true:=by
   have h4:=(holds_andW hc).1
   rw [hn] at h4
   exact h4
  have h5:=condW_of h4 (w_not (w_lt w_lit (w_len_list (w_arg rfl))))
  rw [List.length_map] at h5
  refine Nat.le_of_not_lt fun q=>?_
  have q':(n:Int) < ((ns.length:Nat):Int):=by lia
  first
   | (rw [decide_eq_true q'] at h5; exact absurd h5 (by decide))
   | (simp at h5; lia)
 cases hwl with
 | cons w1 w2=>
  cases w2
  cases w1 with
  | list ho hall=>exact ⟨_,_,ns,rfl,rfl,ho,ints_of_wellAll ns _ hall,hlen⟩
theorem post_true(l:OpenLaw)(args:List WData):l.row.toRowW.claim.post args (.bool true) args=true:=
 postW_of (r:=l.row.toRowW) (X:=(true == true))
  (show WShape.has [] (.bool true) .bool=true by first | rfl | decide | simp [WShape.has,WShape.arms,WShape.armsAll])
  (show (WTm.eq .res (.lit (.bool true))).value [] { args:=args,res:=some (.bool true),after:=args }=some (.bool (true == true)) from w_eq_bool (w_res rfl) w_lit) rfl
theorem attach{l:OpenLaw}{n:Nat}{q:Program}{loose:List Str}{XP:(Str->Option Value)->Heap->Prop}{YP:World->Heap->Prop}{d:DefRec}{x:Str}
  (hn:l.most=some n) (hdf:d.params.defaults=[])
  (hbind:∀ pm cd doc v:Value,bindArgs (docDef d.name d.params d.body d.scope pm cd doc) ⟨[v],[]⟩=pure [(x,v)])
  (hx:d.scope.names.lookup x=some .local∨d.scope.names.lookup x=some .cell)
  (hk:d.scope.kind=.function) (hco:d.scope.isCoroutine=false) (hgen:d.scope.isGenerator=false)
  (body:∀ (w:World) (s₀ s₁ s:Shared) (mg mb:Str->Option Value) (fa:Addr) (o:Obj) (pm cd doc:Value) (a:Addr) (vs:List Value) (ns:List Int),
   Ground q loose [] XP w s₀ mg mb s₁.heap->YP w s₁.heap->
   s₁.heap.get? fa=some o->o.data=.func (docDef d.name d.params d.body d.scope pm cd doc)->s₁.heap.CodeRec cd d.name->mg d.name=some (.ref fa)->
   s₁.heap.get? a=some { cls:=.type "list",data:=.seq vs.toArray }->IntsAre vs ns->ns.length<=n->
   s.gens=#[]->s.os=s₁.os->
   Fr s₁.heap s₁.heap.objs.size s.heap (bindL (envOfC d.name d.scope s₁.heap.objs.size fa cd).kindOf [(x,.ref a)] fun _=>none)->
   Cl s₁.heap.objs.size (cellsFrom (s₁.heap.objs.size+1) d.scope.names []) s.heap (bindC (envOfC d.name d.scope s₁.heap.objs.size fa cd).kindOf [(x,.ref a)] fun _=>none)->
   wpAny (model l.prog w) (callerA.deeper (envOfC d.name d.scope s₁.heap.objs.size fa cd)) (execs d.body (envOfC d.name d.scope s₁.heap.objs.size fa cd))
    (fun f s'=>f=.ret (.bool true)/\OldK s₁.heap s'.heap/\s'.os=s₁.os/\AllBare s'.gens) (fun _ _=>False) s) :
  WalkO q loose XP YP l.row.toRowW d [] (fun f vs=>PySem.call f vs):=by
 intro w s₀ s₁ mg mb G Y fa o pm cd doc dV kV ho hd hcd hD hmg hg args vals as hpre hlay hrd hwl hlo
 obtain rfl:dV=.none:=Dflts.none hD hdf
 obtain rfl:kV=.none:=Dflts.noKw hD
 obtain ⟨a,vs,ns,rfl,rfl,hobj,hints,hlen⟩:=script_of hn hpre hwl
 refine enter_call ?_
 refine call_cells_ret (o:=o) (by rw [depth_caller]; decide) ho (fd_plain hd) G.T.nolimit hcd (hbind pm cd doc (.ref a)) (fun y hy=>?_) (fun h₁ tk F X=>?_) hco hgen hk
 ·obtain rfl:y=(x,Value.ref a):=List.mem_singleton.mp hy
  rcases hx with e | e
  ·exact .inl e
  ·exact .inr ⟨e,cellsFrom_some _ _ _ (.inl e)⟩
 ·refine wpAny_mono (body w s₀ s₁ { s₁ with heap:=h₁,toks:=tk } mg mb fa o pm cd doc a vs ns G Y ho (fd_plain hd) hcd hmg hobj hints hlen hg rfl F X) (fun f s' hq=>?_) (fun _ _ hq=>hq)
  obtain ⟨rfl,h2,h3,h4⟩:=hq
  exact ⟨.inl ⟨.bool true,.bool true,[],rfl,fun _=>rfl,.bool true,post_true l _,fun _=>⟨List.Pairwise.nil,fun _ hm=>(nomatch hm)⟩⟩,h2,h3,h4⟩
theorem attach_call{l:OpenLaw}{n:Nat}{q:Program}{loose:List Str}{XP:(Str->Option Value)->Heap->Prop}{YP:World->Heap->Prop}{d:DefRec}
  (hn:l.most=some n) (hdf:d.params.defaults=[])
  (call:∀ (w:World) (s₀ s₁:Shared) (mg mb:Str->Option Value) (fa:Addr) (o:Obj) (pm cd doc:Value) (a:Addr) (vs:List Value) (ns:List Int),
   Ground q loose [] XP w s₀ mg mb s₁.heap->YP w s₁.heap->
   s₁.heap.get? fa=some o->o.data=.func (docDef d.name d.params d.body d.scope pm cd doc)->s₁.heap.CodeRec cd d.name->mg d.name=some (.ref fa)->
   s₁.heap.get? a=some { cls:=.type "list",data:=.seq vs.toArray }->IntsAre vs ns->ns.length<=n->s₁.gens=#[]->
   codeAny (model l.prog w) callerA (.call (.ref fa) ⟨[.ref a],[]⟩) (fun r s'=>r=.ok (.ret (.bool true))/\OldK s₁.heap s'.heap/\s'.os=s₁.os/\AllBare s'.gens) s₁) :
  WalkO q loose XP YP l.row.toRowW d [] (fun f vs=>PySem.call f vs):=by
 intro w s₀ s₁ mg mb G Y fa o pm cd doc dV kV ho hd hcd hD hmg hg args vals as hpre hlay hrd hwl hlo
 obtain rfl:dV=.none:=Dflts.none hD hdf
 obtain rfl:kV=.none:=Dflts.noKw hD
 obtain ⟨a,vs,ns,rfl,rfl,hobj,hints,hlen⟩:=script_of hn hpre hwl
 refine enter_call (codeAny_mono (call w s₀ s₁ mg mb fa o pm cd doc a vs ns G Y ho (fd_plain hd) hcd hmg hobj hints hlen hg) fun r s' hq=>?_)
 obtain ⟨rfl,h2,h3,h4⟩:=hq
 exact ⟨.inl ⟨.bool true,.bool true,[],rfl,fun _=>rfl,.bool true,post_true l _,fun _=>⟨List.Pairwise.nil,fun _ hm=>(nomatch hm)⟩⟩,h2,h3,h4⟩
end Att
namespace L2
open PySem PySem.Spec PyProof.Rows
theorem vals_ints:∀ {vs:List Value} {ns:List Int},IntsAre vs ns->Vals (ns.map V.int) vs
 | _,_,.nil=>.nil
 | _,_,.cons n t h=>.cons ⟨t,rfl⟩ (vals_ints h)
def Only(H:Hp):Prop:=∀ b,H b=none∨∃ o xs,H b=some (.frz o (.lst xs))
theorem law_call{P:Program}{w:World}{K:PySem.W.Frag}{mg mb:Str->Option Value}{CX:CXT}{k:Nat}{fa a:Addr}{fd:FuncData}{x:Str}{sp:Sp}{s₁:Shared}{vs:List Value}{ns:List Int}
  (KX:K.In s₁.heap) (hns:s₁.heap.Ns mainGlobals mg) (hb:s₁.heap.Ns builtinsNs mb) (hbb:∀ x:Str,x≠"__name__"->mb x=bootBuiltins x) (hlim:s₁.heap.NoLimit) (hg:s₁.gens=#[])
  (ha:s₁.heap.get? a=some { cls:=.type "list",data:=.seq vs.toArray }) (hi:IntsAre vs ns) (hl:ns.length<=sizeLine) (hr:Room k callerA)
  (F:∀ base:Heap,K.In base->base.Ns mainGlobals mg->FnOk P w K mg base CX k fa fd [x] sp) (hbind:∀ (s:Shared) (u:Value),BindsTo s fd ⟨[u],[]⟩ [(x,u)])
  (hsp:∀ H:Hp,Only H->SqL K H a (ns.map V.int)->sp [.ref a] H (fun v _=>v=.bl true) fun _ _ _=>False)
  (hCX:∀ H e s',CX [] H s₁ (fun _ _ _=>False) e s'->False) :
  codeAny (model P w) callerA (.call (.ref fa) ⟨[.ref a],[]⟩) (fun r s'=>r=.ok (.ret (.bool true))/\OldK s₁.heap s'.heap/\s'.os=s₁.os/\AllBare s'.gens) s₁:=by
 have rv:=vals_ints hi
 have lenV:=hi.length
 -- from an abstract heap in which nothing but the script may be tracked
 have core:∀ H:Hp,Only H->SqL K H a (ns.map V.int)->HOk P w H s₁.heap->(∀ b,H b≠none->b=a)->(H a≠none->K.lookup a=none)->
   codeAny (model P w) callerA (.call (.ref fa) ⟨[.ref a],[]⟩) (fun r s'=>r=.ok (.ret (.bool true))/\OldK s₁.heap s'.heap/\s'.os=s₁.os/\AllBare s'.gens) s₁:=by
  intro H hO hS hok hA hK
  have base_of:∀ {b:Addr} {o:Obj},s₁.heap.get? b=some o->H b=none->(hidT s₁.heap H).get? b=some o:=fun e n=>hidT_get e n
  have noA:∀ {b:Addr} {o:Obj} {es:Array DictEntry} {ep:Nat},s₁.heap.get? b=some o->o.data=.dict es ep->H b=none:=fun {b o es ep} e d=>by
   cases q:H b with
   | none=>rfl
   | some u=>
    have e':b=a:=hA b (by rw [q]; simp)
    subst e'
    rw [ha] at e; cases e
    have d':Data.seq vs.toArray _=Data.dict es ep:=d
    cases d'
  have nsK:∀ {b:Addr} {m:Str->Option Value},s₁.heap.Ns b m->(hidT s₁.heap H).Ns b m:=fun {b m} ⟨o,es,ep,e,d,r⟩=>⟨o,es,ep,base_of e (noA e d),d,r⟩
  have hKb:K.In (hidT s₁.heap H):=fun b o e=>base_of (KX b o e) (by
   cases q:H b with
   | none=>rfl
   | some u=>
    have e':b=a:=hA b (by rw [q]; simp)
    subst e'
    rw [hK (by rw [q]; simp)] at e; cases e)
  have hM:Mod K mg (hidT s₁.heap H):=⟨hKb,nsK hns,⟨mb,nsK hb,hbb⟩,let ⟨mc,h1,h2⟩:=hlim; ⟨mc,nsK h1,h2⟩⟩
  have e0:Env0 P w K mg (hidT s₁.heap H) callerA [] s₁ H:=⟨rfl,hM,fun b o e=>of_hidT e,Nat.le_of_eq (hidT_size _ _),trivial,fun b hb=>absurd (show b∈([]:List Addr) from hb) (by simp),hok,.of_eq hg⟩
  refine codeAny_mono ((F _ hKb (nsK hns)).run callerA [] s₁ H ⟨[.ref a],[]⟩ [.ref a] [.ref a] _ _ hr e0 (hbind s₁ (.ref a)) (.cons rfl .nil) (hsp H hO hS)) fun r s' h=>?_
  cases r with
  | error e=>exact (hCX H e s' h).elim
  | ok fl=>
   cases fl with
   | next=>exact False.elim h
   | brk=>exact False.elim h
   | cont=>exact False.elim h
   | ret u=>
    obtain ⟨v,H',os,bare,un,hok',r',q⟩:=h
    have q':v=.bl true:=q
    subst q'
    obtain rfl:u=Value.bool true:=r'
    refine ⟨rfl,OldK.of_keep fun b o e=>?_,os,bare⟩
    cases q:H b with
    | none=>exact un.keep b o e q (by intro z; exact absurd (show b∈([]:List Addr) from z) (by simp)) (by simp)
    | some u=>
     rcases hO b with z | ⟨ob,xs,z⟩
     ·rw [q] at z; cases z
     ·have z2:=un.frzs b ob _ z
      obtain ⟨e1,_⟩:=hok b _ z
      obtain ⟨e2,_⟩:=hok' b _ z2
      rw [e] at e1; cases e1
      exact e2
 cases hk:K.lookup a with
 | some o=>
  -- the script is one of the module's own objects
  have e:=KX a o hk
  rw [ha] at e
  cases e
  refine core (fun _=>none) (fun _=>.inl rfl) (.inr ⟨_,vs.toArray,_,hk,rfl,rfl,rfl,by rw [List.size_toArray,lenV]; exact hl,by simpa using rv⟩) (fun b u z=>by have z':(none:Option HO)=some u:=z; cases z') (fun b z=>absurd rfl z) fun z=>absurd rfl z
 | none=>
  refine core (fun b=>if b=a then some (.frz { cls:=.type "list",data:=.seq vs.toArray } (.lst (ns.map V.int))) else none) (fun b=>?_) (.inl (.inr ⟨{ cls:=.type "list",data:=.seq vs.toArray },if_pos rfl⟩)) (fun b u z=>?_) (fun b z=>?_) fun _=>hk
  ·by_cases hb:b=a
   ·exact .inr ⟨_,_,if_pos hb⟩
   ·exact .inl (if_neg hb)
  ·by_cases hb:b=a
   ·have z':=(if_pos hb).symm.trans z
    cases z'
    subst hb
    exact ⟨ha,by rw [List.length_map]; exact hl,vs,_,rv,ha⟩
   ·have z':=(if_neg hb).symm.trans z
    cases z'
  ·by_cases hb:b=a
   ·exact hb
   ·exact absurd (if_neg hb) z
end L2
namespace L2
open PySem PySem.Spec PyProof.Rows
theorem walk_of{l:PySem.W.OpenLaw}{n k:Nat}{q:Program}{loose:List Str}{XP:(Str->Option Value)->Heap->Prop}{YP:World->Heap->Prop}{d:DefRec}{K:Params->PySem.W.Frag}{CX:World->CXT}{sp:World->Sp}{x:Str}
  (hn:l.most=some n) (hn2:n<=sizeLine) (hdf:d.params.defaults=[]) (hr:Room k callerA)
  (hY:∀ (w:World) (h:Heap),YP w h->(K w.params).In h)
  (F:∀ (w:World) (mg:Str->Option Value) (fa:Addr) (h:Heap),(K w.params).In h->h.Ns mainGlobals mg->mg d.name=some (.ref fa)->
   ∃ fd:FuncData,(∀ (s:Shared) (u:Value),BindsTo s fd ⟨[u],[]⟩ [(x,u)]) /\
    ∀ base:Heap,(K w.params).In base->base.Ns mainGlobals mg->FnOk l.prog w (K w.params) mg base (CX w) k fa fd [x] (sp w))
  (hsp:∀ (w:World) (H:Hp) (a:Addr) (ns:List Int),ns.length<=n->Only H->SqL (K w.params) H a (ns.map V.int)->sp w [.ref a] H (fun v _=>v=.bl true) fun _ _ _=>False)
  (hCX:∀ (w:World) (H:Hp) (s:Shared) (e:Value) (s':Shared),CX w [] H s (fun _ _ _=>False) e s'->False) :
  PySem.W.WalkO q loose XP YP l.row.toRowW d [] (fun f vs=>PySem.call f vs):=by
 refine Att.attach_call hn hdf fun w s₀ s₁ mg mb fa o pm cd doc a vs ns G Y ho hd hcd hmg hobj hints hlen hg=>?_
 have KX:=hY w _ Y
 obtain ⟨fd,hb,hF⟩:=F w mg fa _ KX G.T.g hmg
 exact law_call KX G.T.g G.T.b G.T.builtins G.T.nolimit hg hobj hints (Nat.le_trans hlen hn2) hr hF hb (fun H hO hS=>hsp w H a ns hlen hO hS) fun H e s'=>hCX w H s₁ e s'
end L2
namespace L2
open PySem PySem.Spec PyProof.Rows
def defArgs(s:Stmt):Arguments:=match s with
 | .FunctionDef _ a _ _ _ _ _ _ _ _=>a
 | _=>{ posonlyargs:=[],args:=[],vararg:=none,kwonlyargs:=[],kw_defaults:=[],kwarg:=none,defaults:=[] }
def defBody(s:Stmt):List Stmt:=match s with
 | .FunctionDef _ _ b _ _ _ _ _ _ _=>b
 | _=>[]
def defScope(s:Stmt):Scope:=match s with
 | .FunctionDef _ _ _ _ _ _ sc _ _ _=>sc
 | _=>{ kind:=.function,names:=[],isGenerator:=false,isCoroutine:=false }
abbrev CX0:CXT:=fun _ _ _ _ _ _=>False
abbrev E0:XK:=fun _ _ _=>False
theorem pass0{X:Cx}:Passes CX0 X E0:=fun _ _ _ _ _ _ _ h=>h.elim
structure Fun (K:PySem.W.Frag) (x qual:Str) (st:Stmt) (f:Addr) (fd:FuncData):Prop where
 ex:∃ (oc:Value) (od:Option Addr) (kV doc pm:Value) (an:Option Addr) (cdv ct:Value) (osl:Array (Option Value)),
  fd=PySem.W.fnOf x qual (defArgs st) (defBody st) (defScope st) .none kV doc pm an cdv ct/\K.lookup f=some ⟨oc,od,.func fd,osl⟩/\PySem.W.codeIn K cdv qual=true
 kp:PySem.W.keepIn K (.ref f)=true
section
variable {P:Program}{w:World}{K:PySem.W.Frag}{mg:Str->Option Value}{base:Heap}
theorem Fun.ok{x qual:Str}{st:Stmt}{f:Addr}{fd:FuncData}{N ps:List Str}{k:Nat}{sp:Sp}(F:Fun K x qual st f fd)(S:FnScope N ps (defScope st))(len:∀ vs H Q E,sp vs H Q E->vs.length=ps.length)
  (hbody:∀ (cdv:Value) (A:Around) (outer:List Env) (s:Shared) (H:Hp) (vs:List V) (Q:VK) (E:XK),Room k (A.deeper (envOfC qual (defScope st) s.heap.objs.size f cdv))->sp vs H Q E->
   ∃ t,PSs (cxOf CX0 P w K mg base N qual (defScope st) f cdv A outer s H E).nox (defBody st) t/\t { nx:=fun _ H'=>Q .non H',rt:=Q } (start N vs) H):FnOk P w K mg base CX0 (k+1) f fd ps sp:=by
 obtain ⟨oc,od,kV,doc,pm,an,cdv,ct,osl,rfl,lk,hcd⟩:=F.ex
 refine fn_of lk hcd S len fun A outer s H vs Q E hr hsp=>?_
 obtain ⟨t,h,q⟩:=hbody cdv A outer s H vs Q E hr hsp
 exact ⟨t,h.nox,q⟩
theorem Fun.binds{x qual:Str}{st:Stmt}{f:Addr}{fd:FuncData}{ps:List Str}(F:Fun K x qual st f fd)
  (h:∀ (kV doc pm:Value) (an:Option Addr) (cdv ct:Value) (us:List Value),us.length=ps.length->bindArgs (PySem.W.fnOf x qual (defArgs st) (defBody st) (defScope st) .none kV doc pm an cdv ct) ⟨us,[]⟩=pure (ps.zip us)):Binds K fd ps []:=by
 obtain ⟨oc,od,kV,doc,pm,an,cdv,ct,osl,rfl,lk,hcd⟩:=F.ex
 exact .all (h kV doc pm an cdv ct)
theorem fun_mk{x qual:Str}{st:Stmt}{f:Addr}{oc:Value}{od an:Option Addr}{osl:Array (Option Value)}{kV doc pm cdv ct:Value}(l:K.lookup f=some ⟨oc,od,.func (PySem.W.fnOf x qual (defArgs st) (defBody st) (defScope st) .none kV doc pm an cdv ct),osl⟩)
  (c:PySem.W.codeIn K cdv qual=true) (k:PySem.W.keepIn K (.ref f)=true):Fun K x qual st f (PySem.W.fnOf x qual (defArgs st) (defBody st) (defScope st) .none kV doc pm an cdv ct):=⟨⟨oc,od,kV,doc,pm,an,cdv,ct,osl,rfl,l,c⟩,k⟩
end
theorem hu_of{A:Around}{k:Nat}(hr:Room k A):A.units+1 < cLine:=Nat.lt_of_le_of_lt (Nat.add_le_add_left (by decide:1<=64) _) hr.units
section
variable {X:Cx}
theorem pv(i:Nat){x:Str}{pos:Pos}(hN:X.N[i]?=some x:=by rfl)(hv:Vis X.env.scope x:=by first | exact Or.inl rfl | exact Or.inr (Or.inl rfl) | exact Or.inr (Or.inr rfl))(hd:(x == ("__debug__":Str))=false:=by decide)
  (hcd:(x == ("__classdict__":Str))=false:=by decide):PE X (.Name x pos) (tVar i):=pe_var hN hv hd hcd
end
end L2
namespace L2
open PySem PySem.Spec PyProof.Rows
theorem Inv.forget{X:Cx}{pins:List (Addr × Obj)}{sg sg':St}{H:Hp}{s:Shared}(I:Inv X pins sg H s)(hl:sg'.length=sg.length)(h:∀ (i:Nat) (v:V),sg'[i]?=some (some v)->sg[i]?=some (some v)):Inv X pins sg' H s:=by
 obtain ⟨m,hn,hm⟩:=I.loc
 exact ⟨I.ok,I.os,I.bare,I.base,⟨m,hn,fun i x v e1 e2 e3=>hm i x v e1 (h i v e2) e3⟩,I.cell,I.free,I.freeC,I.pin,I.hok,by rw [hl]; exact I.len⟩
def cxComp(X:Cx)(N:List Str)(scope:Scope)(cl:List (Str × Addr))(C:Addr)(s0:Shared)(H0:Hp)(fp:List Addr):Cx where
 prog:=X.prog
 w:=X.w
 K:=X.K
 mg:=X.mg
 base:=X.base
 A:=X.A
 N:=N
 s₀:=s0
 H₀:=H0
 env:=compEnvC scope cl C X.env
 outer:=X.stack
 stack:=X.stack
 ex:=fp
 fn:=fun _=>false
 calm:=X.calm
 pn:=[]
 xe:=fun _ _=>False
def capOk(N:List Str)(XN:List Str)(sc outer:Scope)(caps:List (Option Nat)):Bool:=
 decide (caps.length=N.length)&&((List.range caps.length).all fun i=>match caps[i]? with
  | some (some j)=>(match N[i]?,XN[j]? with
   | some x,some y=>x == y&&sc.names.lookup x == some .free&&(outer.names.lookup x == some .cell||outer.names.lookup x == some .free)
   | _,_=>false)
  | _=>true)
def capSt(caps:List (Option Nat))(sg:St):St:=caps.map fun o=>o.bind fun j=>(sg[j]?).join
theorem capOk.len{N XN:List Str}{sc outer:Scope}{caps:List (Option Nat)}(h:capOk N XN sc outer caps=true):caps.length=N.length:=by
 unfold capOk at h
 rw [Bool.and_eq_true] at h
 exact of_decide_eq_true h.1
theorem capOk.get{N XN:List Str}{sc outer:Scope}{caps:List (Option Nat)}(h:capOk N XN sc outer caps=true){i j:Nat}(e:caps[i]?=some (some j)) :
  ∃ x,N[i]?=some x/\XN[j]?=some x/\sc.names.lookup x=some .free/\(outer.names.lookup x=some .cell∨outer.names.lookup x=some .free):=by
 unfold capOk at h
 rw [Bool.and_eq_true] at h
 have hi:i < caps.length:=(List.getElem?_eq_some_iff.mp e).1
 have q:=List.all_eq_true.mp h.2 i (List.mem_range.mpr hi)
 rw [e] at q
 dsimp only at q
 cases h1:N[i]? with
 | none=>rw [h1] at q; cases q
 | some x=>
  cases h2:XN[j]? with
  | none=>rw [h1,h2] at q; cases q
  | some y=>
   rw [h1,h2] at q
   dsimp only at q
   rw [Bool.and_eq_true,Bool.and_eq_true,Bool.or_eq_true] at q
   obtain ⟨⟨q1,q2⟩,q3⟩:=q
   have e1:x=y:=eq_of_beq q1
   subst e1
   exact ⟨x,rfl,rfl,by simpa using q2,q3.imp (fun z=>by simpa using z) fun z=>by simpa using z⟩
theorem closure_of{env:Env}:∀ (names:List (Str × NameKind)) (acc:List (Str × Addr)),(∀ x,(x,NameKind.free)∈names->∃ c,env.cells.lookup x=some c)->
  ∃ cl,(forIn (m:=Sem) names acc fun (p:Str × NameKind) cs=>(if p.2 == NameKind.free then (do let c <-cellOf env p.1; pure (ForInStep.yield ((p.1,c)::cs))) else pure (ForInStep.yield cs)))=pure cl /\
   (∀ p∈cl,p∈acc∨env.cells.lookup p.1=some p.2)/\(∀ p∈acc,p∈cl)/\(∀ x,(x,NameKind.free)∈names->∃ c,(x,c)∈cl)
 | [],acc,_=>⟨acc,rfl,fun p hp=>.inl hp,fun p hp=>hp,fun x hx=>nomatch hx⟩
 | (n,k)::r,acc,h=>by
  by_cases hk:k=.free
  ·subst hk
   obtain ⟨c,hc⟩:=h n List.mem_cons_self
   obtain ⟨cl,e,h1,h2,h3⟩:=closure_of r ((n,c)::acc) fun x hx=>h x (List.mem_cons_of_mem _ hx)
   refine ⟨cl,?_,fun p hp=>?_,fun p hp=>h2 p (List.mem_cons_of_mem _ hp),fun x hx=>?_⟩
   ·rw [List.forIn_cons,if_pos (by rfl)]
    show (do let c <-cellOf env n; pure (ForInStep.yield ((n,c)::acc)):Sem _) >>= _=_
    rw [cellOf,hc]
    exact e
   ·rcases h1 p hp with z | z
    ·rcases List.mem_cons.mp z with z | z
     ·subst z; exact .inr hc
     ·exact .inl z
    ·exact .inr z
   ·rcases List.mem_cons.mp hx with z | z
    ·injection z with z1 _
     subst z1
     exact ⟨c,h2 _ List.mem_cons_self⟩
    ·exact h3 x z
  ·obtain ⟨cl,e,h1,h2,h3⟩:=closure_of r acc fun x hx=>h x (List.mem_cons_of_mem _ hx)
   refine ⟨cl,?_,h1,h2,fun x hx=>?_⟩
   ·rw [List.forIn_cons,if_neg (by simpa using hk)]
    exact e
   ·rcases List.mem_cons.mp hx with z | z
    ·injection z with _ z2
     exact absurd z2.symm hk
    ·exact h3 x z
theorem closureFor_of{scope:Scope}{env:Env}(h:∀ x,(x,NameKind.free)∈scope.names->∃ c,env.cells.lookup x=some c) :
  ∃ cl,closureFor scope env=pure cl/\(∀ p∈cl,env.cells.lookup p.1=some p.2)/\(∀ x,(x,NameKind.free)∈scope.names->∃ c,(x,c)∈cl):=by
 obtain ⟨cl,e,h1,_,h3⟩:=closure_of scope.names [] h
 refine ⟨cl,?_,fun p hp=>(h1 p hp).resolve_left (by simp),h3⟩
 have e2:closureFor scope env=((forIn (m:=Sem) scope.names ([]:List (Str × Addr)) fun (p:Str × NameKind) cs=>(if p.2 == NameKind.free then (do let c <-cellOf env p.1; pure (ForInStep.yield ((p.1,c)::cs))) else pure (ForInStep.yield cs))) >>= fun cs=>pure cs):=rfl
 rw [e2,e]
 rfl
end L2
namespace L2
open PySem PySem.Spec PyProof.Rows
theorem lookup_of_mem_some{α β:Type}[BEq α][LawfulBEq α]{x:α}{y:β}:∀ {l:List (α × β)},l.lookup x=some y->(x,y)∈l
 | (a,b)::r,h=>by
  rw [List.lookup_cons] at h
  cases hx:x == a with
  | true=>
   rw [hx] at h
   have e:b=y:=Option.some.inj h
   rw [eq_of_beq hx,e]
   exact List.mem_cons_self
  | false=>rw [hx] at h; exact List.mem_cons_of_mem _ (lookup_of_mem_some h)
theorem lookup_isSome_of_mem{α β:Type}[BEq α][LawfulBEq α]{x:α}{y:β}:∀ {l:List (α × β)},(x,y)∈l->∃ z,l.lookup x=some z
 | (a,b)::r,h=>by
  rw [List.lookup_cons]
  cases hx:x == a with
  | true=>exact ⟨b,rfl⟩
  | false=>
   rcases List.mem_cons.mp h with z | z
   ·injection z with z1 _
    rw [z1] at hx
    simp at hx
   ·exact lookup_isSome_of_mem z
theorem relabel_free{scope:Scope}{env:Env}(hcell:∀ y∈scope.names,y.2≠.cell){x:Str}(h:(relabel scope env).names.lookup x=some .cell∨(relabel scope env).names.lookup x=some .free):(x,NameKind.free)∈scope.names:=by
 have key:∀ k,(x,k)∈(relabel scope env).names->k=.cell∨k=.free->(x,NameKind.free)∈scope.names:=fun k hm hk=>by
  obtain ⟨⟨n,k'⟩,hn,e⟩:=List.mem_map.mp hm
  dsimp only at e
  split at e
  ·rename_i hc
   injection e with e1 e2
   subst e1
   have:k'=.free:=by
    simp only [Bool.and_eq_true] at hc
    simpa using hc.1.1
   subst this
   exact hn
  ·injection e with e1 e2
   subst e1; subst e2
   rcases hk with z | z
   ·subst z; exact absurd rfl (hcell _ hn)
   ·subst z; exact hn
 rcases h with h | h
 ·exact key _ (lookup_of_mem_some h) (.inl rfl)
 ·exact key _ (lookup_of_mem_some h) (.inr rfl)
theorem relabel_vis{env:Env}{x:Str}:∀ {names:List (Str × NameKind)},names.lookup x=some .free->
  (names.map fun (n,k)=>if (k == NameKind.free&&env.scope.kind == .function&&env.kindOf n == some .cell) then (n,NameKind.cell) else (n,k)).lookup x=some .cell ∨
  (names.map fun (n,k)=>if (k == NameKind.free&&env.scope.kind == .function&&env.kindOf n == some .cell) then (n,NameKind.cell) else (n,k)).lookup x=some .free
 | (n,k)::r,h=>by
  rw [List.lookup_cons] at h
  rw [List.map_cons]
  cases hx:x == n with
  | true=>
   rw [hx] at h
   have e:k=.free:=Option.some.inj h
   subst e
   dsimp only
   split
   ·left; rw [List.lookup_cons,hx]
   ·right; rw [List.lookup_cons,hx]
  | false=>
   rw [hx] at h
   have ih:=relabel_vis (env:=env) h
   dsimp only
   split<;>(rw [List.lookup_cons,hx]; exact ih)
section
variable {X:Cx}{N:List Str}{scope:Scope}{cl:List (Str × Addr)}{caps:List (Option Nat)}{pins:List (Addr × Obj)}{sg:St}{H:Hp}{s:Shared}{fp:List Addr}{h1:Heap}{tk:Nat}{m0:Str->Option Value}
theorem cxComp_ok(hkind:scope.kind=.function)(hcell:∀ y∈scope.names,y.2≠.cell)(I:Inv X pins sg H s)
  (hcl1:∀ p∈cl,X.env.cells.lookup p.1=some p.2) (hcl2:∀ x,(x,NameKind.free)∈scope.names->∃ c,(x,c)∈cl)
  (hf:∀ b∈fp,FpOk X pins H b) (hlt:∀ b∈fp,b < s.heap.objs.size):(cxComp X N scope cl s.heap.objs.size s H fp).Ok where
 mod:=I.ok.mod
 kind:=hkind
 glob:=I.ok.glob
 blt:=I.ok.blt
 above:=Nat.le_refl _
 inj:=fun x y c hx hy=>I.ok.inj x y c (hcl1 (x,c) (lookup_of_mem_some hx)) (hcl1 (y,c) (lookup_of_mem_some hy))
 has:=fun x hx=>by
  obtain ⟨c,hc⟩:=hcl2 x (relabel_free hcell hx)
  exact lookup_isSome_of_mem hc
 cab:=fun x c hx=>nomatch hx
 hd:=I.ok.hd
 frames:=I.ok.frames
 stk:=.inl rfl
 exf:=fun b hb=>⟨Nat.ne_of_lt (hlt b hb),fun x c hx=>(hf b hb).2.2.2.2.1 x c (hcl1 (x,c) (lookup_of_mem_some hx))⟩
 bs:=I.bs
 bsz:=Nat.le_trans I.ok.bsz I.sz
 noex:=fun b o e hb=>by
  rcases (hf b hb).2.2.2.1 with z | z
  ·exact I.ok.noex b o e z
  ·exact absurd (Nat.lt_of_lt_of_le (Heap.lt_size e) (Nat.le_trans I.ok.bsz z)) (Nat.lt_irrefl _)
 exfs:=fun b hb z=>by
  rcases List.mem_cons.mp (I.stkSub b z) with e | e
  ·exact (hf b hb).2.1 e
  ·exact (hf b hb).2.2.1 e
 funs:=I.stack
 frf:=I.stkFree
theorem cxComp_inv(hcap:capOk N X.N scope X.env.scope caps=true)(hkind:scope.kind=.function)(hcell:∀ y∈scope.names,y.2≠.cell)(I:Inv X pins sg H s)
  (hcl1:∀ p∈cl,X.env.cells.lookup p.1=some p.2) (hcl2:∀ x,(x,NameKind.free)∈scope.names->∃ c,(x,c)∈cl)
  (hf:∀ b∈fp,FpOk X pins H b) (hlt:∀ b∈fp,b < s.heap.objs.size) (hk:∀ b u,s.heap.get? b=some u->h1.get? b=some u) (hns:h1.Ns s.heap.objs.size m0) :
  Inv (cxComp X N scope cl s.heap.objs.size s H fp) [] (capSt caps sg) H { s with heap:=h1,toks:=tk } where
 ok:=cxComp_ok hkind hcell I hcl1 hcl2 hf hlt
 os:=rfl
 bare:=I.bare
 base:=Un.kept hk
 loc:=by
  refine ⟨m0,hns,fun i x v e1 e2 e3=>?_⟩
  have e2':∃ j,caps[i]?=some (some j)/\sg[j]?=some (some v):=by
   unfold capSt at e2
   rw [List.getElem?_map] at e2
   cases hc:caps[i]? with
   | none=>rw [hc] at e2; simp at e2
   | some o=>
    rw [hc] at e2
    cases o with
    | none=>simp at e2
    | some j=>
     refine ⟨j,rfl,?_⟩
     simp only [Option.map_some,Option.bind_some,Option.some.injEq] at e2
     cases hj:sg[j]? with
     | none=>rw [hj] at e2; simp at e2
     | some y=>rw [hj] at e2; simp at e2; rw [e2]
  obtain ⟨j,hj1,hj2⟩:=e2'
  obtain ⟨x',n1,n2,f1,f2⟩:=capOk.get hcap hj1
  have e1':N[i]?=some x:=e1
  rw [e1'] at n1
  obtain rfl:x=x':=Option.some.inj n1
  obtain ⟨m,hn,hm⟩:=I.loc
  obtain ⟨u,ru,l⟩:=hm j x v n2 hj2 (f2.elim (fun z=>.inr (.inl z)) fun z=>.inr (.inr z))
  refine ⟨u,ru,.inr ⟨relabel_vis f1,?_⟩⟩
  rcases l with ⟨k,_⟩ | ⟨_,c,hc,hcell⟩
  ·have k':X.env.scope.names.lookup x=some .local:=k
   rcases f2 with z | z<;>(rw [k'] at z; cases z)
  ·obtain ⟨c',hc'⟩:=hcl2 x (lookup_of_mem_some f1)
   obtain ⟨c'',hc''⟩:=lookup_isSome_of_mem hc'
   have q:X.env.cells.lookup x=some c'':=hcl1 (x,c'') (lookup_of_mem_some hc'')
   rw [hc] at q
   obtain rfl:c=c'':=Option.some.inj q
   obtain ⟨o,ho,hd⟩:=hcell
   exact ⟨c,hc'',o,hk c o ho,hd⟩
 cell:=fun x c hx=>by
  obtain ⟨v,o,ho,hd⟩:=I.cell x c (hcl1 (x,c) (lookup_of_mem_some hx))
  exact ⟨v,o,hk c o ho,hd⟩
 free:=I.hok.fresh (Nat.le_refl _)
 freeC:=fun x c hx=>I.freeC x c (hcl1 (x,c) (lookup_of_mem_some hx))
 pin:=fun p hp=>nomatch hp
 hok:=I.hok.kept hk
 len:=by
  show (capSt caps sg).length=N.length
  unfold capSt
  rw [List.length_map]
  exact capOk.len hcap
end
def PTs(X:Cx)(ifs:List Expr)(t:TT):Prop:=
 ∀ (pins:List (Addr × Obj)) (s:Shared) (sg:St) (H:Hp) (Q:Bool->Hp->Prop),Inv X pins sg H s->t sg H Q->
  wpAny (model X.prog X.w) X.A (forIn ifs true fun c r=>if r=true then do let ok <-isTrue c X.env (eval c X.env); pure (ForInStep.yield ok) else pure (ForInStep.yield r)) (TP X pins sg Q) X.xe s
def tAll:TT:=fun _ H Q=>Q true H
theorem pts_nil{X:Cx}:PTs X [] tAll:=fun _ _ _ H _ I h=>wpAny_tests_nil ⟨H,I,h⟩
theorem pts_one{X:Cx}{c:Expr}{t:TT}(h:PT X c t):PTs X [c] t:=fun pins s sg H Q I hq=>wpAny_tests_one (h pins s sg H Q I hq)
section
variable {prog:Program}{w:World}{A:Around}{R:Result->Shared->Prop}{s:Shared}
theorem compLoop_own{elt target iter:Expr}{ifs:List Expr}{scope:Scope}{pos:Pos}{it acc:Value}{env:Env}(I:Nat->Shared->Prop)
  (turn:∀ n s,I n s->wpAny (model prog w) A (pyNext it) (fun r s1=>match r with
   | none=>R (.ok .next) s1
   | some v=>wpAny (model prog w) A (letOwnedTupleGo target it v) (fun _ s1'=>wpAny (model prog w) A (assign target env v) (fun _ s2=>
     wpAny (model prog w) A (forIn ifs true fun c r=>if r=true then do let ok <-isTrue c env (eval c env); pure (ForInStep.yield ok) else pure (ForInStep.yield r)) (fun ok s3=>
      if ok=true then wpAny (model prog w) A (eval elt env) (fun x s4=>
       wpAny (model prog w) A (call (.builtin "list.append") [acc,x]) (fun _ s5=>∃ m,m < n/\I m s5) (fun _ _=>False) s4) (fun _ _=>False) s3
      else ∃ m,m < n/\I m s3) (fun _ _=>False) s2) (fun _ _=>False) s1') (fun _ _=>False) s1) (fun _ _=>False) s)
  (n:Nat) (h:I n s) :
  codeAny (model prog w) A (.compLoop (.ListComp elt [⟨target,iter,ifs,0⟩] scope pos) 0 it acc env) R s:=by
 refine codeAny_loop rfl I (fun n s hI=>?_) n h
 show wpAny _ A ((compTurn (.ListComp elt [⟨target,iter,ifs,0⟩] scope pos) 0 it acc env).onRaise (fun x=>do noteFrame x env; theTreesLotGoes x)) _ _ s
 refine wpAny_noted ?_
 rw [compTurn_list]
 refine wpAny_bind (wpAny_standAt (wpAny_bind (wpAny_mono (turn n s hI) (fun r s1 h1=>?_) fun _ _ h'=>h'.elim)))
 cases r with
 | none=>exact wpAny_pure h1
 | some v=>
  refine wpAny_bind (wpAny_mono h1 (fun _ s1' h1'=>?_) fun _ _ h'=>h'.elim)
  refine wpAny_bind (wpAny_mono h1' (fun _ s2 h2=>wpAny_bind (wpAny_mono h2 (fun ok s3 h3=>?_) fun _ _ h'=>h'.elim)) fun _ _ h'=>h'.elim)
  cases ok with
  | false=>exact wpAny_pure ⟨rfl,h3⟩
  | true=>
   exact wpAny_bind (wpAny_bind (wpAny_mono h3 (fun x s4 h4=>wpAny_bind (wpAny_mono h4 (fun _ s5 h5=>wpAny_pure (wpAny_pure ⟨rfl,h5⟩)) fun _ _ h'=>h'.elim)) fun _ _ h'=>h'.elim))
end
def KeepG(caps:List (Option Nat))(g:TG):Prop:=∀ (x:V) (sg:St) (H:Hp) (Q:St->Hp->Prop),g x sg H Q->g x sg H fun s2 H2=>Q s2 H2/\∀ (j k:Nat),caps[j]?=some (some k)->s2[j]?=sg[j]?
def KeepGs(caps:List (Option Nat))(g:TGs):Prop:=∀ (x:List V) (sg:St) (H:Hp) (Q:St->Hp->Prop),g x sg H Q->g x sg H fun s2 H2=>Q s2 H2/\∀ (j k:Nat),caps[j]?=some (some k)->s2[j]?=sg[j]?
theorem kg_name{caps:List (Option Nat)}{i:Nat}(h:caps[i]?=some none:=by rfl):KeepG caps (gName i):=fun x sg H Q q=>⟨q,fun j k e=>by
 have:i≠j:=fun z=>by subst z; rw [h] at e; cases e
 exact List.getElem?_set_ne this⟩
theorem kg_nil{caps:List (Option Nat)}:KeepGs caps gNil:=fun x sg H Q ⟨e,q⟩=>⟨e,q,fun _ _ _=>rfl⟩
theorem kg_cons{caps:List (Option Nat)}{t:TG}{u:TGs}(mt:∀ x sg H (Q Q':St->Hp->Prop),(∀ a b,Q a b->Q' a b)->t x sg H Q->t x sg H Q')(mu:∀ x sg H (Q Q':St->Hp->Prop),(∀ a b,Q a b->Q' a b)->u x sg H Q->u x sg H Q')
  (h:KeepG caps t) (h2:KeepGs caps u):KeepGs caps (gCons t u):=fun x sg H Q ⟨v,r,e,q⟩=>
 ⟨v,r,e,mt _ _ _ _ _ (fun s2 H2 ⟨q2,k2⟩=>mu _ _ _ _ _ (fun s3 H3 ⟨q3,k3⟩=>⟨q3,fun j k e=>(k3 j k e).trans (k2 j k e)⟩) (h2 _ _ _ _ q2)) (h _ _ _ _ q)⟩
theorem kg_tup{caps:List (Option Nat)}{K:PySem.W.Frag}{n:Nat}{t:TGs}(h:KeepGs caps t):KeepG caps (gTup K n t):=fun x sg H Q ⟨a,xs,e,hq,hl,q⟩=>⟨a,xs,e,hq,hl,h _ _ _ _ q⟩
theorem gName_mono{i:Nat}:∀ x sg H (Q Q':St->Hp->Prop),(∀ a b,Q a b->Q' a b)->gName i x sg H Q->gName i x sg H Q':=fun _ _ _ _ _ h q=>h _ _ q
theorem gNil_mono:∀ x sg H (Q Q':St->Hp->Prop),(∀ a b,Q a b->Q' a b)->gNil x sg H Q->gNil x sg H Q':=fun _ _ _ _ _ h q=>⟨q.1,h _ _ q.2⟩
theorem gCons_mono{t:TG}{u:TGs}(mt:∀ x sg H (Q Q':St->Hp->Prop),(∀ a b,Q a b->Q' a b)->t x sg H Q->t x sg H Q')(mu:∀ x sg H (Q Q':St->Hp->Prop),(∀ a b,Q a b->Q' a b)->u x sg H Q->u x sg H Q') :
  ∀ x sg H (Q Q':St->Hp->Prop),(∀ a b,Q a b->Q' a b)->gCons t u x sg H Q->gCons t u x sg H Q':=fun _ _ _ _ _ h ⟨v,r,e,q⟩=>⟨v,r,e,mt _ _ _ _ _ (fun _ _ z=>mu _ _ _ _ _ h z) q⟩
theorem kg_pair{caps:List (Option Nat)}{K:PySem.W.Frag}{i j:Nat}(h:caps[i]?=some none:=by rfl)(h2:caps[j]?=some none:=by rfl):KeepG caps (gTup K 2 (gCons (gName i) (gCons (gName j) gNil))):=
 kg_tup (kg_cons gName_mono (gCons_mono gName_mono gNil_mono) (kg_name h) (kg_cons gName_mono gNil_mono (kg_name h2) kg_nil))
def lcW(J:It)(g:TG)(tt:TT)(te:TE)(sg':St)(Q:VK)(H1:Hp):Prop:=
 ∀ D,H1 D=none->∃ W:Nat->Nat->Hp->Prop,(∃ m,W 0 m (upd H1 D (.lst [])))/\∀ i m H,W i m H->
  (J.stop i H/\Q (.ref D) H)∨(J.go i H/\∀ x H',J.yld i H x H'->g x sg' H' fun s2 H2=>tt s2 H2 fun b H3=>if b=true then
   te s2 H3 fun y H4=>∃ xs,H4 D=some (.lst xs)/\xs.length < sizeLine/\∃ m',m' < m/\W (i+1) m' (upd H4 D (.lst (xs++[y])))
   else ∃ m',m' < m/\W (i+1) m' H3)
section
variable {X:Cx}{N:List Str}{scope:Scope}{caps:List (Option Nat)}{tg elt iter:Expr}{ifs:List Expr}{wi:TI}{g:TG}{tt:TT}{te:TE}{pos:Pos}
theorem lc_block{pins:List (Addr × Obj)}{sg:St}{H:Hp}{s2:Shared}{cl:List (Str × Addr)}{it:Addr}{fp:List Addr}{tn:Nat->Heap->Prop}{J:It}{Q:VK}{E:Value->Shared->Prop}{RR:Value->Addr->Result->Shared->Prop}
  (hc:X.calm=true) (hcap:capOk N X.N scope X.env.scope caps=true) (hkind:scope.kind=.function) (hcell:∀ y∈scope.names,y.2≠.cell)
  (hg:∀ cl C s0 H0 fp,PG (cxComp X N scope cl C s0 H0 fp) tg g) (hgk:KeepG caps g) (ht:∀ cl C s0 H0 fp,PTs (cxComp X N scope cl C s0 H0 fp) ifs tt) (he:∀ cl C s0 H0 fp,PE (cxComp X N scope cl C s0 H0 fp) elt te)
  (hcl1:∀ p∈cl,X.env.cells.lookup p.1=some p.2) (hcl2:∀ x,(x,NameKind.free)∈scope.names->∃ c,(x,c)∈cl)
  (I2:Inv X pins sg H s2) (T:Turn X.prog X.w X.K tg J fp it tn) (st2:tn 0 s2.heap) (f2:∀ b∈fp,FpOk X pins H b) (hw:lcW J g tt te (capSt caps sg) Q H)
  (hRR:∀ (D C:Addr) (s':Shared) (H':Hp) (m':Str->Option Value),Inv X pins sg H' s'->s'.heap.Ns C m'->H' C=none->s2.heap.objs.size<=C->(∀ x c,X.env.cells.lookup x=some c->c≠C)->(∀ p∈X.pn++pins,p.1≠C)->C≠X.env.locals->Q (.ref D) H'->RR (.ref D) C (.ok .next) s') :
  wpAny (model X.prog X.w) X.A (newList []) (fun acc s3=>wpAny (model X.prog X.w) X.A (newFunctionEnv scope X.env.globals cl [] X.env.qual none .none (some X.env)) (fun cenv s4=>
   codeAny (model X.prog X.w) X.A (.compStart (.ListComp elt [⟨tg,iter,ifs,0⟩] scope pos) 0 (.ref it) acc { cenv with scope:=relabel scope X.env }) (RR acc cenv.locals) s4) E s3) E s2:=by
 refine wpAny_newObj_type ?_
 have I3:Inv X pins sg (upd H s2.heap.objs.size (.lst [])) { s2 with heap:=s2.heap.push { cls:=.type "list",dict:=none,data:=.seq ([]:List Value).toArray } }:=
  I2.laid (t':=s2.toks) (fun b u e=>Heap.get?_push_of_some _ e) (Nat.le_refl _) ⟨Nat.zero_le _,[],0,.nil,Heap.get?_push_size _ rfl⟩
 have hfree:H s2.heap.objs.size=none:=I2.hok.fresh (Nat.le_refl _)
 obtain ⟨W,⟨mm,w0⟩,turn⟩:=hw s2.heap.objs.size hfree
 generalize hD:s2.heap.objs.size=D at *
 generalize hs3:({ s2 with heap:=s2.heap.push { cls:=.type "list",dict:=none,data:=.seq ([]:List Value).toArray } }:Shared)=s3 at *
 have hlt3:∀ b o,s2.heap.get? b=some o->s3.heap.get? b=some o:=fun b o e=>by rw [<-hs3]; exact Heap.get?_push_of_some _ e
 have hsz3:s3.heap.objs.size=D+1:=by rw [<-hs3,<-hD]; exact Heap.size_push ..
 have fpD:∀ b∈fp,b < D:=fun b hb=>by
  obtain ⟨o,ho,_⟩:=T.obj 0 _ st2 b hb
  rw [<-hD]; exact Heap.lt_size ho
 have f3:∀ b∈fp,FpOk X pins (upd H D (.lst [])) b:=fun b hb=>⟨by rw [upd_ne (Nat.ne_of_lt (fpD b hb))]; exact (f2 b hb).1,(f2 b hb).2⟩
 have lt3:∀ b∈fp,b < s3.heap.objs.size:=fun b hb=>by rw [hsz3]; exact Nat.lt_succ_of_lt (fpD b hb)
 have st3:tn 0 s3.heap:=T.keep 0 _ _ st2 fun b _ o e=>hlt3 b o e
 refine wpAny_newFunctionEnv hcell (by intro y hy; simp at hy) (fun h1 hns1 hsb1=>?_) hkind
 try dsimp only at hns1 hsb1 ⊢
 have keep1:∀ b u,s3.heap.get? b=some u->h1.get? b=some u:=fun b u e=>hsb1.extBut b u (Nat.ne_of_lt (Heap.lt_size e)) (Heap.get?_push_of_some _ e)
 have I4:=cxComp_inv (N:=N) (tk:=s3.toks+([]:List (Str × Value)).length) hcap hkind hcell I3 hcl1 hcl2 f3 lt3 keep1 hns1
 have loop:codeAny (model X.prog X.w) X.A (.compLoop (.ListComp elt [⟨tg,iter,ifs,0⟩] scope pos) 0 (.ref it) (.ref D) (compEnvC scope cl s3.heap.objs.size X.env)) (RR (.ref D) s3.heap.objs.size) { s3 with heap:=h1,toks:=s3.toks+([]:List (Str × Value)).length }:=by
  generalize hX':cxComp X N scope cl s3.heap.objs.size s3 (upd H D (.lst [])) fp=X' at I4
  have eP:X'.prog=X.prog:=by rw [<-hX']; rfl
  have ew:X'.w=X.w:=by rw [<-hX']; rfl
  have eK:X'.K=X.K:=by rw [<-hX']; rfl
  have eA:X'.A=X.A:=by rw [<-hX']; rfl
  have eE:X'.env=compEnvC scope cl s3.heap.objs.size X.env:=by rw [<-hX']; rfl
  have ex:X'.xe=fun _ _=>False:=by rw [<-hX']; rfl
  have ecalm:X'.calm=true:=by rw [<-hX']; exact hc
  have hg':PG X' tg g:=by rw [<-hX']; exact hg _ _ _ _ _
  have ht':PTs X' ifs tt:=by rw [<-hX']; exact ht _ _ _ _ _
  have he':PE X' elt te:=by rw [<-hX']; exact he _ _ _ _ _
  have stat:∀ {H':Hp},(∀ b∈fp,H' b=none)->∀ b∈fp,FpOk X' [] H' b:=fun {H'} hn b hb=>by
   refine ⟨hn b hb,?_,?_,?_,?_,fun p hp=>?_⟩
   ·rw [<-hX']; exact Nat.ne_of_lt (lt3 b hb)
   ·rw [<-hX']
    exact fun z=>(cxComp_ok (N:=N) hkind hcell I3 hcl1 hcl2 f3 lt3).exfs b hb z
   ·rw [<-hX']; exact .inl hb
   ·rw [<-hX']
    exact ((cxComp_ok (N:=N) hkind hcell I3 hcl1 hcl2 f3 lt3).exf b hb).2
   ·rw [<-hX'] at hp; cases hp
  have out:∀ {sg':St} {H':Hp} {s':Shared},Inv X' [] sg' H' s'->Inv X pins sg H' s':=fun {sg' H' s'} I'=>by
   have hb:=I'.base
   rw [<-hX'] at hb
   have ho:=I'.os
   rw [<-hX'] at ho
   have hk:=I'.hok
   rw [eP,ew] at hk
   exact I3.call' (ch:=fp) ho hb hk I'.bare fun b hb=>⟨(f3 b hb).2.2.2.1,(f3 b hb).2.1,(f3 b hb).2.2.2.2.1,(f3 b hb).2.2.2.2.2⟩
  rw [<-eE,<-eA,<-eP,<-ew]
  refine compLoop_own (fun n s'=>∃ i H',Inv X' [] (capSt caps sg) H' s'/\tn i s'.heap/\(∀ b∈fp,H' b=none)/\W i n H') ?_ mm
   ⟨0,_,I4,T.keep 0 _ _ st3 fun b _ o e=>keep1 b o e,fun b hb=>(f3 b hb).1,w0⟩
  rintro n s5 ⟨i,H5,I5,st5,fr5,w5⟩
  rcases turn i n H5 w5 with ⟨stop,q⟩ | ⟨go,step⟩
  ·have z:=T.done X' eP ew eK ecalm i [] s5 _ H5 (fun _ _=>False) I5 (stat fr5) st5 stop
   rw [<-eP,<-ew] at z
   refine thn z fun r s6 h_=>?_; obtain ⟨hr,I6⟩:=h_
   subst hr
   obtain ⟨m',hn',_⟩:=I6.loc
   have hfr:=I6.free
   rw [eE] at hn' hfr
   refine hRR D s3.heap.objs.size s6 H5 m' (out I6) hn' hfr (by rw [hsz3]; exact Nat.le_succ _) (fun x c e z=>?_) (fun p hp z=>?_) (fun z=>?_) q
   ·obtain ⟨v,o,ho,_⟩:=I3.cell x c e
    rw [z] at ho
    exact absurd (Heap.lt_size ho) (Nat.lt_irrefl _)
   ·have:=Heap.lt_size (I3.pin p hp).1
    rw [z] at this
    exact absurd this (Nat.lt_irrefl _)
   ·have:=I3.lt
    rw [<-z] at this
    exact absurd this (Nat.lt_irrefl _)
  ·have z:=T.item X' eP ew eK ecalm i [] s5 _ H5 (fun _ _=>False) I5 (stat fr5) st5 go
   rw [<-eP,<-ew] at z
   refine thn z fun r s6 h_=>?_; obtain ⟨u,hr,h6⟩:=h_
   subst hr
   dsimp only
   refine thn h6 fun _ s7 h_=>?_; obtain ⟨x,H7,I7,r7,y7,st7,fr7⟩:=h_
   have I7':=I7.pinned (stat fr7) (T.obj _ _ st7)
   have q7:=step x H7 y7
   have a7:=hg' _ s7 (capSt caps sg) H7 x u _ I7' r7 (hgk _ _ _ _ q7)
   rw [ex] at a7
   refine thn a7 fun _ s8 h_=>?_; obtain ⟨sg8,H8,I8,q8,k8⟩:=h_
   have k8':∀ (j:Nat) (v:V),(capSt caps sg)[j]?=some (some v)->sg8[j]?=some (some v):=fun j v e=>by
    have e':=e
    unfold capSt at e'
    rw [List.getElem?_map] at e'
    cases hc:caps[j]? with
    | none=>rw [hc] at e'; simp at e'
    | some o=>
     cases o with
     | none=>rw [hc] at e'; simp at e'
     | some k=>rw [k8 j k hc]; exact e
   have a8:=ht' _ s8 sg8 H8 _ I8 q8
   rw [ex] at a8
   refine thn a8 fun ok s9 h_=>?_; obtain ⟨H9,I9,q9⟩:=h_
   have again:∀ {sg':St} {H':Hp} {s':Shared} {m':Nat},Inv X' ([]++pinsAt fp s7.heap) sg' H' s'->(∀ (j:Nat) (v:V),(capSt caps sg)[j]?=some (some v)->sg'[j]?=some (some v))->m' < n->W (i+1) m' H'->
     ∃ m,m < n/\∃ i H',Inv X' [] (capSt caps sg) H' s'/\tn i s'.heap/\(∀ b∈fp,H' b=none)/\W i m H':=fun {sg' H' s' m'} I' hs hm hw=>by
    refine ⟨m',hm,i+1,H',I'.unpinned.forget (I4.len.trans I'.len.symm) hs,T.keep _ _ _ st7 fun b hb o e=>(I'.pin (b,o) (List.mem_append_right _ (List.mem_append_right _ (mem_pinsAt hb e)))).1,fun b hb=>?_,hw⟩
    obtain ⟨o,e,d⟩:=T.obj _ _ st7 b hb
    exact (I'.pin (b,o) (List.mem_append_right _ (List.mem_append_right _ (mem_pinsAt hb e)))).2.1
   cases ok with
   | false=>
    obtain ⟨m',hm,w9⟩:=q9
    exact again I9 k8' hm w9
   | true=>
    have a9:=he' _ s9 sg8 H9 _ I9 q9
    rw [ex] at a9
    refine thn a9 fun v s10 h_=>?_; obtain ⟨y,H10,I10,r10,xs,hD',hz,m',hm,w10⟩:=h_
    have a10:=mt_append (X:=X') _ s10 sg8 H10 (.ref D) [y] (.ref D) [v] (fun _ H'=>W (i+1) m' H') I10 rfl (.cons r10 .nil) ⟨D,xs,y,rfl,rfl,hD',hz,w10⟩
    rw [ex] at a10
    exact thn a10 fun _ s11 ⟨_,H11,I11,_,w11⟩=>again I11 k8' hm w11
 exact codeAny_compStart_list loop (T.self _ _ _ _ _ (T.keep 0 _ _ st3 fun b _ o e=>keep1 b o e) loop)
def tLC(caps:List (Option Nat))(wi:TI)(g:TG)(tt:TT)(te:TE):TE:=fun sg H Q=>wi sg H fun J H1=>lcW J g tt te (capSt caps sg) Q H1
theorem freeC_of{X:Cx}{scope:Scope}(ok:X.Ok)(hfr:scope.names.all (fun p=>p.2 != .free||(X.env.scope.names.lookup p.1 == some .cell||X.env.scope.names.lookup p.1 == some .free))=true) :
  ∀ x,(x,NameKind.free)∈scope.names->∃ c,X.env.cells.lookup x=some c:=fun x hx=>by
 have q:=List.all_eq_true.mp hfr (x,.free) hx
 simp only [bne_self_eq_false,Bool.false_or,Bool.or_eq_true] at q
 exact ok.has x (q.imp (fun z=>eq_of_beq z) fun z=>eq_of_beq z)
theorem pe_lc(hc:X.calm=true)(hi:PI X tg iter wi)(hg:∀ cl C s0 H0 fp,PG (cxComp X N scope cl C s0 H0 fp) tg g)(hgk:KeepG caps g)(ht:∀ cl C s0 H0 fp,PTs (cxComp X N scope cl C s0 H0 fp) ifs tt)(he:∀ cl C s0 H0 fp,PE (cxComp X N scope cl C s0 H0 fp) elt te)
  (hcap:capOk N X.N scope X.env.scope caps=true:=by rfl) (hkind:scope.kind=.function:=by rfl) (hcell:scope.names.all (fun p=>p.2 != .cell)=true:=by rfl)
  (hnames:scope.names.all (fun p=>p.2 != .local||scope.names.lookup p.1 == some .local)=true:=by rfl)
  (hfr:scope.names.all (fun p=>p.2 != .free||(X.env.scope.names.lookup p.1 == some .cell||X.env.scope.names.lookup p.1 == some .free))=true:=by rfl)
  (hs:∀ x,foldedSetIterable iter X.env x=pure x:=by intro _; rfl):PE X (.ListComp elt [⟨tg,iter,ifs,0⟩] scope pos) (tLC caps wi g tt te):=by
 intro pins s sg H Q I h
 have hcell':∀ y∈scope.names,y.2≠.cell:=fun y hy=>by simpa using List.all_eq_true.mp hcell y hy
 have hnames':∀ x∈scope.names,x.2=.local->scope.names.lookup x.1=some .local:=fun x hx e=>by
  have q:=List.all_eq_true.mp hnames x hx
  rw [e] at q
  simpa using q
 obtain ⟨cl,hclos,hcl1,hcl2⟩:=closureFor_of (scope:=scope) (env:=X.env) (freeC_of I.ok hfr)
 rw [eval_ListComp]
 refine wpAny_comprehension_free (use:=none) rfl hs hclos hkind hnames' (thn (hi pins s sg H _ I h) fun v s1 h1=>thn h1 fun itv s2 h2=>?_)
 obtain ⟨it,fp,tn,J,H2,e,I2,T,st2,f2,hw⟩:=h2
 subst e
 refine lc_block (RR:=fun acc C=>compPost (model X.prog X.w) X.A X.xe none (EP X pins sg Q) acc C) hc hcap hkind hcell' hg hgk ht he hcl1 hcl2 I2 T st2 f2 hw ?_
 intro D C s' H' m' I' hn hfree hCs hCc hCp hCl q
 refine ⟨m',hn,fun h' hs'=>⟨.ref D,H',?_,rfl,q⟩⟩
 exact I'.turned (t':=s'.toks) (it:=C) (fun b o hb e=>(hs'.2 b hb).trans e) hfree hCl (.inr (Nat.le_trans I2.sz hCs)) hCc hCp
theorem ps_setLC{i:Nat}{y:Str}{py spos:Pos}(hN:X.N.Nodup)(hiy:X.N[i]?=some y)(hy:X.env.scope.names.lookup y=some .local)(hc:X.calm=true)(hi:PI X tg iter wi)(hg:∀ cl C s0 H0 fp,PG (cxComp X N scope cl C s0 H0 fp) tg g)(hgk:KeepG caps g)(ht:∀ cl C s0 H0 fp,PTs (cxComp X N scope cl C s0 H0 fp) ifs tt)(he:∀ cl C s0 H0 fp,PE (cxComp X N scope cl C s0 H0 fp) elt te)
  (hsw:swapsWith (.ListComp elt [⟨tg,iter,ifs,0⟩] scope pos) (some (.Name y py)) spos.line X.env=pure true:=by rfl)
  (hcap:capOk N X.N scope X.env.scope caps=true:=by rfl) (hkind:scope.kind=.function:=by rfl) (hcell:scope.names.all (fun p=>p.2 != .cell)=true:=by rfl)
  (hnames:scope.names.all (fun p=>p.2 != .local||scope.names.lookup p.1 == some .local)=true:=by rfl)
  (hfr:scope.names.all (fun p=>p.2 != .free||(X.env.scope.names.lookup p.1 == some .cell||X.env.scope.names.lookup p.1 == some .free))=true:=by rfl)
  (hs:∀ x,foldedSetIterable iter X.env x=pure x:=by intro _; rfl):PS X (.Assign [.Name y py] (.ListComp elt [⟨tg,iter,ifs,0⟩] scope pos) spos) (tAsg (tLC caps wi g tt te) (gName i)):=by
 intro pins s sg H D0 I h
 have hcell':∀ y∈scope.names,y.2≠.cell:=fun y hy=>by simpa using List.all_eq_true.mp hcell y hy
 have hnames':∀ x∈scope.names,x.2=.local->scope.names.lookup x.1=some .local:=fun x hx e=>by
  have q:=List.all_eq_true.mp hnames x hx
  rw [e] at q
  simpa using q
 obtain ⟨cl,hclos,hcl1,hcl2⟩:=closureFor_of (scope:=scope) (env:=X.env) (freeC_of I.ok hfr)
 rw [exec_Assign_Name_used _ _ _ _ hsw]
 refine wpAny_bind (wpAny_standAt (wpAny_bind ?_))
 show wpAny _ X.A (do let _ <-comprehension (.ListComp elt [⟨tg,iter,ifs,0⟩] scope pos) scope X.env _ (newList []) false (eval iter X.env) (some (assign (.Name y py) X.env))) _ _ s
 refine wpAny_bind (wpAny_mono (wpAny_comprehension_free (use:=some (assign (.Name y py) X.env)) (Q:=fun _ s'=>SP X pins D0 .next s') rfl hs hclos hkind hnames'
  (thn (hi pins s sg H _ I h) fun v s1 h1=>thn h1 fun itv s2 h2=>?_)) (fun _ s' hq=>wpAny_pure (wpAny_pure hq)) fun _ _ e=>e)
 obtain ⟨it,fp,tn,J,H2,e,I2,T,st2,f2,hw⟩:=h2
 subst e
 refine lc_block (Q:=fun x H1=>gName i x sg H1 D0.nx) (RR:=fun acc C=>compPost (model X.prog X.w) X.A X.xe (some (assign (.Name y py) X.env)) (fun _ s'=>SP X pins D0 .next s') acc C) hc hcap hkind hcell' hg hgk ht he hcl1 hcl2 I2 T st2 f2 hw ?_
 intro D C s' H' m' I' hn hfree hCs hCc hCp hCl q
 show wpAny _ X.A (assign (.Name y py) X.env (.ref D)) _ _ _
 refine wpAny_assign_Name (store_ok2 I' hN hiy (.inl hy) (v:=.ref D) rfl (fun s3 I3 ⟨a,hs3,ha⟩=>?_) (.inr hy))
 have hCa:C≠a:=by
  rcases ha with z | z
  ·rw [z]; exact hCl
  ·exact fun z'=>hCc y a z z'.symm
 refine ⟨m',hn.sameBut hs3 hCa,fun h' hs'=>?_⟩
 exact ⟨_,H',I3.turned (t':=s3.toks) (it:=C) (fun b o hb e=>(hs'.2 b hb).trans e) hfree hCl (.inr (Nat.le_trans I2.sz hCs)) hCc hCp,q⟩
end
end L2
namespace L2
open PySem PySem.Spec PyProof.Rows
section
variable {X:Cx}
def rSlS:V->Option Int->Option Int->Hp->VK->Prop:=fun x lo hi H Q=>∃ z,x=.str z/\z.length<=sizeLine/\Q (.str (Txt.slice z lo hi)) H
theorem sl_str:SlR X rSlS:=by
 intro pins s sg H x v vl vu lo hi sl Q I rx hs pl pu h
 obtain ⟨z,rfl,hz,q⟩:=h
 obtain ⟨t,rfl⟩:=rx
 refine ⟨"str",_,F.slot_str_getitem.lookup,typeIs_str _ _ _,?_⟩
 have fin:∀ t' k,EP X pins sg Q (.str (Txt.slice z lo hi) t') { s with toks:=k }:=fun t' k=>⟨.str _,H,I.tok _,⟨_,rfl⟩,q⟩
 have le:=Nat.le_trans (Txt.slice_le z lo hi) hz
 cases pl with
 | none=>
  cases pu with
  | none=>exact wpAny_getItem_str_slice (l:=none) (u:=none) (st:=none) hs rfl (post_val_or_str ⟨le,fin⟩)
  | int j uj=>exact wpAny_getItem_str_slice (l:=none) (u:=some (j,uj)) (st:=none) hs rfl (post_val_or_str ⟨le,fin⟩)
 | int i ui=>
  cases pu with
  | none=>exact wpAny_getItem_str_slice (l:=some (i,ui)) (u:=none) (st:=none) hs rfl (post_val_or_str ⟨le,fin⟩)
  | int j uj=>exact wpAny_getItem_str_slice (l:=some (i,ui)) (u:=some (j,uj)) (st:=none) hs rfl (post_val_or_str ⟨le,fin⟩)
end
section
variable {X:Cx}{K:PySem.W.Frag}
theorem pg_tupK{es:List Expr}{k:Nat}{t:TGs}{n:Nat}{pos:Pos}(hK:X.K=K)(hc:X.calm=true)(h:PGs X es t)
  (hn:(assignEach es X.env).length=n:=by rfl) (hst:(assignEach es X.env).findIdx? (·.1)=none:=by rfl):PG X (.Tuple es k pos) (gTup K n t):=by subst hK; exact pg_tup hc h hn hst
end
theorem bt_int:bootBuiltins "int"=some (.type "int"):=by decide +kernel
theorem bt_list:bootBuiltins "list"=some (.type "list"):=by decide +kernel
theorem bt_bool:bootBuiltins "bool"=some (.type "bool"):=by decide +kernel
theorem bt_isinstance:bootBuiltins "isinstance"=some (.builtin "isinstance"):=by decide +kernel
theorem bt_enumerate:bootBuiltins "enumerate"=some (.type "enumerate"):=by decide +kernel
end L2
namespace L2
open PySem PySem.Spec PyProof.Rows
section
variable {prog:Program}{w:World}{A:Around}{E:Value->Shared->Prop}
theorem draw_list{it t:Addr}{items:Array Value}(hne:t≠it):∀ (n i:Nat) (s:Shared) (Q:List Value->Shared->Prop),s.heap.IsListIter it t i->s.heap.IsList t items->i+n<=items.size->
  (∀ h':Heap,h'.IsListIter it t (i+n)->Heap.SameBut it s.heap h'->Q ((items.toList.drop i).take n) { s with heap:=h' })->wpAny (model prog w) A (draw (.ref it) n) Q E s
 | 0,i,s,Q,hit,_,_,hQ=>by
  show wpAny _ _ (pure []) Q E s
  exact wpAny_pure (by simpa using hQ s.heap hit (Heap.SameBut.refl ..))
 | n+1,i,s,Q,hit,ht,hle,hQ=>by
  have hlt:i < items.size:=by lia
  show wpAny _ _ (pyNext (.ref it) >>= _) Q E s
  refine wpAny_bind (wpAny_pyNext_list_item hit ht (x:=items[i]) (by simp [hlt]) fun h1 hit1 hs1=>?_)
  refine wpAny_bind (wpAny_holding (draw_list hne n (i+1) _ _ hit1 (ht.extBut hs1.extBut hne) (by lia) fun h2 hit2 hs2=>wpAny_pure ?_))
  have hd:items.toList.drop i=items[i]::items.toList.drop (i+1):=by simp [List.drop_eq_getElem_cons,hlt]
  have:=hQ h2 (by rw [show i+(n+1)=i+1+n by lia]; exact hit2) (hs1.trans hs2)
  rw [hd,List.take_succ_cons] at this
  exact this
theorem unpackItems_list{s:Shared}{t:Addr}{items:Array Value}{Q:List Value->Shared->Prop}(hh:A.handled=none)(ht:s.heap.IsList t items)
  (hQ:∀ h',Heap.ExtBut s.heap.objs.size s.heap h'->Q items.toList { s with heap:=h' }):wpAny (model prog w) A (unpackItems (.ref t) items.size none) Q E s:=by
 have hlt:t≠s.heap.objs.size:=by obtain ⟨o,ho,_⟩:=ht; exact Nat.ne_of_lt (Heap.lt_size ho)
 unfold unpackItems
 refine wpAny_bind ?_
 ·unfold notIterableAtAll
  refine wpAny_bind (wpAny_specialOf ht.typeIs slot_list_iter.lookup ?_)
  refine wpAny_pure ?_
  simp only [Bool.false_eq_true,if_false]
  refine wpAny_bind (wpAny_holding (wpAny_pyIter_list ht ?_))
  refine wpAny_bind (wpAny_holding (draw_list hlt items.size 0 _ _ ⟨_,Heap.get?_push_size _ rfl,rfl,rfl⟩ (ht.push _) (by lia) fun h1 hit1 hs1=>?_))
  have hall:List.take items.size (List.drop 0 items.toList)=items.toList:=by
   rw [List.drop_zero]; exact List.take_of_length_le (by simp)
  rw [hall]
  rw [if_neg (by simp)]
  have ht1:h1.IsList t items:=(ht.push _).extBut hs1.extBut hlt
  refine wpAny_bind (wpAny_holding (wpAny_pyNext_list_end hh hit1 ht1 (by simp) fun h2 he2=>?_))
  simp only [Option.isSome_none,Bool.false_eq_true,if_false]
  refine wpAny_pure (hQ h2 fun b o hb e=>he2 b o hb (hs1.extBut b o hb (Heap.get?_push_of_some _ e)))
theorem assign_Tuple_list{s:Shared}{env:Env}{elts:List Expr}{x1}{pos:Pos}{t:Addr}{items:Array Value}{Q:Unit->Shared->Prop}(hh:A.handled=none)(ht:s.heap.IsList t items)
  (hn:(assignEach elts env).length=items.size) (hstar:(assignEach elts env).findIdx? (·.1)=none)
  (h:∀ h',Heap.ExtBut s.heap.objs.size s.heap h'->wpAny (model prog w) A (assignInOrder ((assignEach elts env).map (·.2)) items.toList) Q E { s with heap:=h' }) :
  wpAny (model prog w) A (assign (.Tuple elts x1 pos) env (.ref t)) Q E s:=by
 rw [PyProof.Rows.assign_Tuple]
 refine wpAny_bind (wpAny_standAt ?_)
 unfold unpack
 rw [hn,hstar]
 exact wpAny_bind (wpAny_holding (unpackItems_list hh ht fun h' hx=>h h' hx))
end
section
variable {X:Cx}{pos:Pos}
def gUnl(K:PySem.W.Frag)(n:Nat)(t:TGs):TG:=fun v sg H Q=>∃ a xs,v=.ref a/\SqL K H a xs/\xs.length=n/\t xs sg H Q
theorem pg_unl{es:List Expr}{k:Nat}{t:TGs}{n:Nat}(hc:X.calm=true)(h:PGs X es t)
  (hn:(assignEach es X.env).length=n:=by rfl) (hst:(assignEach es X.env).findIdx? (·.1)=none:=by rfl):PG X (.Tuple es k pos) (gUnl X.K n t):=by
 intro pins s sg H v u Q I r hw
 obtain ⟨a,xs,e1,hq,hl,hw⟩:=hw
 subst e1
 cases r
 obtain ⟨its,rv,ht,hz⟩:=I.list hq
 refine assign_Tuple_list (I.ok.hd hc) ht.isList (by simp [hn,<-hl,rv.length]) hst fun h' hx=>?_
 have I1:Inv X pins sg H { s with heap:=h' }:=I.kept (t':=s.toks) fun b o e=>hx b o (Nat.ne_of_lt (Heap.lt_size e)) e
 exact h pins _ sg H xs _ Q I1 (by simpa using rv) hw
def Ite(K:PySem.W.Frag)(a:Addr):It:=
 ⟨fun i H=>∃ xs x,SqL K H a xs/\xs[i]?=some x,fun i H v H'=>∃ p x,v=.ref p/\H p=none/\H'=upd H p (.tup [.int i,x])/\∀ xs,SqL K H a xs->xs[i]?=some x,fun i H=>∃ xs,SqL K H a xs/\xs.length<=i⟩
theorem turn_enum{P:Program}{w:World}{K:PySem.W.Frag}{elts:List Expr}{x1:Nat}{tp:Pos}(a it e:Addr)(hne:e≠it) :
  Turn P w K (.Tuple elts x1 tp) (Ite K a) [e,it] e (fun i h=>(∃ old,IsEnum h e it i old)/\h.IsListIter it a i) where
 mem:=by simp
 obj:=fun i h st b hb=>by
  obtain ⟨⟨old,he⟩,o,ho,hc,hd⟩:=st
  rcases List.mem_cons.mp hb with z | z
  ·subst z
   exact ⟨_,he,fun v z=>by
    have z':Data.fields _=Data.cell v:=z
    cases z'⟩
  ·have z':b=it:=by simpa using z
   subst z'
   exact ⟨o,ho,fun v z=>by rw [hd] at z; cases z⟩
 keep:=fun i h h' st k=>by
  obtain ⟨⟨old,he⟩,hi⟩:=st
  exact ⟨⟨old,k e (by simp) _ he⟩,hi.at fun o q=>k it (by simp) o q⟩
 item:=by
  intro X hP hw hK hc i pins s sg H E I hf st hg
  subst hP hw hK
  obtain ⟨⟨old,he⟩,hit⟩:=st
  obtain ⟨xs,x,hq,hx⟩:=hg
  obtain ⟨its,rv,p,hz⟩:=I.list hq
  obtain ⟨u,hu,ru⟩:=rv.get hx
  obtain ⟨f0,f1,f2,f3,f4,f5⟩:=hf e (by simp)
  obtain ⟨g0,g1,g2,g3,g4,g5⟩:=hf it (by simp)
  refine wpAny_pyNext_enum_item he hit p.isList (x:=u) (by simpa using hu) hne fun h1 eo hit1 htup hsz keep1=>?_
  refine ⟨_,rfl,wpAny_letOwnedTupleGo_enum eo fun h2 en sb=>?_⟩
  have hn:H s.heap.objs.size=none:=I.hok.fresh (Nat.le_refl _)
  have elt:e < s.heap.objs.size:=Heap.lt_size he
  have keep2:∀ b o,b≠e->b≠it->s.heap.get? b=some o->h2.get? b=some o:=fun b o n1 n2 q=>(sb.2 b n1).trans (keep1 b o n1 n2 q)
  have tup2:h2.get? s.heap.objs.size=some { cls:=.type "tuple",data:=.seq #[.int i s.toks,u] }:=(sb.2 _ (Nat.ne_of_gt elt)).trans htup
  have nH:∀ b v,H b=some v->b≠e/\b≠it/\b≠s.heap.objs.size:=fun b v q=>⟨(fun z=>by rw [z,f0] at q; cases q),(fun z=>by rw [z,g0] at q; cases q),ne_of_none q hn⟩
  have I2:Inv X pins sg (upd H s.heap.objs.size (.tup [.int i,x])) { s with heap:=h2,toks:=s.toks+1 }:=by
   refine I.step (g':=s.gens) (d':=s.drawn) (ch:=[e,it]) (fun b hb=>?_) (fun b o _ _ hc q _=>keep2 b o (fun z=>hc (by simp [z])) (fun z=>hc (by simp [z])) q)
    (fun b o _ _ hc q _=>⟨o.slots,keep2 b o (fun z=>hc (by simp [z])) (fun z=>hc (by simp [z])) q⟩) (fun b o hc q n=>by rw [upd_ne (Nat.ne_of_lt (Heap.lt_size q))]; exact n)
    (fun b o hc q=>⟨o,keep2 b o (fun z=>hc (by simp [z])) (fun z=>hc (by simp [z])) q⟩) (fun b ys q=>by rw [upd_ne (nH b _ q).2.2]; exact q) (fun b o v q=>by rw [upd_ne (nH b _ q).2.2]; exact q)
    (fun b ps q=>⟨#[],by rw [upd_ne (nH b _ q).2.2,q]; simp⟩) (fun m hm=>?_) (fun b v q=>?_) I.bare
   ·rcases List.mem_cons.mp hb with z | z
    ·subst z; exact ⟨f3,f1,f4,f5⟩
    ·have z':b=it:=by simpa using z
     subst z'; exact ⟨g3,g1,g4,g5⟩
   ·obtain ⟨o,es,ep,ho,r⟩:=hm
    exact ⟨o,es,ep,keep2 _ o (Ne.symm f1) (Ne.symm g1) ho,r⟩
   ·by_cases hb:b=s.heap.objs.size
    ·subst hb
     rw [upd_same] at q
     cases q
     exact ⟨by show 2<=sizeLine; decide,[.int i s.toks,u],.cons ⟨_,rfl⟩ (.cons ru .nil),_,tup2,rfl,_,rfl⟩
    ·rw [upd_ne hb] at q
     refine (I.hok b v q).stay (fun c v' hc q'=>?_) (fun c q'=>by rw [upd_ne (nH c _ q').2.2]; exact q') fun c ys q'=>by rw [upd_ne (nH c _ q').2.2]; exact q'
     rcases hc with z | z
     ·exact keep2 c v' (by rw [z]; exact (nH b v q).1) (by rw [z]; exact (nH b v q).2.1) q'
     ·exact keep2 c v' (nH c _ z).1 (nH c _ z).2.1 q'
  refine ⟨.ref s.heap.objs.size,_,I2,rfl,⟨s.heap.objs.size,x,rfl,hn,rfl,fun ys hy=>by rw [I.list_inj hy hq]; exact hx⟩,⟨⟨_,en⟩,?_⟩,fun b hb=>?_⟩
  ·obtain ⟨o,ho,r⟩:=hit1
   exact ⟨o,(sb.2 it (Ne.symm hne)).trans ho,r⟩
  ·rcases List.mem_cons.mp hb with z | z
   ·subst z; rw [upd_ne (Nat.ne_of_lt elt)]; exact f0
   ·have z':b=it:=by simpa using z
    subst z'
    obtain ⟨o,ho,_⟩:=hit
    rw [upd_ne (Nat.ne_of_lt (Heap.lt_size ho))]; exact g0
 done:=by
  intro X hP hw hK hc i pins s sg H E I hf st hg
  subst hP hw hK
  obtain ⟨⟨old,he⟩,hit⟩:=st
  obtain ⟨xs,hq,hx⟩:=hg
  obtain ⟨its,rv,p,hz⟩:=I.list hq
  obtain ⟨g0,g1,g2,g3,g4,g5⟩:=hf it (by simp)
  have hl:=rv.length
  exact wpAny_pyNext_enum_end (I.ok.hd hc) he hit p.isList (by simp; lia) fun h' eb=>⟨rfl,I.turned (t':=s.toks) (fun b o hb q=>eb b o hb q) g0 g1 g3 g4 g5⟩
 self:=fun _ _ _ _ _ st h=>by
  obtain ⟨⟨old,he⟩,_⟩:=st
  exact wpAny_pyIter_enum he h
def iEnum(K:PySem.W.Frag)(ta:TA):TI:=fun sg H R=>ta sg H fun vs H1=>∃ a,vs=[.ref a]/\(∃ xs,SqL K H1 a xs)/\R (Ite K a) H1
theorem pi_enum{elts:List Expr}{x1:Nat}{tp:Pos}{a:Expr}{ta:TA}{p pos:Pos}(hg:Gl X "enumerate")(hm:X.mg "enumerate"=none)(ha:PA X [a] ta)(hs:starEach [a] X.env=[(false,eval a X.env)]:=by rfl) :
  PI X (.Tuple elts x1 tp) (.Call (.Name "enumerate" p) [a] [] pos) (iEnum X.K ta):=by
 intro pins s sg H R I h
 refine Call_ (ld_blt I hg hm bt_enumerate (PyProof.Rows.callWith_type1 (thn (ha pos pins s sg H _ I h) fun us s1 ⟨vs,H1,I1,r1,q1⟩=>?_) hs rfl))
 obtain ⟨a',rfl,⟨xs,hq⟩,q⟩:=q1
 obtain ⟨u,rfl,ru⟩:=vals1 r1
 cases ru
 obtain ⟨its,rv,pl,hz⟩:=I1.list hq
 refine call_enumerate_list pl.isList fun h' en il hsz kp=>?_
 refine wpAny_pyIter_enum en ?_
 have I2:Inv X pins sg H1 { s1 with heap:=h' }:=I1.kept (t':=s1.toks) kp
 refine ⟨s1.heap.objs.size+1,[s1.heap.objs.size+1,s1.heap.objs.size],_,_,H1,rfl,I2,turn_enum a' s1.heap.objs.size (s1.heap.objs.size+1) (Nat.succ_ne_self _),⟨⟨_,en⟩,il⟩,fun b hb=>?_,q⟩
 rcases List.mem_cons.mp hb with z | z
 ·subst z; exact I1.fpOk (Nat.le_succ _) (I1.hok.fresh (Nat.le_succ _))
 ·have z':b=s1.heap.objs.size:=by simpa using z
  subst z'; exact I1.fpOk (Nat.le_refl _) (I1.hok.fresh (Nat.le_refl _))
end
end L2
namespace L2
open PySem PySem.Spec PyProof.Rows
section
variable {X:Cx}
def rIsi(K:PySem.W.Frag):List V->Hp->VK->Prop:=fun xs H Q=>∃ x c t k,xs=[x,.ty c]/\TyOf K H x t/\PySem.W.kitOne K t (.type c)=some k/\Q (.bl k) H
theorem call_isi:CallR X (.builtin "isinstance") (rIsi X.K):=by
 intro pins s sg H xs us Q I r h
 obtain ⟨x,c,t,k,rfl,ty,e,q⟩:=h
 obtain ⟨u,u2,rfl,ru,ru2⟩:=vals2 r
 cases ru2
 exact isinst_ok I ru ty e fun tk=>⟨.bl k,H,I.tok _,rfl,q⟩
end
end L2
namespace L2
open PySem PySem.Spec PyProof.Rows
section
variable {X:Cx}
theorem rel_key{k:Key}{v:Value}(h:keyIs k v=true):RelV (kV k) v:=by
 rcases keyIs_shape h with ⟨i,t,rfl,rfl⟩ | ⟨x,t,rfl,rfl⟩
 ·exact ⟨t,rfl⟩
 ·exact ⟨t,rfl⟩
theorem vals_of_get:∀ {xs:List V} {us:List Value},xs.length=us.length->(∀ (j:Nat) x u,xs[j]?=some x->us[j]?=some u->RelV x u)->Vals xs us:=by
 intro xs
 induction xs with
 | nil=>
  intro us hl _
  cases us with
  | nil=>exact .nil
  | cons _ _=>cases hl
 | cons x xs ih=>
  intro us hl h
  cases us with
  | nil=>cases hl
  | cons u us=>exact .cons (h 0 x u rfl rfl) (ih (Nat.succ.inj hl) fun j y v e1 e2=>h (j+1) y v e1 e2)
theorem kv_get{κ:Type}{kvs:List (κ × V)}{vs:List (κ × Value)}{j:Nat}{p:κ × V}(h:KV kvs vs):kvs[j]?=some p->∃ q,vs[j]?=some q/\p.1=q.1/\RelV p.2 q.2:=by
 induction h generalizing j with
 | nil=>intro e; cases e
 | cons r t ih=>
  intro e
  cases j with
  | zero=>obtain rfl:=Option.some.inj e; exact ⟨_,rfl,r⟩
  | succ j=>exact ih (j:=j) e
theorem call_list_dict(hc:X.calm=true):CallR X (.type "list") (fun xs H Q=>∃ a kvs,xs=[V.ref a]/\Rd H a (.dK kvs)/\∀ l,H l=none->Q (.ref l) (upd H l (.lst (kvs.map fun kv=>kV kv.1)))):=by
 intro pins s σ H xs us Q I rv h
 obtain ⟨a,kvs,rfl,e,q⟩:=h
 obtain ⟨u,rfl,ru⟩:=rv.one
 cases ru
 obtain ⟨z,hd,vs,rel,dd⟩:=dk_rd I.hok e
 have hl:vs.length<=sizeLine:=by rw [<-rel.length]; exact z
 obtain ⟨ep,da⟩:=dd.dictAt
 refine PySem.W.kdl_call (PySem.W.kdl_dict (knd:=mixKind X.prog X.w) (kvs:=vs) (ep:=ep) hd) (I.ok.hd hc) da hl fun h' tk acc c hk hnew hit=>?_
 have hv:Vals (kvs.map fun kv=>kV kv.1) acc.toList:=by
  refine vals_of_get (by have h1:=hit.1; have h2:=rel.length; simp only [List.length_map,Array.length_toList]; lia) fun j x u e1 e2=>?_
  rw [List.getElem?_map] at e1
  obtain ⟨p,h1,h2⟩:=Qm e1
  obtain ⟨k,y,h3,h4⟩:=hit.2 j u (by simpa using e2)
  obtain ⟨w,h5,h6⟩:=kv_get rel h1
  rw [h3] at h5
  injection h5 with h5
  subst h5 h2
  rw [h6.1]
  exact rel_key h4
 exact ⟨.ref _,_,I.laid (a:=s.heap.objs.size) (o:=.lst (kvs.map fun kv=>kV kv.1)) (t':=tk) hk (Nat.le_refl _) ⟨by rw [List.length_map]; exact z,acc.toList,c,hv,by rw [hnew]⟩,rfl,q _ (I.hok.fresh (Nat.le_refl _))⟩
end
end L2
namespace L2
open PySem PySem.Spec PyProof.Rows
section
variable {X:Cx}{a:Expr}{ta:TA}{pos p p' pos':Pos}
def tLR(ta:TA):TE:=fun σ H Q=>ta σ H fun vs H1=>∃ j:Int,vs=[.int j]/\-(2 ^ 62)<=j/\j<=16777216/\∀ l,H1 l=none->Q (.ref l) (upd H1 l (.lst ((List.range j.toNat).map fun (k:Nat)=>V.int k)))
theorem pe_listRange(hc:X.calm=true)(hg:Gl X "list")(hm:X.mg "list"=none)(hg':Gl X "range")(hm':X.mg "range"=none)(ha:PA X [a] ta)(hs:starEach [a] X.env=[(false,eval a X.env)]:=by rfl)
  (hs':starEach [.Call (.Name "range" p') [a] [] pos'] X.env=[(false,eval (.Call (.Name "range" p') [a] [] pos') X.env)]:=by rfl) :
  PE X (.Call (.Name "list" p) [.Call (.Name "range" p') [a] [] pos'] [] pos) (tLR ta):=by
 intro pins s σ H Q I h
 refine Call_ (ld_blt I hg hm boot_list (PyProof.Rows.callWith_type1 ?_ hs' rfl))
 rw [hs']
 show wpAny _ _ (spliced [(false,eval (.Call (.Name "range" p') [a] [] pos') X.env)]) _ _ s
 refine Calls.spliced_cons (Call_ (ld_blt I hg' hm' boot_range (PyProof.Rows.callWith_type1 (thn (ha pos' pins s σ H _ I h) fun us s1 ⟨vs,H1,I1,r1,q1⟩=>?_) hs rfl)))
 obtain ⟨j,e,q1,q2,q⟩:=q1
 subst e
 cases r1 with
 | cons r rr=>
  cases rr
  obtain ⟨t,rfl⟩:=r
  refine call_range_1 (Calls.spliced_nil ?_)
  have I2:Inv X pins σ H1 { s1 with heap:=s1.heap.push { cls:=.type "range",data:=.fields #[.int 0 s1.toks,.int j t,.int 1 (s1.toks+1)] },toks:=s1.toks+1+1 }:=I1.kept fun b o e=>Heap.get?_push_of_some _ e
  have hn:Builtin.Range.rangeSize 0 j 1=(j.toNat:Int):=by rw [rangeSize_one]; split<;>lia
  refine call_list_range (I2.ok.hd hc) (IsRange.new ..) (small_one (by lia) (by lia) q1 (by lia)) hn (by lia) fun h' tk acc c hk hnew hit=>?_
  have hv:Vals ((List.range j.toNat).map fun (k:Nat)=>V.int k) acc.toList:=by
   refine vals_of_get (by have h1:=hit.1; simp only [List.length_map,List.length_range,Array.length_toList]; lia) fun i x u e1 e2=>?_
   rw [List.getElem?_map] at e1
   obtain ⟨k,h1,h2⟩:=Qm e1
   obtain ⟨tk',h3⟩:=hit.2 i u (by simpa using e2)
   obtain ⟨h4,rfl⟩:=List.getElem?_eq_some_iff.mp h1
   subst h2 h3
   rw [List.getElem_range]
   exact ⟨tk',by rw [Int.zero_add,Int.mul_one]⟩
  exact ⟨.ref _,_,I2.laid (o:=.lst ((List.range j.toNat).map fun (k:Nat)=>V.int k)) (t':=tk) hk (Nat.le_refl _) ⟨by rw [List.length_map,List.length_range,sizeLine_eq]; lia,acc.toList,c,hv,by rw [hnew]⟩,rfl,q _ (I2.hok.fresh (Nat.le_refl _))⟩
end
end L2
namespace Dw
open PySem PySem.Spec PyProof.Rows L2
def Sx(l:List Nat):Str:=⟨l.toArray⟩
theorem Sx_cps(l:List Nat):(Sx l).cps.toList=l:=by simp [Sx]
theorem Sx_len(l:List Nat):(Sx l).length=l.length:=by simp [Sx,Str.length]
theorem Sx_inj{l m:List Nat}(h:Sx l=Sx m):l=m:=by
 have:=congrArg (fun x=>x.cps.toList) h
 simpa [Sx] using this
theorem Sx_app(l m:List Nat):Sx l++Sx m=Sx (l++m):=by
 show Str.mk _=_
 simp [Sx]
theorem Sx_to(l:List Nat){j:Int}(h0:0<=j)(h:j<=l.length):Txt.slice (Sx l) none (some j)=Sx (l.take j.toNat):=by
 have:=slice_closes_to (x:=Sx l) (j:=j) ⟨h0,by rw [Sx_cps]; exact h⟩
 rw [eq_of_beq this,Sx_cps]
 simp [Sx]
theorem Sx_from(l:List Nat){j:Int}(h0:0<=j)(h:j<=l.length):Txt.slice (Sx l) (some j) none=Sx (l.drop j.toNat):=by
 have:=slice_closes_from (x:=Sx l) (i:=j) ⟨h0,by rw [Sx_cps]; exact h⟩
 rw [eq_of_beq this,Sx_cps,List.take_of_length_le (by rw [List.length_drop]; lia)]
 rfl
def IsName(x:Str):Prop:=1<=x.length/\x.length<=8/\∀ c∈x.cps.toList,97<=c/\c<=122
abbrev letters:Str:="abcdefghijklmnopqrstuvwxyz"
theorem letters_at{i:Int}(h0:0<=i)(h:i < 26):atI letters.cps.toList i=some (97+i.toNat):=by
 have key:∀ j:Nat,j < 26->letters.cps.toList[j]?=some (97+j):=by decide +kernel
 have ek:i=((i.toNat:Nat):Int):=by lia
 have q:=atI_nat (key i.toNat (by lia))
 rw [<-ek] at q
 exact q
theorem letters_len:letters.length<=sizeLine:=by decide +kernel
end Dw
namespace Dw
open PySem PySem.Spec PyProof.Rows L2
structure Pairing (ps:List Nat) (n:Nat):Prop where
 len:ps.length=2*n
 lt:∀ k∈ps,k < n
 two:∀ k,k < n->ps.count k=2
structure Half (pl:List (Option Nat)) (n i:Nat):Prop where
 len:pl.length=2*n
 lt:∀ k,some k∈pl->k < i
 two:∀ k,k < i->pl.count (some k)=2
 free:pl.count none+2*i=2*n
theorem Half.start(n:Nat):Half (List.replicate (2*n) none) n 0:=by
 refine ⟨List.length_replicate ..,fun k hk=>?_,fun k hk=>absurd hk (Nat.not_lt_zero k),?_⟩
 ·have:=List.eq_of_mem_replicate hk
  cases this
 ·rw [List.count_replicate_self]; lia
theorem count_map_inj{α β:Type}[BEq α][LawfulBEq α][BEq β][LawfulBEq β]{f:α->β}(hf:∀ a b,f a=f b->a=b)(x:α):∀ l:List α,(l.map f).count (f x)=l.count x
 | []=>rfl
 | a::r=>by
  rw [List.map_cons,List.count_cons,List.count_cons,count_map_inj hf x r]
  by_cases e:a=x
  ·subst e; simp
  ·have e1:(a == x)=false:=by simpa using e
   have e2:(f a == f x)=false:=by simpa using fun z=>e (hf _ _ z)
   rw [e1,e2]
theorem getD_at{l:List Str}{k:Nat}(h:k < l.length):l.getD k Str.empty=l[k]:=by
 simp [List.getD,List.getElem?_eq_getElem h]
theorem Half.next{pl:List (Option Nat)}{n i f0 f1:Nat}(h:Half pl n i)(hi:i < n)(h0:pl[f0]?=some none)(h1:pl[f1]?=some none)(hne:f0≠f1):Half ((pl.set f1 (some i)).set f0 (some i)) n (i+1):=by
 obtain ⟨l1,e1⟩:=List.getElem?_eq_some_iff.mp h1
 have h0':(pl.set f1 (some i))[f0]?=some none:=by rw [List.getElem?_set_ne (Ne.symm hne)]; exact h0
 obtain ⟨l0,e0⟩:=List.getElem?_eq_some_iff.mp h0'
 have ci:pl.count (some i)=0:=by
  refine List.count_eq_zero.mpr fun hm=>?_
  exact absurd (h.lt i hm) (Nat.lt_irrefl _)
 have cn:=h.free
 have key:∀ x,((pl.set f1 (some i)).set f0 (some i)).count x=pl.count x - (if (none:Option Nat) == x then 1 else 0)+(if some i == x then 1 else 0) - (if (none:Option Nat) == x then 1 else 0)+(if some i == x then 1 else 0):=fun x=>by
  rw [List.count_set l0,e0,List.count_set l1,e1]
 refine ⟨by rw [List.length_set,List.length_set]; exact h.len,fun k hk=>?_,fun k hk=>?_,?_⟩
 ·rcases List.mem_or_eq_of_mem_set hk with z | z
  ·rcases List.mem_or_eq_of_mem_set z with z | z
   ·exact Nat.lt_succ_of_lt (h.lt k z)
   ·cases z; exact Nat.lt_succ_self _
  ·cases z; exact Nat.lt_succ_self _
 ·rw [key]
  by_cases e:k=i
  ·subst e
   rw [ci]
   simp
  ·have:(some i == some k)=false:=by simpa using fun z=>e z.symm
   rw [this]
   simpa using h.two k (by lia)
 ·rw [key]
  have:(some i == (none:Option Nat))=false:=rfl
  rw [this]
  have:((none:Option Nat) == none)=true:=rfl
  rw [this]
  simp only [if_true,Bool.false_eq_true,if_false]
  lia
theorem Half.done{pl:List (Option Nat)}{n:Nat}(h:Half pl n n):∃ ps:List Nat,Pairing ps n/\pl=ps.map some:=by
 have hz:pl.count none=0:=by have:=h.free; lia
 have hn:none∉pl:=List.count_eq_zero.mp hz
 obtain ⟨ps,rfl⟩:∃ ps:List Nat,pl=ps.map some:=by
  clear h hz
  induction pl with
  | nil=>exact ⟨[],rfl⟩
  | cons o r ih=>
   obtain ⟨ps,rfl⟩:=ih fun z=>hn (List.mem_cons_of_mem _ z)
   cases o with
   | none=>exact absurd List.mem_cons_self hn
   | some j=>exact ⟨j::ps,rfl⟩
 refine ⟨ps,⟨by have:=h.len; rwa [List.length_map] at this,fun k hk=>h.lt k (List.mem_map_of_mem hk),fun k hk=>?_⟩,rfl⟩
 have:=h.two k hk
 rwa [count_map_inj (fun a b z=>Option.some.inj z)] at this
theorem Pairing.put{ps sh:List Nat}{n m t:Nat}(h:Pairing ps n)(hs:Pairing sh m):Pairing (ps.take t++(sh.map fun k=>n+k)++ps.drop t) (n+m):=by
 have perm:List.Perm (ps.take t++(sh.map fun k=>n+k)++ps.drop t) (ps++sh.map fun k=>n+k):=by
  rw [List.append_assoc]
  have:List.Perm (ps.take t++((sh.map fun k=>n+k)++ps.drop t)) (ps.take t++(ps.drop t++(sh.map fun k=>n+k))):=List.Perm.append_left _ List.perm_append_comm
  refine this.trans ?_
  rw [<-List.append_assoc,List.take_append_drop]
 refine ⟨?_,fun k hk=>?_,fun k hk=>?_⟩
 ·rw [perm.length_eq,List.length_append,List.length_map,h.len,hs.len]; lia
 ·rcases List.mem_append.mp (perm.mem_iff.mp hk) with z | z
  ·have:=h.lt k z; lia
  ·obtain ⟨j,hj,rfl⟩:=List.mem_map.mp z
   have:=hs.lt j hj; lia
 ·rw [perm.count_eq,List.count_append]
  by_cases c:k < n
  ·rw [h.two k c]
   have:(sh.map fun k=>n+k).count k=0:=List.count_eq_zero.mpr fun hm=>by
    obtain ⟨j,_,e⟩:=List.mem_map.mp hm
    lia
   rw [this]
  ·have e1:ps.count k=0:=List.count_eq_zero.mpr fun hm=>c (h.lt k hm)
   obtain ⟨j,rfl⟩:∃ j,k=n+j:=⟨k - n,by lia⟩
   rw [e1,count_map_inj (f:=fun k=>n+k) (fun a b (z:n+a=n+b)=>by lia) j sh,hs.two j (by lia)]
theorem Pairing.nil:Pairing [] 0:=⟨rfl,(fun k hk=>by cases hk),fun k hk=>absurd hk (Nat.not_lt_zero k)⟩
theorem Pairing.of_dec{ps:List Nat}{n:Nat}(h1:ps.length=2*n)(h2:ps.all (fun k=>decide (k < n))=true)(h3:(List.range n).all (fun k=>decide (ps.count k=2))=true):Pairing ps n:=
 ⟨h1,fun k hk=>of_decide_eq_true (List.all_eq_true.mp h2 k hk),fun k hk=>of_decide_eq_true (List.all_eq_true.mp h3 k (List.mem_range.mpr hk))⟩
structure GoodWord (wd:List Str):Prop where
 name:∀ x∈wd,IsName x
 two:∀ x∈wd,wd.count x=2
 len:wd.length<=60
theorem goodWord_of{names:List Str}{ps:List Nat}{n:Nat}(hn:n<=30)(hl:names.length=n)(hd:names.Nodup)(hN:∀ x∈names,IsName x)(hp:Pairing ps n):GoodWord (ps.map fun k=>names.getD k Str.empty):=by
 have inj:∀ j k,j < n->k < n->names.getD j Str.empty=names.getD k Str.empty->j=k:=fun j k hj hk e=>by
  rw [getD_at (by lia),getD_at (by lia)] at e
  exact (List.getElem_inj hd).mp e
 have memn:∀ k,k < n->names.getD k Str.empty∈names:=fun k hk=>by
  rw [getD_at (by lia)]
  exact List.getElem_mem _
 have cnt:∀ (l:List Nat),(∀ k∈l,k < n)->∀ k,k < n->(l.map fun k=>names.getD k Str.empty).count (names.getD k Str.empty)=l.count k:=by
  intro l
  induction l with
  | nil=>intro _ _ _; rfl
  | cons j r ih=>
   intro hl' k hk
   rw [List.map_cons,List.count_cons,List.count_cons,ih (fun k hk=>hl' k (List.mem_cons_of_mem _ hk)) k hk]
   by_cases e:j=k
   ·subst e; simp
   ·have e1:(j == k)=false:=by simpa using e
    have e2:(names.getD j Str.empty == names.getD k Str.empty)=false:=by
     simp only [beq_eq_false_iff_ne,ne_eq]
     exact fun z=>e (inj j k (hl' j List.mem_cons_self) hk z)
    rw [e1,e2]
 refine ⟨fun x hx=>?_,fun x hx=>?_,?_⟩
 ·obtain ⟨k,hk,rfl⟩:=List.mem_map.mp hx
  exact hN _ (memn k (hp.lt k hk))
 ·obtain ⟨k,hk,rfl⟩:=List.mem_map.mp hx
  rw [cnt ps hp.lt k (hp.lt k hk),hp.two k (hp.lt k hk)]
 ·rw [List.length_map,hp.len]; lia
end Dw
namespace Dw
open PySem PySem.Spec PyProof.Rows L2
def placesOf(wd:List Str)(x:Str):List Nat:=(List.range wd.length).filter fun j=>decide (wd[j]?=some x)
theorem placesOf_len(wd:List Str)(x:Str):(placesOf wd x).length=wd.count x:=by
 unfold placesOf
 induction wd with
 | nil=>rfl
 | cons o r ih=>
  rw [List.length_cons,List.range_succ_eq_map,List.filter_cons,List.filter_map,List.count_cons]
  have e:((List.range r.length).filter ((fun j=>decide ((o::r)[j]?=some x))∘Nat.succ))=(List.range r.length).filter fun j=>decide (r[j]?=some x):=rfl
  rw [e]
  by_cases h:o=x
  ·subst h
   rw [if_pos (by simp),List.length_cons,List.length_map,ih]
   simp
  ·rw [if_neg (by simpa using h),List.length_map,ih]
   simp [h]
theorem placesOf_two{wd:List Str}{x:Str}{i j:Nat}(h:placesOf wd x=[i,j]):i < j/\j < wd.length:=by
 have hs:(placesOf wd x).Pairwise (· < ·):=List.Pairwise.sublist List.filter_sublist List.pairwise_lt_range
 rw [h] at hs
 have hm:j∈placesOf wd x:=by rw [h]; simp
 refine ⟨?_,List.mem_range.mp (List.mem_filter.mp hm).1⟩
 simpa using hs
def stp(acc:List Str)(x:Str):List Str:=if x∈acc then acc else acc++[x]
def firsts(wd:List Str):List Str:=wd.foldl stp []
end Dw
namespace L3
open PySem PySem.Spec PyProof.Rows L2
class TheK where
 K:PySem.W.Frag
variable [TheK]
inductive T where
 | non | bl (b:Bool) | int (i:Int) | str (x:Str)
 | lst (xs:List T) | tup (xs:List T) | dct (kvs:List (Key × T)) | set (S:Int->Bool) (n:Nat)
 /-- a dict that will not be changed any more: it may be walked -/
 | fd (kvs:List (Key × T))
 /-- the script -/
 | scr (ns:List Int)
 /-- nothing is known -/
 | any
abbrev Sg:=List (Option T)
inductive Rep (C:Addr->Prop) (H:Hp):V->T->Prop
 | non:Rep C H .non .non
 | bl (b:Bool):Rep C H (.bl b) (.bl b)
 | int (i:Int):Rep C H (.int i) (.int i)
 | str (x:Str):Rep C H (.str x) (.str x)
 | lst {a:Addr} {vs:List V} {ts:List T} (c:C a) (r:H a=some (.lst vs)) (l:vs.length=ts.length) (h:∀ (i:Nat) v t,vs[i]?=some v->ts[i]?=some t->Rep C H v t):Rep C H (.ref a) (.lst ts)
 | tup {a:Addr} {vs:List V} {ts:List T} (c:C a) (r:H a=some (.tup vs)) (l:vs.length=ts.length) (h:∀ (i:Nat) v t,vs[i]?=some v->ts[i]?=some t->Rep C H v t):Rep C H (.ref a) (.tup ts)
 | dct {a:Addr} {kvs:List (Key × V)} {ts:List (Key × T)} (c:C a) (r:H a=some (.dK kvs)) (l:kvs.map (·.1)=ts.map (·.1)) (h:∀ (i:Nat) v t,kvs[i]?=some v->ts[i]?=some t->Rep C H v.2 t.2):Rep C H (.ref a) (.dct ts)
 | set {a:Addr} {S:Int->Bool} {n:Nat} (c:C a) (r:H a=some (.set S n)):Rep C H (.ref a) (.set S n)
 | fd {a:Addr} {o:Obj} {kvs:List (Key × V)} {ts:List (Key × T)} (c:C a) (r:H a=some (.frz o (.dK kvs))) (l:kvs.map (·.1)=ts.map (·.1)) (h:∀ (i:Nat) v t,kvs[i]?=some v->ts[i]?=some t->Rep C H v.2 t.2):Rep C H (.ref a) (.fd ts)
 | scr {a:Addr} {ns:List Int} {o:Obj} (c:C a) (r:H a=some (.frz o (.lst (ns.map V.int)))):Rep C H (.ref a) (.scr ns)
 /-- the script,as an object of the module -/
 | scrK {a:Addr} {ns:List Int} (r:∀ H',SqL TheK.K H' a (ns.map V.int)):Rep C H (.ref a) (.scr ns)
 | any {v:V}:Rep C H v .any
def Reps(C:Addr->Prop)(H:Hp)(vs:List V)(ts:List T):Prop:=vs.length=ts.length/\∀ (i:Nat) v t,vs[i]?=some v->ts[i]?=some t->Rep C H v t
def RepK(C:Addr->Prop)(H:Hp)(vs:List (Key × V))(ts:List (Key × T)):Prop:=vs.map (·.1)=ts.map (·.1)/\∀ (i:Nat) v t,vs[i]?=some v->ts[i]?=some t->Rep C H v.2 t.2
section
variable {C C':Addr->Prop}{H H':Hp}{v:V}{t:T}{vs:List V}{ts:List T}
theorem Rep.mono(h:Rep C H v t)(hc:∀ a,C a->C' a)(hh:∀ a o,C a->H a=some o->H' a=some o):Rep C' H' v t:=by
 induction h with
 | non=>exact .non
 | bl b=>exact .bl b
 | int i=>exact .int i
 | str x=>exact .str x
 | lst c r l h ih=>exact .lst (hc _ c) (hh _ _ c r) l ih
 | tup c r l h ih=>exact .tup (hc _ c) (hh _ _ c r) l ih
 | dct c r l h ih=>exact .dct (hc _ c) (hh _ _ c r) l ih
 | set c r=>exact .set (hc _ c) (hh _ _ c r)
 | fd c r l h ih=>exact .fd (hc _ c) (hh _ _ c r) l ih
 | scr c r=>exact .scr (hc _ c) (hh _ _ c r)
 | scrK r=>exact .scrK r
 | any=>exact .any
theorem Rep.there(h:Rep C H v t):Rep (fun a=>C a/\H a≠none) H v t:=by
 induction h with
 | non=>exact .non
 | bl b=>exact .bl b
 | int i=>exact .int i
 | str x=>exact .str x
 | lst c r l h ih=>exact .lst ⟨c,by rw [r]; simp⟩ r l ih
 | tup c r l h ih=>exact .tup ⟨c,by rw [r]; simp⟩ r l ih
 | dct c r l h ih=>exact .dct ⟨c,by rw [r]; simp⟩ r l ih
 | set c r=>exact .set ⟨c,by rw [r]; simp⟩ r
 | fd c r l h ih=>exact .fd ⟨c,by rw [r]; simp⟩ r l ih
 | scr c r=>exact .scr ⟨c,by rw [r]; simp⟩ r
 | scrK r=>exact .scrK r
 | any=>exact .any
theorem Reps.mono(h:Reps C H vs ts)(hc:∀ a,C a->C' a)(hh:∀ a o,C a->H a=some o->H' a=some o):Reps C' H' vs ts:=⟨h.1,fun i v t e1 e2=>(h.2 i v t e1 e2).mono hc hh⟩
theorem RepK.mono{ks:List (Key × V)}{kt:List (Key × T)}(h:RepK C H ks kt)(hc:∀ a,C a->C' a)(hh:∀ a o,C a->H a=some o->H' a=some o):RepK C' H' ks kt:=⟨h.1,fun i v t e1 e2=>(h.2 i v t e1 e2).mono hc hh⟩
theorem Reps.there(h:Reps C H vs ts):Reps (fun a=>C a/\H a≠none) H vs ts:=⟨h.1,fun i v t e1 e2=>(h.2 i v t e1 e2).there⟩
theorem RepK.there{ks:List (Key × V)}{kt:List (Key × T)}(h:RepK C H ks kt):RepK (fun a=>C a/\H a≠none) H ks kt:=⟨h.1,fun i v t e1 e2=>(h.2 i v t e1 e2).there⟩
theorem Reps.nil:Reps C H [] []:=⟨rfl,fun i v t e=>by simp at e⟩
theorem Reps.cons(h:Rep C H v t)(hs:Reps C H vs ts):Reps C H (v::vs) (t::ts):=by
 refine ⟨by simp [hs.1],fun i v' t' e1 e2=>?_⟩
 cases i with
 | zero=>simp at e1 e2; subst e1 e2; exact h
 | succ i=>exact hs.2 i v' t' (by simpa using e1) (by simpa using e2)
theorem Reps.head(hs:Reps C H (v::vs) (t::ts)):Rep C H v t:=hs.2 0 v t rfl rfl
theorem Reps.tail(hs:Reps C H (v::vs) (t::ts)):Reps C H vs ts:=⟨by simpa using hs.1,fun i v' t' e1 e2=>hs.2 (i+1) v' t' (by simpa using e1) (by simpa using e2)⟩
theorem Reps.get{i:Nat}(hs:Reps C H vs ts)(e:ts[i]?=some t):∃ v,vs[i]?=some v/\Rep C H v t:=by
 have hi:i < ts.length:=(List.getElem?_eq_some_iff.mp e).1
 have hv:i < vs.length:=by rw [hs.1]; exact hi
 exact ⟨vs[i],List.getElem?_eq_getElem hv,hs.2 i _ t (List.getElem?_eq_getElem hv) e⟩
theorem Reps.append{vs':List V}{ts':List T}(h:Reps C H vs ts)(h':Reps C H vs' ts'):Reps C H (vs++vs') (ts++ts'):=by
 refine ⟨by simp [h.1,h'.1],fun i v t e1 e2=>?_⟩
 by_cases hi:i < vs.length
 ·rw [List.getElem?_append_left hi] at e1
  rw [List.getElem?_append_left (by rw [<-h.1]; exact hi)] at e2
  exact h.2 i v t e1 e2
 ·rw [List.getElem?_append_right (by lia)] at e1
  rw [List.getElem?_append_right (by rw [<-h.1]; lia),<-h.1] at e2
  exact h'.2 _ v t e1 e2
theorem Reps.drop(n:Nat)(h:Reps C H vs ts):Reps C H (vs.drop n) (ts.drop n):=⟨by simp [h.1],fun i v t e1 e2=>h.2 (n+i) v t (by simpa using e1) (by simpa using e2)⟩
theorem Reps.take(n:Nat)(h:Reps C H vs ts):Reps C H (vs.take n) (ts.take n):=⟨by simp [h.1],fun i v t e1 e2=>by
 rw [List.getElem?_take] at e1 e2
 split at e1
 ·rename_i hi
  rw [if_pos hi] at e2
  exact h.2 i v t e1 e2
 ·cases e1⟩
theorem Reps.set(n:Nat)(h:Reps C H vs ts)(r:Rep C H v t):Reps C H (vs.set n v) (ts.set n t):=⟨by simp [h.1],fun i v' t' e1 e2=>by
 rw [List.getElem?_set] at e1 e2
 by_cases hi:n=i
 ·rw [if_pos hi] at e1 e2
  split at e1
  ·split at e2
   ·cases e1; cases e2; exact r
   ·cases e2
  ·cases e1
 ·rw [if_neg hi] at e1 e2
  exact h.2 i v' t' e1 e2⟩
inductive Live (C:Addr->Prop) (H:Hp):Addr->T->Prop
 | lst {a:Addr} {vs:List V} {ts:List T} (r:H a=some (.lst vs)) (h:Reps C H vs ts):Live C H a (.lst ts)
 | dct {a:Addr} {kvs:List (Key × V)} {ts:List (Key × T)} (r:H a=some (.dK kvs)) (h:RepK C H kvs ts):Live C H a (.dct ts)
 | set {a:Addr} {S:Int->Bool} {n:Nat} (r:H a=some (.set S n)):Live C H a (.set S n)
 | any {a:Addr} {o:HO} (r:H a=some o):Live C H a .any
variable {a:Addr}
theorem Live.mono(h:Live C H a t)(hc:∀ a,C a->C' a)(hh:∀ a o,C a->H a=some o->H' a=some o)(ha:∀ o,H a=some o->H' a=some o):Live C' H' a t:=by
 cases h with
 | lst r h=>exact .lst (ha _ r) (h.mono hc hh)
 | dct r h=>exact .dct (ha _ r) (h.mono hc hh)
 | set r=>exact .set (ha _ r)
 | any r=>exact .any (ha _ r)
theorem Live.there(h:Live C H a t):Live (fun a=>C a/\H a≠none) H a t:=by
 cases h with
 | lst r h=>exact .lst r h.there
 | dct r h=>exact .dct r h.there
 | set r=>exact .set r
 | any r=>exact .any r
theorem Live.ne(h:Live C H a t):H a≠none:=by
 cases h with
 | lst r h=>rw [r]; simp
 | dct r h=>rw [r]; simp
 | set r=>rw [r]; simp
 | any r=>rw [r]; simp
theorem Live.rep(h:Live C H a t)(hc:∀ b,C b->C' b)(ha:C' a):Rep C' H (.ref a) t:=by
 cases h with
 | lst r h=>exact .lst ha r h.1 fun i v t e1 e2=>(h.2 i v t e1 e2).mono hc fun _ _ _ e=>e
 | dct r h=>exact .dct ha r h.1 fun i v t e1 e2=>(h.2 i v t e1 e2).mono hc fun _ _ _ e=>e
 | set r=>exact .set ha r
 | any r=>exact .any
end
structure Fr where
 H0:Hp
 C0:Addr->Prop
 D:Addr->Prop
 adr:Nat->Addr
def Free(F:Fr)(O:Addr->Prop):Addr->Prop:=fun a=>¬ O a/\(F.C0 a∨F.H0 a=none)
theorem Free.weak{F:Fr}{O O':Addr->Prop}{a:Addr}(h:∀ b,O' b->O b)(x:Free F O a):Free F O' a:=⟨fun z=>x.1 (h _ z),x.2⟩
structure Rel (F:Fr) (O:Addr->Prop) (M:List Nat) (s:Sg) (σ:L2.St) (H:Hp):Prop where
 len:s.length=σ.length
 val:∀ (i:Nat) t,s[i]?=some (some t)->i∉M->∃ v,σ[i]?=some (some v)/\Rep (Free F O) H v t
 own:∀ (i:Nat) t,s[i]?=some (some t)->i∈M->∃ a,σ[i]?=some (some (.ref a))/\Live (Free F O) H a t
 ow:∀ (i:Nat) a,i∈M->σ[i]?=some (some (.ref a))->O a
 dis:∀ (i j:Nat) a,i∈M->j∈M->σ[i]?=some (some (.ref a))->σ[j]?=some (some (.ref a))->i=j
 keep:∀ b o,¬ F.D b->F.H0 b=some o->H b=some o
 dom:∀ b,H b=none->F.H0 b=none
 fresh:∀ a,O a->F.D a∨F.H0 a=none
 inD:∀ a,F.D a->O a
 al:∀ a,O a->H a≠none
structure Step (σ:L2.St) (M:List Nat) (H H':Hp):Prop where
 keep:∀ b o,(∀ (i:Nat),i∈M->σ[i]?≠some (some (.ref b)))->H b=some o->H' b=some o
 dom:∀ b,H' b=none->H b=none
section
variable {F:Fr}{O:Addr->Prop}{M:List Nat}{s s':Sg}{σ:L2.St}{H H' H'':Hp}{v:V}{t:T}{a:Addr}
theorem Step.refl:Step σ M H H:=⟨fun _ _ _ h=>h,fun _ h=>h⟩
theorem Step.trans(x:Step σ M H H')(y:Step σ M H' H''):Step σ M H H'':=⟨fun b o n h=>y.keep b o n (x.keep b o n h),fun b h=>x.dom b (y.dom b h)⟩
theorem Step.new(h:H a=none)(o:HO):Step σ M H (upd H a o):=⟨fun b u _ q=>by rw [upd_ne (ne_of_none q h)]; exact q,fun b h'=>by
 unfold upd at h'
 split at h'
 ·cases h'
 ·exact h'⟩
theorem Rel.notOwned(R:Rel F O M s σ H)(h:¬ O a):∀ (i:Nat),i∈M->σ[i]?≠some (some (.ref a)):=fun i hi e=>h (R.ow i a hi e)
theorem Rel.stay(R:Rel F O M s σ H)(S:Step σ M H H')(h:Rep (Free F O) H v t):Rep (Free F O) H' v t:=
 h.mono (fun _ c=>c) fun a o c e=>S.keep a o (R.notOwned c.1) e
theorem Rel.less{O':Addr->Prop}(R:Rel F O M s σ H)(h:∀ b,O' b->O b)(hw:∀ (i:Nat) a,i∈M->σ[i]?=some (some (.ref a))->O' a)(hD:∀ a,F.D a->O' a):Rel F O' M s σ H where
 len:=R.len
 val:=fun i t e n=>by
  obtain ⟨v,h1,h2⟩:=R.val i t e n
  exact ⟨v,h1,h2.mono (fun _ c=>c.weak h) fun _ _ _ e=>e⟩
 own:=fun i t e n=>by
  obtain ⟨a,h1,h2⟩:=R.own i t e n
  exact ⟨a,h1,h2.mono (fun _ c=>c.weak h) (fun _ _ _ e=>e) fun _ e=>e⟩
 ow:=hw
 dis:=R.dis
 keep:=R.keep
 dom:=R.dom
 fresh:=fun a z=>R.fresh a (h a z)
 inD:=hD
 al:=fun a z=>R.al a (h a z)
theorem Rel.new(R:Rel F O M s σ H)(h:H a=none)(o:HO):Rel F (fun b=>O b∨b=a) M s σ (upd H a o):=by
 have k:∀ b u,H b=some u->upd H a o b=some u:=fun b u q=>by rw [upd_ne (ne_of_none q h)]; exact q
 have fr:∀ b,Free F O b/\H b≠none->Free F (fun b=>O b∨b=a) b:=fun b c=>⟨fun z=>z.elim c.1.1 fun z=>c.2 (z▸h),c.1.2⟩
 refine ⟨R.len,fun i t e n=>?_,fun i t e n=>?_,fun i b hi e=>.inl (R.ow i b hi e),R.dis,fun b u n e=>k _ _ (R.keep b u n e),fun b e=>?_,fun b z=>?_,fun b z=>.inl (R.inD b z),fun b z=>?_⟩
 ·obtain ⟨v,h1,h2⟩:=R.val i t e n
  exact ⟨v,h1,h2.there.mono fr fun b u _ e=>k b u e⟩
 ·obtain ⟨b,h1,h2⟩:=R.own i t e n
  exact ⟨b,h1,h2.there.mono fr (fun b u _ e=>k b u e) fun u e=>k b u e⟩
 ·refine R.dom b ?_
  unfold upd at e
  split at e
  ·cases e
  ·exact e
 ·rcases z with z | z
  ·exact R.fresh b z
  ·subst z; exact .inr (R.dom _ h)
 ·rcases z with z | z
  ·intro e
   refine R.al b z ?_
   unfold upd at e
   split at e
   ·cases e
   ·exact e
  ·subst z; rw [upd_same]; simp
end
end L3
namespace L3
open PySem PySem.Spec PyProof.Rows L2
variable [TheK]
inductive Kd where
 | e | b | n
def BRep(C:Addr->Prop)(H:Hp)(v:V)(t:T):Prop:=Rep C H v t∨∃ a,v=.ref a/\Live C H a t
def Post(k:Kd)(F:Fr)(O:Addr->Prop)(M:List Nat)(σ:L2.St)(H:Hp)(s':Sg)(t:T)(v:V)(H':Hp):Prop:=match k with
 | .e=>Rel F O M s' σ H'/\Rep (Free F O) H' v t
 | .b=>Rel F O M s' σ H'/\(Rep (Free F O) H' v t∨∃ i:Nat,i∈M/\σ[i]?=some (some v)/\s'[i]?=some (some t))
 | .n=>∃ a,v=.ref a/\H a=none/\Rel F (fun b=>O b∨b=a) M s' σ H'/\Live (Free F (fun b=>O b∨b=a)) H' a t
abbrev DE:=Sg->Option (T × Sg)
abbrev DT:=Sg->Option (Bool × Sg)
abbrev DA:=Sg->Option (List T × Sg)
def cE(k:Kd)(M:List Nat)(f:DE):TE:=fun σ H Q=>∃ F O s t s',Rel F O M s σ H/\f s=some (t,s')/\∀ v H',Step σ M H H'->Post k F O M σ H s' t v H'->Q v H'
theorem cE_{k:Kd}{M:List Nat}{f:DE}{σ:L2.St}{H:Hp}{Q:VK}(h:cE k M f σ H Q){G:Prop}(g:∀ F O s t s',Rel F O M s σ H->f s=some (t,s')->(∀ v H',Step σ M H H'->Post k F O M σ H s' t v H'->Q v H')->G):G:=by
 obtain ⟨F,O,s,t,s',R,hf,q⟩:=h
 exact g F O s t s' R hf q
def cT(M:List Nat)(f:DT):TT:=fun σ H Q=>∃ F O s b s',Rel F O M s σ H/\f s=some (b,s')/\∀ H',Step σ M H H'->Rel F O M s' σ H'->Q b H'
theorem cT_{M:List Nat}{f:DT}{σ:L2.St}{H:Hp}{Q:Bool->Hp->Prop}(h:cT M f σ H Q){G:Prop}(g:∀ F O s b s',Rel F O M s σ H->f s=some (b,s')->(∀ H',Step σ M H H'->Rel F O M s' σ H'->Q b H')->G):G:=by
 obtain ⟨F,O,s,b,s',R,hf,q⟩:=h
 exact g F O s b s' R hf q
def cA(M:List Nat)(f:DA):TA:=fun σ H Q=>∃ F O s ts s',Rel F O M s σ H/\f s=some (ts,s')/\∀ vs H',Step σ M H H'->Rel F O M s' σ H'->Reps (Free F O) H' vs ts->Q vs H'
theorem weak{X:Cx}{e:Expr}{t t':TE}(h:PE X e t)(hw:∀ σ H Q,t' σ H Q->t σ H Q):PE X e t':=fun pins s σ H Q I q=>h pins s σ H Q I (hw _ _ _ q)
theorem weakT{X:Cx}{e:Expr}{t t':TT}(h:PT X e t)(hw:∀ σ H Q,t' σ H Q->t σ H Q):PT X e t':=fun pins s σ H Q I q=>h pins s σ H Q I (hw _ _ _ q)
theorem weakW{X:Cx}{e:Expr}{t t':TT}(h:PW X e t)(hw:∀ σ H Q,t' σ H Q->t σ H Q):PW X e t':=fun wh pins s σ H Q I q=>h wh pins s σ H Q I (hw _ _ _ q)
theorem weakA{X:Cx}{es:List Expr}{t t':TA}(h:PA X es t)(hw:∀ σ H Q,t' σ H Q->t σ H Q):PA X es t':=fun pos pins s σ H Q I q=>h pos pins s σ H Q I (hw _ _ _ q)
theorem weakS{X:Cx}{e:Stmt}{t t':TS}(h:PS X e t)(hw:∀ D σ H,t' D σ H->t D σ H):PS X e t':=fun pins s σ H D I q=>h pins s σ H D I (hw _ _ _ q)
theorem weakSs{X:Cx}{e:List Stmt}{t t':TS}(h:PSs X e t)(hw:∀ D σ H,t' D σ H->t D σ H):PSs X e t':=fun pins s σ H D I q=>h pins s σ H D I (hw _ _ _ q)
section
variable {F:Fr}{O:Addr->Prop}{M:List Nat}{s s':Sg}{σ:L2.St}{H H':Hp}{v:V}{t:T}{a:Addr}
theorem Post.ne(R:Rel F O M s σ H)(h:Post .n F O M σ H s' t v H'):Post .e F O M σ H s' t v H':=by
 obtain ⟨a,rfl,h0,R',L⟩:=h
 have w:∀ b,O b->(O b∨b=a):=fun b z=>.inl z
 refine ⟨R'.less w R.ow R.inD,L.rep (fun b c=>c.weak w) ⟨fun z=>R.al a z h0,.inr (R.dom a h0)⟩⟩
theorem Post.eb(h:Post .e F O M σ H s' t v H'):Post .b F O M σ H s' t v H':=⟨h.1,.inl h.2⟩
theorem Post.view(h:Post .b F O M σ H s' t v H'):BRep (Free F O) H' v t:=by
 rcases h.2 with h2 | ⟨i,hi,e1,e2⟩
 ·exact .inl h2
 ·obtain ⟨a,e3,L⟩:=h.1.own i t e2 hi
  rw [e1] at e3
  exact .inr ⟨a,by injection e3 with e3; injection e3,L⟩
theorem Post.mkN(R:Rel F O M s σ H)(R1:Rel F O M s' σ H')(S:Step σ M H H'){p:Addr}{o:HO}(hp:H' p=none)(L:∀ C:Addr->Prop,(∀ b,Free F O b/\H' b≠none->C b)->Live C (upd H' p o) p t):Post .n F O M σ H s' t (.ref p) (upd H' p o):=
 ⟨p,rfl,S.dom p hp,R1.new hp o,L _ fun b c=>⟨fun z=>z.elim c.1.1 fun z=>c.2 (z▸hp),c.1.2⟩⟩
end
section
variable {X:Cx}{M:List Nat}{e a b:Expr}{fa fb:DE}
theorem ne(h:PE X e (cE .n M fa)):PE X e (cE .e M fa):=weak h fun σ H Q h_=>cE_ h_ fun F O s t s' R hf q=>⟨F,O,s,t,s',R,hf,fun v H' S p=>q v H' S (p.ne R)⟩
theorem eb(h:PE X e (cE .e M fa)):PE X e (cE .b M fa):=weak h fun σ H Q h_=>cE_ h_ fun F O s t s' R hf q=>⟨F,O,s,t,s',R,hf,fun v H' S p=>q v H' S p.eb⟩
theorem nb(h:PE X e (cE .n M fa)):PE X e (cE .b M fa):=eb (ne h)
def dV(i:Nat):DE:=fun s=>(s[i]?).join.map fun t=>(t,s)
def dC(t:T):DE:=fun s=>some (t,s)
theorem join_some{α:Type}{o:Option (Option α)}{x:α}(h:o.join=some x):o=some (some x):=by
 cases o with
 | none=>cases h
 | some o=>cases o with
  | none=>cases h
  | some y=>injection h with h; rw [h]
theorem dV_some{i:Nat}{s s':Sg}{t:T}(h:dV i s=some (t,s')):s[i]?=some (some t)/\s'=s:=by
 unfold dV at h
 cases e:(s[i]?).join with
 | none=>rw [e] at h; cases h
 | some x=>
  rw [e] at h
  injection h with h
  injection h with h1 h2
  subst h1 h2
  exact ⟨join_some e,rfl⟩
theorem e_var{i:Nat}(hi:M.contains i=false)(h:PE X e (tVar i)):PE X e (cE .e M (dV i)):=weak h fun σ H Q h_=>cE_ h_ fun F O s t s' R hf q=>by
 obtain ⟨e1,rfl⟩:=dV_some hf
 obtain ⟨v,h1,h2⟩:=R.val i t e1 (by simpa using hi)
 exact ⟨v,h1,q v H .refl ⟨R,h2⟩⟩
theorem e_raw{i:Nat}(hi:M.contains i=true)(h:PE X e (tVar i)):PE X e (cE .b M (dV i)):=weak h fun σ H Q h_=>cE_ h_ fun F O s t s' R hf q=>by
 obtain ⟨e1,rfl⟩:=dV_some hf
 obtain ⟨a,h1,h2⟩:=R.own i t e1 (by simpa using hi)
 exact ⟨_,h1,q _ H .refl ⟨R,.inr ⟨i,by simpa using hi,h1,e1⟩⟩⟩
theorem e_con{v:V}{t:T}(hr:∀ C H,Rep C H v t)(h:PE X e (tC v)):PE X e (cE .e M (dC t)):=weak h fun σ H Q h_=>cE_ h_ fun F O s t' s' R hf q=>by
 injection hf with hf
 injection hf with h1 h2
 subst h1 h2
 exact q v H .refl ⟨R,hr _ _⟩
theorem e_int{i j pos}:PE X (.Constant (.int i) j pos) (cE .e M (dC (.int i))):=e_con (fun _ _=>.int i) pe_int
theorem e_bl{i j pos}:PE X (.Constant (.bool i) j pos) (cE .e M (dC (.bl i))):=e_con (fun _ _=>.bl i) pe_bl
theorem e_str{i j pos}:PE X (.Constant (.str i) j pos) (cE .e M (dC (.str i))):=e_con (fun _ _=>.str i) pe_str
def d2(g:T->T->Option T)(fa fb:DE):DE:=fun s=>(fa s).bind fun p=>(fb p.2).bind fun q=>(g p.1 q.1).map fun t=>(t,q.2)
def d2v(g:T->T->Option T)(i:Nat)(fb:DE):DE:=fun s=>(s[i]?).join.bind fun _=>(fb s).bind fun q=>(q.2[i]?).join.bind fun x=>(g x q.1).map fun t=>(t,q.2)
theorem d2_some{g:T->T->Option T}{s s':Sg}{t:T}(h:d2 g fa fb s=some (t,s')):∃ x s1 y,fa s=some (x,s1)/\fb s1=some (y,s')/\g x y=some t:=by
 unfold d2 at h
 cases e:fa s with
 | none=>rw [e] at h; cases h
 | some p=>
  rw [e] at h
  cases e2:fb p.2 with
  | none=>simp [e2] at h
  | some q=>
   simp only [Option.bind_some,e2] at h
   cases e3:g p.1 q.1 with
   | none=>rw [e3] at h; cases h
   | some u=>
    rw [e3] at h
    injection h with h
    injection h with h1 h2
    subst h1 h2
    exact ⟨p.1,p.2,q.1,rfl,by rw [e2],e3⟩
theorem d2v_some{g:T->T->Option T}{i:Nat}{s s':Sg}{t:T}(h:d2v g i fb s=some (t,s')):∃ x0 x y,s[i]?=some (some x0)/\fb s=some (y,s')/\s'[i]?=some (some x)/\g x y=some t:=by
 unfold d2v at h
 cases e0:(s[i]?).join with
 | none=>rw [e0] at h; cases h
 | some x0=>
 rw [e0] at h
 simp only [Option.bind_some] at h
 cases e:fb s with
 | none=>rw [e] at h; cases h
 | some q=>
  simp only [e,Option.bind_some] at h
  cases e2:(q.2[i]?).join with
  | none=>rw [e2] at h; cases h
  | some x=>
   simp only [e2,Option.bind_some] at h
   cases e3:g x q.1 with
   | none=>rw [e3] at h; cases h
   | some u=>
    rw [e3] at h
    injection h with h
    injection h with h1 h2
    subst h1 h2
    exact ⟨x0,x,q.1,join_some e0,rfl,join_some e2,e3⟩
def S2E(r:R2)(g:T->T->Option T):Prop:=∀ (C:Addr->Prop) (H:Hp) x y tx ty t (Q:VK),BRep C H x tx->BRep C H y ty->g tx ty=some t->(∀ v,Rep C H v t->Q v H)->r x y H Q
def S2N(r:R2)(g:T->T->Option T):Prop:=∀ (C:Addr->Prop) (H:Hp) x y tx ty t (Q:VK),BRep C H x tx->BRep C H y ty->g tx ty=some t->
 (∀ p o,H p=none->(∀ C':Addr->Prop,(∀ b,C b/\H b≠none->C' b)->Live C' (upd H p o) p t)->Q (.ref p) (upd H p o))->r x y H Q
theorem two_e{r:R2}{g:T->T->Option T}(h:S2E r g):∀ σ H Q,cE .e M (d2 g fa fb) σ H Q->tOp r (cE .e M fa) (cE .b M fb) σ H Q:=by
 intro σ H Q h_;refine cE_ h_ fun F O s t s' R hf q=>?_
 obtain ⟨x,s1,y,h1,h2,h3⟩:=d2_some hf
 refine ⟨F,O,s,x,s1,R,h1,fun v H1 S1 p1=>?_⟩
 refine ⟨F,O,s1,y,s',p1.1,h2,fun u H2 S2 p2=>?_⟩
 exact h (Free F O) H2 v u x y t Q (.inl (p1.1.stay S2 p1.2)) p2.view h3 fun w rw=>q w H2 (S1.trans S2) ⟨p2.1,rw⟩
theorem two_n{r:R2}{g:T->T->Option T}(h:S2N r g):∀ σ H Q,cE .n M (d2 g fa fb) σ H Q->tOp r (cE .e M fa) (cE .b M fb) σ H Q:=by
 intro σ H Q h_;refine cE_ h_ fun F O s t s' R hf q=>?_
 obtain ⟨x,s1,y,h1,h2,h3⟩:=d2_some hf
 refine ⟨F,O,s,x,s1,R,h1,fun v H1 S1 p1=>?_⟩
 refine ⟨F,O,s1,y,s',p1.1,h2,fun u H2 S2 p2=>?_⟩
 exact h (Free F O) H2 v u x y t Q (.inl (p1.1.stay S2 p1.2)) p2.view h3 fun p o hp L=>q _ _ ((S1.trans S2).trans (.new hp o)) (.mkN R p2.1 (S1.trans S2) hp L)
theorem raw_live{F:Fr}{O:Addr->Prop}{s s':Sg}{σ:L2.St}{H H':Hp}{i:Nat}{t0 t:T}(hi:i∈M)(R:Rel F O M s σ H)(R':Rel F O M s' σ H')(e0:s[i]?=some (some t0))(e:s'[i]?=some (some t)):∃ v,σ[i]?=some (some v)/\BRep (Free F O) H' v t:=by
 obtain ⟨a,h1,_⟩:=R.own i t0 e0 hi
 obtain ⟨b,h2,L⟩:=R'.own i t e hi
 rw [h1] at h2
 injection h2 with h2
 injection h2 with h2
 injection h2 with h2
 subst h2
 exact ⟨_,h1,.inr ⟨a,rfl,L⟩⟩
theorem two_ev{r:R2}{g:T->T->Option T}{i:Nat}(hi:M.contains i=true)(h:S2E r g):∀ σ H Q,cE .e M (d2v g i fb) σ H Q->tOp r (tVar i) (cE .b M fb) σ H Q:=by
 intro σ H Q h_;refine cE_ h_ fun F O s t s' R hf q=>?_
 obtain ⟨x0,x,y,h0,h1,h2,h3⟩:=d2v_some hf
 have hi':i∈M:=by simpa using hi
 obtain ⟨a,e1,_⟩:=R.own i x0 h0 hi'
 refine ⟨_,e1,F,O,s,y,s',R,h1,fun u H2 S2 p2=>?_⟩
 obtain ⟨v,e2,B⟩:=raw_live hi' R p2.1 h0 h2
 rw [e1] at e2
 injection e2 with e2
 injection e2 with e2
 subst e2
 exact h (Free F O) H2 _ u x y t Q B p2.view h3 fun w rw=>q w H2 S2 ⟨p2.1,rw⟩
end
section
variable {C:Addr->Prop}{H:Hp}{v:V}
theorem BRep.non(h:BRep C H v .non):v=.non:=by
 rcases h with h | ⟨a,rfl,h⟩<;>cases h
 rfl
theorem BRep.bl{b:Bool}(h:BRep C H v (.bl b)):v=.bl b:=by
 rcases h with h | ⟨a,rfl,h⟩<;>cases h
 rfl
theorem BRep.int{i:Int}(h:BRep C H v (.int i)):v=.int i:=by
 rcases h with h | ⟨a,rfl,h⟩<;>cases h
 rfl
theorem BRep.str{x:Str}(h:BRep C H v (.str x)):v=.str x:=by
 rcases h with h | ⟨a,rfl,h⟩<;>cases h
 rfl
theorem BRep.lst{ts:List T}(h:BRep C H v (.lst ts)):∃ a vs,v=.ref a/\H a=some (.lst vs)/\Reps C H vs ts:=by
 rcases h with h | ⟨a,rfl,h⟩
 ·cases h with | lst c r l h=>exact ⟨_,_,rfl,r,l,h⟩
 ·cases h with | lst r h=>exact ⟨_,_,rfl,r,h⟩
theorem BRep.tup{ts:List T}(h:BRep C H v (.tup ts)):∃ a vs,v=.ref a/\H a=some (.tup vs)/\Reps C H vs ts:=by
 rcases h with h | ⟨a,rfl,h⟩
 ·cases h with | tup c r l h=>exact ⟨_,_,rfl,r,l,h⟩
 ·cases h
theorem BRep.dct{ts:List (Key × T)}(h:BRep C H v (.dct ts)):∃ a kvs,v=.ref a/\H a=some (.dK kvs)/\RepK C H kvs ts:=by
 rcases h with h | ⟨a,rfl,h⟩
 ·cases h with | dct c r l h=>exact ⟨_,_,rfl,r,l,h⟩
 ·cases h with | dct r h=>exact ⟨_,_,rfl,r,h⟩
theorem BRep.fd{ts:List (Key × T)}(h:BRep C H v (.fd ts)):∃ a o kvs,v=.ref a/\H a=some (.frz o (.dK kvs))/\RepK C H kvs ts/\C a:=by
 rcases h with h | ⟨a,rfl,h⟩
 ·cases h with | fd c r l h=>exact ⟨_,_,_,rfl,r,⟨l,h⟩,c⟩
 ·cases h
theorem BRep.scr{ns:List Int}(h:BRep C H v (.scr ns)):∃ a,v=.ref a/\SqL TheK.K H a (ns.map V.int):=by
 rcases h with h | ⟨a,rfl,h⟩
 ·cases h with
  | scr c r=>exact ⟨_,rfl,.inl (.inr ⟨_,r⟩)⟩
  | scrK r=>exact ⟨_,rfl,r H⟩
 ·cases h
end
def gAdd:T->T->Option T
 | .int i,.int j=>some (.int (i+j))
 | .str x,.str y=>if x.length+y.length<=sizeLine then some (.str (x++y)) else none
 | _,_=>none
def gCat:T->T->Option T
 | .lst a,.lst b=>if a.length+b.length<=sizeLine then some (.lst (a++b)) else none
 | _,_=>none
def gI(C:Int->Int->Bool)(g:Int->Int->Int):T->T->Option T
 | .int i,.int j=>if C i j=true then some (.int (g i j)) else none
 | _,_=>none
def bMul(i j:Int):Bool:=decide (-(2 ^ 64) < i/\i < 2 ^ 64)||decide (-(2 ^ 64) < j/\j < 2 ^ 64)
def bDiv(i j:Int):Bool:=decide (0 < j/\j < 1073741824)
def bMod(i j:Int):Bool:=decide (0 < j)
def bPow(i j:Int):Bool:=decide (0<=j/\j<=1000000/\i.natAbs < 2 ^ 64)
def gSb:=gI (fun _ _=>true) fun i j=>i - j
def gMul:=gI bMul fun i j=>i*j
def gDiv:=gI bDiv fun i j=>i / j
def gMod:=gI bMod fun i j=>i%j
def gPow:=gI bPow fun i j=>i ^ j.toNat
def gCmp(p:Int->Int->Bool)(ps:Str->Str->Bool):T->T->Option T
 | .int i,.int j=>some (.bl (p i j))
 | .str i,.str j=>some (.bl (ps i j))
 | _,_=>none
section
variable {X:Cx}
theorem s_add:S2E (fun x y H Q=>rI0 (fun i j=>.int (i+j)) x y H Q∨∃ i j,x=.str i/\y=.str j/\i.length+j.length<=sizeLine/\Q (.str (i++j)) H) gAdd:=by
 intro C H x y tx ty t Q bx by' hg q
 unfold gAdd at hg
 split at hg
 ·injection hg with hg; subst hg
  exact .inl ⟨_,_,bx.int,by'.int,q _ (.int _)⟩
 ·split at hg
  ·rename_i h
   injection hg with hg; subst hg
   exact .inr ⟨_,_,bx.str,by'.str,h,q _ (.str _)⟩
  ·cases hg
 ·cases hg
theorem s_cat:S2N rCat gCat:=by
 intro C H x y tx ty t Q bx by' hg q
 unfold gCat at hg
 split at hg
 ·split at hg
  ·rename_i h
   injection hg with hg; subst hg
   obtain ⟨a,vs,rfl,ha,ra⟩:=bx.lst
   obtain ⟨b,us,rfl,hb,rb⟩:=by'.lst
   refine ⟨a,b,vs,us,rfl,rfl,ha,hb,by rw [ra.1,rb.1]; exact h,fun p hp=>q p _ hp fun C' hC=>?_⟩
   exact .lst upd_same ((ra.append rb).there.mono hC fun c o hc e=>by rw [upd_ne (ne_of_none e hp)]; exact e)
  ·cases hg
 ·cases hg
theorem s_I{P:Int->Int->Prop}{C:Int->Int->Bool}{g:Int->Int->Int}(hC:∀ i j,C i j=true->P i j):S2E (rI P fun i j=>.int (g i j)) (gI C g):=by
 intro C' H x y tx ty t Q bx by' hg q
 unfold gI at hg
 split at hg
 ·split at hg
  ·rename_i h
   injection hg with hg; subst hg
   exact ⟨_,_,bx.int,by'.int,hC _ _ h,q _ (.int _)⟩
  ·cases hg
 ·cases hg
theorem s_I0{g:Int->Int->Int}:S2E (rI0 fun i j=>.int (g i j)) (gI (fun _ _=>true) g):=by
 intro C' H x y tx ty t Q bx by' hg q
 unfold gI at hg
 split at hg
 ·split at hg
  ·injection hg with hg; subst hg
   exact ⟨_,_,bx.int,by'.int,q _ (.int _)⟩
  ·cases hg
 ·cases hg
theorem s_cmp{p:Int->Int->Bool}{ps:Str->Str->Bool}:S2E (fun x y H Q=>rI0 (fun i j=>.bl (p i j)) x y H Q∨∃ i j,x=.str i/\y=.str j/\Q (.bl (ps i j)) H) (gCmp p ps):=by
 intro C H x y tx ty t Q bx by' hg q
 unfold gCmp at hg
 split at hg
 ·injection hg with hg; subst hg
  exact .inl ⟨_,_,bx.int,by'.int,q _ (.bl _)⟩
 ·injection hg with hg; subst hg
  exact .inr ⟨_,_,bx.str,by'.str,q _ (.bl _)⟩
 ·cases hg
variable {M:List Nat}{a b:Expr}{fa fb:DE}{pos:Pos}
theorem e_add(ha:PE X a (cE .e M fa))(hb:PE X b (cE .b M fb)):PE X (.BinOp a .Add b pos) (cE .e M (d2 gAdd fa fb)):=weak (pe_op (op_add.or op_add_str) ha hb) (two_e s_add)
theorem e_cat(ha:PE X a (cE .e M fa))(hb:PE X b (cE .b M fb)):PE X (.BinOp a .Add b pos) (cE .n M (d2 gCat fa fb)):=weak (pe_op op_cat ha hb) (two_n s_cat)
theorem e_sub(ha:PE X a (cE .e M fa))(hb:PE X b (cE .b M fb)):PE X (.BinOp a .Sub b pos) (cE .e M (d2 gSb fa fb)):=weak (pe_op op_sub ha hb) (two_e s_I0)
theorem e_mul(ha:PE X a (cE .e M fa))(hb:PE X b (cE .b M fb)):PE X (.BinOp a .Mult b pos) (cE .e M (d2 gMul fa fb)):=weak (pe_op op_mul ha hb) (two_e (s_I fun i j h=>by
 unfold bMul at h
 rw [Bool.or_eq_true,decide_eq_true_iff,decide_eq_true_iff] at h
 exact h))
theorem e_div(ha:PE X a (cE .e M fa))(hb:PE X b (cE .b M fb)):PE X (.BinOp a .FloorDiv b pos) (cE .e M (d2 gDiv fa fb)):=weak (pe_op op_fdiv ha hb) (two_e (s_I fun i j h=>of_decide_eq_true (p:=0 < j/\j < 1073741824) h))
theorem e_mod(ha:PE X a (cE .e M fa))(hb:PE X b (cE .b M fb)):PE X (.BinOp a .Mod b pos) (cE .e M (d2 gMod fa fb)):=weak (pe_op op_mod ha hb) (two_e (s_I fun i j h=>of_decide_eq_true h))
theorem e_pow(ha:PE X a (cE .e M fa))(hb:PE X b (cE .b M fb)):PE X (.BinOp a .Pow b pos) (cE .e M (d2 gPow fa fb)):=weak (pe_op op_pow ha hb) (two_e (s_I fun i j h=>of_decide_eq_true (p:=0<=j/\j<=1000000/\i.natAbs < 2 ^ 64) h))
end
end L3
namespace L3
open PySem PySem.Spec PyProof.Rows L2
variable [TheK]
def scE:T->T->Option Bool
 | .non,.non=>some true | .non,.bl _=>some false | .non,.int _=>some false | .non,.str _=>some false
 | .bl a,.bl b=>some (a == b) | .bl _,.non=>some false | .bl a,.int b=>some ((if a then 1 else 0) == b) | .bl _,.str _=>some false
 | .int a,.int b=>some (a == b) | .int _,.non=>some false | .int a,.bl b=>some (a == (if b then 1 else 0)) | .int _,.str _=>some false
 | .str a,.str b=>some (a == b) | .str _,.non=>some false | .str _,.bl _=>some false | .str _,.int _=>some false
 | _,_=>none
def allE(f:T->T->Option Bool):List T->List T->Option Bool
 | x::xs,y::ys=>(f x y).bind fun b=>(allE f xs ys).map fun c=>b&&c
 | _,_=>some true
def eqD:Nat->T->T->Option Bool
 | n+1,.lst xs,.lst ys=>if xs.length=ys.length then allE (eqD n) xs ys else some false
 | n+1,.tup xs,.tup ys=>(allE (eqD n) xs ys).map fun b=>b&&xs.length == ys.length
 | _+1,.lst _,.tup _=>some false
 | _+1,.tup _,.lst _=>some false
 | _,x,y=>scE x y
def eqS(n:Nat)(x y:T):Option Bool:=match x,y with
 | .lst xs,.lst ys=>if xs.length=ys.length then allE (eqD n) xs ys else some false
 | .tup xs,.tup ys=>(allE (eqD n) xs ys).map fun b=>b&&xs.length == ys.length
 | .lst _,.tup _=>some false
 | .tup _,.lst _=>some false
 | x,y=>scE x y
theorem eqD_succ(n:Nat)(x y:T):eqD (n+1) x y=eqS n x y:=by cases x<;>cases y<;>rfl
theorem allE_get{f:T->T->Option Bool}:∀ {xs ys:List T} {b:Bool},allE f xs ys=some b->∃ e:Nat->Bool,(∀ j x y,xs[j]?=some x->ys[j]?=some y->f x y=some (e j))/\b=(List.range (min xs.length ys.length)).all e
 | [],_,b,h=>⟨fun _=>true,fun j x y e=>by simp at e,by unfold allE at h; simp at h; simp [h]⟩
 | x::xs,[],b,h=>⟨fun _=>true,fun j x y _ e=>by simp at e,by unfold allE at h; simp at h; simp [h]⟩
 | x::xs,y::ys,b,h=>by
  unfold allE at h
  cases h1:f x y with
  | none=>rw [h1] at h; cases h
  | some c=>
   rw [h1,Option.bind_some] at h
   cases h2:allE f xs ys with
   | none=>rw [h2] at h; cases h
   | some d=>
    rw [h2] at h
    injection h with h
    obtain ⟨e,he,hd⟩:=allE_get h2
    refine ⟨fun j=>match j with | 0=>c | j+1=>e j,fun j x' y' e1 e2=>?_,?_⟩
    ·cases j with
     | zero=>simp at e1 e2; subst e1 e2; exact h1
     | succ j=>exact he j x' y' (by simpa using e1) (by simpa using e2)
    ·rw [<-h,hd,List.length_cons,List.length_cons,Nat.succ_min_succ,List.range_succ_eq_map,List.all_cons,List.all_map]
     rfl
theorem rep_same{C:Addr->Prop}{H:Hp}:∀ (n:Nat) {v:V} {t t':T} {b:Bool},Rep C H v t->Rep C H v t'->eqD n t t'=some b->b=true:=by
 have sc:∀ {v:V} {t t':T} {b:Bool},Rep C H v t->Rep C H v t'->scE t t'=some b->b=true:=by
  intro v t t' b h h' e
  cases h<;>cases h'<;>simp [scE] at e<;>(try subst e)<;>simp
 intro n
 induction n with
 | zero=>intro v t t' b h h' e; unfold eqD at e; exact sc h h' e
 | succ n ih=>
  intro v t t' b h h' e
  have lists:∀ {vs:List V} {xs ys:List T} {b:Bool},Reps C H vs xs->Reps C H vs ys->allE (eqD n) xs ys=some b->b=true:=by
   intro vs xs ys b hx hy h
   obtain ⟨e,he,rfl⟩:=allE_get h
   refine List.all_eq_true.mpr fun j hj=>?_
   have hj':=List.mem_range.mp hj
   have h1:j < xs.length:=by lia
   have h2:j < ys.length:=by lia
   have h3:j < vs.length:=by rw [hx.1]; exact h1
   have q1:=hx.2 j _ _ (List.getElem?_eq_getElem h3) (List.getElem?_eq_getElem h1)
   have q2:=hy.2 j _ _ (List.getElem?_eq_getElem h3) (List.getElem?_eq_getElem h2)
   exact ih q1 q2 (he j _ _ (List.getElem?_eq_getElem h1) (List.getElem?_eq_getElem h2))
  cases h with
  | lst c r l hc=>
   cases h' with
   | lst c' r' l' hc'=>
    rw [r] at r'; cases r'
    unfold eqD at e
    split at e
    ·exact lists ⟨l,hc⟩ ⟨l',hc'⟩ e
    ·lia
   | tup c' r' l' hc'=>rw [r] at r'; cases r'
   | dct c' r' l' hc'=>simp [eqD,scE] at e
   | set c' r'=>simp [eqD,scE] at e
   | fd c' r' l' hc'=>simp [eqD,scE] at e
   | scr c' r'=>simp [eqD,scE] at e
   | scrK r'=>simp [eqD,scE] at e
   | any=>simp [eqD,scE] at e
  | tup c r l hc=>
   cases h' with
   | tup c' r' l' hc'=>
    rw [r] at r'; cases r'
    unfold eqD at e
    cases h2:allE (eqD n) _ _ with
    | none=>rw [h2] at e; cases e
    | some d=>
     rw [h2] at e
     injection e with e
     subst e
     rw [lists ⟨l,hc⟩ ⟨l',hc'⟩ h2,<-l,<-l']
     simp
   | lst c' r' l' hc'=>rw [r] at r'; cases r'
   | dct c' r' l' hc'=>simp [eqD,scE] at e
   | set c' r'=>simp [eqD,scE] at e
   | fd c' r' l' hc'=>simp [eqD,scE] at e
   | scr c' r'=>simp [eqD,scE] at e
   | scrK r'=>simp [eqD,scE] at e
   | any=>simp [eqD,scE] at e
  | non=>exact sc .non h' (by cases h'<;>simpa [eqD] using e)
  | bl x=>exact sc (.bl x) h' (by cases h'<;>simpa [eqD] using e)
  | int x=>exact sc (.int x) h' (by cases h'<;>simpa [eqD] using e)
  | str x=>exact sc (.str x) h' (by cases h'<;>simpa [eqD] using e)
  | dct c r l hc=>cases h'<;>simp [eqD,scE] at e
  | set c r=>cases h'<;>simp [eqD,scE] at e
  | fd c r l hc=>cases h'<;>simp [eqD,scE] at e
  | scr c r=>cases h'<;>simp [eqD,scE] at e
  | scrK r=>cases h'<;>simp [eqD,scE] at e
  | any=>cases t'<;>simp [eqD,scE] at e
open PySem.SeqAt
section
variable {X:Cx}{pins:List (Addr × Obj)}{σ:L2.St}{H:Hp}{s:Shared}{C:Addr->Prop}
theorem sc_at{A:Around}{x y:V}{tx ty:T}{b:Bool}{u w:Value}(hx:Rep C H x tx)(hy:Rep C H y ty)(rx:RelV x u)(ry:RelV y w)(h:scE tx ty=some b):EqAt A s u w b/\RcAt A s u w b/\RcNeAt A s u w (!b):=by
 cases hx with
 | non=>
  cases rx
  cases hy with
  | non=>cases ry; injection h with h; subst h; exact ⟨.same _,.none_none,.none_none⟩
  | bl y=>cases ry; injection h with h; subst h; exact ⟨.none_bool _,.none_bool _,.none_bool _⟩
  | int y=>obtain ⟨t,rfl⟩:=ry; injection h with h; subst h; exact ⟨.none_int _ _,.none_int _ _,.none_int _ _⟩
  | str y=>obtain ⟨t,rfl⟩:=ry; injection h with h; subst h; exact ⟨.none_str _ _,.none_str _ _,.none_str _ _⟩
  | _=>cases h
 | bl x=>
  cases rx
  cases hy with
  | non=>cases ry; injection h with h; subst h; exact ⟨.bool_none _,.bool_none _,.bool_none _⟩
  | bl y=>cases ry; injection h with h; subst h; exact ⟨.bool_bool _ _,.bool_bool _ _,.bool_bool _ _⟩
  | int y=>obtain ⟨t,rfl⟩:=ry; injection h with h; subst h; exact ⟨.bool_int _ _ _,.bool_int _ _ _,.bool_int _ _ _⟩
  | str y=>obtain ⟨t,rfl⟩:=ry; injection h with h; subst h; exact ⟨.bool_str _ _ _,.bool_str _ _ _,.bool_str _ _ _⟩
  | _=>cases h
 | int x=>
  obtain ⟨t0,rfl⟩:=rx
  cases hy with
  | non=>cases ry; injection h with h; subst h; exact ⟨.int_none _ _,.int_none _ _,.int_none _ _⟩
  | bl y=>cases ry; injection h with h; subst h; exact ⟨.int_bool _ _ _,.int_bool _ _ _,.int_bool _ _ _⟩
  | int y=>obtain ⟨t,rfl⟩:=ry; injection h with h; subst h; exact ⟨.int_int _ _ _ _,.int_int _ _ _ _,.int_int _ _ _ _⟩
  | str y=>obtain ⟨t,rfl⟩:=ry; injection h with h; subst h; exact ⟨.int_str _ _ _ _,.int_str _ _ _ _,.int_str _ _ _ _⟩
  | _=>cases h
 | str x=>
  obtain ⟨t0,rfl⟩:=rx
  cases hy with
  | non=>cases ry; injection h with h; subst h; exact ⟨.str_none _ _,.str_none _ _,.str_none _ _⟩
  | bl y=>cases ry; injection h with h; subst h; exact ⟨.str_bool _ _ _,.str_bool _ _ _,.str_bool _ _ _⟩
  | int y=>obtain ⟨t,rfl⟩:=ry; injection h with h; subst h; exact ⟨.str_int _ _ _ _,.str_int _ _ _ _,.str_int _ _ _ _⟩
  | str y=>obtain ⟨t,rfl⟩:=ry; injection h with h; subst h; exact ⟨.str_str _ _ _ _,.str_str _ _ _ _,.str_str _ _ _ _⟩
  | _=>cases h
 | _=>cases ty<;>simp [scE] at h
theorem eq_at(I:Inv X pins σ H s):∀ (n:Nat) (A:Around) {x y:V} {tx ty:T} {b:Bool} {u w:Value},A.units+n < cLine->Rep C H x tx->Rep C H y ty->RelV x u->RelV y w->eqD n tx ty=some b->EqAt A s u w b/\RcAt A s u w b/\RcNeAt A s u w (!b):=by
 intro n
 induction n with
 | zero=>intro A x y tx ty b u w hu hx hy rx ry h; unfold eqD at h; exact sc_at hx hy rx ry h
 | succ n ih=>
  intro A x y tx ty b u w hu hx hy rx ry h
  have hu':A.units < cLine:=by lia
  have hin:A.in1.units+n < cLine:=by
   have:A.in1.units=A.units+1:=rfl
   lia
  have parts:∀ {vs us:List V} {xs ys:List T} {its its2:List Value} {e:Nat->Bool},Reps C H vs xs->Reps C H us ys->Vals vs its->Vals us its2->(∀ j x y,xs[j]?=some x->ys[j]?=some y->eqD n x y=some (e j))->
    ∀ j (h1:j < its.toArray.size) (h2:j < its2.toArray.size),EqAt A.in1 s its.toArray[j] its2.toArray[j] (e j):=by
   intro vs us xs ys its its2 e hvs hus r r2 he j h1 h2
   rw [List.size_toArray] at h1 h2
   have v1:j < vs.length:=by rw [r.length]; exact h1
   have v2:j < us.length:=by rw [r2.length]; exact h2
   have x1:j < xs.length:=by rw [<-hvs.1]; exact v1
   have y1:j < ys.length:=by rw [<-hus.1]; exact v2
   obtain ⟨w1,e1,q1⟩:=r.get (List.getElem?_eq_getElem v1)
   obtain ⟨w2,e2,q2⟩:=r2.get (List.getElem?_eq_getElem v2)
   rw [List.getElem?_eq_getElem h1] at e1
   rw [List.getElem?_eq_getElem h2] at e2
   injection e1 with e1
   injection e2 with e2
   simp only [List.getElem_toArray,e1,e2]
   exact (ih A.in1 hin (hvs.2 j _ _ (List.getElem?_eq_getElem v1) (List.getElem?_eq_getElem x1)) (hus.2 j _ _ (List.getElem?_eq_getElem v2) (List.getElem?_eq_getElem y1)) q1 q2 (he j _ _ (List.getElem?_eq_getElem x1) (List.getElem?_eq_getElem y1))).1
  have refs:∀ {p q:Addr},x=.ref p->y=.ref q->RcAt A s (.ref p) (.ref q) b->EqAt A s (.ref p) (.ref q) b:=by
   intro p q ep eq hr
   by_cases hpq:p=q
   ·subst hpq
    have:b=true:=rep_same (n+1) (v:=.ref p) (ep▸hx) (eq▸hy) h
    rw [this]
    exact .same _
   ·exact .of_refs hpq hr
  have scs:scE tx ty=some b->EqAt A s u w b/\RcAt A s u w b/\RcNeAt A s u w (!b):=sc_at hx hy rx ry
  rw [eqD_succ] at h
  unfold eqS at h
  split at h
  ·rename_i xs ys
   obtain ⟨p,vs,rfl,hp,rp⟩:=BRep.lst (.inl hx)
   obtain ⟨q,us,rfl,hq,rq⟩:=BRep.lst (.inl hy)
   cases rx; cases ry
   obtain ⟨its,r,pl,_⟩:=I.list (SqL.of hp)
   obtain ⟨its2,r2,pl2,_⟩:=I.list (SqL.of hq)
   have l1:=r.length
   have l2:=r2.length
   have l3:=rp.1
   have l4:=rq.1
   split at h
   ·rename_i hl
    obtain ⟨e,he,hb⟩:=allE_get h
    have sz:its.toArray.size=its2.toArray.size:=by rw [List.size_toArray,List.size_toArray]; lia
    have rc:=RcAt.lists pl.isList pl2.isList sz hu' (parts rp rq r r2 he)
    have rn:=RcNeAt.lists pl.isList pl2.isList sz hu' (parts rp rq r r2 he)
    have hb':b=(List.range its.toArray.size).all e:=by rw [hb,List.size_toArray,hl,Nat.min_self,show its.length=ys.length by lia]
    rw [<-hb'] at rc rn
    exact ⟨refs rfl rfl rc,rc,rn⟩
   ·rename_i hl
    injection h with h
    subst h
    have sz:(its.toArray.size != its2.toArray.size)=true:=by simp; lia
    have rc:=RcAt.lists_lengths pl.isList pl2.isList sz hu'
    exact ⟨refs rfl rfl rc,rc,RcNeAt.lists_lengths pl.isList pl2.isList sz hu'⟩
  ·rename_i xs ys
   obtain ⟨p,vs,rfl,hp,rp⟩:=BRep.tup (.inl hx)
   obtain ⟨q,us,rfl,hq,rq⟩:=BRep.tup (.inl hy)
   cases rx; cases ry
   obtain ⟨its,r,pl,_⟩:=I.tuple (SqT.of hp)
   obtain ⟨its2,r2,pl2,_⟩:=I.tuple (SqT.of hq)
   have l1:=r.length
   have l2:=r2.length
   have l3:=rp.1
   have l4:=rq.1
   cases h2:allE (eqD n) xs ys with
   | none=>rw [h2] at h; cases h
   | some d=>
    rw [h2] at h
    injection h with h
    obtain ⟨e,he,hb⟩:=allE_get h2
    have rc:=RcAt.tuples pl pl2 hu' (parts rp rq r r2 he)
    have rn:=RcNeAt.tuples pl pl2 hu' (parts rp rq r r2 he)
    have hb':b=((List.range (min its.toArray.size its2.toArray.size)).all e&&its.toArray.size == its2.toArray.size):=by
     rw [<-h,hb,List.size_toArray,List.size_toArray,show its.length=xs.length by lia,show its2.length=ys.length by lia]
    rw [<-hb'] at rc rn
    exact ⟨refs rfl rfl rc,rc,rn⟩
  ·obtain ⟨p,vs,rfl,hp,rp⟩:=BRep.lst (.inl hx)
   obtain ⟨q,us,rfl,hq,rq⟩:=BRep.tup (.inl hy)
   cases rx; cases ry
   obtain ⟨its,r,pl,_⟩:=I.list (SqL.of hp)
   obtain ⟨its2,r2,pl2,_⟩:=I.tuple (SqT.of hq)
   injection h with h
   subst h
   exact ⟨.list_tuple pl.isList pl2 hu',.list_tuple pl.isList pl2 hu',.list_tuple pl.isList pl2 hu'⟩
  ·obtain ⟨p,vs,rfl,hp,rp⟩:=BRep.tup (.inl hx)
   obtain ⟨q,us,rfl,hq,rq⟩:=BRep.lst (.inl hy)
   cases rx; cases ry
   obtain ⟨its,r,pl,_⟩:=I.tuple (SqT.of hp)
   obtain ⟨its2,r2,pl2,_⟩:=I.list (SqL.of hq)
   injection h with h
   subst h
   exact ⟨.tuple_list pl pl2.isList hu',.tuple_list pl pl2.isList hu',.tuple_list pl pl2.isList hu'⟩
  ·exact scs h
end
end L3
namespace L3
open PySem PySem.Spec PyProof.Rows L2
variable [TheK]
theorem BRep.all{C:Addr->Prop}{H:Hp}{v:V}{t:T}(h:BRep C H v t):Rep (fun _=>True) H v t:=by
 rcases h with h | ⟨a,rfl,h⟩
 ·exact h.mono (fun _ _=>trivial) fun _ _ _ e=>e
 ·exact h.rep (fun _ _=>trivial) trivial
def gEq(x y:T):Option T:=(eqD 8 x y).map .bl
def gNe(x y:T):Option T:=(eqD 8 x y).map fun b=>.bl (!b)
def rEqT(neg:Bool):R2:=fun x y H Q=>∃ tx ty b,Rep (fun _=>True) H x tx/\Rep (fun _=>True) H y ty/\eqD 8 tx ty=some b/\Q (.bl (if neg then !b else b)) H
theorem op_eqT{X:Cx}(hu:X.A.units+8 < cLine):OpR X (compareOp .Eq) (rEqT false):=by
 intro pins s sg H x y v u Q I rx ry h
 obtain ⟨tx,ty,b,hx,hy,e,q⟩:=h
 exact (eq_at I 8 X.A hu hx hy rx ry e).2.1 _ _ _ _ ⟨.bl b,H,I,rfl,q⟩
theorem op_neT{X:Cx}(hu:X.A.units+8 < cLine):OpR X (compareOp .NotEq) (rEqT true):=by
 intro pins s sg H x y v u Q I rx ry h
 obtain ⟨tx,ty,b,hx,hy,e,q⟩:=h
 exact (eq_at I 8 X.A hu hx hy rx ry e).2.2 _ _ _ _ ⟨.bl (!b),H,I,rfl,q⟩
theorem s_eq:S2E (rEqT false) gEq:=by
 intro C H x y tx ty t Q bx by' hg q
 unfold gEq at hg
 cases e:eqD 8 tx ty with
 | none=>rw [e] at hg; cases hg
 | some b=>
  rw [e] at hg
  injection hg with hg; subst hg
  exact ⟨tx,ty,b,bx.all,by'.all,e,q _ (.bl b)⟩
theorem s_ne:S2E (rEqT true) gNe:=by
 intro C H x y tx ty t Q bx by' hg q
 unfold gNe at hg
 cases e:eqD 8 tx ty with
 | none=>rw [e] at hg; cases hg
 | some b=>
  rw [e] at hg
  injection hg with hg; subst hg
  exact ⟨tx,ty,b,bx.all,by'.all,e,q _ (.bl (!b))⟩
def gLt:=gCmp (fun i j=>decide (i < j)) fun i j=>decide (i.cps.toList < j.cps.toList)
def gI1(p:Int->Int->Bool):T->T->Option T
 | .int i,.int j=>some (.bl (p i j))
 | _,_=>none
def gLe:=gI1 fun i j=>decide (i<=j)
def gGt:=gI1 fun i j=>decide (j < i)
def gGe:=gI1 fun i j=>decide (j<=i)
theorem s_I1{p:Int->Int->Bool}:S2E (rI0 (fun i j=>.bl (p i j))) (gI1 p):=by
 intro C H x y tx ty t Q bx by' hg q
 unfold gI1 at hg
 split at hg
 ·injection hg with hg; subst hg
  exact ⟨_,_,bx.int,by'.int,q _ (.bl _)⟩
 ·cases hg
def toV:T->Option V
 | .non=>some .non | .bl b=>some (.bl b) | .int i=>some (.int i) | .str x=>some (.str x) | _=>none
def toVs:List T->Option (List V)
 | []=>some []
 | t::ts=>(toV t).bind fun v=>(toVs ts).map fun vs=>v::vs
theorem toV_ok{C:Addr->Prop}{H:Hp}{v u:V}{t:T}(h:BRep C H v t)(e:toV t=some u):u=v/\flatV v=true:=by
 cases t<;>simp [toV] at e
 ·exact ⟨by rw [h.non,<-e],by rw [h.non]; rfl⟩
 ·exact ⟨by rw [h.bl,<-e],by rw [h.bl]; rfl⟩
 ·exact ⟨by rw [h.int,<-e],by rw [h.int]; rfl⟩
 ·exact ⟨by rw [h.str,<-e],by rw [h.str]; rfl⟩
theorem toVs_ok{C:Addr->Prop}{H:Hp}:∀ {vs us:List V} {ts:List T},Reps C H vs ts->toVs ts=some us->us=vs/\vs.all flatV=true
 | [],us,[],_,e=>by unfold toVs at e; injection e with e; exact ⟨e.symm,rfl⟩
 | v::vs,us,[],h,_=>by have:=h.1; simp at this
 | [],us,t::ts,h,_=>by have:=h.1; simp at this
 | v::vs,us,t::ts,h,e=>by
  unfold toVs at e
  cases e1:toV t with
  | none=>rw [e1] at e; cases e
  | some a=>
   rw [e1,Option.bind_some] at e
   cases e2:toVs ts with
   | none=>rw [e2] at e; cases e
   | some as=>
    rw [e2] at e
    injection e with e
    obtain ⟨q1,q2⟩:=toV_ok (.inl h.head) e1
    obtain ⟨q3,q4⟩:=toVs_ok h.tail e2
    exact ⟨by rw [<-e,q1,q3],by rw [List.all_cons,q2,q4]; rfl⟩
def lookT(kvs:List (Key × T))(k:Key):Option T:=(kvs.find? fun kv=>decide (kv.1=k)).map (·.2)
theorem lookT_cons(p:Key × T)(r:List (Key × T))(k:Key):lookT (p::r) k=if p.1=k then some p.2 else lookT r k:=by
 unfold lookT
 rw [List.find?_cons]
 by_cases h:p.1=k
 ·rw [if_pos h,decide_eq_true h]; rfl
 ·rw [if_neg h,decide_eq_false h]
theorem RepK.tail{C:Addr->Prop}{H:Hp}{p:Key × V}{q:Key × T}{vs:List (Key × V)}{ts:List (Key × T)}(h:RepK C H (p::vs) (q::ts)):p.1=q.1/\Rep C H p.2 q.2/\RepK C H vs ts:=by
 have h1:=h.1
 rw [List.map_cons,List.map_cons] at h1
 injection h1 with a b
 exact ⟨a,h.2 0 p q rfl rfl,b,fun i v t e1 e2=>h.2 (i+1) v t (by simpa using e1) (by simpa using e2)⟩
theorem RepK.look{C:Addr->Prop}{H:Hp}(k:Key):∀ {vs:List (Key × V)} {ts:List (Key × T)},RepK C H vs ts->(valV vs k=none/\lookT ts k=none)∨∃ v t,valV vs k=some v/\lookT ts k=some t/\Rep C H v t
 | [],[],_=>.inl ⟨rfl,rfl⟩
 | p::vs,[],h=>by have:=h.1; simp at this
 | [],q::ts,h=>by have:=h.1; simp at this
 | p::vs,q::ts,h=>by
  obtain ⟨e,r,h'⟩:=h.tail
  rw [lookT_cons]
  by_cases hk:q.1=k
  ·rw [if_pos hk,valV_pos (e.trans hk)]
   exact .inr ⟨_,_,rfl,rfl,r⟩
  ·rw [if_neg hk,valV_neg (fun z=>hk (e.symm.trans z))]
   exact RepK.look k h'
def keyT:T->Option Key
 | .int i=>some (.inl i)
 | .str x=>some (.inr x)
 | _=>none
theorem keyT_ok{C:Addr->Prop}{H:Hp}{v:V}{t:T}{k:Key}(h:BRep C H v t)(e:keyT t=some k):v=kV k:=by
 cases t<;>simp [keyT] at e
 ·rw [h.int,<-e]; rfl
 ·rw [h.str,<-e]; rfl
def gInB(x y:T):Option Bool:=match y with
 | .lst ys=>(toV x).bind fun v=>(toVs ys).map fun vs=>inV v vs
 | .tup ys=>(toV x).bind fun v=>(toVs ys).map fun vs=>inV v vs
 | _=>none
def gIn(x y:T):Option T:=(gInB x y).map .bl
def gNotIn(x y:T):Option T:=(gInB x y).map fun b=>.bl (!b)
def gDInB(x y:T):Option Bool:=match y with
 | .dct kvs=>(keyT x).map fun k=>(lookT kvs k).isSome
 | .fd kvs=>(keyT x).map fun k=>(lookT kvs k).isSome
 | _=>none
def gDIn(x y:T):Option T:=(gDInB x y).map .bl
def gDNotIn(x y:T):Option T:=(gDInB x y).map fun b=>.bl (!b)
theorem s_inb{K:PySem.W.Frag}{neg:Bool}:S2E (rIn K neg) fun x y=>(gInB x y).map fun b=>.bl (if neg then !b else b):=by
 intro C H x y tx ty t Q bx by' hg q
 obtain ⟨b,e,rfl⟩:=Qm hg
 have fin:∀ {p vs ys},y=.ref p->(SqL K H p vs∨SqT K H p vs)->Reps C H vs ys->((toV tx).bind fun v=>(toVs ys).map fun vs=>inV v vs)=some b->rIn K neg x y H Q:=by
  intro p vs ys e1 e2 r e5
  obtain ⟨v,e3,e5⟩:=Qb e5
  obtain ⟨us,e4,rfl⟩:=Qm e5
  obtain ⟨q1,q2⟩:=toV_ok bx e3
  obtain ⟨q3,q4⟩:=toVs_ok r e4
  subst q1 q3
  exact ⟨p,_,e1,e2,q2,q4,q _ (.bl _)⟩
 cases ty with
 | lst ys=>
  obtain ⟨p,vs,e1,e2,r⟩:=by'.lst
  exact fin e1 (.inl (SqL.of e2)) r e
 | tup ys=>
  obtain ⟨p,vs,e1,e2,r⟩:=by'.tup
  exact fin e1 (.inr (SqT.of e2)) r e
 | _=>cases e
theorem s_din{neg:Bool}:S2E (fun y x H Q=>∃ a o,x=.ref a/\DGet H a y o/\Q (.bl (if neg then !o.isSome else o.isSome)) H) fun x y=>(gDInB x y).map fun b=>.bl (if neg then !b else b):=by
 intro C H x y tx ty t Q bx by' hg q
 obtain ⟨b,e,rfl⟩:=Qm hg
 cases ty with
 | dct kts=>
  obtain ⟨p,kvs,rfl,e2,r⟩:=by'.dct
  obtain ⟨k,e3,rfl⟩:=Qm (show (keyT tx).map (fun k=>(lookT kts k).isSome)=some b from e)
  obtain rfl:=keyT_ok bx e3
  refine ⟨p,_,rfl,DGet.k e2,?_⟩
  have:(lookT kts k).isSome=(valV kvs k).isSome:=by
   rcases r.look k with ⟨h1,h2⟩ | ⟨_,_,h1,h2,_⟩<;>rw [h1,h2]<;>rfl
  rw [<-this]
  exact q _ (.bl _)
 | fd kts=>
  obtain ⟨p,ob,kvs,rfl,e2,r,_⟩:=by'.fd
  obtain ⟨k,e3,rfl⟩:=Qm (show (keyT tx).map (fun k=>(lookT kts k).isSome)=some b from e)
  obtain rfl:=keyT_ok bx e3
  refine ⟨p,_,rfl,.inl ⟨kvs,k,.inr ⟨ob,e2⟩,rfl,rfl⟩,?_⟩
  have:(lookT kts k).isSome=(valV kvs k).isSome:=by
   rcases r.look k with ⟨h1,h2⟩ | ⟨_,_,h1,h2,_⟩<;>rw [h1,h2]<;>rfl
  rw [<-this]
  exact q _ (.bl _)
 | _=>cases e
def gIx:T->T->Option T
 | .lst xs,.int i=>atI xs i
 | .tup xs,.int i=>atI xs i
 | .str x,.int i=>if x.length<=sizeLine then (atI x.cps.toList i).map fun c=>.str ⟨#[c]⟩ else none
 | .scr ns,.int i=>(atI ns i).map .int
 | _,_=>none
def gDIx(x y:T):Option T:=match x with
 | .dct kvs=>(keyT y).bind fun k=>lookT kvs k
 | .fd kvs=>(keyT y).bind fun k=>lookT kvs k
 | _=>none
theorem Reps.at{C:Addr->Prop}{H:Hp}{vs:List V}{ts:List T}{i:Int}{t:T}(h:Reps C H vs ts)(e:atI ts i=some t):∃ v,atI vs i=some v/\Rep C H v t:=by
 unfold atI at e ⊢
 rw [h.1]
 cases e1:ixN ts.length i with
 | none=>rw [e1] at e; cases e
 | some j=>
  rw [e1] at e
  exact h.get e
theorem s_ix:S2E (rIx TheK.K) gIx:=by
 intro C H x y tx ty t Q bx by' hg q
 unfold gIx at hg
 split at hg
 ·obtain ⟨p,vs,rfl,e2,r⟩:=bx.lst
  obtain ⟨v,h1,h2⟩:=r.at hg
  exact .inl ⟨p,vs,_,v,rfl,by'.int,SqL.of e2,h1,q v h2⟩
 ·obtain ⟨p,vs,rfl,e2,r⟩:=bx.tup
  obtain ⟨v,h1,h2⟩:=r.at hg
  exact .inr (.inl ⟨p,vs,_,v,rfl,by'.int,SqT.of e2,h1,q v h2⟩)
 ·split at hg
  ·rename_i hl
   obtain ⟨c,h1,h2⟩:=Qm hg
   subst h2
   exact .inr (.inr ⟨_,_,c,bx.str,by'.int,hl,h1,q _ (.str _)⟩)
  ·cases hg
 ·obtain ⟨p,rfl,e2⟩:=bx.scr
  obtain ⟨c,h1,h2⟩:=Qm hg
  subst h2
  refine .inl ⟨p,_,_,.int c,rfl,by'.int,e2,?_,q _ (.int c)⟩
  unfold atI at h1 ⊢
  rw [List.length_map]
  cases e1:ixN _ _ with
  | none=>rw [e1] at h1; cases h1
  | some j=>
   rw [e1,Option.bind_some] at h1
   rw [Option.bind_some,List.getElem?_map,h1]
   rfl
 ·cases hg
theorem s_dix:S2E (fun x y H Q=>∃ a v,x=.ref a/\DGet H a y (some v)/\Q v H) gDIx:=by
 intro C H x y tx ty t Q bx by' hg q
 unfold gDIx at hg
 split at hg
 ·obtain ⟨p,kvs,rfl,e2,r⟩:=bx.dct
  cases e3:keyT ty with
  | none=>rw [e3] at hg; cases hg
  | some k=>
   rw [e3,Option.bind_some] at hg
   obtain rfl:=keyT_ok by' e3
   rcases r.look k with ⟨h1,h2⟩ | ⟨v,t',h1,h2,h3⟩
   ·rw [h2] at hg; cases hg
   ·rw [h2] at hg
    injection hg with hg; subst hg
    exact ⟨p,v,rfl,h1▸DGet.k e2,q v h3⟩
 ·obtain ⟨p,ob,kvs,rfl,e2,r,_⟩:=bx.fd
  cases e3:keyT ty with
  | none=>rw [e3] at hg; cases hg
  | some k=>
   rw [e3,Option.bind_some] at hg
   obtain rfl:=keyT_ok by' e3
   rcases r.look k with ⟨h1,h2⟩ | ⟨v,t',h1,h2,h3⟩
   ·rw [h2] at hg; cases hg
   ·rw [h2] at hg
    injection hg with hg; subst hg
    exact ⟨p,v,rfl,.inl ⟨kvs,k,.inr ⟨ob,e2⟩,rfl,h1.symm⟩,q v h3⟩
 ·cases hg
section
variable {X:Cx}{M:List Nat}{a b:Expr}{fa fb:DE}{pos:Pos}
theorem e_eq(hu:X.A.units+8 < cLine)(ha:PE X a (cE .e M fa))(hb:PE X b (cE .b M fb)):PE X (.Compare a [.Eq] [b] pos) (cE .e M (d2 gEq fa fb)):=weak (pe_cmpR (op_eqT hu) ha hb (nomark _)) (two_e s_eq)
theorem e_ix(hK:X.K=TheK.K)(ha:PE X a (cE .e M fa))(hb:PE X b (cE .b M fb))(hs:PlainIx b):PE X (.Subscript a b pos) (cE .e M (d2 gIx fa fb)):=weak (pe_ix (hK▸ix_seq) ha hb hs) (two_e s_ix)
theorem e_ixV{i:Nat}(hK:X.K=TheK.K)(hi:M.contains i=true)(ha:PE X a (tVar i))(hb:PE X b (cE .b M fb))(hs:PlainIx b):PE X (.Subscript a b pos) (cE .e M (d2v gIx i fb)):=weak (pe_ix (hK▸ix_seq) ha hb hs) (two_ev hi s_ix)
theorem e_dix(hu:X.A.units+1 < cLine)(ha:PE X a (cE .e M fa))(hb:PE X b (cE .b M fb))(hs:NoSl b):PE X (.Subscript a b pos) (cE .e M (d2 gDIx fa fb)):=weak (pe_dget hu ha hb hs) fun σ H Q h=>two_e s_dix σ H Q h
theorem e_dixV{i:Nat}(hi:M.contains i=true)(hu:X.A.units+1 < cLine)(ha:PE X a (tVar i))(hb:PE X b (cE .b M fb))(hs:NoSl b):PE X (.Subscript a b pos) (cE .e M (d2v gDIx i fb)):=weak (pe_dget hu ha hb hs) fun σ H Q h=>two_ev hi s_dix σ H Q h
end
end L3
namespace L3
open PySem PySem.Spec PyProof.Rows L2
variable [TheK]
def dB(f:DE):DT:=fun s=>(f s).bind fun p=>match p.1 with
 | .bl b=>some (b,p.2)
 | _=>none
theorem dB_some{f:DE}{s s':Sg}{b:Bool}(h:dB f s=some (b,s')):f s=some (.bl b,s'):=by
 obtain ⟨p,h1,h2⟩:=Qb h
 obtain ⟨t,s1⟩:=p
 cases t<;>simp at h2
 rw [h1,h2.1,h2.2]
theorem tst{M:List Nat}{f:DE}{t:TE}(h:∀ σ H Q,cE .e M f σ H Q->t σ H Q):∀ σ H Q,cT M (dB f) σ H Q->tTest t σ H Q:=by
 intro σ H Q h_;refine cT_ h_ fun F O s b s' R hf q=>?_
 exact h σ H _ ⟨F,O,s,.bl b,s',R,dB_some hf,fun v H' S p=>⟨b,BRep.bl (.inl p.2),q H' S p.1⟩⟩
def tru:T->Option Bool
 | .non=>some false | .bl b=>some b | .int i=>some (i != 0)
 | .str x=>if x.length<=sizeLine then some ((x.length:Int) != 0) else none
 | .lst xs=>some (!xs.isEmpty) | .tup xs=>some (!xs.isEmpty) | .dct xs=>some (!xs.isEmpty)
 | _=>none
theorem len_empty{α β:Type}{xs:List α}{ys:List β}(h:xs.length=ys.length):(!ys.isEmpty)=!xs.isEmpty:=by
 cases xs<;>cases ys<;>simp at h<;>rfl
theorem tru_ok3{K:PySem.W.Frag}{C:Addr->Prop}{H:Hp}{v:V}{t:T}{b:Bool}(h:BRep C H v t)(e:tru t=some b):TruV K v H b:=by
 cases t with
 | non=>rw [h.non]; injection e with e; exact e.symm
 | bl x=>rw [h.bl]; injection e with e; exact e.symm
 | int x=>rw [h.int]; injection e with e; exact e.symm
 | str x=>
  rw [h.str]
  by_cases hl:x.length<=sizeLine
  ·have e':(if x.length<=sizeLine then some ((x.length:Int) != 0) else none)=some b:=e
   rw [if_pos hl] at e'
   injection e' with e'
   exact ⟨hl,e'.symm⟩
  ·have e':(if x.length<=sizeLine then some ((x.length:Int) != 0) else none)=some b:=e
   rw [if_neg hl] at e'
   cases e'
 | lst xs=>
  obtain ⟨p,vs,rfl,e2,r⟩:=h.lst
  injection e with e
  exact .inl ⟨vs,SqL.of e2,by rw [<-e]; exact len_empty r.1⟩
 | tup xs=>
  obtain ⟨p,vs,rfl,e2,r⟩:=h.tup
  injection e with e
  exact .inr (.inl ⟨vs,SqT.of e2,by rw [<-e]; exact len_empty r.1⟩)
 | dct xs=>
  obtain ⟨p,vs,rfl,e2,r⟩:=h.dct
  injection e with e
  have l:vs.length=xs.length:=by simpa using congrArg List.length r.1
  exact .inr (.inr ⟨vs,e2,by rw [<-e]; exact len_empty l⟩)
 | _=>cases e
def dTru(f:DE):DT:=fun s=>(f s).bind fun p=>(tru p.1).map fun b=>(b,p.2)
def dAnd(f g:DT):DT:=fun s=>(f s).bind fun p=>if p.1 then g p.2 else some (false,p.2)
def dOr(f g:DT):DT:=fun s=>(f s).bind fun p=>if p.1 then some (true,p.2) else g p.2
def dNot(f:DT):DT:=fun s=>(f s).map fun p=>(!p.1,p.2)
def dAndV(f g:DE):DE:=fun s=>(dB f s).bind fun p=>if p.1 then g p.2 else some (.bl false,p.2)
def dNotV(f:DE):DE:=fun s=>(dB f s).map fun p=>(.bl (!p.1),p.2)
def dIf(c:DT)(f g:DE):DE:=fun s=>(c s).bind fun p=>if p.1 then f p.2 else g p.2
section
variable {X:Cx}{M:List Nat}{a b c:Expr}{fa fb:DE}{ft fu:DT}{pos:Pos}{k:Kd}
theorem t_tru(h:PE X a (cE .b M fa))(he:∀ whole,isTrue a X.env whole=(do let v <-whole; standAt a.pos; holding [v] (truthy v)):=by intro _; rfl):PT X a (cT M (dTru fa)):=weakT (pt_truth h he) (by
 intro σ H Q h_;refine cT_ h_ fun F O s b s' R hf q=>?_
 obtain ⟨p,h1,h2⟩:=Qb hf
 obtain ⟨b',h3,h4⟩:=Qm h2
 injection h4 with h4 h5
 subst h4 h5
 exact ⟨F,O,s,p.1,p.2,R,h1,fun v H' S po=>⟨b',tru_ok3 po.view h3,q H' S po.1⟩⟩)
theorem t_eq(hu:X.A.units+8 < cLine)(ha:PE X a (cE .e M fa))(hb:PE X b (cE .b M fb)):PT X (.Compare a [.Eq] [b] pos) (cT M (dB (d2 gEq fa fb))):=weakT (pt_cmpR (op_eqT hu) ha hb (nomark _)) (tst (two_e s_eq))
theorem t_ne(hu:X.A.units+8 < cLine)(ha:PE X a (cE .e M fa))(hb:PE X b (cE .b M fb)):PT X (.Compare a [.NotEq] [b] pos) (cT M (dB (d2 gNe fa fb))):=weakT (pt_cmpR (op_neT hu) ha hb (nomark _)) (tst (two_e s_ne))
theorem t_lt(ha:PE X a (cE .e M fa))(hb:PE X b (cE .b M fb)):PT X (.Compare a [.Lt] [b] pos) (cT M (dB (d2 gLt fa fb))):=weakT (pt_cmpR (op_lt.or op_lt_str) ha hb (nomark _)) (tst (two_e s_cmp))
theorem t_gt(ha:PE X a (cE .e M fa))(hb:PE X b (cE .b M fb)):PT X (.Compare a [.Gt] [b] pos) (cT M (dB (d2 gGt fa fb))):=weakT (pt_cmpR op_gt ha hb (nomark _)) (tst (two_e s_I1))
theorem t_ge(ha:PE X a (cE .e M fa))(hb:PE X b (cE .b M fb)):PT X (.Compare a [.GtE] [b] pos) (cT M (dB (d2 gGe fa fb))):=weakT (pt_cmpR op_ge ha hb (nomark _)) (tst (two_e s_I1))
theorem t_notin(ha:PE X a (cE .e M fa))(hb:PE X b (cE .b M fb))(hm:behindInMarks .NotIn b=false):PT X (.Compare a [.NotIn] [b] pos) (cT M (dB (d2 gNotIn fa fb))):=weakT (pt_cmpR op_notIn_seq ha hb hm) (tst (two_e (s_inb (neg:=true))))
theorem t_dnotin(hu:X.A.units+1 < cLine)(ha:PE X a (cE .e M fa))(hb:PE X b (cE .b M fb))(hm:behindInMarks .NotIn b=false):PT X (.Compare a [.NotIn] [b] pos) (cT M (dB (d2 gDNotIn fa fb))):=weakT (pt_cmp (pc_dnotin hu ha hb) hm) fun σ H Q h=>tst (two_e (s_din (neg:=true))) σ H Q h
theorem t_not(h:PT X a (cT M ft)):PT X (.UnaryOp .Not a pos) (cT M (dNot ft)):=weakT (pt_not h) (by
 intro σ H Q h_;refine cT_ h_ fun F O s b s' R hf q=>?_
 obtain ⟨p,h1,h2⟩:=Qm hf
 injection h2 with h2 h3
 subst h2 h3
 exact ⟨F,O,s,p.1,p.2,R,h1,fun H' S R'=>q H' S R'⟩)
theorem w_and1(h:PT X a (cT M ft)):PW X (.BoolOp .And [a] pos) (cT M ft):=pw_and1 h
theorem w_or1(h:PT X a (cT M ft)):PW X (.BoolOp .Or [a] pos) (cT M ft):=pw_or1 h
theorem w_and{rest:List Expr}(ha:PT X a (cT M ft))(hb:PW X (.BoolOp .And (b::rest) pos) (cT M fu)):PW X (.BoolOp .And (a::b::rest) pos) (cT M (dAnd ft fu)):=weakW (pw_and ha hb) (by
 intro σ H Q h_;refine cT_ h_ fun F O s b s' R hf q=>?_
 obtain ⟨p,h1,h2⟩:=Qb hf
 refine ⟨F,O,s,p.1,p.2,R,h1,fun H' S R'=>?_⟩
 split at h2
 ·rename_i hp
  rw [if_pos hp]
  exact ⟨F,O,p.2,b,s',R',h2,fun H2 S2 R2=>q H2 (S.trans S2) R2⟩
 ·rename_i hp
  rw [if_neg hp]
  injection h2 with h2
  injection h2 with h2 h3
  subst h2 h3
  exact q H' S R')
theorem w_or{rest:List Expr}(ha:PT X a (cT M ft))(hb:PW X (.BoolOp .Or (b::rest) pos) (cT M fu)):PW X (.BoolOp .Or (a::b::rest) pos) (cT M (dOr ft fu)):=weakW (pw_or ha hb) (by
 intro σ H Q h_;refine cT_ h_ fun F O s b s' R hf q=>?_
 obtain ⟨p,h1,h2⟩:=Qb hf
 refine ⟨F,O,s,p.1,p.2,R,h1,fun H' S R'=>?_⟩
 split at h2
 ·rename_i hp
  rw [if_pos hp]
  injection h2 with h2
  injection h2 with h2 h3
  subst h2 h3
  exact q H' S R'
 ·rename_i hp
  rw [if_neg hp]
  exact ⟨F,O,p.2,b,s',R',h2,fun H2 S2 R2=>q H2 (S.trans S2) R2⟩)
theorem e_one{op}(h:PE X a (cE .e M fa)):PE X (.BoolOp op [a] pos) (cE .e M fa):=pe_one h
theorem e_and{rest:List Expr}(ha:PE X a (cE .e M fa))(hb:PE X (.BoolOp .And (b::rest) pos) (cE .e M fb)):PE X (.BoolOp .And (a::b::rest) pos) (cE .e M (dAndV fa fb)):=weak (pe_and ha hb) (by
 intro σ H Q h_;refine cE_ h_ fun F O s t s' R hf q=>?_
 obtain ⟨p,h1,h2⟩:=Qb hf
 refine ⟨F,O,s,.bl p.1,p.2,R,dB_some h1,fun v H' S po=>⟨p.1,BRep.bl (.inl po.2),?_⟩⟩
 split at h2
 ·rename_i hp
  rw [if_pos hp]
  exact ⟨F,O,p.2,t,s',po.1,h2,fun w H2 S2 p2=>q w H2 (S.trans S2) p2⟩
 ·rename_i hp
  rw [if_neg hp]
  injection h2 with h2
  injection h2 with h2 h3
  subst h2 h3
  exact q _ H' S ⟨po.1,.bl false⟩)
theorem e_not(ha:PE X a (cE .e M fa)):PE X (.UnaryOp .Not a pos) (cE .e M (dNotV fa)):=weak (pe_not ha) (by
 intro σ H Q h_;refine cE_ h_ fun F O s t s' R hf q=>?_
 obtain ⟨p,h1,h2⟩:=Qm hf
 injection h2 with h2 h3
 subst h2 h3
 exact ⟨F,O,s,.bl p.1,p.2,R,dB_some h1,fun v H' S po=>⟨p.1,BRep.bl (.inl po.2),q _ H' S ⟨po.1,.bl _⟩⟩⟩)
theorem e_if(hc:PT X c (cT M ft))(ha:PE X a (cE .e M fa))(hb:PE X b (cE .e M fb)):PE X (.IfExp c a b pos) (cE .e M (dIf ft fa fb)):=weak (pe_ifExp hc ha hb) (by
 intro σ H Q h_;refine cE_ h_ fun F O s t s' R hf q=>?_
 obtain ⟨p,h1,h2⟩:=Qb hf
 refine ⟨F,O,s,p.1,p.2,R,h1,fun H' S R'=>?_⟩
 split at h2
 ·rename_i hp
  rw [if_pos hp]
  exact ⟨F,O,p.2,t,s',R',h2,fun w H2 S2 p2=>q w H2 (S.trans S2) p2⟩
 ·rename_i hp
  rw [if_neg hp]
  exact ⟨F,O,p.2,t,s',R',h2,fun w H2 S2 p2=>q w H2 (S.trans S2) p2⟩)
end
def dAn:DA:=fun s=>some ([],s)
def dAc(f:DE)(g:DA):DA:=fun s=>(f s).bind fun p=>(g p.2).map fun q=>(p.1::q.1,q.2)
def dLst(f:DA):DE:=fun s=>(f s).bind fun p=>if p.1.length<=sizeLine then some (.lst p.1,p.2) else none
section
variable {X:Cx}{M:List Nat}{e:Expr}{es:List Expr}{fe:DE}{fa:DA}{pos:Pos}
theorem a_nil:PA X [] (cA M dAn):=weakA pa_nil (by
 rintro σ H Q ⟨F,O,s,ts,s',R,hf,q⟩
 injection hf with hf
 injection hf with h1 h2
 subst h1 h2
 exact q [] H .refl R .nil)
theorem a_cons(h:PE X e (cE .e M fe))(ha:PA X es (cA M fa))(hs:starEach (e::es) X.env=(false,eval e X.env)::starEach es X.env:=by rfl):PA X (e::es) (cA M (dAc fe fa)):=weakA (pa_cons h ha hs) (by
 rintro σ H Q ⟨F,O,s,ts,s',R,hf,q⟩
 obtain ⟨p,h1,h2⟩:=Qb hf
 obtain ⟨r,h3,h4⟩:=Qm h2
 injection h4 with h4 h5
 subst h4 h5
 refine ⟨F,O,s,p.1,p.2,R,h1,fun v H1 S1 p1=>⟨F,O,p.2,r.1,r.2,p1.1,h3,fun vs H2 S2 R2 rs=>?_⟩⟩
 exact q _ H2 (S1.trans S2) R2 (.cons (p1.1.stay S2 p1.2) rs))
theorem e_lst(h:PA X es (cA M fa)):PE X (.List es pos) (cE .n M (dLst fa)):=weak (pe_lst h) (by
 intro σ H Q h_;refine cE_ h_ fun F O s t s' R hf q=>?_
 obtain ⟨p,h1,h2⟩:=Qb hf
 split at h2
 ·rename_i hl
  injection h2 with h2
  injection h2 with h2 h3
  subst h2 h3
  refine ⟨F,O,s,p.1,p.2,R,h1,fun vs H1 S1 R1 rs=>⟨by rw [rs.1]; exact hl,fun a ha=>?_⟩⟩
  exact q _ _ (S1.trans (.new ha _)) (.mkN R R1 S1 ha fun C hC=>.lst upd_same (rs.there.mono hC fun c o _ e=>by rw [upd_ne (ne_of_none e ha)]; exact e))
 ·cases h2)
end
abbrev DO:=Sg->Option (Option Int × Sg)
def cO(M:List Nat)(f:DO):TO:=fun σ H Q=>∃ F O s t s',Rel F O M s σ H/\f s=some (t,s')/\∀ H',Step σ M H H'->Rel F O M s' σ H'->Q t H'
def dOn:DO:=fun s=>some (none,s)
def dOs(f:DE):DO:=fun s=>(f s).bind fun p=>match p.1 with
 | .int i=>some (some i,p.2)
 | _=>none
def cutT{α:Type}(xs:List α)(lo hi:Option Int):List α:=(xs.drop (HT.sIx xs.length 0 lo)).take (HT.sIx xs.length xs.length hi - HT.sIx xs.length 0 lo)
def gSl(t:T)(lo hi:Option Int):Option T:=match t with
 | .lst xs=>some (.lst (cutT xs lo hi))
 | .scr ns=>some (.lst ((cutT ns lo hi).map .int))
 | _=>none
def gSlS(t:T)(lo hi:Option Int):Option T:=match t with
 | .str x=>if x.length<=sizeLine then some (.str (Txt.slice x lo hi)) else none
 | _=>none
def dSl(g:T->Option Int->Option Int->Option T)(f:DE)(l h:DO):DE:=fun s=>(f s).bind fun p=>(l p.2).bind fun q=>(h q.2).bind fun r=>(g p.1 q.1 r.1).map fun t=>(t,r.2)
theorem Reps.cut{C:Addr->Prop}{H:Hp}{vs:List V}{ts:List T}(h:Reps C H vs ts)(lo hi:Option Int):Reps C H (cutV vs lo hi) (cutT ts lo hi):=by
 unfold cutV cutT
 rw [h.1]
 exact (h.drop _).take _
theorem reps_ints{C:Addr->Prop}{H:Hp}:∀ (ns:List Int),Reps C H (ns.map V.int) (ns.map T.int)
 | []=>.nil
 | n::ns=>.cons (.int n) (reps_ints ns)
def S3N(r:V->Option Int->Option Int->Hp->VK->Prop)(g:T->Option Int->Option Int->Option T):Prop:=∀ (C:Addr->Prop) (H:Hp) x lo hi tx t (Q:VK),BRep C H x tx->g tx lo hi=some t->
 (∀ p o,H p=none->(∀ C':Addr->Prop,(∀ b,C b/\H b≠none->C' b)->Live C' (upd H p o) p t)->Q (.ref p) (upd H p o))->r x lo hi H Q
theorem s_sl:S3N (rSlL TheK.K) gSl:=by
 intro C H x lo hi tx t Q bx hg q
 cases tx<;>simp [gSl] at hg
 ·subst hg
  obtain ⟨a,vs,rfl,ha,ra⟩:=bx.lst
  refine ⟨a,vs,rfl,SqL.of ha,fun p hp=>q p _ hp fun C' hC=>?_⟩
  exact .lst upd_same ((ra.cut lo hi).there.mono hC fun c o _ e=>by rw [upd_ne (ne_of_none e hp)]; exact e)
 ·rename_i ns
  subst hg
  obtain ⟨a,rfl,ha⟩:=bx.scr
  refine ⟨a,_,rfl,ha,fun p hp=>q p _ hp fun C' hC=>.lst upd_same ?_⟩
  have:cutV (ns.map V.int) lo hi=(cutT ns lo hi).map V.int:=by
   unfold cutV cutT
   rw [List.length_map,<-List.map_drop,<-List.map_take]
  rw [this]
  exact reps_ints _
section
variable {X:Cx}{M:List Nat}{e:Expr}{lo hi:Option Expr}{fe:DE}{fl fh:DO}{pos p2:Pos}
theorem o_none:PO X none (cO M dOn):=fun pins s σ H Q I h=>by
 obtain ⟨F,O,s',t,s'',R,hf,q⟩:=h
 injection hf with hf
 injection hf with h1 h2
 subst h1 h2
 exact po_none pins s σ H Q I (q H .refl R)
theorem o_some(h:PE X e (cE .e M fe)):PO X (some e) (cO M (dOs fe)):=fun pins s σ H Q I hw=>by
 obtain ⟨F,O,s',t,s'',R,hf,q⟩:=hw
 obtain ⟨⟨t',s1⟩,h1,h2⟩:=Qb hf
 cases t'<;>simp at h2
 rename_i i
 obtain ⟨h2,h3⟩:=h2
 subst h2 h3
 exact po_some h pins s σ H Q I ⟨F,O,s',.int i,s1,R,h1,fun v H' S p=>⟨i,BRep.int (.inl p.2),q H' S p.1⟩⟩
theorem sl_n{g:T->Option Int->Option Int->Option T}{r:V->Option Int->Option Int->Hp->VK->Prop}(hs:S3N r g):∀ σ H Q,cE .n M (dSl g fe fl fh) σ H Q->tSl r (cE .e M fe) (cO M fl) (cO M fh) σ H Q:=by
 intro σ H Q h_;refine cE_ h_ fun F O s t s' R hf q=>?_
 obtain ⟨p,h1,h2⟩:=Qb hf
 obtain ⟨l,h3,h4⟩:=Qb h2
 obtain ⟨u,h5,h6⟩:=Qb h4
 obtain ⟨t',h7,h8⟩:=Qm h6
 injection h8 with h8 h9
 subst h8 h9
 refine ⟨F,O,s,p.1,p.2,R,h1,fun v H1 S1 p1=>⟨F,O,p.2,l.1,l.2,p1.1,h3,fun H2 S2 R2=>⟨F,O,l.2,u.1,u.2,R2,h5,fun H3 S3 R3=>?_⟩⟩⟩
 have S:=(S1.trans S2).trans S3
 exact hs (Free F O) H3 v l.1 u.1 p.1 t' Q (.inl (R2.stay S3 (p1.1.stay S2 p1.2))) h7 fun a o ha L=>q _ _ (S.trans (.new ha o)) (.mkN R R3 S ha L)
theorem e_sl(hK:X.K=TheK.K)(he:PE X e (cE .e M fe))(hl:PO X lo (cO M fl))(hu:PO X hi (cO M fh)):PE X (.Subscript e (.Slice lo hi none p2) pos) (cE .n M (dSl gSl fe fl fh)):=weak (pe_slice (hK▸sl_list) he hl hu) (sl_n s_sl)
theorem e_slS(he:PE X e (cE .e M fe))(hl:PO X lo (cO M fl))(hu:PO X hi (cO M fh)):PE X (.Subscript e (.Slice lo hi none p2) pos) (cE .e M (dSl gSlS fe fl fh)):=weak (pe_slice sl_str he hl hu) (by
 intro σ H Q h_;refine cE_ h_ fun F O s t s' R hf q=>?_
 obtain ⟨p,h1,h2⟩:=Qb hf
 obtain ⟨l,h3,h4⟩:=Qb h2
 obtain ⟨u,h5,h6⟩:=Qb h4
 obtain ⟨t',h7,h8⟩:=Qm h6
 injection h8 with h8 h9
 subst h8 h9
 refine ⟨F,O,s,p.1,p.2,R,h1,fun v H1 S1 p1=>⟨F,O,p.2,l.1,l.2,p1.1,h3,fun H2 S2 R2=>⟨F,O,l.2,u.1,u.2,R2,h5,fun H3 S3 R3=>?_⟩⟩⟩
 have S:=(S1.trans S2).trans S3
 obtain ⟨pt,ps⟩:=p
 cases pt<;>simp [gSlS] at h7
 rename_i x
 obtain ⟨h7,h8⟩:=h7
 exact ⟨x,BRep.str (.inl p1.2),h7,q _ _ S ⟨R3,by rw [<-h8]; exact .str _⟩⟩)
end
end L3
namespace L3
open PySem PySem.Spec PyProof.Rows L2
variable [TheK]
inductive Fl where
 | nx (s:Sg) | rt (t:T) (s:Sg) | bk (s:Sg) | ct (s:Sg)
abbrev DS:=Sg->Option Fl
structure Ios (F:Fr) (io M:List Nat) (σ:L2.St):Prop where
 at_:∀ (i:Nat),i∈io->i∈M/\σ[i]?=some (some (.ref (F.adr i)))
 D:∀ a,F.D a->∃ j,j∈io/\a=F.adr j
def KeepO(O:Addr->Prop)(H:Hp)(O':Addr->Prop)(H':Hp):Prop:=(∀ b o,¬ O b->H b=some o->H' b=some o/\¬ O' b)/\∀ b,H' b=none->H b=none
def C1(F:Fr):Addr->Prop:=fun b=>¬ F.D b/\(F.C0 b∨F.H0 b=none)
structure RetOk (F:Fr) (rk:Kd) (io:List Nat) (s':Sg) (t:T) (v:V) (H':Hp):Prop where
 keep:∀ b o,¬ F.D b->F.H0 b=some o->H' b=some o
 dom:∀ b,H' b=none->F.H0 b=none
 res:match rk with
  | .n=>∃ r,v=.ref r/\F.H0 r=none/\¬ F.D r/\Live (fun b=>C1 F b/\b≠r) H' r t/\∀ (i:Nat),i∈io->∃ t',s'[i]?=some (some t')/\Live (fun b=>C1 F b/\b≠r) H' (F.adr i) t'
  | .b=>Rep (fun b=>F.H0 b=none) H' v t
  | .e=>Rep (C1 F) H' v t/\∀ (i:Nat),i∈io->∃ t',s'[i]?=some (some t')/\Live (C1 F) H' (F.adr i) t'
def EndOk(F:Fr)(rk:Kd)(io M' Mb:List Nat)(O:Addr->Prop)(H:Hp)(D:Ends):Fl->Prop
 | .nx s'=>∀ O' σ' H',KeepO O H O' H'->Rel F O' M' s' σ' H'->Ios F io M' σ'->D.nx σ' H'
 | .bk s'=>∀ O' σ' H',KeepO O H O' H'->Rel F O' Mb s' σ' H'->Ios F io Mb σ'->D.bk σ' H'
 | .ct s'=>∀ O' σ' H',KeepO O H O' H'->Rel F O' Mb s' σ' H'->Ios F io Mb σ'->D.ct σ' H'
 | .rt t s'=>∀ v H',RetOk F rk io s' t v H'->D.rt v H'
def cS(rk:Kd)(io M M' Mb:List Nat)(d:DS):TS:=fun D σ H=>∃ F O s r,Rel F O M s σ H/\Ios F io M σ/\d s=some r/\EndOk F rk io M' Mb O H D r
theorem cS_{rk:Kd}{io M M' Mb:List Nat}{d:DS}{D:_}{σ:L2.St}{H:Hp}(h:cS rk io M M' Mb d D σ H){G:Prop}(g:∀ F O s r,Rel F O M s σ H->Ios F io M σ->d s=some r->EndOk F rk io M' Mb O H D r->G):G:=by
 obtain ⟨F,O,s,r,R,I,hd,q⟩:=h
 exact g F O s r R I hd q
section
variable {F:Fr}{O O' O'':Addr->Prop}{io M M' Mb:List Nat}{s s':Sg}{σ:L2.St}{H H' H'':Hp}{v:V}{t:T}{a:Addr}{rk:Kd}
theorem KeepO.refl:KeepO O H O H:=⟨fun _ _ n h=>⟨h,n⟩,fun _ h=>h⟩
theorem KeepO.trans(x:KeepO O H O' H')(y:KeepO O' H' O'' H''):KeepO O H O'' H'':=⟨fun b o n h=>by
 obtain ⟨h1,n1⟩:=x.1 b o n h
 exact y.1 b o n1 h1,fun b h=>x.2 b (y.2 b h)⟩
theorem Step.keepO(S:Step σ M H H')(R:Rel F O M s σ H):KeepO O H O H':=⟨fun b o n h=>⟨S.keep b o (R.notOwned n) h,n⟩,S.dom⟩
theorem EndOk.more{D:Ends}{r:Fl}(h:EndOk F rk io M' Mb O H D r)(k:KeepO O H O' H'):EndOk F rk io M' Mb O' H' D r:=by
 cases r with
 | nx s'=>exact fun O2 σ2 H2 k2=>h O2 σ2 H2 (k.trans k2)
 | bk s'=>exact fun O2 σ2 H2 k2=>h O2 σ2 H2 (k.trans k2)
 | ct s'=>exact fun O2 σ2 H2 k2=>h O2 σ2 H2 (k.trans k2)
 | rt t s'=>exact h
theorem Rel.freeze(R:Rel F O M s σ H)(I:Ios F io M σ)(hM:∀ i,i∈M'->i∈M)(hio:∀ i,i∈io->i∈M'):∃ O',(∀ b,O' b->O b)/\Rel F O' M' s σ H/\Ios F io M' σ:=by
 refine ⟨fun b=>O b/\¬ ∃ j:Nat,j∈M/\j∉M'/\σ[j]?=some (some (.ref b)),fun b z=>z.1,?_,⟨fun i hi=>⟨hio i hi,(I.at_ i hi).2⟩,I.D⟩⟩
 have w:∀ b,(O b/\¬ ∃ j:Nat,j∈M/\j∉M'/\σ[j]?=some (some (.ref b)))->O b:=fun b z=>z.1
 have notD:∀ (i:Nat) b,i∈M->i∉M'->σ[i]?=some (some (.ref b))->¬ F.D b:=fun i b hi hi' e z=>by
  obtain ⟨j,hj,rfl⟩:=I.D b z
  obtain ⟨h1,h2⟩:=I.at_ j hj
  have:=R.dis i j _ hi h1 e h2
  subst this
  exact hi' (hio i hj)
 refine ⟨R.len,fun i t e n=>?_,fun i t e n=>?_,fun i b hi e=>⟨R.ow i b (hM i hi) e,fun ⟨j,h1,h2,h3⟩=>?_⟩,fun i j b hi hj=>R.dis i j b (hM i hi) (hM j hj),R.keep,R.dom,fun b z=>R.fresh b z.1,fun b z=>⟨R.inD b z,fun ⟨j,h1,h2,h3⟩=>notD j b h1 h2 h3 z⟩,fun b z=>R.al b z.1⟩
 ·by_cases hi:i∈M
  ·obtain ⟨b,h1,L⟩:=R.own i t e hi
   refine ⟨_,h1,L.rep (fun c z=>z.weak w) ⟨fun z=>z.2 ⟨i,hi,n,h1⟩,?_⟩⟩
   rcases R.fresh b (R.ow i b hi h1) with z | z
   ·exact absurd z (notD i b hi n h1)
   ·exact .inr z
  ·obtain ⟨v,h1,h2⟩:=R.val i t e hi
   exact ⟨v,h1,h2.mono (fun _ c=>c.weak w) fun _ _ _ e=>e⟩
 ·obtain ⟨b,h1,h2⟩:=R.own i t e (hM i n)
  exact ⟨b,h1,h2.mono (fun _ c=>c.weak w) (fun _ _ _ e=>e) fun _ e=>e⟩
 ·have:=R.dis j i b h1 (hM i hi) h3 e
  subst this
  exact h2 hi
theorem sub_of{A B:List Nat}(h:A.all (B.contains ·)=true):∀ i,i∈A->i∈B:=fun i hi=>by simpa using List.all_eq_true.mp h i hi
theorem s_pre{X:Cx}{st:Stmt}{d:DS}{Mx:List Nat}(h:PS X st (cS rk io M' Mx Mb d))(hM:M'.all (M.contains ·)=true:=by rfl)(hio:io.all (M'.contains ·)=true:=by rfl):PS X st (cS rk io M Mx Mb d):=weakS h (by
 intro D σ H h_;refine cS_ h_ fun F O s r R I hd q=>?_
 obtain ⟨O',w,R',I'⟩:=R.freeze I (sub_of hM) (sub_of hio)
 exact ⟨F,O',s,r,R',I',hd,q.more ⟨fun b o n h=>⟨h,fun z=>n (w b z)⟩,fun _ h=>h⟩⟩)
theorem end_post{D:Ends}{r:Fl}{Mx:List Nat}(hM:∀ i,i∈Mx->i∈M')(hio:∀ i,i∈io->i∈Mx)(h:EndOk F rk io Mx Mb O H D r):EndOk F rk io M' Mb O H D r:=by
 cases r with
 | nx s'=>
  intro O' σ' H' k R I
  obtain ⟨O2,w,R',I'⟩:=R.freeze I hM hio
  exact h O2 σ' H' (k.trans ⟨fun b o n h=>⟨h,fun z=>n (w b z)⟩,fun _ h=>h⟩) R' I'
 | bk s'=>exact h
 | ct s'=>exact h
 | rt t s'=>exact h
theorem ss_post{X:Cx}{st:List Stmt}{d:DS}{Mx:List Nat}(h:PSs X st (cS rk io M M' Mb d))(hM:Mx.all (M'.contains ·)=true:=by rfl)(hio:io.all (Mx.contains ·)=true:=by rfl):PSs X st (cS rk io M Mx Mb d):=weakSs h (by
 intro D σ H h_;refine cS_ h_ fun F O s r R I hd q=>?_
 exact ⟨F,O,s,r,R,I,hd,end_post (sub_of hM) (sub_of hio) q⟩)
theorem Rel.write{i:Nat}{t0 t':T}{o:HO}(R:Rel F O M s σ H)(hi:i∈M)(e:σ[i]?=some (some (.ref a)))(hs:s[i]?=some (some t0))(L:∀ H1,(∀ b u,Free F O b->H b=some u->H1 b=some u)->H1 a=some o->Live (Free F O) H1 a t'):Rel F O M (s.set i (some t')) σ (upd H a o):=by
 have oa:=R.ow i a hi e
 have k:∀ b u,Free F O b->H b=some u->upd H a o b=some u:=fun b u c q=>(upd_ne (fun z:b=a=>c.1 (z▸oa))).trans q
 have hl:i < s.length:=(List.getElem?_eq_some_iff.mp hs).1
 refine ⟨by rw [List.length_set]; exact R.len,fun j t e' n=>?_,fun j t e' n=>?_,R.ow,R.dis,fun b u n q=>?_,fun b q=>?_,R.fresh,R.inD,fun b z=>?_⟩
 ·have hij:i≠j:=fun z=>n (z▸hi)
  rw [List.getElem?_set_ne hij] at e'
  obtain ⟨v,h1,h2⟩:=R.val j t e' n
  exact ⟨v,h1,h2.mono (fun _ c=>c) k⟩
 ·by_cases hij:i=j
  ·subst hij
   rw [List.getElem?_set_self hl] at e'
   injection e' with e'
   injection e' with e'
   subst e'
   exact ⟨a,e,L _ k upd_same⟩
  ·rw [List.getElem?_set_ne hij] at e'
   obtain ⟨b,h1,h2⟩:=R.own j t e' n
   have hne:b≠a:=fun z=>hij (R.dis i j a hi n e (z▸h1))
   exact ⟨b,h1,h2.mono (fun _ c=>c) k fun u q=>by rw [upd_ne hne]; exact q⟩
 ·refine (upd_ne (fun z=>?_)).trans (R.keep b u n q)
  subst z
  rcases R.fresh b oa with z | z
  ·exact n z
  ·rw [z] at q; cases q
 ·refine R.dom b ?_
  unfold upd at q
  split at q
  ·cases q
  ·exact q
 ·intro q
  refine R.al b z ?_
  unfold upd at q
  split at q
  ·cases q
  ·exact q
theorem Step.write{i:Nat}{o:HO}(hi:i∈M)(e:σ[i]?=some (some (.ref a)))(_:H a≠none):Step σ M H (upd H a o):=⟨fun b u n q=>by
 exact (upd_ne (fun z:b=a=>n i hi (z▸e))).trans q,fun b q=>by
 unfold upd at q
 split at q
 ·cases q
 ·exact q⟩
theorem Rel.setE{i:Nat}(R:Rel F O M s σ H)(hM:∀ j,j∈M'->j∈M/\j≠i)(hk:∀ j,j∈M->j∈M'∨j=i)(hi:i < s.length)(r:Rep (Free F O) H v t):Rel F O M' (s.set i (some t)) (σ.set i (some v)) H:=by
 have hi2:i < σ.length:=by rw [<-R.len]; exact hi
 refine ⟨by rw [List.length_set,List.length_set]; exact R.len,fun j t' e n=>?_,fun j t' e n=>?_,fun j b hj e=>?_,fun j k b hj hk e1 e2=>?_,R.keep,R.dom,R.fresh,R.inD,R.al⟩
 ·by_cases hij:i=j
  ·subst hij
   rw [List.getElem?_set_self hi] at e
   injection e with e
   injection e with e
   subst e
   exact ⟨v,List.getElem?_set_self hi2,r⟩
  ·rw [List.getElem?_set_ne hij] at e
   rw [List.getElem?_set_ne hij]
   exact R.val j t' e fun z=>(hk j z).elim n fun z=>hij z.symm
 ·obtain ⟨h1,h2⟩:=hM j n
  rw [List.getElem?_set_ne (Ne.symm h2)] at e
  rw [List.getElem?_set_ne (Ne.symm h2)]
  exact R.own j t' e h1
 ·obtain ⟨h1,h2⟩:=hM j hj
  rw [List.getElem?_set_ne (Ne.symm h2)] at e
  exact R.ow j b h1 e
 ·obtain ⟨h1,h2⟩:=hM j hj
  obtain ⟨h3,h4⟩:=hM k hk
  rw [List.getElem?_set_ne (Ne.symm h2)] at e1
  rw [List.getElem?_set_ne (Ne.symm h4)] at e2
  exact R.dis j k b h1 h3 e1 e2
theorem Rel.setN{i:Nat}(R:Rel F O M s σ H)(hM:∀ j,j∈M'->j=i∨j∈M)(hk:∀ j,j∈M->j∈M')(hi:i < s.length)(him:i∈M')(oa:O a)(nw:∀ j,j∈M->j≠i->σ[j]?≠some (some (.ref a)))(L:Live (Free F O) H a t):Rel F O M' (s.set i (some t)) (σ.set i (some (.ref a))) H:=by
 have hi2:i < σ.length:=by rw [<-R.len]; exact hi
 refine ⟨by rw [List.length_set,List.length_set]; exact R.len,fun j t' e n=>?_,fun j t' e n=>?_,fun j b hj e=>?_,fun j k b hj hk' e1 e2=>?_,R.keep,R.dom,R.fresh,R.inD,R.al⟩
 ·have hij:i≠j:=fun z=>n (z▸him)
  rw [List.getElem?_set_ne hij] at e
  rw [List.getElem?_set_ne hij]
  exact R.val j t' e fun z=>n (hk j z)
 ·by_cases hij:i=j
  ·subst hij
   rw [List.getElem?_set_self hi] at e
   injection e with e
   injection e with e
   subst e
   exact ⟨a,List.getElem?_set_self hi2,L⟩
  ·rw [List.getElem?_set_ne hij] at e
   rw [List.getElem?_set_ne hij]
   exact R.own j t' e ((hM j n).resolve_left fun z=>hij z.symm)
 ·by_cases hij:i=j
  ·subst hij
   rw [List.getElem?_set_self hi2] at e
   injection e with e
   injection e with e
   injection e with e
   exact e▸oa
  ·rw [List.getElem?_set_ne hij] at e
   exact R.ow j b ((hM j hj).resolve_left fun z=>hij z.symm) e
 ·by_cases hij:i=j
  ·by_cases hik:i=k
   ·exact hij.symm.trans hik
   ·subst hij
    rw [List.getElem?_set_self hi2] at e1
    rw [List.getElem?_set_ne hik] at e2
    injection e1 with e1
    injection e1 with e1
    injection e1 with e1
    subst e1
    exact absurd e2 (nw k ((hM k hk').resolve_left fun z=>hik z.symm) (Ne.symm hik))
  ·rw [List.getElem?_set_ne hij] at e1
   by_cases hik:i=k
   ·subst hik
    rw [List.getElem?_set_self hi2] at e2
    injection e2 with e2
    injection e2 with e2
    injection e2 with e2
    subst e2
    exact absurd e1 (nw j ((hM j hj).resolve_left fun z=>hij z.symm) (Ne.symm hij))
   ·rw [List.getElem?_set_ne hik] at e2
    exact R.dis j k b ((hM j hj).resolve_left fun z=>hij z.symm) ((hM k hk').resolve_left fun z=>hik z.symm) e1 e2
theorem Ios.set{i:Nat}{x:Option V}(I:Ios F io M σ)(hio:i∉io)(hM:∀ j,j∈io->j∈M'):Ios F io M' (σ.set i x):=⟨fun j hj=>by
 refine ⟨hM j hj,?_⟩
 rw [List.getElem?_set_ne (fun z:i=j=>hio (z▸hj))]
 exact (I.at_ j hj).2,I.D⟩
end
def dSeq(f g:DS):DS:=fun s=>(f s).bind fun r=>match r with
 | .nx s'=>g s'
 | r=>some r
def dNext:DS:=fun s=>some (.nx s)
def dSet(i:Nat)(f:DE):DS:=fun s=>(f s).bind fun p=>if i < p.2.length then some (.nx (p.2.set i (some p.1))) else none
def dIfS(c:DT)(f g:DS):DS:=fun s=>(c s).bind fun p=>if p.1 then f p.2 else g p.2
def dDo(f:DE):DS:=fun s=>(f s).map fun p=>.nx p.2
section
variable {X:Cx}{rk:Kd}{io M M' M'' Mb:List Nat}{st:Stmt}{sts:List Stmt}{e c:Expr}{a b:List Stmt}{d d':DS}{fe:DE}{ft:DT}{pos pos':Pos}
theorem ss_nil:PSs X [] (cS rk io M M Mb dNext):=weakSs pss_nil (by
 intro D σ H h_;refine cS_ h_ fun F O s r R I hd q=>?_
 injection hd with hd
 subst hd
 exact q O σ H .refl R I)
theorem ss_one(h:PS X st (cS rk io M M' Mb d)):PSs X [st] (cS rk io M M' Mb d):=pss_one h
theorem ss_cons(h:PS X st (cS rk io M M' Mb d))(h2:PSs X sts (cS rk io M' M'' Mb d')):PSs X (st::sts) (cS rk io M M'' Mb (dSeq d d')):=weakSs (pss_cons h h2) (by
 intro D σ H h_;refine cS_ h_ fun F O s r R I hd q=>?_
 obtain ⟨r1,h1,h2⟩:=Qb hd
 refine ⟨F,O,s,r1,R,I,h1,?_⟩
 cases r1 with
 | nx s1=>exact fun O1 σ1 H1 k1 R1 I1=>⟨F,O1,s1,r,R1,I1,h2,q.more k1⟩
 | bk s1=>injection h2 with h2; subst h2; exact q
 | ct s1=>injection h2 with h2; subst h2; exact q
 | rt t s1=>injection h2 with h2; subst h2; exact q)
theorem s_if(hc:PT X c (cT M ft))(ha:PSs X a (cS rk io M M' Mb d))(hb:PSs X b (cS rk io M M' Mb d')):PS X (.If c a b pos) (cS rk io M M' Mb (dIfS ft d d')):=weakS (ps_if hc ha hb) (by
 intro D σ H h_;refine cS_ h_ fun F O s r R I hd q=>?_
 obtain ⟨p,h1,h2⟩:=Qb hd
 refine ⟨F,O,s,p.1,p.2,R,h1,fun H1 S1 R1=>?_⟩
 have k:=S1.keepO R
 dsimp only
 split at h2
 ·rename_i hp
  rw [if_pos hp]
  exact ⟨F,O,p.2,r,R1,I,h2,q.more k⟩
 ·rename_i hp
  rw [if_neg hp]
  exact ⟨F,O,p.2,r,R1,I,h2,q.more k⟩)
def setsE(M M' io:List Nat)(i:Nat):Bool:=M'.all (fun j=>M.contains j&&j != i)&&M.all (fun j=>M'.contains j||j == i)&&!io.contains i&&io.all (M'.contains ·)
def setsN(M M' io:List Nat)(i:Nat):Bool:=M'.all (fun j=>j == i||M.contains j)&&M.all (M'.contains ·)&&M'.contains i&&!io.contains i&&io.all (M'.contains ·)
theorem s_setE{i:Nat}(h:PS X st (tAsg (cE .e M fe) (gName i)))(hM:setsE M M' io i=true:=by rfl):PS X st (cS rk io M M' Mb (dSet i fe)):=weakS h (by
 unfold setsE at hM
 rw [Bool.and_eq_true,Bool.and_eq_true,Bool.and_eq_true] at hM
 obtain ⟨⟨⟨m1,m2⟩,m3⟩,m4⟩:=hM
 intro D σ H h_;refine cS_ h_ fun F O s r R I hd q=>?_
 obtain ⟨p,h1,h2⟩:=Qb hd
 split at h2
 ·rename_i hi
  injection h2 with h2
  subst h2
  refine ⟨F,O,s,p.1,p.2,R,h1,fun v H1 S1 p1=>?_⟩
  refine q O _ H1 (S1.keepO R) (p1.1.setE (fun j hj=>?_) (fun j hj=>?_) hi p1.2) (I.set (by simpa using m3) (sub_of m4))
  ·simpa using List.all_eq_true.mp m1 j hj
  ·simpa using List.all_eq_true.mp m2 j hj
 ·cases h2)
theorem s_setN{i:Nat}(h:PS X st (tAsg (cE .n M fe) (gName i)))(hM:setsN M M' io i=true:=by rfl):PS X st (cS rk io M M' Mb (dSet i fe)):=weakS h (by
 unfold setsN at hM
 rw [Bool.and_eq_true,Bool.and_eq_true,Bool.and_eq_true,Bool.and_eq_true] at hM
 obtain ⟨⟨⟨⟨m1,m2⟩,m5⟩,m3⟩,m4⟩:=hM
 intro D σ H h_;refine cS_ h_ fun F O s r R I hd q=>?_
 obtain ⟨p,h1,h2⟩:=Qb hd
 split at h2
 ·rename_i hi
  injection h2 with h2
  subst h2
  refine ⟨F,O,s,p.1,p.2,R,h1,fun v H1 S1 p1=>?_⟩
  obtain ⟨a,rfl,h0,R1,L⟩:=p1
  have k:KeepO O H (fun b=>O b∨b=a) H1:=⟨fun b o n h=>⟨S1.keep b o (R.notOwned n) h,fun z=>z.elim n fun z=>by rw [z,h0] at h; cases h⟩,S1.dom⟩
  refine q _ _ H1 k (R1.setN (fun j hj=>?_) (fun j hj=>?_) hi (by simpa using m5) (.inr rfl) (fun j hj _ e=>R.al a (R.ow j a hj e) h0) L) (I.set (by simpa using m3) (sub_of m4))
  ·simpa using List.all_eq_true.mp m1 j hj
  ·simpa using List.all_eq_true.mp m2 j hj
 ·cases h2)
theorem s_do{k:Kd}(hk:k=.e∨k=.b)(he:PE X e (cE k M fe))(hs:swapsWith e none pos.line X.env=pure false:=by rfl):PS X (.Expr e pos) (cS rk io M M Mb (dDo fe)):=weakS (ps_expr he hs) (by
 intro D σ H h_;refine cS_ h_ fun F O s r R I hd q=>?_
 obtain ⟨p,h1,h2⟩:=Qm hd
 subst h2
 refine ⟨F,O,s,p.1,p.2,R,h1,fun v H1 S1 p1=>?_⟩
 rcases hk with rfl | rfl
 ·exact q O σ H1 (S1.keepO R) p1.1 I
 ·exact q O σ H1 (S1.keepO R) p1.1 I)
theorem Free.c1{F:Fr}{O:Addr->Prop}{M:List Nat}{s:Sg}{σ:L2.St}{H:Hp}(R:Rel F O M s σ H){b:Addr}(c:Free F O b):C1 F b:=⟨fun z=>c.1 (R.inD b z),c.2⟩
theorem ret_e{F:Fr}{O:Addr->Prop}{s:Sg}{σ:L2.St}{H:Hp}{v:V}{t:T}(R:Rel F O M s σ H)(I:Ios F io M σ)(hio:∀ i,i∈io->∃ t,s[i]?=some (some t))(r:Rep (Free F O) H v t):RetOk F .e io s t v H:=by
 refine ⟨R.keep,R.dom,r.mono (fun _ c=>c.c1 R) (fun _ _ _ e=>e),fun i hi=>?_⟩
 obtain ⟨t',ht⟩:=hio i hi
 obtain ⟨h1,h2⟩:=I.at_ i hi
 obtain ⟨a,h3,L⟩:=R.own i t' ht h1
 rw [h2] at h3
 injection h3 with h3
 injection h3 with h3
 injection h3 with h3
 subst h3
 exact ⟨t',ht,L.mono (fun _ c=>c.c1 R) (fun _ _ _ e=>e) fun _ e=>e⟩
theorem ret_n{F:Fr}{O:Addr->Prop}{s:Sg}{σ:L2.St}{H:Hp}{t:T}{a:Addr}(R:Rel F O M s σ H)(I:Ios F io M σ)(hio:∀ i,i∈io->∃ t,s[i]?=some (some t))(oa:O a)(h0:F.H0 a=none)(nd:¬ F.D a)(L:Live (Free F O) H a t):RetOk F .n io s t (.ref a) H:=by
 have w:∀ b,Free F O b->C1 F b/\b≠a:=fun b c=>⟨c.c1 R,fun z=>c.1 (z▸oa)⟩
 refine ⟨R.keep,R.dom,a,rfl,h0,nd,L.mono w (fun _ _ _ e=>e) fun _ e=>e,fun i hi=>?_⟩
 obtain ⟨t',ht⟩:=hio i hi
 obtain ⟨h1,h2⟩:=I.at_ i hi
 obtain ⟨b,h3,L⟩:=R.own i t' ht h1
 rw [h2] at h3
 injection h3 with h3
 injection h3 with h3
 injection h3 with h3
 subst h3
 exact ⟨t',ht,L.mono w (fun _ _ _ e=>e) fun _ e=>e⟩
def hasAll(io:List Nat)(s:Sg):Bool:=io.all fun i=>(s[i]?).join.isSome
theorem hasAll.get{io:List Nat}{s:Sg}(h:hasAll io s=true):∀ i,i∈io->∃ t,s[i]?=some (some t):=fun i hi=>by
 have:=List.all_eq_true.mp h i hi
 cases e:(s[i]?).join with
 | none=>rw [e] at this; cases this
 | some t=>exact ⟨t,join_some e⟩
def dRetI(io:List Nat)(f:DE):DS:=fun s=>(f s).bind fun p=>if hasAll io p.2 then some (.rt p.1 p.2) else none
theorem s_retE(he:PE X e (cE .e M fe)):PS X (.Return (some e) pos) (cS .e io M M' Mb (dRetI io fe)):=weakS (ps_ret he) (by
 intro D σ H h_;refine cS_ h_ fun F O s r R I hd q=>?_
 obtain ⟨p,h1,h2⟩:=Qb hd
 split at h2
 ·rename_i hh
  injection h2 with h2
  subst h2
  exact ⟨F,O,s,p.1,p.2,R,h1,fun v H1 S1 p1=>q v H1 (ret_e p1.1 I (hasAll.get hh) p1.2)⟩
 ·cases h2)
theorem s_retN(he:PE X e (cE .n M fe)):PS X (.Return (some e) pos) (cS .n io M M' Mb (dRetI io fe)):=weakS (ps_ret he) (by
 intro D σ H h_;refine cS_ h_ fun F O s r R I hd q=>?_
 obtain ⟨p,h1,h2⟩:=Qb hd
 split at h2
 ·rename_i hh
  injection h2 with h2
  subst h2
  refine ⟨F,O,s,p.1,p.2,R,h1,fun v H1 S1 p1=>?_⟩
  obtain ⟨a,rfl,h0,R1,L⟩:=p1
  exact q _ H1 (ret_n R1 I (hasAll.get hh) (.inr rfl) (R.dom a h0) (fun z=>R.al a (R.inD a z) h0) L)
 ·cases h2)
end
end L3
namespace L3
open PySem PySem.Spec PyProof.Rows L2
variable [TheK]
def isLst:T->Bool
 | .lst _=>true
 | _=>false
def SM(r:V->List V->Hp->VK->Prop)(g:T->List T->Option (T × T)):Prop:=∀ (C:Addr->Prop) (H:Hp) a tx vs ts t' tr (Q:VK),¬ C a->Live C H a tx->Reps C H vs ts->g tx ts=some (t',tr)->
 (∀ o v,(∀ H1,(∀ b u,C b->H b=some u->H1 b=some u)->H1 a=some o->Live C H1 a t')->Rep C H v tr->Q v (upd H a o))->r (.ref a) vs H Q
def dMut(g:T->List T->Option (T × T))(i:Nat)(fa:DA):DE:=fun s=>(s[i]?).join.bind fun t0=>if isLst t0 then (fa s).bind fun p=>(p.2[i]?).join.bind fun t=>(g t p.1).map fun q=>(q.2,p.2.set i (some q.1)) else none
def mApp:T->List T->Option (T × T)
 | .lst xs,[t]=>if xs.length < sizeLine then some (.lst (xs++[t]),.non) else none
 | _,_=>none
def mExt:T->List T->Option (T × T)
 | .lst xs,[.lst ys]=>if xs.length+ys.length<=sizeLine then some (.lst (xs++ys),.non) else none
 | _,_=>none
def mPopAt:T->List T->Option (T × T)
 | .lst xs,[.int i]=>if 0<=i/\i<=1000000 then (xs[i.toNat]?).map fun y=>(.lst (xs.eraseIdx i.toNat),y) else none
 | _,_=>none
theorem Live.lst'{C:Addr->Prop}{H:Hp}{a:Addr}{ts:List T}(h:Live C H a (.lst ts)):∃ vs,H a=some (.lst vs)/\Reps C H vs ts:=by
 cases h with | lst r h=>exact ⟨_,r,h⟩
theorem Reps.one{C:Addr->Prop}{H:Hp}{vs:List V}{t:T}(h:Reps C H vs [t]):∃ v,vs=[v]/\Rep C H v t:=by
 obtain ⟨v,rfl⟩:=List.length_eq_one_iff.mp (show vs.length=1 from h.1)
 exact ⟨v,rfl,h.head⟩
theorem Reps.none{C:Addr->Prop}{H:Hp}{vs:List V}(h:Reps C H vs []):vs=[]:=List.length_eq_zero_iff.mp h.1
theorem Reps.snoc{C:Addr->Prop}{H:Hp}{vs:List V}{ts:List T}{v:V}{t:T}(h:Reps C H vs ts)(r:Rep C H v t):Reps C H (vs++[v]) (ts++[t]):=h.append (.cons r .nil)
theorem m_app:SM rAppend mApp:=by
 intro C H a tx vs ts t' tr Q hn L R hg q
 unfold mApp at hg
 split at hg
 ·split at hg
  ·rename_i hl
   injection hg with hg
   injection hg with h1 h2
   subst h1 h2
   obtain ⟨us,h1,h2⟩:=L.lst'
   obtain ⟨v,rfl,rv⟩:=R.one
   refine ⟨a,us,v,rfl,rfl,h1,by rw [h2.1]; exact hl,q _ _ (fun H1 k e=>.lst e ?_) .non⟩
   exact (h2.snoc rv).mono (fun _ c=>c) k
  ·cases hg
 ·cases hg
theorem m_ext:SM rExtend mExt:=by
 intro C H a tx vs ts t' tr Q hn L R hg q
 unfold mExt at hg
 split at hg
 ·split at hg
  ·rename_i hl
   injection hg with hg
   injection hg with h1 h2
   subst h1 h2
   obtain ⟨us,h1,h2⟩:=L.lst'
   obtain ⟨v,rfl,rv⟩:=R.one
   obtain ⟨b,ws,rfl,h3,h4⟩:=BRep.lst (.inl rv)
   refine ⟨a,b,us,ws,rfl,rfl,h1,h3,by rw [h2.1,h4.1]; exact hl,q _ _ (fun H1 k e=>.lst e ?_) .non⟩
   exact (h2.append h4).mono (fun _ c=>c) k
  ·cases hg
 ·cases hg
section
variable {X:Cx}{M:List Nat}{fa:DA}
theorem mut_e{r:V->List V->Hp->VK->Prop}{g:T->List T->Option (T × T)}{i:Nat}(hi:M.contains i=true)(hs:SM r g):∀ σ H Q,cE .e M (dMut g i fa) σ H Q->tBM X.K "list" r (tVar i) (cA M fa) σ H Q:=by
 intro σ H Q h_;refine cE_ h_ fun F O s t s' R hf q=>?_
 have hi':i∈M:=by simpa using hi
 obtain ⟨t0,h0,hf⟩:=Qb hf
 split at hf
 ·rename_i hl
  obtain ⟨p,h1,hf⟩:=Qb hf
  obtain ⟨t1,h2,hf⟩:=Qb hf
  obtain ⟨w,h3,h4⟩:=Qm hf
  injection h4 with h4 h5
  subst h4 h5
  obtain ⟨a,e1,L0⟩:=R.own i t0 (join_some h0) hi'
  refine ⟨_,e1,?_,F,O,s,p.1,p.2,R,h1,fun vs H1 S1 R1 rs=>?_⟩
  ·cases L0 with
   | lst r h=>exact .inl ⟨rfl,_,SqL.of r⟩
   | _=>cases hl
  obtain ⟨b,e2,L⟩:=R1.own i t1 (join_some h2) hi'
  rw [e1] at e2
  injection e2 with e2
  injection e2 with e2
  injection e2 with e2
  subst e2
  refine hs (Free F O) H1 a t1 vs p.1 w.1 w.2 Q (fun z=>z.1 (R1.ow i a hi' e1)) L rs h3 fun o v hL rv=>?_
  have R2:=R1.write (o:=o) hi' e1 (join_some h2) hL
  refine q v _ (S1.trans (.write hi' e1 L.ne)) ⟨R2,?_⟩
  exact R1.stay (.write hi' e1 L.ne) rv
 ·cases hf
end
theorem RepK.len{C:Addr->Prop}{H:Hp}{vs:List (Key × V)}{ts:List (Key × T)}(h:RepK C H vs ts):vs.length=ts.length:=by simpa using congrArg List.length h.1
def dSetI(i:Nat)(fk fv:DE):DS:=fun s=>(fv s).bind fun p=>(p.2[i]?).join.bind fun _=>(fk p.2).bind fun q=>(q.2[i]?).join.bind fun t=>match t,q.1 with
 | .lst xs,.int k=>(ixN xs.length k).map fun j=>.nx (q.2.set i (some (.lst (xs.set j p.1))))
 | _,_=>none
section
variable {X:Cx}{rk:Kd}{io M M' Mb:List Nat}{st:Stmt}{fk fv:DE}
theorem s_setI{i:Nat}(hi:M.contains i=true)(h:PS X st (tAsg (cE .e M fv) (gSub (tVar i) (cE .e M fk) rSetL))):PS X st (cS rk io M M Mb (dSetI i fk fv)):=weakS h (by
 intro D σ H h_;refine cS_ h_ fun F O s r R I hd q=>?_
 have hi':i∈M:=by simpa using hi
 obtain ⟨p,h1,hd⟩:=Qb hd
 obtain ⟨t0,h0,hd⟩:=Qb hd
 obtain ⟨⟨w1,w2⟩,h2,hd⟩:=Qb hd
 obtain ⟨t1,h3,hd⟩:=Qb hd
 obtain ⟨xs,rfl⟩:∃ xs,t1=.lst xs:=by cases t1<;>first | exact ⟨_,rfl⟩ | cases hd
 obtain ⟨k,rfl⟩:∃ k,w1=.int k:=by cases w1<;>first | exact ⟨_,rfl⟩ | cases hd
 obtain ⟨j,h4,h6⟩:=Qm (show (ixN xs.length k).map (fun j=>Fl.nx (w2.set i (some (.lst (xs.set j p.1)))))=some r from hd)
 subst h6
 refine ⟨F,O,s,p.1,p.2,R,h1,fun v H1 S1 p1=>?_⟩
 obtain ⟨a,e1,_⟩:=p1.1.own i t0 (join_some h0) hi'
 refine ⟨_,e1,F,O,p.2,_,_,p1.1,h2,fun y H2 S2 p2=>?_⟩
 obtain ⟨b,e2,L⟩:=p2.1.own i _ (join_some h3) hi'
 rw [e1] at e2
 injection e2 with e2
 injection e2 with e2
 injection e2 with e2
 subst e2
 have ne:=L.ne
 obtain ⟨vs,hr,hk⟩:=L.lst'
 obtain rfl:y=.int k:=BRep.int (.inl p2.2)
 refine ⟨a,vs,k,j,rfl,rfl,hr,by rw [hk.1]; exact h4,?_⟩
 have rv:=p1.1.stay S2 p1.2
 have R2:=p2.1.write (t':=.lst (xs.set j p.1)) hi' e1 (join_some h3) (fun Hx kx ex=>.lst ex ((hk.set j rv).mono (fun _ c=>c) kx))
 exact q O σ _ (((S1.trans S2).trans (.write hi' e1 ne)).keepO R) R2 I)
def gsN:List Nat->TGs
 | []=>gNil
 | i::r=>gCons (gName i) (gsN r)
def setAll:List Nat->List T->Sg->Option Sg
 | [],[],s=>some s
 | i::is,t::ts,s=>if i < s.length then setAll is ts (s.set i (some t)) else none
 | _,_,_=>none
theorem sets_ok{F:Fr}{O:Addr->Prop}{H:Hp}{Q:L2.St->Hp->Prop}:∀ {is:List Nat} {ts:List T} {vs:List V} {s s':Sg} {σ:L2.St},Rel F O M s σ H->Ios F io M σ->(∀ i,i∈is->i∉M)->(∀ i,i∈io->i∈M)->Reps (Free F O) H vs ts->setAll is ts s=some s'->
  (∀ σ',Rel F O M s' σ' H->Ios F io M σ'->Q σ' H)->gsN is vs σ H Q
 | [],[],vs,s,s',σ,R,I,_,_,h,e,q=>by
  injection e with e
  subst e
  exact ⟨h.none,q σ R I⟩
 | [],t::ts,vs,s,s',σ,R,I,_,_,h,e,q=>by cases e
 | i::is,[],vs,s,s',σ,R,I,_,_,h,e,q=>by cases e
 | i::is,t::ts,[],s,s',σ,R,I,_,_,h,e,q=>by have:=h.1; simp at this
 | i::is,t::ts,v::vs,s,s',σ,R,I,hm,hio,h,e,q=>by
  unfold setAll at e
  split at e
  ·rename_i hl
   have hi:i∉M:=hm i List.mem_cons_self
   exact ⟨v,vs,rfl,sets_ok (R.setE (fun j hj=>⟨hj,fun z=>hi (z▸hj)⟩) (fun j hj=>.inl hj) hl h.head) (I.set (fun z=>hi (hio i z)) hio) (fun j hj=>hm j (List.mem_cons_of_mem _ hj)) hio h.tail e q⟩
  ·cases e
def itemsT:T->Option (List T)
 | .lst xs=>some xs
 | .tup xs=>some xs
 | _=>none
def dUn(is:List Nat)(f:DE):DS:=fun s=>(f s).bind fun p=>(itemsT p.1).bind fun ts=>(setAll is ts p.2).map .nx
theorem s_unl{is:List Nat}{n:Nat}{K:PySem.W.Frag}{fe:DE}(h:PS X st (tAsg (cE .e M fe) (fun v σ H Q=>gUnl K n (gsN is) v σ H Q∨gTup K n (gsN is) v σ H Q)))(hn:is.length=n)(hm:is.all (fun i=>!M.contains i)=true)(hio:io.all (M.contains ·)=true):PS X st (cS rk io M M Mb (dUn is fe)):=weakS h (by
 intro D σ H h_;refine cS_ h_ fun F O s r R I hd q=>?_
 obtain ⟨⟨p1,p2⟩,h1,hd⟩:=Qb hd
 obtain ⟨ts,h2,hd⟩:=Qb hd
 obtain ⟨s2,h3,hd⟩:=Qm hd
 subst hd
 have hl:∀ {is:List Nat} {ts:List T} {s s':Sg},setAll is ts s=some s'->ts.length=is.length:=by
  intro is
  induction is with
  | nil=>intro ts s s' e; cases ts with
   | nil=>rfl
   | cons=>cases e
  | cons i is ih=>intro ts s s' e; cases ts with
   | nil=>cases e
   | cons t ts=>
    unfold setAll at e
    split at e
    ·rw [List.length_cons,List.length_cons,ih e]
    ·cases e
 have hmm:∀ i,i∈is->i∉M:=fun i hi=>by simpa using List.all_eq_true.mp hm i hi
 refine ⟨F,O,s,p1,p2,R,h1,fun v H1 S1 po=>?_⟩
 cases p1<;>simp [itemsT] at h2
 ·subst h2
  obtain ⟨a,vs,rfl,ha,ra⟩:=BRep.lst (.inl po.2)
  exact .inl ⟨a,vs,rfl,SqL.of ha,by rw [ra.1,hl h3,hn],sets_ok po.1 I hmm (sub_of hio) ra h3 fun σ' R' I'=>q O σ' H1 (S1.keepO R) R' I'⟩
 ·subst h2
  obtain ⟨a,vs,rfl,ha,ra⟩:=BRep.tup (.inl po.2)
  exact .inr ⟨a,vs,rfl,SqT.of ha,by rw [ra.1,hl h3,hn],sets_ok po.1 I hmm (sub_of hio) ra h3 fun σ' R' I'=>q O σ' H1 (S1.keepO R) R' I'⟩)
end
end L3
namespace L3
open PySem PySem.Spec PyProof.Rows L2
variable [TheK]
def ItOk(F:Fr)(O:Addr->Prop)(its:List T)(J:It)(H1:Hp):Prop:=∀ H2,(∀ b o,Free F O b->H1 b=some o->H2 b=some o)->
 ∀ i:Nat,(∀ t,its[i]?=some t->J.go i H2/\∀ x H3,J.yld i H2 x H3->(H3=H2∨∃ p o,H2 p=none/\H3=upd H2 p o)/\Rep (fun b=>(Free F O b/\H1 b≠none)∨H2 b=none) H3 x t)/\(its.length<=i->J.stop i H2)
abbrev DI:=Sg->Option (List T × Sg)
def cI(M:List Nat)(f:DI):TI:=fun σ H R=>∃ F O s its s',Rel F O M s σ H/\f s=some (its,s')/\∀ J H',Step σ M H H'->Rel F O M s' σ H'->ItOk F O its J H'->R J H'
theorem cI_{M:List Nat}{f:DI}{σ:L2.St}{H:Hp}{R:_}(h:cI M f σ H R){G:Prop}(g:∀ F O s its s',Rel F O M s σ H->f s=some (its,s')->(∀ J H',Step σ M H H'->Rel F O M s' σ H'->ItOk F O its J H'->R J H')->G):G:=by
 obtain ⟨F,O,s,its,s',Rl,hf,q⟩:=h
 exact g F O s its s' Rl hf q
theorem weakI{X:Cx}{tg e:Expr}{t t':TI}(h:PI X tg e t)(hw:∀ σ H R,t' σ H R->t σ H R):PI X tg e t':=fun pins s σ H R I q=>h pins s σ H R I (hw _ _ _ q)
def dIt(f:DE):DI:=fun s=>(f s).bind fun p=>match p.1 with
 | .lst xs=>some (xs,p.2)
 | .scr ns=>some (ns.map .int,p.2)
 | _=>none
def dItT(f:DE):DI:=fun s=>(f s).bind fun p=>match p.1 with
 | .tup xs=>some (xs,p.2)
 | _=>none
def rangeT(lo:Int)(n:Nat):List T:=(List.range n).map fun (i:Nat)=>T.int (lo+i)
def rgOk(j:Int):Bool:=(j+2000).natAbs.ble 4000
theorem rgOk_iff{j:Int}(h:rgOk j=true):-(2 ^ 62)<=j/\j < 2 ^ 62:=by
 unfold rgOk at h
 have:=Nat.le_of_ble_eq_true h
 lia
def dRg1(f:DA):DI:=fun s=>(f s).bind fun p=>match p.1 with
 | [.int j]=>if rgOk j=true then some (rangeT 0 j.toNat,p.2) else none
 | _=>none
def dRg2(f:DA):DI:=fun s=>(f s).bind fun p=>match p.1 with
 | [.int i,.int j]=>if rgOk i=true/\rgOk j=true then some (rangeT i (j - i).toNat,p.2) else none
 | _=>none
def enumT(xs:List T):List T:=(List.range xs.length).map fun (i:Nat)=>T.tup [.int i,xs.getD i .non]
def dEn(f:DA):DI:=fun s=>(f s).bind fun p=>match p.1 with
 | [.lst xs]=>some (enumT xs,p.2)
 | _=>none
section
variable {X:Cx}{M:List Nat}{tg e:Expr}{fe:DE}{fa:DA}
theorem it_list{F:Fr}{O:Addr->Prop}{H1:Hp}{a:Addr}{vs:List V}{ts:List T}{K:PySem.W.Frag}(fr:Free F O a)(ha:H1 a=some (.lst vs))(r:Reps (Free F O) H1 vs ts):ItOk F O ts (Itl K a) H1:=by
 intro H2 k i
 have h2:=k a _ fr ha
 refine ⟨fun t ht=>?_,fun hl=>⟨vs,SqL.of h2,by rw [r.1]; exact hl⟩⟩
 obtain ⟨v,hv,rv⟩:=r.get ht
 refine ⟨⟨vs,v,SqL.of h2,hv⟩,fun x H3 ⟨e1,e2⟩=>⟨.inl e1,?_⟩⟩
 have:=e2 vs (SqL.of h2)
 rw [hv] at this
 obtain rfl:v=x:=Option.some.inj this
 subst e1
 exact rv.there.mono (fun b c=>.inl c) fun b o c e=>k b o c.1 e
theorem it_scr{F:Fr}{O:Addr->Prop}{H1:Hp}{a:Addr}{ns:List Int}{K:PySem.W.Frag}(h:∀ H2,(∀ b o,Free F O b->H1 b=some o->H2 b=some o)->SqL K H2 a (ns.map V.int)):ItOk F O (ns.map T.int) (Itl K a) H1:=by
 intro H2 k i
 have h2:=h H2 k
 refine ⟨fun t ht=>?_,fun hl=>⟨_,h2,by simpa using hl⟩⟩
 obtain ⟨v,hv,rv⟩:=(reps_ints (C:=fun b=>(Free F O b/\H1 b≠none)∨H2 b=none) (H:=H2) ns).get ht
 refine ⟨⟨_,v,h2,hv⟩,fun x H3 ⟨e1,e2⟩=>⟨.inl e1,?_⟩⟩
 have:=e2 _ h2
 rw [hv] at this
 obtain rfl:v=x:=Option.some.inj this
 subst e1
 exact rv
theorem i_list(hK:X.K=TheK.K)(h:PE X e (cE .e M fe)):PI X tg e (cI M (dIt fe)):=weakI (t:=iList TheK.K (cE .e M fe)) (hK▸pi_list h) (by
 intro σ H R h_;refine cI_ h_ fun F O s its s' Rl hf q=>?_
 obtain ⟨⟨p1,p2⟩,h1,h2⟩:=Qb hf
 refine ⟨F,O,s,p1,p2,Rl,h1,fun v H1 S1 po=>?_⟩
 cases p1<;>simp at h2
 ·obtain ⟨h3,h4⟩:=h2
  subst h3 h4
  have po2:=po.2
  cases po2 with
  | lst c r l h=>
   exact ⟨_,rfl,⟨_,SqL.of r⟩,q _ H1 S1 po.1 (it_list c r ⟨l,h⟩)⟩
 ·obtain ⟨h3,h4⟩:=h2
  subst h3 h4
  have po2:=po.2
  cases po2 with
  | @scr a ns o c r=>
   refine ⟨a,rfl,⟨_,.inl (.inr ⟨o,r⟩)⟩,q _ H1 S1 po.1 ?_⟩
   exact it_scr fun H2 k=>.inl (.inr ⟨o,k a _ c r⟩)
  | @scrK a ns r=>
   refine ⟨a,rfl,⟨_,r H1⟩,q _ H1 S1 po.1 ?_⟩
   exact it_scr fun H2 k=>r H2)
theorem i_tup(h:PE X e (cE .e M fe)):PI X tg e (cI M (dItT fe)):=weakI (pi_tup h) (by
 intro σ H R h_;refine cI_ h_ fun F O s its s' Rl hf q=>?_
 obtain ⟨⟨p1,p2⟩,h1,h2⟩:=Qb hf
 refine ⟨F,O,s,p1,p2,Rl,h1,fun v H1 S1 po=>?_⟩
 cases p1<;>simp at h2
 obtain ⟨h3,h4⟩:=h2
 subst h3 h4
 have po2:=po.2
 cases po2 with
 | tup c r l h=>
  rename_i a vs
  refine ⟨a,rfl,⟨vs,SqT.of r⟩,q _ H1 S1 po.1 ?_⟩
  intro H2 k i
  have h2:=k a _ c r
  refine ⟨fun t ht=>?_,fun hl=>⟨vs,SqT.of h2,by rw [l]; exact hl⟩⟩
  obtain ⟨v,hv,rv⟩:=Reps.get (⟨l,h⟩:Reps (Free F O) H1 vs _) ht
  refine ⟨⟨vs,v,SqT.of h2,hv⟩,fun x H3 ⟨e1,e2⟩=>⟨.inl e1,?_⟩⟩
  have:=e2 vs (SqT.of h2)
  rw [hv] at this
  obtain rfl:v=x:=Option.some.inj this
  subst e1
  exact rv.there.mono (fun b c=>.inl c) fun b o c e=>k b o c.1 e)
theorem it_range{F:Fr}{O:Addr->Prop}{H1:Hp}{lo:Int}{n:Nat}:ItOk F O (rangeT lo n) (Itr lo n) H1:=by
 intro H2 k i
 unfold rangeT
 refine ⟨fun t ht=>?_,fun hl=>by show n<=i; simpa using hl⟩
 rw [List.getElem?_map] at ht
 obtain ⟨j,hj,e⟩:=Qm ht
 have hi:i < n:=by simpa using (List.getElem?_eq_some_iff.mp hj).1
 rw [List.getElem?_range hi] at hj
 obtain rfl:i=j:=Option.some.inj hj
 refine ⟨hi,fun x H3 ⟨e1,e2⟩=>⟨.inl e1,?_⟩⟩
 subst e1 e2 e
 exact .int _
theorem i_range1{a:Expr}{p pos:Pos}(hg:Gl X "range")(hm:X.mg "range"=none)(ha:PA X [a] (cA M fa))(hs:starEach [a] X.env=[(false,eval a X.env)]:=by rfl):PI X tg (.Call (.Name "range" p) [a] [] pos) (cI M (dRg1 fa)):=weakI (pi_range1 hg hm ha hs) (by
 intro σ H R h_;refine cI_ h_ fun F O s its s' Rl hf q=>?_
 obtain ⟨⟨p1,p2⟩,h1,h2⟩:=Qb hf
 refine ⟨F,O,s,p1,p2,Rl,h1,fun vs H1 S1 R1 rs=>?_⟩
 dsimp only at h2
 split at h2
 case h_2=>cases h2
 ·rename_i j
  have h2:(if rgOk j=true then some (rangeT 0 j.toNat,p2) else none)=some (its,s'):=h2
  split at h2
  ·rename_i hj
   have hj:=rgOk_iff hj
   injection h2 with h2
   injection h2 with h3 h4
   subst h3 h4
   obtain ⟨v,rfl,rv⟩:=rs.one
   obtain rfl:v=.int j:=BRep.int (.inl rv)
   exact ⟨j,rfl,hj.1,hj.2,q _ H1 S1 R1 it_range⟩
  ·cases h2)
theorem i_range2{a b:Expr}{p pos:Pos}(hg:Gl X "range")(hm:X.mg "range"=none)(ha:PA X [a,b] (cA M fa))(hs:starEach [a,b] X.env=[(false,eval a X.env),(false,eval b X.env)]:=by rfl)(hs2:starEach [b] X.env=[(false,eval b X.env)]:=by rfl):PI X tg (.Call (.Name "range" p) [a,b] [] pos) (cI M (dRg2 fa)):=weakI (pi_range2 hg hm ha hs hs2) (by
 intro σ H R h_;refine cI_ h_ fun F O s its s' Rl hf q=>?_
 obtain ⟨⟨p1,p2⟩,h1,h2⟩:=Qb hf
 refine ⟨F,O,s,p1,p2,Rl,h1,fun vs H1 S1 R1 rs=>?_⟩
 dsimp only at h2
 split at h2
 case h_2=>cases h2
 ·rename_i i j
  have h2:(if rgOk i=true/\rgOk j=true then some (rangeT i (j - i).toNat,p2) else none)=some (its,s'):=h2
  split at h2
  ·rename_i hj
   have hj:-(2 ^ 62)<=i/\i < 2 ^ 62/\-(2 ^ 62)<=j/\j < 2 ^ 62:=⟨(rgOk_iff hj.1).1,(rgOk_iff hj.1).2,rgOk_iff hj.2⟩
   injection h2 with h2
   injection h2 with h3 h4
   subst h3 h4
   match vs,rs with
   | v::vs,rs=>
    obtain ⟨u,rfl,ru⟩:=rs.tail.one
    obtain rfl:v=.int i:=BRep.int (.inl rs.head)
    obtain rfl:u=.int j:=BRep.int (.inl ru)
    exact ⟨i,j,rfl,hj,q _ H1 S1 R1 it_range⟩
   | [],rs=>exact absurd rs.1 (by simp)
  ·cases h2)
theorem i_enum{elts:List Expr}{x1:Nat}{tp:Pos}{a:Expr}{p pos:Pos}(hg:Gl X "enumerate")(hm:X.mg "enumerate"=none)(ha:PA X [a] (cA M fa))(hs:starEach [a] X.env=[(false,eval a X.env)]:=by rfl):PI X (.Tuple elts x1 tp) (.Call (.Name "enumerate" p) [a] [] pos) (cI M (dEn fa)):=weakI (pi_enum hg hm ha hs) (by
 intro σ H R h_;refine cI_ h_ fun F O s its s' Rl hf q=>?_
 obtain ⟨⟨p1,p2⟩,h1,h2⟩:=Qb hf
 refine ⟨F,O,s,p1,p2,Rl,h1,fun vs H1 S1 R1 rs=>?_⟩
 dsimp only at h2
 split at h2
 case h_2=>cases h2
 ·rename_i xs
  injection h2 with h2
  injection h2 with h3 h4
  subst h3 h4
  obtain ⟨v,rfl,rv⟩:=rs.one
  cases rv with
  | @lst a us _ c r l h=>
   refine ⟨a,rfl,⟨us,SqL.of r⟩,q _ H1 S1 R1 ?_⟩
   intro H2 k i
   have h2:=k a _ c r
   have hlen:(enumT xs).length=us.length:=by unfold enumT; rw [List.length_map,List.length_range,l]
   refine ⟨fun t ht=>?_,fun hl=>⟨us,SqL.of h2,by rw [<-hlen]; exact hl⟩⟩
   have hi:i < us.length:=by rw [<-hlen]; exact (List.getElem?_eq_some_iff.mp ht).1
   have hx:i < xs.length:=by rw [<-l]; exact hi
   have et:t=.tup [.int i,xs[i]]:=by
    unfold enumT at ht
    rw [List.getElem?_map,List.getElem?_range hx] at ht
    have:=Option.some.inj ht
    rw [<-this]
    simp [List.getD,List.getElem?_eq_getElem hx]
   subst et
   refine ⟨⟨us,us[i],SqL.of h2,List.getElem?_eq_getElem hi⟩,fun x H3 ⟨p',x',e1,e2,e3,e4⟩=>⟨.inr ⟨p',_,e2,e3⟩,?_⟩⟩
   have:=e4 us (SqL.of h2)
   rw [List.getElem?_eq_getElem hi] at this
   obtain rfl:us[i]=x':=Option.some.inj this
   subst e1 e3
   have ri:=h i _ _ (List.getElem?_eq_getElem hi) (List.getElem?_eq_getElem hx)
   have ri2:Rep (fun b=>(Free F O b/\H1 b≠none)∨H2 b=none) (upd H2 p' (.tup [.int i,us[i]])) us[i] xs[i]:=
    ri.there.mono (fun b c=>.inl c) fun b o c e=>by rw [upd_ne (ne_of_none (k b o c.1 e) e2)]; exact k b o c.1 e
   have rr:Reps (fun b=>(Free F O b/\H1 b≠none)∨H2 b=none) (upd H2 p' (.tup [.int i,us[i]])) [.int i,us[i]] [.int i,xs[i]]:=.cons (.int _) (.cons ri2 .nil)
   exact .tup (.inr e2) upd_same rr.1 rr.2)
end
abbrev DG:=T->Sg->Option Sg
def cG(io M:List Nat)(g:DG):TG:=fun v σ H Q=>∃ F O s t s',Rel F O M s σ H/\Ios F io M σ/\Rep (Free F O) H v t/\g t s=some s'/\∀ σ',Rel F O M s' σ' H->Ios F io M σ'->Q σ' H
def dGn(i:Nat):DG:=fun t s=>if i < s.length then some (s.set i (some t)) else none
def dGt(is:List Nat):DG:=fun t s=>match t with
 | .tup ts=>setAll is ts s
 | _=>none
theorem weakG{X:Cx}{e:Expr}{t t':TG}(h:PG X e t)(hw:∀ v σ H Q,t' v σ H Q->t v σ H Q):PG X e t':=fun pins s σ H v u Q I r q=>h pins s σ H v u Q I r (hw _ _ _ _ q)
section
variable {X:Cx}{rk:Kd}{io M M' Mb:List Nat}{tg iter:Expr}{body:List Stmt}{fi:DI}{g:DG}{db:DS}{pos:Pos}
theorem gn{i:Nat}(hi:M.contains i=false)(hio:io.all (M.contains ·)=true):∀ v σ H Q,cG io M (dGn i) v σ H Q->gName i v σ H Q:=by
 rintro v σ H Q ⟨F,O,s,t,s',R,I,r,hg,q⟩
 have hi':i∉M:=by simpa using hi
 unfold dGn at hg
 split at hg
 ·rename_i hl
  injection hg with hg
  subst hg
  exact q _ (R.setE (fun j hj=>⟨hj,fun z=>hi' (z▸hj)⟩) (fun j hj=>.inl hj) hl r) (I.set (fun z=>hi' (sub_of hio i z)) (sub_of hio))
 ·cases hg
theorem g_name{i:Nat}(h:PG X tg (gName i))(hi:M.contains i=false:=by rfl)(hio:io.all (M.contains ·)=true:=by rfl):PG X tg (cG io M (dGn i)):=weakG h (gn hi hio)
def loopF(g:DG)(db:DS):List T->Sg->Option Fl
 | [],s=>some (.nx s)
 | x::xs,s=>(g x s).bind fun s1=>(db s1).bind fun r=>match r with
  | .nx s2=>loopF g db xs s2
  | .ct s2=>loopF g db xs s2
  | .bk s2=>some (.nx s2)
  | .rt t s2=>some (.rt t s2)
def dFor(fi:DI)(g:DG)(db:DS):DS:=fun s=>(fi s).bind fun p=>loopF g db p.1 p.2
theorem rel_yield{F:Fr}{O O1:Addr->Prop}{s:Sg}{σ:L2.St}{H1 H2 H3:Hp}{x:V}{t:T}(k:KeepO O H1 O1 H2)(R:Rel F O1 M s σ H2)(hy:H3=H2∨∃ p o,H2 p=none/\H3=upd H2 p o)(r:Rep (fun b=>(Free F O b/\H1 b≠none)∨H2 b=none) H3 x t) :
  Rel F O1 M s σ H3/\KeepO O1 H2 O1 H3/\Rep (Free F O1) H3 x t:=by
 have fr:∀ b,((Free F O b/\H1 b≠none)∨H2 b=none)->Free F O1 b:=fun b c=>by
  rcases c with ⟨c,n⟩ | n
  ·cases e:H1 b with
   | none=>exact absurd e n
   | some o=>exact ⟨(k.1 b o c.1 e).2,c.2⟩
  ·exact ⟨fun z=>R.al b z n,.inr (R.dom b n)⟩
 refine ⟨?_,?_,r.mono fr fun _ _ _ e=>e⟩
 ·rcases hy with rfl | ⟨p,o,hp,rfl⟩
  ·exact R
  ·exact (R.new hp o).less (fun b z=>.inl z) R.ow R.inD
 ·rcases hy with rfl | ⟨p,o,hp,rfl⟩
  ·exact .refl
  ·exact ⟨fun b u n e=>⟨by rw [upd_ne (ne_of_none e hp)]; exact e,n⟩,fun b e=>by
    unfold upd at e
    split at e
    ·cases e
    ·exact e⟩
theorem for_ok:∀ D σ H,cS rk io M M Mb (dFor fi g db) D σ H->tFor (cI M fi) (cG io M g) (cS rk io M M M db) D σ H:=by
 intro D σ H h_;refine cS_ h_ fun F O s r R I hd q=>?_
 obtain ⟨⟨its,s1⟩,h1,h2⟩:=Qb hd
 refine ⟨F,O,s,its,s1,R,h1,fun J H1 S1 R1 IT=>?_⟩
 have k1:KeepO O H O H1:=S1.keepO R
 refine ⟨fun i m σ' H'=>m=its.length - i/\i<=its.length/\∃ O' s',KeepO O H1 O' H'/\Rel F O' M s' σ' H'/\Ios F io M σ'/\loopF g db (its.drop i) s'=some r,⟨its.length,by simp,Nat.zero_le _,O,s1,.refl,R1,I,h2⟩,?_⟩
 rintro i m σ2 H2 ⟨rfl,hi,O2,s2,k2,R2,I2,hl⟩
 have it:=IT H2 (fun b o c e=>(k2.1 b o c.1 e).1) i
 by_cases hlt:i < its.length
 ·refine .inr ?_
  obtain ⟨go,yl⟩:=it.1 its[i] (List.getElem?_eq_getElem hlt)
  rw [List.drop_eq_getElem_cons hlt] at hl
  unfold loopF at hl
  obtain ⟨s3,hg,hl⟩:=Qb hl
  obtain ⟨r1,hb,hl⟩:=Qb hl
  refine ⟨go,fun σ' H'=>∃ O' s',KeepO O H1 O' H'/\Rel F O' M s' σ' H'/\Ios F io M σ'/\loopF g db (its.drop (i+1)) s'=some r,fun σ' H' ⟨O',s',h⟩=>⟨its.length - (i+1),by lia,rfl,hlt,O',s',h⟩,fun x H3 hy=>?_⟩
  obtain ⟨y1,y2⟩:=yl x H3 hy
  obtain ⟨R3,k3,rx⟩:=rel_yield k2 R2 y1 y2
  have k13:=k2.trans k3
  refine ⟨F,O2,s2,its[i],s3,R3,I2,rx,hg,fun σ4 R4 I4=>⟨F,O2,s3,r1,R4,I4,hb,?_⟩⟩
  cases r1 with
  | nx s5=>exact fun O5 σ5 H5 k5 R5 I5=>⟨O5,s5,k13.trans k5,R5,I5,hl⟩
  | ct s5=>exact fun O5 σ5 H5 k5 R5 I5=>⟨O5,s5,k13.trans k5,R5,I5,hl⟩
  | bk s5=>
   injection hl with hl
   subst hl
   exact fun O5 σ5 H5 k5 R5 I5=>q O5 σ5 H5 (k1.trans (k13.trans k5)) R5 I5
  | rt t s5=>
   injection hl with hl
   subst hl
   exact q
 ·have e:i=its.length:=by lia
  subst e
  rw [List.drop_length] at hl
  injection hl with hl
  subst hl
  exact .inl ⟨it.2 (Nat.le_refl _),q O2 σ2 H2 (k1.trans k2) R2 I2⟩
theorem s_for(h:PS X (.For tg iter body [] pos) (tFor (cI M fi) (cG io M g) (cS rk io M M M db))):PS X (.For tg iter body [] pos) (cS rk io M M Mb (dFor fi g db)):=weakS h for_ok
def whileN(ft:DT)(db:DS):Nat->Sg->Option Fl
 | 0,_=>none
 | n+1,s=>(ft s).bind fun p=>if p.1 then (db p.2).bind fun r=>match r with
  | .nx s2=>whileN ft db n s2
  | .ct s2=>whileN ft db n s2
  | .bk s2=>some (.nx s2)
  | .rt t s2=>some (.rt t s2)
  else some (.nx p.2)
theorem while_ok{ft:DT}{n:Nat}:∀ D σ H,cS rk io M M Mb (whileN ft db n) D σ H->tWhile (cT M ft) (cS rk io M M M db) D σ H:=by
 intro D σ H h_;refine cS_ h_ fun F O s r R I hd q=>?_
 refine ⟨fun m σ' H'=>∃ O' s',KeepO O H O' H'/\Rel F O' M s' σ' H'/\Ios F io M σ'/\whileN ft db m s'=some r,⟨n,O,s,.refl,R,I,hd⟩,?_⟩
 rintro m σ2 H2 ⟨O2,s2,k2,R2,I2,hl⟩
 cases m with
 | zero=>cases hl
 | succ m=>
  unfold whileN at hl
  obtain ⟨⟨b,s3⟩,h1,h2⟩:=Qb hl
  refine ⟨F,O2,s2,b,s3,R2,h1,fun H3 S3 R3=>?_⟩
  have k3:=k2.trans (S3.keepO R2)
  cases b with
  | true=>
   obtain ⟨r1,hb,hl⟩:=Qb h2
   refine ⟨fun σ' H'=>∃ O' s',KeepO O H O' H'/\Rel F O' M s' σ' H'/\Ios F io M σ'/\whileN ft db m s'=some r,fun σ' H' z=>⟨m,Nat.lt_succ_self m,z⟩,F,O2,s3,r1,R3,I2,hb,?_⟩
   cases r1 with
   | nx s5=>exact fun O5 σ5 H5 k5 R5 I5=>⟨O5,s5,k3.trans k5,R5,I5,hl⟩
   | ct s5=>exact fun O5 σ5 H5 k5 R5 I5=>⟨O5,s5,k3.trans k5,R5,I5,hl⟩
   | bk s5=>
    injection hl with hl
    subst hl
    exact fun O5 σ5 H5 k5 R5 I5=>q O5 σ5 H5 (k3.trans k5) R5 I5
   | rt t s5=>
    injection hl with hl
    subst hl
    exact q
  | false=>
   injection h2 with h2
   subst h2
   exact q O2 σ2 H3 k3 R3 I2
theorem s_while{c:Expr}{ft:DT}(n:Nat)(hp:PassesOwn (model X.prog X.w) X.A X.env X.xe)(hc:PT X c (cT M ft))(hb:PSs X body (cS rk io M M M db)):PS X (.While c body [] pos) (cS rk io M M Mb (whileN ft db n)):=weakS (ps_while hp hc hb) while_ok
end
end L3
namespace L3
open PySem PySem.Spec PyProof.Rows L2
variable [TheK]
structure CallP (rk:Kd) (C:Addr->Prop) (H:Hp) (t:T) (v:V) (H':Hp):Prop where
 keep:∀ b o,H b=some o->H' b=some o
 dom:∀ b,H' b=none->H b=none
 res:match rk with
  | .n=>∃ r,v=.ref r/\H r=none/\Live (fun b=>(C b∨H b=none)/\b≠r) H' r t
  | _=>Rep (fun b=>C b∨H b=none) H' v t
def spP(rk:Kd)(np:Nat)(fn:List T->Option T):Sp:=fun vs H Q _=>∃ C ts t,ts.length=np/\Reps C H vs ts/\fn ts=some t/\∀ v H',CallP rk C H t v H'->Q v H'
structure CallI (rk:Kd) (C:Addr->Prop) (a:Addr) (H:Hp) (t t0:T) (v:V) (H':Hp):Prop where
 keep:∀ b o,b≠a->H b=some o->H' b=some o
 dom:∀ b,H' b=none->H b=none
 res:match rk with
  | .n=>∃ r,v=.ref r/\H r=none/\Live (fun b=>(b≠a/\(C b∨H b=none))/\b≠r) H' r t/\Live (fun b=>(b≠a/\(C b∨H b=none))/\b≠r) H' a t0
  | _=>Rep (fun b=>b≠a/\(C b∨H b=none)) H' v t/\Live (fun b=>b≠a/\(C b∨H b=none)) H' a t0
def spI(rk:Kd)(np:Nat)(fn:List T->Option (T × T)):Sp:=fun vs H Q _=>∃ C a us t0 ts t t1,(t0::ts).length=np/\vs=.ref a::us/\¬ C a/\Live C H a t0/\Reps C H us ts/\fn (t0::ts)=some (t,t1)/\∀ v H',CallI rk C a H t t1 v H'->Q v H'
def start3(n:Nat)(ts:List T):Sg:=ts.map some++List.replicate (n - ts.length) none
def fnP(n:Nat)(d:DS):List T->Option T:=fun ts=>match d (start3 n ts) with
 | some (.rt t _)=>some t
 | some (.nx _)=>some .non
 | _=>none
def fnPn(n:Nat)(d:DS):List T->Option T:=fun ts=>match d (start3 n ts) with
 | some (.rt t _)=>some t
 | _=>none
def fnI(n:Nat)(d:DS):List T->Option (T × T):=fun ts=>match d (start3 n ts) with
 | some (.rt t s)=>(s[0]?).join.map fun u=>(t,u)
 | _=>none
theorem start_get{N:List Str}{vs:List V}{ts:List T}{C:Addr->Prop}{H:Hp}(r:Reps C H vs ts)(hl:ts.length<=N.length):(start3 N.length ts).length=(L2.start N vs).length/\∀ (i:Nat) t,(start3 N.length ts)[i]?=some (some t)->∃ v,(L2.start N vs)[i]?=some (some v)/\ts[i]?=some t/\vs[i]?=some v/\Rep C H v t:=by
 have rl:=r.1
 unfold start3 L2.start
 refine ⟨by simp [rl],fun i t e=>?_⟩
 by_cases hi:i < ts.length
 ·rw [List.getElem?_append_left (by rw [List.length_map]; exact hi),List.getElem?_map] at e
  obtain ⟨t',h1,h2⟩:=Qm e
  injection h2 with h2
  subst h2
  obtain ⟨v,hv,rv⟩:=r.get h1
  refine ⟨v,?_,h1,hv,rv⟩
  rw [List.getElem?_append_left (by rw [List.length_map,rl]; exact hi),List.getElem?_map,hv]
  rfl
 ·rw [List.getElem?_append_right (by rw [List.length_map]; lia)] at e
  have:=List.mem_of_getElem? e
  have:=List.eq_of_mem_replicate this
  cases this
section
variable {rk:Kd}{M' Mb:List Nat}{d:DS}{N:List Str}{np:Nat}
theorem run_P{fn:List T->Option T}(hfn:∀ ts t,fn ts=some t->(∃ s',d (start3 N.length ts)=some (.rt t s'))∨(rk=.e/\t=.non/\∃ s',d (start3 N.length ts)=some (.nx s')))(hrk:rk=.e∨rk=.n)(hN:np<=N.length){vs:List V}{H:Hp}{Q:VK}{E:XK}(h:spP rk np fn vs H Q E) :
  cS rk [] [] M' Mb d { nx:=fun _ H'=>Q .non H',rt:=Q } (L2.start N vs) H:=by
 obtain ⟨C,ts,t,hl,r,hf,q⟩:=h
 obtain ⟨l1,l2⟩:=start_get (N:=N) r (by lia)
 have w:∀ b,C b->Free ⟨H,C,fun _=>False,fun _=>0⟩ (fun _=>False) b:=fun b c=>⟨fun z=>z,.inl c⟩
 have R:Rel ⟨H,C,fun _=>False,fun _=>0⟩ (fun _=>False) [] (start3 N.length ts) (L2.start N vs) H:=by
  refine ⟨l1,fun i t e _=>?_,fun i t e n=>by simp at n,fun i a n=>by simp at n,fun i j a n=>by simp at n,fun b o _ e=>e,fun b e=>e,fun a z=>z.elim,fun a z=>z,fun a z=>z.elim⟩
  obtain ⟨v,h1,_,_,rv⟩:=l2 i t e
  exact ⟨v,h1,rv.mono w fun _ _ _ e=>e⟩
 have I:Ios ⟨H,C,fun _=>False,fun _=>0⟩ [] [] (L2.start N vs):=⟨fun i hi=>by simp at hi,fun a z=>z.elim⟩
 rcases hfn ts t hf with ⟨s',hd⟩ | ⟨e1,e2,s',hd⟩
 ·refine ⟨_,_,_,_,R,I,hd,fun v H' ro=>q v H' ⟨fun b o e=>ro.keep b o (fun z=>z) e,ro.dom,?_⟩⟩
  rcases hrk with rfl | rfl
  ·exact ro.res.1.mono (fun b c=>c.2) fun _ _ _ e=>e
  ·obtain ⟨r,h1,h2,_,h3,_⟩:=ro.res
   exact ⟨r,h1,h2,h3.mono (fun b c=>⟨c.1.2,c.2⟩) (fun _ _ _ e=>e) fun _ e=>e⟩
 ·subst e1 e2
  refine ⟨_,_,_,_,R,I,hd,fun O' σ' H' k R' I'=>q .non H' ⟨fun b o e=>R'.keep b o (fun z=>z) e,R'.dom,.non⟩⟩
theorem run_I(hrk:rk=.e∨rk=.n)(hN:np<=N.length){vs:List V}{H:Hp}{Q:VK}{E:XK}(h:spI rk np (fnI N.length d) vs H Q E) :
  cS rk [0] [0] M' Mb d { nx:=fun _ H'=>Q .non H',rt:=Q } (L2.start N vs) H:=by
 obtain ⟨C,a,us,t0,ts,t,t1,hl,rfl,na,L,r,hf,q⟩:=h
 have hlu:us.length+1<=N.length:=by rw [r.1]; simpa using Nat.le_trans (Nat.le_of_eq hl) hN
 have r':Reps (fun b=>C b∨b=a) H (.ref a::us) (t0::ts):=.cons (L.rep (fun b c=>.inl c) (.inr rfl)) (r.mono (fun b c=>.inl c) fun _ _ _ e=>e)
 obtain ⟨l1,l2⟩:=start_get (N:=N) r' (by rw [hl]; exact hN)
 have w:∀ b,C b->Free ⟨H,C,fun b=>b=a,fun _=>a⟩ (fun b=>b=a) b:=fun b c=>⟨fun z=>na (z▸c),.inl c⟩
 have e0:(L2.start N (.ref a::us))[0]?=some (some (.ref a)):=rfl
 have R:Rel ⟨H,C,fun b=>b=a,fun _=>a⟩ (fun b=>b=a) [0] (start3 N.length (t0::ts)) (L2.start N (.ref a::us)) H:=by
  refine ⟨l1,fun i t e n=>?_,fun i t e n=>?_,fun i b n e=>?_,fun i j b n m _ _=>?_,fun b o _ e=>e,fun b e=>e,fun b z=>.inl z,fun b z=>z,fun b z=>z▸L.ne⟩
  ·obtain ⟨v,h1,h2,h3,_⟩:=l2 i t e
   cases i with
   | zero=>simp at n
   | succ i=>
    have rv:=r.2 i v t (by simpa using h3) (by simpa using h2)
    exact ⟨v,h1,rv.mono w fun _ _ _ e=>e⟩
  ·obtain rfl:i=0:=by simpa using n
   obtain ⟨v,h1,h2,h3,_⟩:=l2 0 t e
   have:t0=t:=by simpa using h2
   subst this
   exact ⟨a,e0,L.mono w (fun _ _ _ e=>e) fun _ e=>e⟩
  ·obtain rfl:i=0:=by simpa using n
   rw [e0] at e
   injection e with e
   injection e with e
   injection e with e
   exact e.symm
  ·have h1:i=0:=by simpa using n
   have h2:j=0:=by simpa using m
   rw [h1,h2]
 have I:Ios ⟨H,C,fun b=>b=a,fun _=>a⟩ [0] [0] (L2.start N (.ref a::us)):=⟨fun i hi=>by
  obtain rfl:i=0:=by simpa using hi
  exact ⟨by simp,e0⟩,fun b z=>⟨0,by simp,z⟩⟩
 unfold fnI at hf
 cases hd:d (start3 N.length (t0::ts)) with
 | none=>rw [hd] at hf; cases hf
 | some r1=>
  rw [hd] at hf
  cases r1 with
  | rt t' s'=>
   obtain ⟨u,h1,h2⟩:=Qm hf
   injection h2 with h2 h3
   subst h2 h3
   refine ⟨_,_,_,_,R,I,hd,fun v H' ro=>q v H' ⟨fun b o n e=>ro.keep b o n e,ro.dom,?_⟩⟩
   rcases hrk with rfl | rfl
   ·obtain ⟨h2,h3⟩:=ro.res
    obtain ⟨t2,h4,h5⟩:=h3 0 (by simp)
    rw [join_some h1] at h4
    injection h4 with h4
    injection h4 with h4
    subst h4
    exact ⟨h2,h5⟩
   ·obtain ⟨r,h2,h3,_,h4,h5⟩:=ro.res
    obtain ⟨t2,h6,h7⟩:=h5 0 (by simp)
    rw [join_some h1] at h6
    injection h6 with h6
    injection h6 with h6
    subst h6
    exact ⟨r,h2,h3,h4,h7⟩
  | nx s'=>cases hf
  | bk s'=>cases hf
  | ct s'=>cases hf
end
section
variable {F:Fr}{O:Addr->Prop}{M:List Nat}{s:Sg}{σ:L2.St}{H H':Hp}
theorem Rel.ext(R:Rel F O M s σ H)(k:∀ b o,H b=some o->H' b=some o)(dm:∀ b,H' b=none->H b=none):Rel F O M s σ H' where
 len:=R.len
 val:=fun i t e n=>by
  obtain ⟨v,h1,h2⟩:=R.val i t e n
  exact ⟨v,h1,h2.mono (fun _ c=>c) fun b o _ e=>k b o e⟩
 own:=fun i t e n=>by
  obtain ⟨a,h1,h2⟩:=R.own i t e n
  exact ⟨a,h1,h2.mono (fun _ c=>c) (fun b o _ e=>k b o e) fun o e=>k a o e⟩
 ow:=R.ow
 dis:=R.dis
 keep:=fun b o n e=>k b o (R.keep b o n e)
 dom:=fun b e=>R.dom b (dm b e)
 fresh:=R.fresh
 inD:=R.inD
 al:=fun a z e=>R.al a z (dm a e)
theorem Rel.extN{r:Addr}(R:Rel F O M s σ H)(k:∀ b o,H b=some o->H' b=some o)(dm:∀ b,H' b=none->H b=none)(hr:H r=none)(hr':H' r≠none):Rel F (fun b=>O b∨b=r) M s σ H':=by
 have R':=R.ext k dm
 have fr:∀ b,Free F O b/\H b≠none->Free F (fun b=>O b∨b=r) b:=fun b c=>⟨fun z=>z.elim c.1.1 fun z=>c.2 (z▸hr),c.1.2⟩
 refine ⟨R.len,fun i t e n=>?_,fun i t e n=>?_,fun i b hi e=>.inl (R.ow i b hi e),R.dis,R'.keep,R'.dom,fun b z=>?_,fun b z=>.inl (R.inD b z),fun b z=>?_⟩
 ·obtain ⟨v,h1,h2⟩:=R.val i t e n
  exact ⟨v,h1,h2.there.mono fr fun b o _ e=>k b o e⟩
 ·obtain ⟨b,h1,h2⟩:=R.own i t e n
  exact ⟨b,h1,h2.there.mono fr (fun b o _ e=>k b o e) fun o e=>k b o e⟩
 ·rcases z with z | z
  ·exact R.fresh b z
  ·subst z; exact .inr (R.dom _ hr)
 ·rcases z with z | z
  ·exact R'.al b z
  ·subst z; exact hr'
theorem Rel.freeNew(R:Rel F O M s σ H){b:Addr}(h:Free F O b∨H b=none):Free F O b:=h.elim id fun z=>⟨fun w=>R.al b w z,.inr (R.dom b z)⟩
end
def Ar(fa:DA)(n:Nat):Prop:=∀ s ts s',fa s=some (ts,s')->ts.length=n
theorem ar_nil:Ar dAn 0:=fun s ts s' h=>by
 injection h with h
 injection h with h1 _
 rw [<-h1]; rfl
theorem ar_{f:DE}{fa:DA}{n:Nat}(h:Ar fa n):Ar (dAc f fa) (n+1):=fun s ts s' e=>by
 obtain ⟨p,h1,h2⟩:=Qb e
 obtain ⟨q,h3,h4⟩:=Qm h2
 injection h4 with h4 _
 rw [<-h4,List.length_cons,h _ _ _ h3]
def dCall(fn:List T->Option T)(fa:DA):DE:=fun s=>(fa s).bind fun p=>(fn p.1).map fun t=>(t,p.2)
def dCallI(fn:List T->Option (T × T))(i:Nat)(fa:DA):DE:=fun s=>(s[i]?).join.bind fun _=>(fa s).bind fun p=>(p.2[i]?).join.bind fun t0=>(fn (t0::p.1)).map fun q=>(q.1,p.2.set i (some q.2))
def dCallN(fn:List T->Option (T × T))(f0:DE)(fa:DA):DE:=fun s=>(f0 s).bind fun p=>(fa p.2).bind fun q=>(fn (p.1::q.1)).map fun r=>(r.1,q.2)
section
variable {M:List Nat}{fa:DA}{f0:DE}{rk:Kd}{np:Nat}
theorem call_e{fn:List T->Option T}(hn:Ar fa np):∀ σ H Q,cE .e M (dCall fn fa) σ H Q->tCall (spP .e np fn) [] E0 (cA M fa) σ H Q:=by
 intro σ H Q h_;refine cE_ h_ fun F O s t s' R hf q=>?_
 obtain ⟨p,h1,h2⟩:=Qb hf
 obtain ⟨t',h3,h4⟩:=Qm h2
 injection h4 with h4 h5
 subst h4 h5
 refine ⟨F,O,s,p.1,p.2,R,h1,fun vs H1 S1 R1 rs=>?_⟩
 try dsimp only
 rw [List.append_nil]
 refine ⟨Free F O,p.1,t',hn _ _ _ h1,rs,h3,fun v H2 c=>q v H2 (S1.trans ⟨fun b o _ e=>c.keep b o e,c.dom⟩) ⟨R1.ext c.keep c.dom,?_⟩⟩
 exact c.res.mono (fun b z=>R1.freeNew z) fun _ _ _ e=>e
theorem call_n{fn:List T->Option T}(hn:Ar fa np):∀ σ H Q,cE .n M (dCall fn fa) σ H Q->tCall (spP .n np fn) [] E0 (cA M fa) σ H Q:=by
 intro σ H Q h_;refine cE_ h_ fun F O s t s' R hf q=>?_
 obtain ⟨p,h1,h2⟩:=Qb hf
 obtain ⟨t',h3,h4⟩:=Qm h2
 injection h4 with h4 h5
 subst h4 h5
 refine ⟨F,O,s,p.1,p.2,R,h1,fun vs H1 S1 R1 rs=>?_⟩
 try dsimp only
 rw [List.append_nil]
 refine ⟨Free F O,p.1,t',hn _ _ _ h1,rs,h3,fun v H2 c=>?_⟩
 obtain ⟨r,rfl,hr,L⟩:=c.res
 refine q _ H2 (S1.trans ⟨fun b o _ e=>c.keep b o e,c.dom⟩) ⟨r,rfl,S1.dom r hr,R1.extN c.keep c.dom hr L.ne,L.mono (fun b z=>?_) (fun _ _ _ e=>e) fun _ e=>e⟩
 have:=R1.freeNew z.1
 exact ⟨fun y=>y.elim this.1 z.2,this.2⟩
theorem callI_e{fn:List T->Option (T × T)}{i:Nat}(hn:Ar fa np)(hi:M.contains i=true):∀ σ H Q,cE .e M (dCallI fn i fa) σ H Q->tCall (spI .e (np+1) fn) [] E0 (tCons (tVar i) (cA M fa)) σ H Q:=by
 intro σ H Q h_;refine cE_ h_ fun F O s t s' R hf q=>?_
 have hi':i∈M:=by simpa using hi
 obtain ⟨x0,h0,hf⟩:=Qb hf
 obtain ⟨p,h1,hf⟩:=Qb hf
 obtain ⟨t0,h2,hf⟩:=Qb hf
 obtain ⟨w,h3,h4⟩:=Qm hf
 injection h4 with h4 h5
 subst h4 h5
 obtain ⟨a,e1,_⟩:=R.own i x0 (join_some h0) hi'
 refine ⟨_,e1,F,O,s,p.1,p.2,R,h1,fun vs H1 S1 R1 rs=>?_⟩
 obtain ⟨b,e2,L⟩:=R1.own i t0 (join_some h2) hi'
 rw [e1] at e2
 injection e2 with e2
 injection e2 with e2
 injection e2 with e2
 subst e2
 have oa:=R1.ow i a hi' e1
 try dsimp only
 rw [List.append_nil]
 refine ⟨Free F O,a,vs,t0,p.1,w.1,w.2,by rw [List.length_cons,hn _ _ _ h1],rfl,fun z=>z.1 oa,L,rs,h3,fun v H2 c=>?_⟩
 obtain ⟨c1,c2⟩:=c.res
 have S2:Step σ M H1 H2:=⟨fun b o n e=>c.keep b o (fun z=>n i hi' (z▸e1)) e,c.dom⟩
 have fr:∀ b,(b≠a/\(Free F O b∨H1 b=none))->Free F O b:=fun b z=>R1.freeNew z.2
 have kf:∀ b u,Free F O b->H1 b=some u->H2 b=some u:=fun b u z e=>c.keep b u (fun y=>z.1 (y▸oa)) e
 have hl:i < p.2.length:=(List.getElem?_eq_some_iff.mp (join_some h2)).1
 refine q v H2 (S1.trans S2) ⟨?_,c1.mono fr fun _ _ _ e=>e⟩
 refine ⟨by rw [List.length_set]; exact R1.len,fun j t e' n=>?_,fun j t e' n=>?_,R1.ow,R1.dis,fun b u n e=>?_,fun b e=>R1.dom b (c.dom b e),R1.fresh,R1.inD,fun b z e=>R1.al b z (c.dom b e)⟩
 ·have hij:i≠j:=fun z=>n (z▸hi')
  rw [List.getElem?_set_ne hij] at e'
  obtain ⟨v,h1,h2⟩:=R1.val j t e' n
  exact ⟨v,h1,h2.mono (fun _ c=>c) kf⟩
 ·by_cases hij:i=j
  ·subst hij
   rw [List.getElem?_set_self hl] at e'
   injection e' with e'
   injection e' with e'
   subst e'
   exact ⟨a,e1,c2.mono fr (fun _ _ _ e=>e) fun _ e=>e⟩
  ·rw [List.getElem?_set_ne hij] at e'
   obtain ⟨b,h1,h2⟩:=R1.own j t e' n
   have hne:b≠a:=fun z=>hij (R1.dis i j a hi' n e1 (z▸h1))
   exact ⟨b,h1,h2.mono (fun _ c=>c) kf fun u e=>c.keep b u hne e⟩
 ·refine c.keep b u (fun z=>?_) (R1.keep b u n e)
  subst z
  rcases R1.fresh b oa with z | z
  ·exact n z
  ·rw [z] at e; cases e
theorem callN_x{fn:List T->Option (T × T)}(hrk:rk=.e∨rk=.n)(hn:Ar fa np):∀ σ H Q,cE rk M (dCallN fn f0 fa) σ H Q->tCall (spI rk (np+1) fn) [] E0 (tCons (cE .n M f0) (cA M fa)) σ H Q:=by
 intro σ H Q h_;refine cE_ h_ fun F O s t s' R hf q=>?_
 obtain ⟨p,h1,hf⟩:=Qb hf
 obtain ⟨w,h2,hf⟩:=Qb hf
 obtain ⟨u,h3,h4⟩:=Qm hf
 injection h4 with h4 h5
 subst h4 h5
 refine ⟨F,O,s,p.1,p.2,R,h1,fun v0 H1 S1 p1=>?_⟩
 obtain ⟨a,rfl,ha,R1,L⟩:=p1
 refine ⟨F,_,p.2,w.1,w.2,R1,h2,fun vs H2 S2 R2 rs=>?_⟩
 have na:∀ (j:Nat),j∈M->σ[j]?≠some (some (.ref a)):=fun j hj e=>R.al a (R.ow j a hj e) ha
 have L2:Live (Free F (fun b=>O b∨b=a)) H2 a p.1:=L.mono (fun _ c=>c) (fun b o c e=>S2.keep b o (R1.notOwned c.1) e) fun o e=>S2.keep a o na e
 try dsimp only
 rw [List.append_nil]
 refine ⟨Free F (fun b=>O b∨b=a),a,vs,p.1,w.1,u.1,u.2,by rw [List.length_cons,hn _ _ _ h2],rfl,fun z=>z.1 (.inr rfl),L2,rs,h3,fun v H3 c=>?_⟩
 have S:Step σ M H H3:=⟨fun b o n e=>c.keep b o (ne_of_none e ha) ((S1.trans S2).keep b o n e),fun b e=>(S1.trans S2).dom b (c.dom b e)⟩
 have RO:Rel F O M w.2 σ H2:=R2.less (fun b z=>.inl z) R.ow R.inD
 -- all but a is kept; a is nobody's
 have k3:∀ b o,b≠a->H2 b=some o->H3 b=some o:=fun b o n e=>c.keep b o n e
 have fa':∀ b,Free F (fun b=>O b∨b=a) b->Free F O b:=fun b z=>z.weak fun b y=>.inl y
 have R3:Rel F (fun b=>O b∨b=a) M w.2 σ H3:=by
  refine ⟨R2.len,fun i t e n=>?_,fun i t e n=>?_,R2.ow,R2.dis,fun b o n e=>?_,fun b e=>R2.dom b (c.dom b e),R2.fresh,R2.inD,fun b z e=>R2.al b z (c.dom b e)⟩
  ·obtain ⟨v,h1,h2⟩:=R2.val i t e n
   exact ⟨v,h1,h2.mono (fun _ c=>c) fun b o z e=>k3 b o (fun y=>z.1 (.inr y)) e⟩
  ·obtain ⟨b,h1,h2⟩:=R2.own i t e n
   exact ⟨b,h1,h2.mono (fun _ c=>c) (fun b o z e=>k3 b o (fun y=>z.1 (.inr y)) e) fun o e=>k3 b o (fun z=>na i n (z▸h1)) e⟩
  ·refine k3 b o (fun z=>?_) (R2.keep b o n e)
   subst z
   have:=R.dom b ha
   rw [this] at e; cases e
 have R3O:Rel F O M w.2 σ H3:=R3.less (fun b z=>.inl z) R.ow R.inD
 have frn:∀ b,(b≠a/\(Free F (fun b=>O b∨b=a) b∨H2 b=none))->Free F O b:=fun b z=>z.2.elim (fa' b) fun y=>⟨fun x=>RO.al b x y,.inr (RO.dom b y)⟩
 rcases hrk with rfl | rfl
 ·exact q v H3 S ⟨R3O,c.res.1.mono frn fun _ _ _ e=>e⟩
 ·obtain ⟨r,rfl,hr,c1,_⟩:=c.res
  have nr:∀ b,Free F O b/\H2 b≠none->Free F (fun b=>O b∨b=r) b:=fun b z=>⟨fun y=>y.elim z.1.1 fun y=>z.2 (y▸hr),z.1.2⟩
  refine q _ H3 S ⟨r,rfl,S1.dom r (S2.dom r hr),?_,c1.mono (fun b z=>?_) (fun _ _ _ e=>e) fun _ e=>e⟩
  ·refine ⟨R2.len,fun i t e n=>?_,fun i t e n=>?_,fun i b hi e=>.inl (R.ow i b hi e),R2.dis,R3.keep,R3.dom,fun b z=>?_,fun b z=>.inl (R.inD b z),fun b z=>?_⟩
   ·obtain ⟨v,h1,h2⟩:=R2.val i t e n
    exact ⟨v,h1,h2.there.mono (fun b z=>nr b ⟨fa' b z.1,z.2⟩) fun b o z e=>k3 b o (fun y=>z.1.1 (.inr y)) e⟩
   ·obtain ⟨b,h1,h2⟩:=R2.own i t e n
    exact ⟨b,h1,h2.there.mono (fun b z=>nr b ⟨fa' b z.1,z.2⟩) (fun b o z e=>k3 b o (fun y=>z.1.1 (.inr y)) e) fun o e=>k3 b o (fun z=>na i n (z▸h1)) e⟩
   ·rcases z with z | z
    ·exact RO.fresh b z
    ·subst z; exact .inr (RO.dom _ hr)
   ·rcases z with z | z
    ·exact R3O.al b z
    ·subst z; exact c1.ne
  ·have:=frn b z.1
   exact ⟨fun y=>y.elim this.1 z.2,this.2⟩
end
end L3
namespace L3
open PySem PySem.Spec PyProof.Rows L2
variable [TheK]
def S1E(r:List V->Hp->VK->Prop)(g:T->Option T):Prop:=∀ (C:Addr->Prop) (H:Hp) x tx t (Q:VK),BRep C H x tx->g tx=some t->(∀ v,Rep C H v t->Q v H)->r [x] H Q
def S1N(r:List V->Hp->VK->Prop)(g:T->Option T):Prop:=∀ (C:Addr->Prop) (H:Hp) x tx t (Q:VK),BRep C H x tx->g tx=some t->
 (∀ p o,H p=none->(∀ C':Addr->Prop,(∀ b,C b/\H b≠none->C' b)->Live C' (upd H p o) p t)->Q (.ref p) (upd H p o))->r [x] H Q
def d1(g:T->Option T)(f:DE):DE:=fun s=>(f s).bind fun p=>(g p.1).map fun t=>(t,p.2)
section
variable {M:List Nat}{f:DE}
theorem one_e{r:List V->Hp->VK->Prop}{g:T->Option T}(h:S1E r g):∀ σ H Q,cE .e M (d1 g f) σ H Q->tCB r (tCons (cE .b M f) tNil) σ H Q:=by
 intro σ H Q h_;refine cE_ h_ fun F O s t s' R hf q=>?_
 obtain ⟨p,h1,h2⟩:=Qb hf
 obtain ⟨t',h3,h4⟩:=Qm h2
 injection h4 with h4 h5
 subst h4 h5
 exact ⟨F,O,s,p.1,p.2,R,h1,fun v H1 S1 p1=>h (Free F O) H1 v p.1 t' Q p1.view h3 fun w rw=>q w H1 S1 ⟨p1.1,rw⟩⟩
theorem one_n{r:List V->Hp->VK->Prop}{g:T->Option T}(h:S1N r g):∀ σ H Q,cE .n M (d1 g f) σ H Q->tCB r (tCons (cE .b M f) tNil) σ H Q:=by
 intro σ H Q h_;refine cE_ h_ fun F O s t s' R hf q=>?_
 obtain ⟨p,h1,h2⟩:=Qb hf
 obtain ⟨t',h3,h4⟩:=Qm h2
 injection h4 with h4 h5
 subst h4 h5
 exact ⟨F,O,s,p.1,p.2,R,h1,fun v H1 S1 p1=>h (Free F O) H1 v p.1 t' Q p1.view h3 fun a o ha L=>q _ _ (S1.trans (.new ha o)) (.mkN R p1.1 S1 ha L)⟩
end
theorem CallR.or{X:Cx}{f:Value}{r r':List V->Hp->VK->Prop}(h:CallR X f r)(h':CallR X f r'):CallR X f (fun xs H Q=>r xs H Q∨r' xs H Q):=by
 intro pins s σ H xs us Q I rv q
 rcases q with q | q
 ·exact h pins s σ H xs us Q I rv q
 ·exact h' pins s σ H xs us Q I rv q
theorem call_lenR{X:Cx}:CallR X (.builtin "len") (fun xs H Q=>∃ a kvs,xs=[V.ref a]/\Rd H a (.dK kvs)/\Q (.int kvs.length) H):=by
 intro pins s σ H xs us Q I r h
 obtain ⟨a,kvs,rfl,ha,q⟩:=h
 obtain ⟨u,rfl,ru⟩:=vals1 r
 cases ru
 exact d_len I ha fun t s' I'=>⟨.int kvs.length,H,I',⟨t,rfl⟩,q⟩
def gLen:T->Option T
 | .lst xs=>some (.int xs.length) | .tup xs=>some (.int xs.length) | .scr xs=>some (.int xs.length) | .dct xs=>some (.int xs.length) | .fd xs=>some (.int xs.length)
 | .str x=>if x.length<=sizeLine then some (.int x.length) else none
 | _=>none
theorem s_len:S1E (fun xs H Q=>((∃ p ys,xs=[.ref p]/\(SqL TheK.K H p ys∨SqT TheK.K H p ys)/\Q (.int ys.length) H)∨(∃ z,xs=[.str z]/\z.length<=sizeLine/\Q (.int z.length) H))∨∃ a kvs,xs=[V.ref a]/\Rd H a (.dK kvs)/\Q (.int kvs.length) H) gLen:=by
 intro C H x tx t Q bx hg q
 cases tx with
 | lst ts=>
  injection hg with hg; subst hg
  obtain ⟨a,vs,rfl,ha,ra⟩:=bx.lst
  exact .inl (.inl ⟨a,vs,rfl,.inl (SqL.of ha),by rw [ra.1]; exact q _ (.int _)⟩)
 | tup ts=>
  injection hg with hg; subst hg
  obtain ⟨a,vs,rfl,ha,ra⟩:=bx.tup
  exact .inl (.inl ⟨a,vs,rfl,.inr (SqT.of ha),by rw [ra.1]; exact q _ (.int _)⟩)
 | scr ns=>
  injection hg with hg; subst hg
  obtain ⟨a,rfl,ha⟩:=bx.scr
  exact .inl (.inl ⟨a,_,rfl,.inl ha,by rw [List.length_map]; exact q _ (.int _)⟩)
 | dct ks=>
  injection hg with hg; subst hg
  obtain ⟨a,kvs,rfl,ha,ra⟩:=bx.dct
  exact .inr ⟨a,kvs,rfl,.inl ha,by rw [ra.len]; exact q _ (.int _)⟩
 | fd ks=>
  injection hg with hg; subst hg
  obtain ⟨a,ob,kvs,rfl,ha,ra,_⟩:=bx.fd
  exact .inr ⟨a,kvs,rfl,.inr ⟨ob,ha⟩,by rw [ra.len]; exact q _ (.int _)⟩
 | str z=>
  have hg:(if z.length<=sizeLine then some (T.int z.length) else none)=some t:=hg
  split at hg
  ·rename_i hl
   injection hg with hg; subst hg
   exact .inl (.inr ⟨z,by rw [bx.str],hl,q _ (.int _)⟩)
  ·cases hg
 | _=>cases hg
def gList:T->Option T
 | .lst xs=>some (.lst xs) | .tup xs=>some (.lst xs) | .scr ns=>some (.lst (ns.map .int))
 | _=>none
theorem s_list:S1N (fun xs H Q=>∃ p ys,xs=[.ref p]/\(SqL TheK.K H p ys∨SqT TheK.K H p ys)/\∀ l,H l=none->Q (.ref l) (upd H l (.lst ys))) gList:=by
 intro C H x tx t Q bx hg q
 cases tx with
 | lst ts=>
  injection hg with hg; subst hg
  obtain ⟨a,vs,rfl,ha,ra⟩:=bx.lst
  exact ⟨a,vs,rfl,.inl (SqL.of ha),fun p hp=>q p _ hp fun C' hC=>.lst upd_same (ra.there.mono hC fun c o _ e=>by rw [upd_ne (ne_of_none e hp)]; exact e)⟩
 | tup ts=>
  injection hg with hg; subst hg
  obtain ⟨a,vs,rfl,ha,ra⟩:=bx.tup
  exact ⟨a,vs,rfl,.inr (SqT.of ha),fun p hp=>q p _ hp fun C' hC=>.lst upd_same (ra.there.mono hC fun c o _ e=>by rw [upd_ne (ne_of_none e hp)]; exact e)⟩
 | scr ns=>
  injection hg with hg; subst hg
  obtain ⟨a,rfl,ha⟩:=bx.scr
  exact ⟨a,_,rfl,.inl ha,fun p hp=>q p _ hp fun C' hC=>.lst upd_same (reps_ints _)⟩
 | _=>cases hg
def isi(c:String):T->Option Bool
 | .non=>some (c == "NoneType") | .bl _=>some (c == "bool"||c == "int") | .int _=>some (c == "int") | .str _=>some (c == "str")
 | .lst _=>some (c == "list") | .tup _=>some (c == "tuple") | .dct _=>some (c == "dict")
 | _=>none
def dIsi(c:String)(f:DE):DE:=d1 (fun t=>(isi c t).map .bl) f
def okTy(c:String):Bool:=["NoneType","bool","int","str","list","tuple","dict"].contains c
theorem isi_ok{K:PySem.W.Frag}{C:Addr->Prop}{H:Hp}{v:V}{t:T}{c:String}{b:Bool}(hc:okTy c=true)(h:BRep C H v t)(e:isi c t=some b):∃ ty,TyOf K H v ty/\PySem.W.kitOne K ty (.type c)=some b:=by
 have hc':c="NoneType"∨c="bool"∨c="int"∨c="str"∨c="list"∨c="tuple"∨c="dict":=by simpa [okTy] using hc
 cases t with
 | non=>obtain rfl:=h.non; injection e with e; subst e; refine ⟨_,.non,?_⟩; rcases hc' with rfl | rfl | rfl | rfl | rfl | rfl | rfl<;>rfl
 | bl x=>obtain rfl:=h.bl; injection e with e; subst e; refine ⟨_,.bl x,?_⟩; rcases hc' with rfl | rfl | rfl | rfl | rfl | rfl | rfl<;>rfl
 | int x=>obtain rfl:=h.int; injection e with e; subst e; refine ⟨_,.int x,?_⟩; rcases hc' with rfl | rfl | rfl | rfl | rfl | rfl | rfl<;>rfl
 | str x=>obtain rfl:=h.str; injection e with e; subst e; refine ⟨_,.str x,?_⟩; rcases hc' with rfl | rfl | rfl | rfl | rfl | rfl | rfl<;>rfl
 | lst ts=>
  obtain ⟨a,vs,rfl,ha,ra⟩:=h.lst
  injection e with e; subst e; refine ⟨_,.lst ha,?_⟩; rcases hc' with rfl | rfl | rfl | rfl | rfl | rfl | rfl<;>rfl
 | tup ts=>
  obtain ⟨a,vs,rfl,ha,ra⟩:=h.tup
  injection e with e; subst e; refine ⟨_,.tup ha,?_⟩; rcases hc' with rfl | rfl | rfl | rfl | rfl | rfl | rfl<;>rfl
 | dct ts=>
  obtain ⟨a,vs,rfl,ha,ra⟩:=h.dct
  injection e with e; subst e; refine ⟨_,.dK ha,?_⟩; rcases hc' with rfl | rfl | rfl | rfl | rfl | rfl | rfl<;>rfl
 | scr ns=>cases e
 | set=>cases e
 | fd=>cases e
 | any=>cases e
theorem isi_e{M:List Nat}{f:DE}{K:PySem.W.Frag}{c:String}(hc:okTy c=true):∀ σ H Q,cE .e M (dIsi c f) σ H Q->tCB (rIsi K) (tCons (cE .b M f) (tCons (tC (.ty c)) tNil)) σ H Q:=by
 intro σ H Q h_;refine cE_ h_ fun F O s t s' R hf q=>?_
 obtain ⟨p,h1,h2⟩:=Qb hf
 obtain ⟨t',h3,h4⟩:=Qm h2
 obtain ⟨b,h5,h6⟩:=Qm h3
 injection h4 with h4 h7
 subst h4 h7 h6
 refine ⟨F,O,s,p.1,p.2,R,h1,fun v H1 S1 p1=>?_⟩
 obtain ⟨ty,g1,g2⟩:=isi_ok (K:=K) hc p1.view h5
 exact ⟨v,c,ty,b,rfl,g1,g2,q _ H1 S1 ⟨p1.1,.bl b⟩⟩
def strsT:List T->Option (List Str)
 | []=>some []
 | .str x::ts=>(strsT ts).map fun r=>x::r
 | _=>none
theorem strsT_ok{C:Addr->Prop}{H:Hp}:∀ {vs:List V} {ts:List T} {ys:List Str},Reps C H vs ts->strsT ts=some ys->vs=ys.map V.str
 | [],[],ys,_,e=>by injection e with e; subst e; rfl
 | v::vs,[],ys,h,_=>by have:=h.1; simp at this
 | [],t::ts,ys,h,_=>by have:=h.1; simp at this
 | v::vs,t::ts,ys,h,e=>by
  cases t with
  | str x=>
   obtain ⟨r,h1,h2⟩:=Qm (show (strsT ts).map (fun r=>x::r)=some ys from e)
   subst h2
   rw [List.map_cons,strsT_ok h.tail h1,BRep.str (.inl h.head)]
  | _=>cases e
def gCount(x y:T):Option T:=match x with
 | .lst ts=>(toVs ts).bind fun vs=>(toV y).map fun v=>.int (vs.countP (fun u=>eqV u v):Nat)
 | _=>none
end L3
namespace L2
open PySem PySem.Spec PyProof.Rows
section
variable {X:Cx}
theorem truth_bools{P:Program}{w:World}{A:Around}{its:Array Value}{bs:List Bool}(r:Vals (bs.map V.bl) its.toList):TruthOf P w A (fun i v=>its[i]?=some v) (fun i=>bs.getD i false):=by
 intro i v s Q E hP hQ
 have hi:i < its.size:=(Array.getElem?_eq_some_iff.mp hP).1
 have hl:bs.length=its.size:=by have:=r.length; simpa using this
 obtain ⟨u,h1,h2⟩:=r.get (i:=i) (x:=.bl (bs[i]'(by lia))) (by rw [List.getElem?_map,List.getElem?_eq_getElem (by lia)]; rfl)
 rw [Array.getElem?_toList,hP] at h1
 cases h1
 cases h2
 refine wpAny_truthy_bool ?_
 have e:bs.getD i false=bs[i]'(by lia):=by rw [List.getD_eq_getElem?_getD,List.getElem?_eq_getElem (by lia)]; rfl
 rw [<-e]
 exact hQ
theorem all_getD(bs:List Bool):(List.range bs.length).all (fun i=>bs.getD i false)=bs.all id:=by
 rw [Bool.eq_iff_iff,List.all_eq_true,List.all_eq_true]
 constructor
 ·intro h b hb
  obtain ⟨i,hi,rfl⟩:=List.getElem_of_mem hb
  have:=h i (List.mem_range.mpr hi)
  rw [List.getD_eq_getElem?_getD,List.getElem?_eq_getElem hi] at this
  exact this
 ·intro h i hi
  have hi':=List.mem_range.mp hi
  rw [List.getD_eq_getElem?_getD,List.getElem?_eq_getElem hi']
  exact h _ (List.getElem_mem hi')
theorem Inv.walked{pins:List (Addr × Obj)}{σ:St}{H:Hp}{s:Shared}{o:Obj}{h':Heap}{tk:Nat}(I:Inv X pins σ H s)(k:∀ b u,b∉[s.heap.objs.size]->(s.heap.push o).get? b=some u->h'.get? b=some u):Inv X pins σ H { s with heap:=h',toks:=tk }:=
 I.kept fun b u e=>k b u (fun hm=>by
  have h1:=Heap.lt_size e
  have h2:b=s.heap.objs.size:=by simpa using hm
  exact absurd (h2▸h1) (Nat.lt_irrefl _)) (Heap.get?_push_of_some _ e)
theorem call_all(hc:X.calm=true):CallR X (.builtin "all") (fun xs H Q=>∃ (a:Addr) (bs:List Bool),xs=[V.ref a]/\SqL X.K H a (bs.map V.bl)/\Q (.bl (bs.all id)) H):=by
 intro pins s σ H xs us Q I rv h
 obtain ⟨a,bs,rfl,hq,q⟩:=h
 obtain ⟨u,rfl,ru⟩:=rv.one
 cases ru
 obtain ⟨its,r,p,hz⟩:=I.list hq
 have hh:X.A.in1.handled=none:=I.ok.hd hc
 have ne:a≠s.heap.objs.size:=by obtain ⟨o,n,e,_⟩:=p; exact Nat.ne_of_lt (Heap.lt_size e)
 refine call_all_walk (wpAny_pyIter_list p.isList ⟨_,_,_,_,_,_,_,rfl,Walks.list hh _ a ne its.toArray,⟨⟨_,Heap.get?_push_size _ rfl,rfl,rfl⟩,p.isList.at fun o e=>Heap.get?_push_of_some _ e⟩,truth_bools (by simpa using r),fun h' tk k=>?_⟩)
 have hl:=r.length
 rw [List.length_map] at hl
 refine ⟨.bl (bs.all id),H,I.walked k,?_,q⟩
 rw [List.size_toArray,<-hl,all_getD]; rfl
end
end L2
namespace L2
open PySem PySem.Spec PyProof.Rows
def Itd(f:Key × V->V)(a:Addr)(o:Obj):It:=
 ⟨fun i H=>∃ kvs x,H a=some (.frz o (.dK kvs))/\kvs[i]?=some x,fun i H x H'=>H'=H/\∀ kvs,H a=some (.frz o (.dK kvs))->(kvs[i]?).map f=some x,fun i H=>∃ kvs,H a=some (.frz o (.dK kvs))/\kvs.length<=i⟩
theorem known_at{X:Cx}{pins:List (Addr × Obj)}{σ:St}{H:Hp}{s:Shared}{a:Addr}{o:Obj}{kvs:List (Key × V)}(I:Inv X pins σ H s)(e:H a=some (.frz o (.dK kvs))) :
  ∃ vs es ep,KV kvs vs/\s.heap.DictAt (mixKind X.prog X.w) a vs ep/\o.data=.dict es ep/\es.size=vs.length/\(a == sysModules)=false:=by
 obtain ⟨ho,z,hd,vs,rel,o',es,ep,ho',c,d,k,p,n⟩:=(show ObjOk X.prog X.w H s.heap a (.frz o (.dK kvs)) from I.hok a _ e)
 rw [ho] at ho'
 cases ho'
 exact ⟨vs,es,ep,rel,⟨o,es,ho,c,d,k,p,n⟩,d,by rw [<-p.length]; simp,hd⟩
theorem turn_dict{P:Program}{w:World}{K:PySem.W.Frag}{tg:Expr}(a it:Addr)(o:Obj):Turn P w K tg (Itd (fun kv=>kV kv.1) a o) [it] it (fun i h=>∃ n ep es,h.IsKeyIter it a i n ep/\o.data=.dict es ep/\es.size=n) where
 mem:=by simp
 obj:=fun i h st b hb=>by
  have e:b=it:=by simpa using hb
  subst e
  obtain ⟨n,ep,es,⟨o',e,c,d⟩,_⟩:=st
  exact ⟨o',e,fun v z=>by rw [d] at z; cases z⟩
 keep:=fun i h h' ⟨n,ep,es,st,r⟩ k=>⟨n,ep,es,st.at fun o e=>k it (by simp) o e,r⟩
 item:=by
  intro X hP hw hK hc i pins s σ H E I hf st hg
  subst hP hw hK
  obtain ⟨kvs,x,hq,hx⟩:=hg
  obtain ⟨n,ep,es,st,d1,d2⟩:=st
  obtain ⟨vs,es',ep',rel,da,d3,d4,hd⟩:=known_at I hq
  rw [d1] at d3
  cases d3
  obtain ⟨y,hy,y1,y2⟩:=kv_get rel hx
  obtain ⟨f0,f1,f2,f3,f4,f5⟩:=hf it (by simp)
  rw [<-d2,d4] at st
  refine wpAny_pyNext_dict_item st da (k:=y.1) (v:=y.2) hy fun key h' hkey st' sb=>?_
  have I1:Inv X pins σ H { s with heap:=h' }:=I.turned (t':=s.toks) (fun b o hb e=>(sb.2 b hb).trans e) f0 f1 f3 f4 f5
  obtain ⟨o',e,c,d⟩:=id st'
  refine ⟨key,rfl,go_of (s:={ s with heap:=h' }) e c d (by decide) ⟨kV x.1,H,I1,y1▸rel_key hkey,⟨rfl,fun kvs' h'=>?_⟩,⟨_,ep,es,st',d1,d4⟩,fun b hb=>(hf b hb).1⟩⟩
  rw [hq] at h'
  cases h'
  rw [hx]; rfl
 done:=by
  intro X hP hw hK hc i pins s σ H E I hf st hg
  subst hP hw hK
  obtain ⟨kvs,hq,hx⟩:=hg
  obtain ⟨n,ep,es,st,d1,d2⟩:=st
  obtain ⟨vs,es',ep',rel,da,d3,d4,hd⟩:=known_at I hq
  rw [d1] at d3
  cases d3
  obtain ⟨f0,f1,f2,f3,f4,f5⟩:=hf it (by simp)
  have hl:=rel.length
  rw [<-d2,d4] at st
  exact wpAny_pyNext_dict_end (I.ok.hd hc) st da (by rw [List.getElem?_eq_none_iff]; lia) fun h' eb=>⟨rfl,I.turned (t':=s.toks) (fun b o hb e=>eb b o hb e) f0 f1 f3 f4 f5⟩
 self:=fun _ _ _ _ _ ⟨_,_,_,st,_⟩ h=>wpAny_pyIter_keyiter st h
def iDict(tl:TE):TI:=fun σ H R=>tl σ H fun x H1=>∃ a o kvs,x=.ref a/\H1 a=some (.frz o (.dK kvs))/\R (Itd (fun kv=>kV kv.1) a o) H1
theorem pi_dict{X:Cx}{tg l:Expr}{tl:TE}(hl:PE X l tl):PI X tg l (iDict tl):=by
 intro pins s σ H R I h
 refine thn (hl pins s σ H _ I h) fun v s1 h_=>?_; obtain ⟨x,H1,I1,r1,q1⟩:=h_
 obtain ⟨a,o,kvs,e,hq,q⟩:=q1
 subst e
 cases r1
 obtain ⟨vs,es,ep,rel,da,d3,d4,hd⟩:=known_at I1 hq
 refine wpAny_pyIter_dict hd da ?_
 refine ⟨s1.heap.objs.size,[s1.heap.objs.size],_,_,H1,rfl,I1.kept (t':=s1.toks) fun b o e=>Heap.get?_push_of_some _ e,turn_dict a _ o,⟨_,ep,es,⟨_,Heap.get?_push_size _ rfl,rfl,rfl⟩,d3,d4⟩,fun b hb=>?_,q⟩
 have e:b=s1.heap.objs.size:=by simpa using hb
 subst e
 exact I1.fpOk (Nat.le_refl _) (I1.hok.fresh (Nat.le_refl _))
def Its(x:Str):It:=⟨fun i _=>i < x.cps.size,fun i H v H'=>H'=H/\∃ c,x.cps[i]?=some c/\v=.str ⟨#[c]⟩,fun i _=>x.cps.size<=i⟩
theorem turn_sign{P:Program}{w:World}{K:PySem.W.Frag}{tg:Expr}(it:Addr)(x:Str)(t:Tok)(n:String)(hn:n="str_ascii_iterator"∨n="str_iterator"):Turn P w K tg (Its x) [it] it (fun i h=>h.IsStrIter it n x t i) where
 mem:=by simp
 obj:=fun i h st b hb=>by
  have e:b=it:=by simpa using hb
  subst e
  obtain ⟨o,e,c,d⟩:=st
  exact ⟨o,e,fun v z=>by rw [d] at z; cases z⟩
 keep:=fun i h h' st k=>let ⟨o,ho,r⟩:=st; ⟨o,k it (by simp) o ho,r⟩
 item:=by
  intro X hP hw hK hc i pins s σ H E I hf st hg
  subst hP hw hK
  obtain ⟨f0,f1,f2,f3,f4,f5⟩:=hf it (by simp)
  have hg:i < x.cps.size:=hg
  have fin:∀ h',h'.IsStrIter it n x t (i+1)->Heap.SameBut it s.heap h'->∀ u,u=Value.str ⟨#[x.cps[i]]⟩ s.toks->∃ u',some u=some u'/\wpAny (model X.prog X.w) X.A (letOwnedTupleGo tg (.ref it) u') (fun _ s2=>∃ y H',Inv X pins σ H' s2/\RelV y u'/\(Its x).yld i H y H'/\s2.heap.IsStrIter it n x t (i+1)/\∀ b∈[it],H' b=none) E { s with heap:=h',toks:=s.toks+1 }:=by
   intro h' st' sb u hu
   have I1:Inv X pins σ H { s with heap:=h',toks:=s.toks+1 }:=I.turned (fun b o hb e=>(sb.2 b hb).trans e) f0 f1 f3 f4 f5
   obtain ⟨o',e,c,d⟩:=id st'
   refine ⟨u,rfl,go_of (s:={ s with heap:=h',toks:=s.toks+1 }) e c d (by rcases hn with rfl | rfl<;>decide) ⟨.str ⟨#[x.cps[i]]⟩,H,I1,⟨_,hu⟩,⟨rfl,_,by simp [hg],rfl⟩,st',fun b hb=>(hf b hb).1⟩⟩
  rcases hn with rfl | rfl
  ·exact wpAny_pyNext_ascii_item st (c:=x.cps[i]) (by simp [hg]) fun h' st' sb=>fin h' st' sb _ rfl
  ·exact wpAny_pyNext_wide_item st (c:=x.cps[i]) (by simp [hg]) fun h' st' sb=>fin h' st' sb _ rfl
 done:=by
  intro X hP hw hK hc i pins s σ H E I hf st hg
  subst hP hw hK
  obtain ⟨f0,f1,f2,f3,f4,f5⟩:=hf it (by simp)
  have hg:x.cps.size<=i:=hg
  rcases hn with rfl | rfl
  ·exact wpAny_pyNext_ascii_end (I.ok.hd hc) st (by simp [hg]) fun h' eb=>⟨rfl,I.turned (t':=s.toks) (fun b o hb e=>eb b o hb e) f0 f1 f3 f4 f5⟩
  ·exact wpAny_pyNext_wide_end (I.ok.hd hc) st (by simp [hg]) fun h' eb=>⟨rfl,I.turned (t':=s.toks) (fun b o hb e=>eb b o hb e) f0 f1 f3 f4 f5⟩
 self:=fun _ _ _ _ _ st h=>by
  rcases hn with rfl | rfl
  ·exact wpAny_pyIter_striter_ascii st h
  ·exact wpAny_pyIter_striter_wide st h
def iSign(tl:TE):TI:=fun σ H R=>tl σ H fun v H1=>∃ x,v=.str x/\R (Its x) H1
theorem pi_sign{X:Cx}{tg l:Expr}{tl:TE}(hl:PE X l tl):PI X tg l (iSign tl):=by
 intro pins s σ H R I h
 refine thn (hl pins s σ H _ I h) fun v s1 h_=>?_; obtain ⟨y,H1,I1,r1,q1⟩:=h_
 obtain ⟨x,e,q⟩:=q1
 subst e
 obtain ⟨t,rfl⟩:=r1
 have fp:∀ b∈[s1.heap.objs.size],FpOk X pins H1 b:=fun b hb=>by
  have e:b=s1.heap.objs.size:=by simpa using hb
  subst e
  exact I1.fpOk (Nat.le_refl _) (I1.hok.fresh (Nat.le_refl _))
 cases ha:x.cps.all (· < 128)
 ·exact wpAny_pyIter_wide ha ⟨s1.heap.objs.size,[s1.heap.objs.size],_,_,H1,rfl,I1.kept (t':=s1.toks) fun b o e=>Heap.get?_push_of_some _ e,turn_sign _ x t "str_iterator" (.inr rfl),⟨_,Heap.get?_push_size _ rfl,rfl,rfl⟩,fp,q⟩
 ·exact wpAny_pyIter_ascii ha ⟨s1.heap.objs.size,[s1.heap.objs.size],_,_,H1,rfl,I1.kept (t':=s1.toks) fun b o e=>Heap.get?_push_of_some _ e,turn_sign _ x t "str_ascii_iterator" (.inl rfl),⟨_,Heap.get?_push_size _ rfl,rfl,rfl⟩,fp,q⟩
end L2
namespace L2
open PySem PySem.Spec PyProof.Rows
def leS(a b:Str):Bool:=!decide (b.cps.toList < a.cps.toList)
theorem leS_iff{a b:Str}:leS a b=true↔a.cps.toList<=b.cps.toList:=by
 unfold leS
 rw [Bool.not_eq_true',decide_eq_false_iff_not,List.not_lt]
theorem leS_trans(a b c:Str)(h:leS a b=true)(h':leS b c=true):leS a c=true:=leS_iff.mpr (List.le_trans (leS_iff.mp h) (leS_iff.mp h'))
theorem leS_total(a b:Str):(leS a b||leS b a)=true:=by
 rw [Bool.or_eq_true,leS_iff,leS_iff]
 exact List.le_total _ _
theorem leS_antisymm{a b:Str}(h:leS a b=true)(h':leS b a=true):a=b:=by
 have:=List.le_antisymm (leS_iff.mp h) (leS_iff.mp h')
 cases a; cases b
 simp at this
 rw [this]
def sortS(l:List Str):List Str:=l.mergeSort leS
theorem sortS_perm(l:List Str):(sortS l).Perm l:=List.mergeSort_perm l leS
theorem sortS_pw(l:List Str):(sortS l).Pairwise fun a b=>leS a b=true:=List.pairwise_mergeSort leS_trans leS_total l
theorem sortS_unique{l m:List Str}(hp:m.Perm l)(hm:m.Pairwise fun a b=>leS a b=true):m=sortS l:=
 List.Perm.eq_of_pairwise (fun a b _ _ h h'=>leS_antisymm h h') hm (sortS_pw l) (hp.trans (sortS_perm l).symm)
theorem rising_pw:∀ (l:List Str) (p:Str),risingS p l=true->(p::l).Pairwise fun a b=>leS a b=true
 | [],p,_=>by simp
 | x::r,p,h=>by
  have h:(!ltCps x.cps.toList p.cps.toList&&risingS x r)=true:=h
  rw [Bool.and_eq_true,ltCps_eq] at h
  have ih:=rising_pw r x h.2
  rw [List.pairwise_cons]
  refine ⟨fun y hy=>?_,ih⟩
  rcases List.mem_cons.mp hy with e | e
  ·rw [e]; exact h.1
  ·exact leS_trans _ _ _ h.1 ((List.pairwise_cons.mp ih).1 y e)
theorem sortedS_pw{l:List Str}(h:sortedS l=true):l.Pairwise fun a b=>leS a b=true:=by
 cases l with
 | nil=>exact .nil
 | cons x r=>exact rising_pw r x h
theorem strsAre_of':∀ {ss:List Str} {us:List Value},Vals (ss.map V.str) us->StrsAre us ss
 | [],_,.nil=>.nil
 | s::ss,_,.cons r t=>by obtain ⟨t',rfl⟩:=r; exact .cons s t' (strsAre_of' t)
theorem vals_of_strs:∀ {us:List Value} {ss:List Str},StrsAre us ss->Vals (ss.map V.str) us
 | _,_,.nil=>.nil
 | _,_,.cons y t h=>.cons ⟨t,rfl⟩ (vals_of_strs h)
theorem strsAre_len:∀ {us:List Value} {ss:List Str},StrsAre us ss->us.length=ss.length
 | _,_,.nil=>rfl
 | _,_,.cons y t h=>by simp [strsAre_len h]
theorem intsAre_of':∀ {ss:List Int} {us:List Value},Vals (ss.map V.int) us->IntsAre us ss
 | [],_,.nil=>.nil
 | s::ss,_,.cons r t=>by obtain ⟨t',rfl⟩:=r; exact .cons s t' (intsAre_of' t)
theorem vals_of_ints:∀ {us:List Value} {ss:List Int},IntsAre us ss->Vals (ss.map V.int) us
 | _,_,.nil=>.nil
 | _,_,.cons y t h=>.cons ⟨t,rfl⟩ (vals_of_ints h)
def leI(a b:Int):Bool:=decide (a<=b)
def sortI(l:List Int):List Int:=l.mergeSort leI
theorem sortI_perm(l:List Int):(sortI l).Perm l:=List.mergeSort_perm l leI
theorem sortI_pw(l:List Int):(sortI l).Pairwise fun a b=>leI a b=true:=List.pairwise_mergeSort (fun a b c h h'=>by unfold leI at *; rw [decide_eq_true_iff] at *; lia) (fun a b=>by unfold leI; rw [Bool.or_eq_true,decide_eq_true_iff,decide_eq_true_iff]; lia) l
theorem sortI_unique{l m:List Int}(hp:m.Perm l)(hm:m.Pairwise (·<=·)):m=sortI l:=
 List.Perm.eq_of_pairwise (le:=fun a b=>leI a b=true) (fun a b _ _ h h'=>by unfold leI at h h'; rw [decide_eq_true_iff] at h h'; lia) (hm.imp fun h=>decide_eq_true h) (sortI_pw l) (hp.trans (sortI_perm l).symm)
section
variable {X:Cx}
theorem call_sortedS:CallR X (.builtin "sorted") (fun xs H Q=>∃ (a:Addr) (ss:List Str),xs=[V.ref a]/\SqL X.K H a (ss.map V.str)/\ss.length < 64/\∀ l,H l=none->Q (.ref l) (upd H l (.lst ((sortS ss).map V.str)))):=by
 intro pins s σ H xs us Q I rv h
 obtain ⟨a,ss,rfl,hq,hl,q⟩:=h
 obtain ⟨u,rfl,ru⟩:=rv.one
 cases ru
 obtain ⟨its,r,p,hz⟩:=I.list hq
 have sa:=strsAre_of' r
 have hlen:=strsAre_len sa
 refine sorted_strs p.isList sa (by lia) fun out ss' h1 h2 h3=>?_
 obtain ⟨e,he⟩:=sortedAll_at s.heap its out
 have hs:ss'=sortS ss:=sortS_unique h2 (sortedS_pw h3)
 subst hs
 exact ⟨.ref (s.heap.objs.size+1),_,I.laid (a:=s.heap.objs.size+1) (o:=.lst ((sortS ss).map V.str)) (t':=s.toks) (fun b o e=>sortedAll_old e) (Nat.le_succ _) ⟨by rw [List.length_map,(sortS_perm ss).length_eq,sizeLine_eq]; lia,out.toList,e,vals_of_strs h1,by rw [he]⟩,rfl,q _ (I.hok.fresh (Nat.le_succ _))⟩
theorem call_sortedI:CallR X (.builtin "sorted") (fun xs H Q=>∃ (a:Addr) (ss:List Int),xs=[V.ref a]/\SqL X.K H a (ss.map V.int)/\ss.length < 64/\∀ l,H l=none->Q (.ref l) (upd H l (.lst ((sortI ss).map V.int)))):=by
 intro pins s σ H xs us Q I rv h
 obtain ⟨a,ss,rfl,hq,hl,q⟩:=h
 obtain ⟨u,rfl,ru⟩:=rv.one
 cases ru
 obtain ⟨its,r,p,hz⟩:=I.list hq
 have sa:=intsAre_of' r
 have hlen:=r.length
 rw [List.length_map] at hlen
 refine sorted_ints p.isList sa (by lia) fun out ss' h1 h2 h3=>?_
 obtain ⟨e,he⟩:=sortedAll_at s.heap its out
 have hs:ss'=sortI ss:=sortI_unique h2 h3
 subst hs
 exact ⟨.ref (s.heap.objs.size+1),_,I.laid (a:=s.heap.objs.size+1) (o:=.lst ((sortI ss).map V.int)) (t':=s.toks) (fun b o e=>sortedAll_old e) (Nat.le_succ _) ⟨by rw [List.length_map,(sortI_perm ss).length_eq,sizeLine_eq]; lia,out.toList,e,vals_of_ints h1,by rw [he]⟩,rfl,q _ (I.hok.fresh (Nat.le_succ _))⟩
end
end L2
namespace L2
open PySem PySem.Spec PyProof.Rows
section
variable {P:Program}{w:World}{A:Around}{E:Value->Shared->Prop}{s:Shared}
def set0(led:Bool):Obj:={ cls:=.type "set",dict:=none,data:=.set #[] 0 (.fresh 0 0 led) }
end
end L2
namespace L2
open PySem PySem.Spec PyProof.Rows
section
variable {X:Cx}
theorem intKind_at{P:Program}{w:World}(k:Int)(t:Tok):(intKind P w).is k (.int k t)=true:=by show Value.isInt k (.int k t)=true; simp [Value.isInt]
theorem call_set0:CallR X (.type "set") (fun xs H Q=>xs=[]/\∀ l,H l=none->Q (.ref l) (upd H l (.set (fun _=>false) 0))):=by
 intro pins s σ H xs us Q I rv h
 obtain ⟨rfl,q⟩:=h
 cases rv
 refine call_set_0 fun led=>?_
 have new:ObjOk X.prog X.w (upd H s.heap.objs.size (.set (fun _=>false) 0)) (s.heap.push (set0 led)) s.heap.objs.size (.set (fun _=>false) 0):=(setObjOf_fresh (knd:=intKind X.prog X.w) led).setOf (Heap.get?_push_size _ rfl) (by unfold scanBound; lia)
 exact ⟨.ref s.heap.objs.size,_,I.laid (a:=s.heap.objs.size) (t':=s.toks) (fun b o e=>Heap.get?_push_of_some _ e) (Nat.le_refl _) new,rfl,q _ (I.hok.fresh (Nat.le_refl _))⟩
def rSAdd:V->List V->Hp->VK->Prop:=fun x vs H Q=>∃ a S n k,x=.ref a/\vs=[.int k]/\H a=some (.set S n)/\n < 1000/\Q .non (upd H a (.set (fun j=>S j||decide (j=k)) (if S k then n else n+1)))
theorem mt_sadd:MtR X "set.add" rSAdd:=by
 intro pins s σ H x vs v us Q I rx rv h
 obtain ⟨a,S,n,k,rfl,rfl,ha,hn,q⟩:=h
 cases rx
 obtain ⟨u,rfl,ru⟩:=rv.one
 obtain ⟨t,rfl⟩:=ru
 have hS:s.heap.SetOf (intKind X.prog X.w) a S n:=(show ObjOk X.prog X.w H s.heap a (.set S n) from I.hok a _ ha)
 refine call_set_add (intKind_at k t) rfl hS (by unfold scanBound; lia) fun h' hs hS'=>?_
 have hx:∃ q,h'.get? a=some q:=by obtain ⟨o,_,_,_,e,_⟩:=hS'; exact ⟨o,e⟩
 exact ⟨.non,_,d_write (t':=s.toks+1) (ob:=.set (fun j=>S j||decide (j=k)) (if S k then n else n+1)) I (by rw [ha]; exact True.intro) hs hx hS',rfl,q⟩
theorem op_ninS:OpR X (compareOp .NotIn) (fun x y H Q=>∃ k a S n,x=.int k/\y=.ref a/\H a=some (.set S n)/\Q (.bl (!S k)) H):=by
 intro pins s σ H x y v u Q I rx ry h
 obtain ⟨k,a,S,n,rfl,rfl,ha,q⟩:=h
 obtain ⟨t,rfl⟩:=rx
 cases ry
 have hS:s.heap.SetOf (intKind X.prog X.w) a S n:=(show ObjOk X.prog X.w H s.heap a (.set S n) from I.hok a _ ha)
 exact wpAny_notInSet_of (intKind_at k t) rfl hS ⟨.bl (!S k),H,I.tok _,rfl,q⟩
end
end L2
namespace L2
open PySem PySem.Spec PyProof.Rows
open PySem.SeqAt
open PySem.AutoSeq1 (wpAny_loadPart')
open PySem.MeetsSeq PySem.MeetsSeq2 PySem.MeetsSeq3
theorem ints_at:∀ {vs:List Value} {ns:List Int},IntsAre vs ns->∀ {i:Nat} {x:Int},ns[i]?=some x->∃ t,vs[i]?=some (.int x t)
 | _,_,.nil,i,x,h=>by simp at h
 | _,_,.cons a t r,0,x,h=>by
  obtain rfl:a=x:=by simpa using h
  exact ⟨t,rfl⟩
 | _,_,.cons a t r,i+1,x,h=>by
  obtain ⟨t',e⟩:=ints_at r (i:=i) (x:=x) (by simpa using h)
  exact ⟨t',by simpa using e⟩
theorem lex_drop{ns ms:List Int}{i:Nat}{x y:Int}(hx:ns[i]?=some x)(hy:ms[i]?=some y):HT.lexLt (ns.drop i) (ms.drop i)=if x=y then HT.lexLt (ns.drop (i+1)) (ms.drop (i+1)) else decide (x < y):=by
 obtain ⟨h1,e1⟩:=List.getElem?_eq_some_iff.mp hx
 obtain ⟨h2,e2⟩:=List.getElem?_eq_some_iff.mp hy
 rw [List.drop_eq_getElem_cons h1,List.drop_eq_getElem_cons h2,e1,e2]
 rfl
theorem lex_end{ns ms:List Int}{i:Nat}(h1:i<=ns.length)(h2:i<=ms.length)(h:ns.length<=i∨ms.length<=i):HT.lexLt (ns.drop i) (ms.drop i)=decide (ns.length < ms.length):=by
 by_cases ha:ns.length<=i
 ·rw [List.drop_of_length_le ha]
  by_cases hb:ms.length<=i
  ·rw [List.drop_of_length_le hb,decide_eq_false (by lia)]
   rfl
  ·rw [List.drop_eq_getElem_cons (by lia),decide_eq_true (by lia)]
   rfl
 ·rw [List.drop_eq_getElem_cons (by lia),List.drop_of_length_le (show ms.length<=i by lia),decide_eq_false (by lia)]
  rfl
theorem lt_loopI(p q:Addr)(us vs:Array Value)(n1 n2:Nat)(d1 d2:Option Addr)(z1 z2:Array (Option Value))(ns ms:List Int)(hu:IntsAre us.toList ns)(hv:IntsAre vs.toList ms):∀ (k i:Nat),ns.length - i=k->i<=ns.length->i<=ms.length->
  Meets (Builtin.«list.__eq__.loop» ⟨[.ref p,.ref q,rawInt i,rawInt 0],[]⟩) (fun A R s=>
   s.heap.get? p=some { cls:=.type "list",dict:=d1,data:=.seq us n1,slots:=z1 }/\s.heap.get? q=some { cls:=.type "list",dict:=d2,data:=.seq vs n2,slots:=z2 }/\R (.ok (.ret (.bool (HT.lexLt (ns.drop i) (ms.drop i))))) s):=by
 have su:us.size=ns.length:=by rw [<-hu.length]; simp
 have sv:vs.size=ms.length:=by rw [<-hv.length]; simp
 intro k
 induction k with
 | zero=>
  intro i hk h1 h2 prog w A R s h
  obtain ⟨hp,g,d,tk,os⟩:=s
  obtain ⟨hl,hb,hR⟩:=h
  rw [lex_end h1 h2 (.inl (by lia))] at hR
  wp_walk using wpAny_loadPart' hl,wpAny_loadPart' hb
  have e1:us[((i:Nat):Int).toNat]?=none:=by simp; lia
  rw [e1]
  wp_walk using wpAny_loadPart' hl,wpAny_loadPart' hb
  show R (.ok (.ret (.bool (decide (us.size < vs.size))))) _
  rw [su,sv]
  exact hR
 | succ k ih=>
  intro i hk h1 h2 prog w A R s h
  obtain ⟨hp,g,d,tk,os⟩:=s
  obtain ⟨hl,hb,hR⟩:=h
  obtain ⟨x,hx⟩:∃ x,ns[i]?=some x:=⟨_,List.getElem?_eq_getElem (by lia)⟩
  obtain ⟨t,ex⟩:=ints_at hu hx
  have e1:us[((i:Nat):Int).toNat]?=some (.int x t):=by rw [Int.toNat_natCast,<-Array.getElem?_toList]; exact ex
  by_cases hm:ms.length<=i
  ·rw [lex_end h1 h2 (.inr hm)] at hR
   have e2:vs[((i:Nat):Int).toNat]?=none:=by simp; lia
   wp_walk using wpAny_loadPart' hl,wpAny_loadPart' hb
   rw [e1,e2]
   wp_walk using wpAny_loadPart' hl,wpAny_loadPart' hb
   show R (.ok (.ret (.bool (decide (us.size < vs.size))))) _
   rw [su,sv]
   exact hR
  ·obtain ⟨y,hy⟩:∃ y,ms[i]?=some y:=⟨_,List.getElem?_eq_getElem (by lia)⟩
   obtain ⟨t2,ey⟩:=ints_at hv hy
   have e2:vs[((i:Nat):Int).toNat]?=some (.int y t2):=by rw [Int.toNat_natCast,<-Array.getElem?_toList]; exact ey
   rw [lex_drop hx hy] at hR
   wp_walk using wpAny_loadPart' hl,wpAny_loadPart' hb
   rw [e1,e2]
   obtain ⟨e,he,hiff⟩:=HT.eqAt_int A.in1 ⟨hp,g,d,tk,os⟩ x t y t2
   refine wpAny_bind (he prog w _ _ ?_)
   cases e with
   | true=>
    rw [if_pos (hiff.mp rfl)] at hR
    wp_walk
    rw [show ((i:Int)+1)=((i+1:Nat):Int) from rfl]
    exact ⟨plainId_quiet plain_eq_loop _,codeAny_builtin entry_eq_loop (by
     rw [Around.under_plainId plain_eq_loop _]
     exact ih (i+1) (by lia) (by lia) (by lia) prog w A R _ ⟨hl,hb,hR⟩)⟩
   | false=>
    rw [if_neg (fun q=>absurd (hiff.mpr q) Bool.false_ne_true)] at hR
    have hri:=HT.rcLt_int A.in1 ⟨hp,g,d,tk,os⟩ x t y t2 prog w
    wp_walk using wpAny_loadPart' hl,wpAny_loadPart' hb
    rw [e1,e2]
    wp_walk using hri
    exact hR
theorem list_ltI(p q:Addr)(us vs:Array Value)(n1 n2:Nat)(d1 d2:Option Addr)(z1 z2:Array (Option Value))(ns ms:List Int)(hu:IntsAre us.toList ns)(hv:IntsAre vs.toList ms):Meets (Builtin.«list.__lt__» ⟨[.ref p,.ref q],[]⟩) (fun A R s=>
   s.heap.get? p=some { cls:=.type "list",dict:=d1,data:=.seq us n1,slots:=z1 }/\s.heap.get? q=some { cls:=.type "list",dict:=d2,data:=.seq vs n2,slots:=z2 }/\R (.ok (.ret (.bool (HT.lexLt ns ms)))) s):=by
 intro prog w A R s h
 obtain ⟨hp,g,d,tk,os⟩:=s
 obtain ⟨hl,hb,hR⟩:=h
 have f3:=AutoSeq1.sub_list_list
 wp_walk using wpAny_loadPart' hl,wpAny_loadPart' hb
 exact ⟨plainId_quiet plain_eq_loop _,codeAny_builtin entry_eq_loop (by
  rw [Around.under_plainId plain_eq_loop _]
  exact lt_loopI p q us vs n1 n2 d1 d2 z1 z2 ns ms hu hv _ 0 rfl (Nat.zero_le _) (Nat.zero_le _) prog w A R _ ⟨hl,hb,hR⟩)⟩
end L2
namespace L2
open PySem PySem.Spec PyProof.Rows
section
variable {P:Program}{w:World}{A:Around}{R:Result->Shared->Prop}{I:Addr}{fp wr:List Addr}{G:Array GenState->Array GenState->Prop}{n:Nat}{Pv:Nat->Value->Prop}{St:Nat->Shared->Prop}
def two(v:Value)(c:Nat):Obj:={ cls:=.type "list",dict:=none,data:=.seq #[v,v] c,slots:=#[] }
end
section
variable {X:Cx}
def leastAt(rs:List (List Int)):Nat:=argBest (fun i j=>HT.lexLt (rs.getD i []) (rs.getD j [])) (rs.length - 1)
end
end L2
namespace L2
open PySem PySem.Spec PyProof.Rows
def lowI:List Int->Int
 | []=>0
 | x::xs=>xs.foldl (fun a b=>if b < a then b else a) x
def topI:List Int->Int
 | []=>0
 | x::xs=>xs.foldl (fun a b=>if a < b then b else a) x
theorem lowI_eq{ns:List Int}{m:Int}(hm:m∈ns)(h:∀ x∈ns,m<=x):lowI ns=m:=by
 cases ns with
 | nil=>cases hm
 | cons x xs=>
  show xs.foldl (fun a b=>if b < a then b else a) x=m
  have h1:=fold_min xs x
  have:xs.foldl (fun a b=>if b < a then b else a) x<=m:=by
   rcases List.mem_cons.mp hm with e | e
   ·rw [e]; exact h1.2.1
   ·exact h1.2.2 m e
  have:m<=xs.foldl (fun a b=>if b < a then b else a) x:=by
   rcases h1.1 with e | e
   ·rw [e]; exact h x (List.mem_cons_self ..)
   ·exact h _ (List.mem_cons_of_mem _ e)
  lia
theorem topI_eq{ns:List Int}{m:Int}(hm:m∈ns)(h:∀ x∈ns,x<=m):topI ns=m:=by
 cases ns with
 | nil=>cases hm
 | cons x xs=>
  show xs.foldl (fun a b=>if a < b then b else a) x=m
  have h1:=fold_max xs x
  have:m<=xs.foldl (fun a b=>if a < b then b else a) x:=by
   rcases List.mem_cons.mp hm with e | e
   ·rw [e]; exact h1.2.1
   ·exact h1.2.2 m e
  have:xs.foldl (fun a b=>if a < b then b else a) x<=m:=by
   rcases h1.1 with e | e
   ·rw [e]; exact h x (List.mem_cons_self ..)
   ·exact h _ (List.mem_cons_of_mem _ e)
  lia
theorem numAt_of{zs:Array (Int × Tok)}{ns:List Int}(e:ns=zs.toList.map (·.1))(i:Nat):numAt zs i=ns[i]?.getD 0:=by
 subst e
 unfold numAt
 rw [List.getElem?_map,Array.getElem?_toList]
section
variable {X:Cx}
theorem call_minI(hc:X.calm=true):CallR X (.builtin "min") (fun xs H Q=>∃ (a:Addr) (ns:List Int),xs=[V.ref a]/\SqL X.K H a (ns.map V.int)/\0 < ns.length/\Q (.int (lowI ns)) H):=by
 intro pins s σ H xs us Q I rv h
 obtain ⟨a,ns,rfl,hq,hn,q⟩:=h
 obtain ⟨u,rfl,ru⟩:=rv.one
 cases ru
 obtain ⟨its,r,p,hz⟩:=I.list hq
 have hi:=intsAre_of' r
 obtain ⟨zs,hx⟩:=hi.allInts.items
 have e1:ns=zs.toList.map (·.1):=by
  rw [<-nums_intItems,<-hx]
  exact (show numsOf its.toArray.toList=ns from hi.numsOf).symm
 have el:zs.size=ns.length:=by rw [e1]; simp
 refine min_intList (xs:=zs) (I.ok.hd hc) (hx▸p.isList) (by lia) fun v h' tk hv k=>?_
 obtain ⟨t,rfl⟩:=intItems_at hv
 have b:=argBest_lt (numAt zs) (zs.size - 1)
 have e2:lowI ns=numAt zs (argBest (fun i j=>decide (numAt zs i < numAt zs j)) (zs.size - 1)):=by
  refine lowI_eq ?_ fun x hx=>?_
  ·rw [numAt_of e1,List.getElem?_eq_getElem (by lia)]
   exact List.getElem_mem _
  ·obtain ⟨j,hj,rfl⟩:=List.getElem_of_mem hx
   have:=b.2 j (by lia)
   rw [numAt_of e1 j,List.getElem?_eq_getElem hj] at this
   exact this
 rw [<-e2]
 exact ⟨.int (lowI ns),H,I.kept k,⟨_,rfl⟩,q⟩
theorem call_maxI(hc:X.calm=true):CallR X (.builtin "max") (fun xs H Q=>∃ (a:Addr) (ns:List Int),xs=[V.ref a]/\SqL X.K H a (ns.map V.int)/\0 < ns.length/\Q (.int (topI ns)) H):=by
 intro pins s σ H xs us Q I rv h
 obtain ⟨a,ns,rfl,hq,hn,q⟩:=h
 obtain ⟨u,rfl,ru⟩:=rv.one
 cases ru
 obtain ⟨its,r,p,hz⟩:=I.list hq
 have hi:=intsAre_of' r
 obtain ⟨zs,hx⟩:=hi.allInts.items
 have e1:ns=zs.toList.map (·.1):=by
  rw [<-nums_intItems,<-hx]
  exact (show numsOf its.toArray.toList=ns from hi.numsOf).symm
 have el:zs.size=ns.length:=by rw [e1]; simp
 refine max_intList (xs:=zs) (I.ok.hd hc) (hx▸p.isList) (by lia) fun v h' tk hv k=>?_
 obtain ⟨t,rfl⟩:=intItems_at hv
 have b:=argBest_gt (numAt zs) (zs.size - 1)
 have e2:topI ns=numAt zs (argBest (fun i j=>decide (numAt zs i > numAt zs j)) (zs.size - 1)):=by
  refine topI_eq ?_ fun x hx=>?_
  ·rw [numAt_of e1,List.getElem?_eq_getElem (by lia)]
   exact List.getElem_mem _
  ·obtain ⟨j,hj,rfl⟩:=List.getElem_of_mem hx
   have:=b.2 j (by lia)
   rw [numAt_of e1 j,List.getElem?_eq_getElem hj] at this
   exact this
 rw [<-e2]
 exact ⟨.int (topI ns),H,I.kept k,⟨_,rfl⟩,q⟩
end
section
variable {prog:Program}{w:World}{A:Around}{E:Value->Shared->Prop}{s:Shared}
theorem lt_one{p q:Addr}{us vs:Array Value}{ns ms:List Int}{Q:Bool->Shared->Prop}(hl:s.heap.IsList p us)(hb:s.heap.IsList q vs)(hi:IntsAre us.toList ns)(hj:IntsAre vs.toList ms)(hu:A.units < cLine)
  (h:Q (HT.lexLt ns ms) s):wpAny (model prog w) A (oneLt' true (.ref p) (.ref q)) Q E s:=by
 obtain ⟨⟨c1,d1,dt1,z1⟩,ho,hc,n1,hd⟩:=id hl
 obtain ⟨⟨c2,d2,dt2,z2⟩,ho2,hc2,n2,hd2⟩:=id hb
 simp only at hc hd hc2 hd2
 subst hc hd hc2 hd2
 rw [oneLt'_eq,if_pos rfl]
 refine wpAny_bind (m:=cRoomFor "comparison" [.ref p,.ref q]) (wpAny_cRoomFor hu (wpAny_bind ?_))
 exact wpAny_callSpecialIfBound?_slot ⟨_,ho,rfl⟩ F.slot_list_lt (call_meets F.slot_list_lt ⟨_,ho,rfl⟩ F.entry_list_lt (F.args_list_lt_2 _ _) (list_ltI p q us vs n1 n2 d1 d2 z1 z2 ns ms hi hj) ⟨ho,ho2,wpAny_truthy_bool h⟩)
def UpSt(prog:Program)(w:World)(A:Around)(s:Shared)(st:SortSt)(n:Nat):Prop:=
 ∀ i,i+1 < n->∀ (E:Value->Shared->Prop) (Q:Option Bool->SortSt->Prop),Q (some false) st->wpS (model prog w) A E s (ltAt' (i+1) i) Q st
theorem up_lt{st:SortSt}{i j:Nat}{x y x' y':Value}{b:Bool}{Q:Option Bool->SortSt->Prop}(hk:kindOf st=oneType')(hi:(arrOf st)[i]?=some (x,x'))(hj:(arrOf st)[j]?=some (y,y'))
  (ho:∀ (E:Value->Shared->Prop) (Q:Bool->Shared->Prop),Q b s->wpAny (model prog w) A (oneLt' true x y) Q E s) (h:Q (some b) st):wpS (model prog w) A E s (ltAt' i j) Q st:=by
 rw [ltAt'_eq]
 refine wpS_bind (wpS_get ?_)
 show wpS _ _ _ _ (elem' (arrOf st) i >>= fun x=>elem' (arrOf st) j >>= fun y=>lt' x y) Q st
 rw [elem'_eq,elem'_eq,hi,hj]
 refine wpS_bind (wpS_pure (wpS_bind (wpS_pure ?_)))
 rw [lt'_eq]
 refine wpS_bind (wpS_get ?_)
 rw [hk,keyLt'_oneType]
 exact wpS_bind (wpS_lift (wpAny_attempt (ho _ _ ⟨rfl,wpS_pure h⟩)))
theorem up_asc{st:SortSt}{n:Nat}{Q:AscSt->SortSt->Prop}(hn:1<=n)(hup:UpSt prog w A s st n)(h:Q (none,n) st):wpS (model prog w) A E s (ascLoop 1 n) Q st:=by
 refine wpS_forRange (I:=fun x c st'=>st'=st/\c=(none,x)) ?_ (fun c st' hh=>?_) ⟨rfl,rfl⟩
 ·rintro x c st' h1 h2 ⟨rfl,rfl⟩
  dsimp only
  refine wpS_bind ?_
  obtain ⟨k,rfl⟩:∃ k,x=k+1:=⟨x - 1,by lia⟩
  exact hup k h2 _ _ (wpS_pure ⟨rfl,rfl⟩)
 ·obtain ⟨rfl,rfl⟩:=hh
  rw [Nat.max_eq_right hn]
  exact h
theorem up_run{st:SortSt}{n:Nat}{Q:Option Nat->SortSt->Prop}(hn:1<=n)(hup:UpSt prog w A s st n)(h:Q (some n) st):wpS (model prog w) A E s (countRun' 0 n) Q st:=by
 rw [countRun0_eq]
 refine wpS_bind (up_asc hn hup ?_)
 dsimp only
 rw [if_pos (by simp)]
 exact wpS_pure h
theorem up_runs{st:SortSt}{n:Nat}{Q:Unit->SortSt->Prop}(e:(arrOf st).size=n)(h2:2<=n)(h64:n < 64)(hp:pendingOf st=#[])(hup:UpSt prog w A s st n)
  (h:∀ st',arrOf st'=arrOf st->failedOf st'=failedOf st->Q () st'):wpS (model prog w) A E s sortRuns' Q st:=by
 rw [sortRuns'_eq]
 refine wpS_bind (wpS_get ?_)
 dsimp only
 have hm:minRun' n n 0=n:=by
  obtain ⟨f,rfl⟩:∃ f,n=f+1:=⟨n - 1,by lia⟩
  rw [minRun'_succ,if_pos h64]
 simp only [e,hm]
 let D:SortSt->Prop:=fun st'=>arrOf st'=arrOf st/\failedOf st'=failedOf st/\pendingOf st'=#[(0,n,0)]
 refine wpS_bind (wpS_mono (Q:=fun c st'=>c=(none,n)/\D st') (wpS_forRange (I:=fun x c st'=>(x=0->c=(none,0)/\st'=st)/\(0 < x->c=(none,n)/\D st')) ?_ (fun c st' hh=>hh.2 (by lia)) ⟨fun _=>⟨rfl,rfl⟩,fun z=>absurd z (Nat.lt_irrefl 0)⟩) ?_)
 ·intro x c st' _ hx hI
  rcases Nat.eq_zero_or_pos x with hx0 | hx0
  ·obtain ⟨rfl,rfl⟩:=hI.1 hx0
   dsimp only
   rw [if_neg (by lia),Nat.sub_zero]
   refine wpS_bind (up_run (by lia) hup ?_)
   dsimp only
   rw [if_neg (Nat.lt_irrefl _)]
   refine wpS_bind (wpS_get ?_)
   rw [show (pendingOf st').back?=none by rw [hp]; rfl]
   dsimp only
   refine wpS_bind (wpS_modify (wpS_pure ⟨fun z=>by lia,fun _=>⟨?_,rfl,rfl,?_⟩⟩))
   ·rw [Nat.zero_add]
   ·show (pendingOf st').push _=_
    rw [hp]; rfl
  ·obtain ⟨rfl,hD⟩:=hI.2 hx0
   dsimp only
   rw [if_pos (Nat.le_refl _)]
   exact wpS_pure ⟨rfl,hD⟩
 ·rintro c st' ⟨rfl,hD⟩
  dsimp only
  refine wpS_bind (wpS_mono (Q:=fun c st2=>c=(none,())/\st2=st') (wpS_forRange (I:=fun _ c st2=>c=(none,())/\st2=st') ?_ (fun _ _ hh=>hh) ⟨rfl,rfl⟩) ?_)
  ·rintro x c st2 _ _ ⟨rfl,rfl⟩
   refine wpS_bind (wpS_get ?_)
   rw [if_pos (by rw [hD.2.2]; exact Nat.le_refl 1)]
   exact wpS_pure ⟨rfl,rfl⟩
  ·rintro c st2 ⟨rfl,rfl⟩
   exact wpS_pure (h _ hD.1 hD.2.1)
theorem wp_mapM{α β:Type}{M:Model}{m:α->Sem β}{f:α->β}:∀ (l:List α) {Q:List β->Shared->Prop},(∀ x∈l,∀ Q:β->Shared->Prop,Q (f x) s->wpAny M A (m x) Q E s)->Q (l.map f) s->wpAny M A (l.mapM m) Q E s
 | [],Q,_,q=>by rw [List.mapM_nil]; exact wpAny_pure q
 | x::l,Q,h,q=>by
  rw [List.mapM_cons]
  exact wpAny_bind (h x (List.mem_cons_self ..) _ (wpAny_bind (wp_mapM l (fun y hy=>h y (List.mem_cons_of_mem _ hy)) (wpAny_pure q))))
theorem first_eq(v:Value):firstOfTuple' v=(do
  if (<-typeOf v) != .type "tuple" then return none
  return (<-Builtin.List.listItems v)[0]?):=rfl
theorem key_lists{vs:List Value}{Q:SortKind->Shared->Prop}(hn:2<=vs.length)(ht:∀ v∈vs,s.TypeIs v "list")(h:Q oneType' s):wpAny (model prog w) A (keyKind' vs.toArray) Q E s:=by
 rw [keyKind'_eq,List.mapM_toArray]
 have hne:vs≠[]:=by intro z; subst z; simp at hn
 obtain ⟨v0,vr,rfl⟩:=List.exists_cons_of_ne_nil hne
 refine wpAny_bind (wpAny_map ?_)
 refine wp_mapM (f:=fun _=>none) _ (fun v hv Q q=>?_) ?_
 ·rw [first_eq]
  refine wpAny_bind (wpAny_typeOf (ht v hv) ?_)
  rw [if_pos (by rfl)]
  exact wpAny_pure q
 ·rw [if_neg (by simp),if_neg (by simp)]
  refine wpAny_bind ?_
  rw [oneTypeOnly'_eq,List.mapM_toArray]
  refine wpAny_bind (wpAny_map ?_)
  refine wp_mapM (f:=fun _=>Value.type "list") _ (fun v hv Q q=>wpAny_typeOf (ht v hv) q) ?_
  have e0:(List.map (fun _=>Value.type "list") (v0::vr)).toArray[0]?=some (Value.type "list"):=by simp
  rw [e0]
  dsimp only
  rw [if_pos (by simp only [List.all_toArray,List.all_map,List.all_eq_true]; intro _ _; rfl)]
  exact wpAny_pure (wpAny_pure h)
end
end L2
namespace L2
open PySem PySem.Spec PyProof.Rows
section
variable {prog:Program}{w:World}{A:Around}{E:Value->Shared->Prop}{s:Shared}
theorem zip_snd(vs:List Value):(vs.toArray.zip vs.toArray).map (·.2)=vs.toArray:=by
 apply Array.toList_inj.mp
 rw [Array.toList_map,Array.toList_zip]
 exact List.map_snd_zip (Nat.le_refl _)
theorem zip_at{vs:List Value}{i:Nat}{v:Value}(h:vs[i]?=some v):(vs.toArray.zip vs.toArray)[i]?=some (v,v):=by
 rw [<-Array.getElem?_toList,Array.toList_zip]
 show (vs.zip vs)[i]?=_
 rw [List.getElem?_zip_eq_some]
 exact ⟨h,h⟩
theorem up_sort{a:Addr}{vs:List Value}{n:Nat}{P:Fin->Shared->Prop}(ho:s.heap.get? a=some (seqObj "list" vs.toArray n))(h64:vs.length < 64)(ht:∀ v∈vs,∃ b us,v=.ref b/\b≠a/\s.heap.IsList b us)
  (hup:∀ (i:Nat) x y,vs[i]?=some x->vs[i+1]?=some y->∀ (s':Shared) (E:Value->Shared->Prop) (Q:Bool->Shared->Prop),(∀ b o,b≠a->s.heap.get? b=some o->s'.heap.get? b=some o)->Q false s'->wpAny (model prog w) A (oneLt' true y x) Q E s')
  (h:P (.done (.ret .none)) { s with heap:=sortedHeap s.heap a vs vs.toArray }):wpAny (model prog w) A (Builtin.«list.sort» ⟨[.ref a],[]⟩) P E s:=by
 rw [list_sort_plain]
 have la:=Heap.lt_size ho
 refine wpAny_bind (listItems_at ho rfl (wpAny_bind (listUpdate_at ho rfl ?_)))
 obtain ⟨e1,ho1⟩:∃ e,(s.heap.update a (Obj.mapSeq fun _=>#[])).get? a=some (seqObj "list" #[] e):=⟨_,get?_update_seq ho (fun _=>#[])⟩
 refine wpAny_bind (seqEpoch_at ho1 rfl (wpAny_bind (wpAny_newTuple (wpAny_bind (wpAny_newList (wpAny_holding ?_))))))
 have kp:∀ b o,(s.heap.update a (Obj.mapSeq fun _=>#[])).get? b=some o->(((s.heap.update a (Obj.mapSeq fun _=>#[])).push (seqObj "tuple" vs.toArray 0)).push (seqObj "list" #[] 0)).get? b=some o:=fun b o e=>Heap.get?_push_of_some _ (Heap.get?_push_of_some _ e)
 have ho6:=kp _ _ ho1
 show wpAny (model prog w) A _ P E { s with heap:=((s.heap.update a (Obj.mapSeq fun _=>#[])).push (seqObj "tuple" vs.toArray 0)).push (seqObj "list" #[] 0) }
 have old:∀ b o,b≠a->s.heap.get? b=some o->(((s.heap.update a (Obj.mapSeq fun _=>#[])).push (seqObj "tuple" vs.toArray 0)).push (seqObj "list" #[] 0)).get? b=some o:=fun b o nb e=>kp b o ((Heap.get?_update_other _ _ (fun z=>nb z.symm)).trans e)
 have sz:vs.toArray.size=vs.length:=by simp
 have fz:(vs.toArray.zip vs.toArray).size=vs.length:=by simp
 dsimp only
 by_cases h2:vs.toArray.size < 2
 ·rw [if_pos h2,if_pos h2]
  refine wpAny_bind (wpAny_pure ?_)
  rw [StateT.run_pure]
  refine wpAny_bind (wpAny_pure (wpAny_bind (seqEpoch_at ho6 rfl (wpAny_bind (listUpdate_at ho6 rfl ?_ (hsz2:=?_))))))
  ·simp only [bne_self_eq_false,Bool.false_eq_true,if_false]
   refine wpAny_pure ?_
   show P _ { s with heap:=sortedHeap s.heap a vs ((vs.toArray.zip vs.toArray).map (·.2)) }
   rw [zip_snd]
   exact h
  ·rw [zip_snd,sizeLine_eq]
   lia
 ·rw [if_neg h2,if_neg h2]
  refine wpAny_bind (key_lists (by lia) (fun v hv=>?_) ?_)
  ·obtain ⟨b,us,rfl,nb,⟨o,hb,hc,_⟩⟩:=ht v hv
   exact ⟨o,old b o nb hb,hc⟩
  ·refine wpAny_bind (wpAny_mono (up_runs (n:=vs.length) (st:=SortSt.mk' oneType' (vs.toArray.zip vs.toArray) #[] 7 none) (Q:=fun _ st'=>arrOf st'=vs.toArray.zip vs.toArray/\failedOf st'=none) fz (by lia) h64 rfl (fun i hi E Q q=>?_) fun st' a1 a2=>⟨a1,a2⟩) ?_ fun _ _ e=>e)
   ·obtain ⟨x,hx⟩:∃ x,vs[i]?=some x:=⟨_,List.getElem?_eq_getElem (by lia)⟩
    obtain ⟨y,hy⟩:∃ y,vs[i+1]?=some y:=⟨_,List.getElem?_eq_getElem hi⟩
    exact up_lt rfl (zip_at hy) (zip_at hx) (fun E Q q=>hup i x y hx hy _ E Q old q) q
   ·rintro ⟨⟨⟩,st'⟩ s' ⟨rfl,hp,hf⟩
    dsimp only
    rw [hp,zip_snd]
    refine wpAny_bind (seqEpoch_at ho6 rfl (wpAny_bind (listUpdate_at ho6 rfl ?_ (hsz2:=?_))))
    ·rw [hf]
     simp only [bne_self_eq_false,Bool.false_eq_true,if_false]
     exact wpAny_pure h
    ·rw [sizeLine_eq]
     lia
theorem up_sorted{l:Addr}{vs:List Value}{Q:Value->Shared->Prop}(hl:s.heap.IsList l vs.toArray)(h64:vs.length < 64)(ht:∀ v∈vs,∃ b us,v=.ref b/\s.heap.IsList b us)
  (hup:∀ (i:Nat) x y,vs[i]?=some x->vs[i+1]?=some y->∀ (s':Shared) (E:Value->Shared->Prop) (Q:Bool->Shared->Prop),(∀ b o,s.heap.get? b=some o->s'.heap.get? b=some o)->Q false s'->wpAny (model prog w) A.in1.in1 (oneLt' true y x) Q E s')
  (h:Q (.ref (s.heap.objs.size+1)) { s with heap:=sortedAll s.heap vs vs.toArray }):wpAny (model prog w) A (call (.builtin "sorted") [.ref l]) Q E s:=by
 refine Calls.call_function_entry kind_sorted plain_sorted entry_sorted (args_sorted1 _) ?_
 unfold Builtin.«sorted»
 refine wpAny_bind (m:=checkCount "sorted" 1 1 _) (wpAny_pure (wpAny_bind (collect_list hl (wpAny_bind (wpAny_newList ?_)))))
 have hz:((s.heap.push (seqObj "list" #[] 0)).update s.heap.objs.size (Obj.mapSeq (·++vs.toArray))).objs.size=s.heap.objs.size+1:=(Heap.size_update ..).trans (size_push' ..)
 have k1:∀ b o,s.heap.get? b=some o->(((s.heap.push (seqObj "list" #[] 0)).update s.heap.objs.size (Obj.mapSeq (·++vs.toArray))).push (seqObj "list" vs.toArray 0)).get? b=some o:=fun b o e=>
  Heap.get?_push_of_some _ ((Heap.get?_update_other _ _ (Nat.ne_of_gt (Heap.lt_size e))).trans (Heap.get?_push_of_some _ e))
 have hoL:(((s.heap.push (seqObj "list" #[] 0)).update s.heap.objs.size (Obj.mapSeq (·++vs.toArray))).push (seqObj "list" vs.toArray 0)).get? (s.heap.objs.size+1)=some (seqObj "list" vs.toArray 0):=by
  rw [<-hz]
  exact Heap.get?_push_size _ rfl
 show wpAny _ _ _ _ _ { s with heap:=((s.heap.push (seqObj "list" #[] 0)).update s.heap.objs.size (Obj.mapSeq (·++vs.toArray))).push (seqObj "list" vs.toArray 0) }
 rw [hz]
 refine wpAny_bind (wpAny_holding (wpAny_call_entry slot_list_sort ⟨_,hoL,rfl⟩ entry_list_sort (up_sort hoL h64 (fun v hv=>?_) (fun i x y hx hy s' E Q k q=>hup i x y hx hy s' E Q (fun b o e=>k b o (Nat.ne_of_lt (Nat.lt_succ_of_lt (Heap.lt_size e))) (k1 b o e)) q) ⟨_,rfl,?_⟩) (args_list_sort _)))
 ·obtain ⟨b,us,rfl,hb⟩:=ht v hv
  exact ⟨b,us,rfl,fun z=>by obtain ⟨o,e,_⟩:=hb; exact absurd (Heap.lt_size e) (by rw [z]; exact Nat.not_lt.mpr (Nat.le_succ _)),hb.at fun o e=>k1 _ o e⟩
 ·exact wpAny_pure ⟨_,rfl,h⟩
end
def riseL:List (List Int)->Bool
 | x::y::r=>!HT.lexLt y x&&riseL (y::r)
 | _=>true
theorem riseL_at:∀ {rs:List (List Int)},riseL rs=true->∀ (i:Nat) x y,rs[i]?=some x->rs[i+1]?=some y->HT.lexLt y x=false
 | [],_,i,x,y,h1,_=>by simp at h1
 | [_],_,i,x,y,_,h2=>by simp at h2
 | x'::y'::r,h,i,x,y,h1,h2=>by
  have h:(!HT.lexLt y' x'&&riseL (y'::r))=true:=h
  rw [Bool.and_eq_true] at h
  cases i with
  | zero=>
   simp at h1 h2
   subst h1 h2
   simpa using h.1
  | succ i=>exact riseL_at h.2 i x y (by simpa using h1) (by simpa using h2)
section
variable {X:Cx}
theorem call_sortedUp(hu:X.A.units+8 < cLine):CallR X (.builtin "sorted") (fun xs H Q=>∃ (a:Addr) (as:List Addr) (rs:List (List Int)),xs=[V.ref a]/\SqL X.K H a (as.map V.ref)/\as.length=rs.length/\rs.length < 64/\riseL rs=true /\
  (∀ (i:Nat) b r,as[i]?=some b->rs[i]?=some r->SqL X.K H b (r.map V.int))/\∀ l,H l=none->Q (.ref l) (upd H l (.lst (as.map V.ref)))):=by
 intro pins s σ H xs us Q I rv h
 obtain ⟨a,as,rs,rfl,hq,hl,h64,hr,hin,q⟩:=h
 obtain ⟨u,rfl,ru⟩:=rv.one
 cases ru
 obtain ⟨its,r,p,hz⟩:=I.list hq
 have hlen:=r.length
 rw [List.length_map] at hlen
 have look:∀ (i:Nat) b r,as[i]?=some b->rs[i]?=some r->∃ us:Array Value,s.heap.IsList b us/\IntsAre us.toList r:=fun i b r hb hr=>by
  obtain ⟨us,r1,p1,_⟩:=I.list (hin i b r hb hr)
  exact ⟨us.toArray,p1.isList,intsAre_of r1⟩
 have itm:∀ (i:Nat) v,its[i]?=some v->∃ b r us,as[i]?=some b/\rs[i]?=some r/\v=.ref b/\s.heap.IsList b us/\IntsAre us.toList r:=fun i v hv=>by
  have hi:i < its.length:=(List.getElem?_eq_some_iff.mp hv).1
  obtain ⟨b,hb⟩:∃ b,as[i]?=some b:=⟨_,List.getElem?_eq_getElem (by lia)⟩
  obtain ⟨r',hr⟩:∃ r',rs[i]?=some r':=⟨_,List.getElem?_eq_getElem (by lia)⟩
  obtain ⟨u,hu',ru⟩:=r.get (i:=i) (x:=V.ref b) (by rw [List.getElem?_map,hb]; rfl)
  cases ru
  rw [hu'] at hv
  obtain ⟨us,l1,i1⟩:=look i b r' hb hr
  exact ⟨b,r',us,hb,hr,(Option.some.inj hv).symm,l1,i1⟩
 refine up_sorted p.isList (by lia) (fun v hv=>?_) (fun i x y hx hy s' E Q k q=>?_) ?_
 ·obtain ⟨i,hi⟩:=List.getElem?_of_mem hv
  obtain ⟨b,_,us,_,_,e,l1,_⟩:=itm i v hi
  exact ⟨b,us,e,l1⟩
 ·obtain ⟨b,r1,us,hb,hr1,rfl,l1,i1⟩:=itm i x hx
  obtain ⟨b2,r2,us2,hb2,hr2,rfl,l2,i2⟩:=itm (i+1) y hy
  refine lt_one (l2.at fun o e=>k _ o e) (l1.at fun o e=>k _ o e) i2 i1 (by simp; lia) ?_
  rw [riseL_at hr i r1 r2 hr1 hr2]
  exact q
 ·obtain ⟨e,he⟩:=sortedAll_at s.heap its its.toArray
  exact ⟨.ref (s.heap.objs.size+1),_,I.laid (a:=s.heap.objs.size+1) (o:=.lst (as.map V.ref)) (t':=s.toks) (fun b o e=>sortedAll_old e) (Nat.le_succ _) ⟨by rw [List.length_map,sizeLine_eq]; lia,its,e,r,he⟩,rfl,q _ (I.hok.fresh (Nat.le_succ _))⟩
end
end L2
namespace L3
open PySem PySem.Spec PyProof.Rows L2
variable [TheK]
def capS(caps:List (Option Nat))(s:Sg):Sg:=caps.map fun o=>o.bind fun j=>(s[j]?).join
def backGo(M:List Nat):List (Option Nat)->Sg->Sg->Sg
 | some j::cs,x::xs,s=>backGo M cs xs (if M.contains j then s.set j x else s)
 | none::cs,_::xs,s=>backGo M cs xs s
 | _,_,s=>s
structure CapOk (caps:List (Option Nat)) (M Mi:List Nat):Prop where
 yes:∀ (i:Nat),i∈Mi->∃ j,caps[i]?=some (some j)/\j∈M
 no:∀ (i j:Nat),caps[i]?=some (some j)->i∉Mi->j∉M
 inj:∀ (i i' j:Nat),caps[i]?=some (some j)->caps[i']?=some (some j)->i=i'
def capB(caps:List (Option Nat))(M Mi:List Nat):Bool:=
 Mi.all (fun i=>match caps[i]? with | some (some j)=>M.contains j | _=>false) &&
 (List.range caps.length).all (fun i=>match caps[i]? with | some (some j)=>Mi.contains i||!M.contains j | _=>true) &&
 (List.range caps.length).all (fun i=>(List.range caps.length).all fun i'=>match caps[i]?,caps[i']? with | some (some j),some (some j')=>j != j'||i == i' | _,_=>true)
theorem CapOk.of{caps:List (Option Nat)}{M Mi:List Nat}(h:capB caps M Mi=true):CapOk caps M Mi:=by
 unfold capB at h
 rw [Bool.and_eq_true,Bool.and_eq_true] at h
 obtain ⟨⟨h1,h2⟩,h3⟩:=h
 have lt:∀ {i:Nat} {o:Option Nat},caps[i]?=some o->i∈List.range caps.length:=fun e=>List.mem_range.mpr (List.getElem?_eq_some_iff.mp e).1
 refine ⟨fun i hi=>?_,fun i j e n=>?_,fun i i' j e e'=>?_⟩
 ·have:=List.all_eq_true.mp h1 i hi
  cases hc:caps[i]? with
  | none=>rw [hc] at this; cases this
  | some o=>cases o with
   | none=>rw [hc] at this; cases this
   | some j=>rw [hc] at this; exact ⟨j,rfl,by simpa using this⟩
 ·have:=List.all_eq_true.mp h2 i (lt e)
  rw [e] at this
  intro hj
  have a:Mi.contains i=false:=by simpa using n
  have b:M.contains j=true:=by simpa using hj
  dsimp only at this
  rw [a,b] at this
  cases this
 ·have:=List.all_eq_true.mp (List.all_eq_true.mp h3 i (lt e)) i' (lt e')
  rw [e,e'] at this
  simpa using this
theorem capS_get{caps:List (Option Nat)}{s:Sg}{i:Nat}{t:T}(h:(capS caps s)[i]?=some (some t)):∃ j,caps[i]?=some (some j)/\s[j]?=some (some t):=by
 unfold capS at h
 rw [List.getElem?_map] at h
 obtain ⟨o,h1,h2⟩:=Qm h
 cases o with
 | none=>cases h2
 | some j=>exact ⟨j,h1,join_some h2⟩
theorem capSt_get{caps:List (Option Nat)}{σ:L2.St}{i j:Nat}(h:caps[i]?=some (some j)):(capSt caps σ)[i]?=some (σ[j]?).join:=by
 unfold capSt
 rw [List.getElem?_map,h]
 rfl
theorem capSt_ref{caps:List (Option Nat)}{σ:L2.St}{i:Nat}{v:V}(h:(capSt caps σ)[i]?=some (some v)):∃ j,caps[i]?=some (some j)/\σ[j]?=some (some v):=by
 unfold capSt at h
 rw [List.getElem?_map] at h
 obtain ⟨o,h1,h2⟩:=Qm h
 cases o with
 | none=>cases h2
 | some j=>
  refine ⟨j,h1,?_⟩
  have h2:(σ[j]?).join=some v:=h2
  cases e:σ[j]? with
  | none=>rw [e] at h2; cases h2
  | some x=>rw [e] at h2; cases x with
   | none=>cases h2
   | some y=>injection h2 with h2; rw [h2]
theorem Rel.cap{F:Fr}{O:Addr->Prop}{M Mi:List Nat}{s:Sg}{σ:L2.St}{H:Hp}{caps:List (Option Nat)}(R:Rel F O M s σ H)(c:CapOk caps M Mi):Rel F O Mi (capS caps s) (capSt caps σ) H:=by
 refine ⟨by unfold capS capSt; simp,fun i t e n=>?_,fun i t e n=>?_,fun i a hi e=>?_,fun i i' a hi hi' e e'=>?_,R.keep,R.dom,R.fresh,R.inD,R.al⟩
 ·obtain ⟨j,h1,h2⟩:=capS_get e
  obtain ⟨v,h3,h4⟩:=R.val j t h2 (c.no i j h1 n)
  exact ⟨v,by rw [capSt_get h1,h3]; rfl,h4⟩
 ·obtain ⟨j,h1,h2⟩:=capS_get e
  obtain ⟨j',h1',h3⟩:=c.yes i n
  rw [h1] at h1'
  obtain rfl:j=j':=by injection h1' with h; injection h
  obtain ⟨a,h4,L⟩:=R.own j t h2 h3
  exact ⟨a,by rw [capSt_get h1,h4]; rfl,L⟩
 ·obtain ⟨j,h1,h2⟩:=capSt_ref e
  obtain ⟨j',h1',h3⟩:=c.yes i hi
  rw [h1] at h1'
  obtain rfl:j=j':=by injection h1' with h; injection h
  exact R.ow j a h3 h2
 ·obtain ⟨j,h1,h2⟩:=capSt_ref e
  obtain ⟨j',h1',h2'⟩:=capSt_ref e'
  obtain ⟨k,hk,h3⟩:=c.yes i hi
  obtain ⟨k',hk',h3'⟩:=c.yes i' hi'
  rw [h1] at hk
  rw [h1'] at hk'
  obtain rfl:j=k:=by injection hk with h; injection h
  obtain rfl:j'=k':=by injection hk' with h; injection h
  have:=R.dis j j' a h3 h3' h2 h2'
  subst this
  exact c.inj i i' j h1 h1'
theorem backGo_len(M:List Nat):∀ (caps:List (Option Nat)) (si s:Sg),(backGo M caps si s).length=s.length
 | [],_,_=>by unfold backGo; rfl
 | none::cs,[],s=>by unfold backGo; rfl
 | some j::cs,[],s=>by unfold backGo; rfl
 | none::cs,x::xs,s=>by unfold backGo; exact backGo_len M cs xs s
 | some j::cs,x::xs,s=>by
  unfold backGo
  rw [backGo_len M cs xs]
  split
  ·rw [List.length_set]
  ·rfl
theorem backGo_out(M:List Nat){j:Nat}:∀ (caps:List (Option Nat)) (si s:Sg),(j∉M∨∀ i:Nat,caps[i]?≠some (some j))->(backGo M caps si s)[j]?=s[j]?
 | [],_,_,_=>by unfold backGo; rfl
 | none::cs,[],s,_=>by unfold backGo; rfl
 | some k::cs,[],s,_=>by unfold backGo; rfl
 | none::cs,x::xs,s,h=>by
  unfold backGo
  exact backGo_out M cs xs s (h.imp id fun z i=>by simpa using z (i+1))
 | some k::cs,x::xs,s,h=>by
  unfold backGo
  rw [backGo_out M cs xs _ (h.imp id fun z i=>by simpa using z (i+1))]
  split
  ·rename_i hk
   refine List.getElem?_set_ne fun z=>?_
   subst z
   rcases h with h | h
   ·exact h (by simpa using hk)
   ·exact h 0 rfl
  ·rfl
theorem backGo_in(M:List Nat){j:Nat}(hj:j∈M):∀ (caps:List (Option Nat)) (si s:Sg) (i:Nat),caps[i]?=some (some j)->(∀ i':Nat,caps[i']?=some (some j)->i'=i)->i < si.length->j < s.length->(backGo M caps si s)[j]?=si[i]?
 | [],_,_,i,e,_,_,_=>by simp at e
 | c::cs,[],s,i,_,_,hi,_=>by simp at hi
 | none::cs,x::xs,s,i,e,u,hi,hl=>by
  unfold backGo
  cases i with
  | zero=>simp at e
  | succ i=>
   rw [List.getElem?_cons_succ]
   exact backGo_in M hj cs xs s i (by simpa using e) (fun i' e'=>by simpa using u (i'+1) (by simpa using e')) (by simpa using hi) hl
 | some k::cs,x::xs,s,i,e,u,hi,hl=>by
  unfold backGo
  cases i with
  | zero=>
   have hk:k=j:=by simpa using e
   subst hk
   rw [backGo_out M cs xs _ (.inr fun i' e'=>by simpa using u (i'+1) (by simpa using e')),if_pos (by simpa using hj),List.getElem?_set_self hl]
   rfl
  | succ i=>
   rw [List.getElem?_cons_succ]
   refine backGo_in M hj cs xs _ i (by simpa using e) (fun i' e'=>by simpa using u (i'+1) (by simpa using e')) (by simpa using hi) ?_
   split
   ·rw [List.length_set]; exact hl
   ·exact hl
theorem Rel.back{F:Fr}{O:Addr->Prop}{M Mi:List Nat}{s si:Sg}{σ σ2:L2.St}{H2 H4:Hp}{caps:List (Option Nat)}(R:Rel F O M s σ H2)(c:CapOk caps M Mi)(S:Step σ2 Mi H2 H4)(Ri:Rel F O Mi si σ2 H4)
  (hk:∀ (i j:Nat),caps[i]?=some (some j)->σ2[i]?=(capSt caps σ)[i]?) (hl:si.length=caps.length):Rel F O M (backGo M caps si s) σ H4:=by
 have addr:∀ (i:Nat) b,i∈Mi->σ2[i]?=some (some (.ref b))->∃ j,caps[i]?=some (some j)/\j∈M/\σ[j]?=some (some (.ref b)):=fun i b hi e=>by
  obtain ⟨j,h1,h2⟩:=c.yes i hi
  rw [hk i j h1] at e
  obtain ⟨j',h3,h4⟩:=capSt_ref e
  rw [h1] at h3
  obtain rfl:j=j':=by injection h3 with h; injection h
  exact ⟨j,h1,h2,h4⟩
 have kf:∀ b u,Free F O b->H2 b=some u->H4 b=some u:=fun b u z e=>S.keep b u (fun i hi e'=>by
  obtain ⟨j,_,h2,h3⟩:=addr i b hi e'
  exact z.1 (R.ow j b h2 h3)) e
 refine ⟨by rw [backGo_len]; exact R.len,fun j t e n=>?_,fun j t e n=>?_,R.ow,R.dis,Ri.keep,Ri.dom,R.fresh,R.inD,Ri.al⟩
 ·rw [backGo_out M caps si s (.inl n)] at e
  obtain ⟨v,h1,h2⟩:=R.val j t e n
  exact ⟨v,h1,h2.mono (fun _ c=>c) kf⟩
 ·by_cases hc:∃ i:Nat,caps[i]?=some (some j)
  ·obtain ⟨i,hi⟩:=hc
   have hlt:i < caps.length:=(List.getElem?_eq_some_iff.mp hi).1
   have hjl:j < s.length:=by
    have:=(List.getElem?_eq_some_iff.mp e).1
    rwa [backGo_len] at this
   rw [backGo_in M n caps si s i hi (fun i' e'=>c.inj i' i j e' hi) (by lia) hjl] at e
   have him:i∈Mi:=Decidable.byContradiction fun z=>c.no i j hi z n
   obtain ⟨a,h1,L⟩:=Ri.own i t e him
   obtain ⟨j',h2,_,h3⟩:=addr i a him h1
   rw [hi] at h2
   obtain rfl:j=j':=by injection h2 with h; injection h
   exact ⟨a,h3,L⟩
  ·rw [backGo_out M caps si s (.inr fun i z=>hc ⟨i,z⟩)] at e
   obtain ⟨a,h1,L⟩:=R.own j t e n
   refine ⟨a,h1,L.mono (fun _ c=>c) kf fun u e'=>S.keep a u (fun i hi e''=>?_) e'⟩
   obtain ⟨j',h2,h3,h4⟩:=addr i a hi e''
   have:=R.dis j j' a n h3 h1 h4
   subst this
   exact hc ⟨i,h2⟩
def TgOk(g:TG)(dg:DG)(Mi:List Nat)(caps:List (Option Nat)):Prop:=∀ F O s t s' v σ H (Q:L2.St->Hp->Prop),Rel F O Mi s σ H->Rep (Free F O) H v t->dg t s=some s'->
 (∀ σ',Rel F O Mi s' σ' H->(∀ (i j:Nat),caps[i]?=some (some j)->σ'[i]?=σ[i]?)->σ'.length=σ.length->Q σ' H)->g v σ H Q
theorem tg_name{i:Nat}{Mi:List Nat}{caps:List (Option Nat)}(hc:caps[i]?=some none:=by rfl)(hi:Mi.contains i=false:=by rfl):TgOk (gName i) (dGn i) Mi caps:=by
 intro F O s t s' v σ H Q R r hg q
 have hi':i∉Mi:=by simpa using hi
 unfold dGn at hg
 split at hg
 ·rename_i hl
  injection hg with hg
  subst hg
  refine q _ (R.setE (fun j hj=>⟨hj,fun z=>hi' (z▸hj)⟩) (fun j hj=>.inl hj) hl r) (fun k j e=>?_) ?_
  exact List.getElem?_set_ne fun z=>by subst z; rw [hc] at e; cases e
  exact List.length_set
 ·cases hg
theorem tgs_ok{Mi:List Nat}{caps:List (Option Nat)}{F:Fr}{O:Addr->Prop}{H:Hp}{Q:L2.St->Hp->Prop}:∀ {is:List Nat} {ts:List T} {vs:List V} {s s':Sg} {σ:L2.St},Rel F O Mi s σ H->(∀ i,i∈is->i∉Mi/\caps[i]?=some none)->Reps (Free F O) H vs ts->setAll is ts s=some s'->
  (∀ σ',Rel F O Mi s' σ' H->(∀ (i j:Nat),caps[i]?=some (some j)->σ'[i]?=σ[i]?)->σ'.length=σ.length->Q σ' H)->gsN is vs σ H Q
 | [],[],vs,s,s',σ,R,_,h,e,q=>by
  injection e with e
  subst e
  exact ⟨h.none,q σ R (fun _ _ _=>rfl) rfl⟩
 | [],t::ts,vs,s,s',σ,R,_,h,e,q=>by cases e
 | i::is,[],vs,s,s',σ,R,_,h,e,q=>by cases e
 | i::is,t::ts,[],s,s',σ,R,_,h,e,q=>by have:=h.1; simp at this
 | i::is,t::ts,v::vs,s,s',σ,R,hm,h,e,q=>by
  unfold setAll at e
  split at e
  ·rename_i hl
   obtain ⟨hi,hc⟩:=hm i List.mem_cons_self
   refine ⟨v,vs,rfl,tgs_ok (R.setE (fun j hj=>⟨hj,fun z=>hi (z▸hj)⟩) (fun j hj=>.inl hj) hl h.head) (fun j hj=>hm j (List.mem_cons_of_mem _ hj)) h.tail e fun σ' R' k l=>q σ' R' (fun k' j e'=>(k k' j e').trans ?_) (l.trans List.length_set)⟩
   exact List.getElem?_set_ne fun z=>by subst z; rw [hc] at e'; cases e'
  ·cases e
theorem setAll_len:∀ {is:List Nat} {ts:List T} {s s':Sg},setAll is ts s=some s'->ts.length=is.length
 | [],[],_,_,_=>rfl
 | [],_::_,_,_,e=>by cases e
 | _::_,[],_,_,e=>by cases e
 | i::is,t::ts,s,s',e=>by
  unfold setAll at e
  split at e
  ·rw [List.length_cons,List.length_cons,setAll_len e]
  ·cases e
theorem tg_tup{is:List Nat}{n:Nat}{K:PySem.W.Frag}{Mi:List Nat}{caps:List (Option Nat)}(hn:is.length=n:=by rfl)(h:is.all (fun i=>!Mi.contains i&&caps[i]? == some none)=true:=by rfl):TgOk (gTup K n (gsN is)) (dGt is) Mi caps:=by
 intro F O s t s' v σ H Q R r hg q
 obtain ⟨ts,rfl⟩:∃ ts,t=.tup ts:=by cases t<;>first | exact ⟨_,rfl⟩ | cases hg
 have hg:setAll is ts s=some s':=hg
 obtain ⟨a,vs,rfl,ha,ra⟩:=BRep.tup (.inl r)
 refine ⟨a,vs,rfl,SqT.of ha,by rw [ra.1,setAll_len hg,hn],tgs_ok R (fun i hi=>?_) ra hg q⟩
 have:=List.all_eq_true.mp h i hi
 rw [Bool.and_eq_true] at this
 exact ⟨by simpa using this.1,by simpa using this.2⟩
@[irreducible] def lcMax:Nat:=1000000
theorem lcMax_eq:lcMax=1000000:=by unfold lcMax; rfl
def lcGo(M:List Nat)(caps:List (Option Nat))(dg:DG)(ft:DT)(fe:DE):List T->List T->Sg->Option (List T × Sg)
 | [],acc,s=>some (acc,s)
 | x::xs,acc,s=>(dg x (capS caps s)).bind fun s1=>(ft s1).bind fun p=>if p.1 then (fe p.2).bind fun q=>lcGo M caps dg ft fe xs (acc++[q.1]) (backGo M caps q.2 s) else lcGo M caps dg ft fe xs acc (backGo M caps p.2 s)
def dLC(M:List Nat)(caps:List (Option Nat))(fi:DI)(dg:DG)(ft:DT)(fe:DE):DE:=fun s=>(fi s).bind fun p=>if p.1.length<=lcMax then (lcGo M caps dg ft fe p.1 [] p.2).map fun q=>(.lst q.1,q.2) else none
def dYes:DT:=fun s=>some (true,s)
theorem lc_ok{M Mi:List Nat}{caps:List (Option Nat)}{fi:DI}{g:TG}{dg:DG}{ft:DT}{fe:DE}{tt:TT}(c:CapOk caps M Mi)(hg:TgOk g dg Mi caps)(htt:∀ σ H Q,cT Mi ft σ H Q->tt σ H Q) :
  ∀ σ H Q,cE .n M (dLC M caps fi dg ft fe) σ H Q->tLC caps (cI M fi) g tt (cE .e Mi fe) σ H Q:=by
 intro σ H Q h_;refine cE_ h_ fun F O s t s' R hf q=>?_
 obtain ⟨⟨its,s1⟩,h1,h2⟩:=Qb hf
 split at h2
 case isFalse=>cases h2
 rename_i hsz
 have hsz:its.length<=lcMax:=hsz
 rw [lcMax_eq] at hsz
 obtain ⟨⟨tsE,sE⟩,h3,h4⟩:=Qm h2
 injection h4 with h4 h5
 subst h4 h5
 refine ⟨F,O,s,its,s1,R,h1,fun J H1 S1 R1 IT D hD=>?_⟩
 have nD:∀ (j:Nat),j∈M->σ[j]?≠some (some (.ref D)):=fun j hj e=>R1.al D (R1.ow j D hj e) hD
 have RD:=R1.new hD (.lst [])
 refine ⟨fun i m H'=>m=its.length - i/\i<=its.length/\∃ s' acc ys,Rel F (fun b=>O b∨b=D) M s' σ H'/\H' D=some (.lst ys)/\ys.length<=i/\Reps (Free F (fun b=>O b∨b=D)) H' ys acc/\Step σ M H H' /\
  (∀ b o,Free F O b->H1 b=some o->H' b=some o)/\lcGo M caps dg ft fe (its.drop i) acc s'=some (tsE,sE),⟨its.length,by simp,Nat.zero_le _,s1,[],[],RD,upd_same,Nat.le_refl _,.nil,S1.trans (.new hD _),fun b o _ e=>by rw [upd_ne (ne_of_none e hD)]; exact e,h3⟩,?_⟩
 rintro i m H2 ⟨rfl,hi,s2,acc,ys,R2,hD2,hy,ry,S2,k2,hl⟩
 have it:=IT H2 k2 i
 by_cases hlt:i < its.length
 ·refine .inr ?_
  obtain ⟨go,yl⟩:=it.1 its[i] (List.getElem?_eq_getElem hlt)
  rw [List.drop_eq_getElem_cons hlt] at hl
  unfold lcGo at hl
  obtain ⟨si1,hdg,hl⟩:=Qb hl
  obtain ⟨⟨b,si2⟩,hft,hl⟩:=Qb hl
  refine ⟨go,fun x H3 hy3=>?_⟩
  obtain ⟨y1,y2⟩:=yl x H3 hy3
  -- what was yielded is free of D
  have R3:Rel F (fun b=>O b∨b=D) M s2 σ H3/\(∀ b u,H2 b=some u->H3 b=some u)/\(∀ b,H3 b=none->H2 b=none):=by
   rcases y1 with rfl | ⟨p,o,hp,rfl⟩
   ·exact ⟨R2,fun _ _ e=>e,fun _ e=>e⟩
   ·exact ⟨(R2.new hp o).less (fun b z=>.inl z) R2.ow R2.inD,fun b u e=>by rw [upd_ne (ne_of_none e hp)]; exact e,fun b e=>by
     unfold upd at e
     split at e
     ·cases e
     ·exact e⟩
  obtain ⟨R3,k3,dm3⟩:=R3
  have rx:Rep (Free F (fun b=>O b∨b=D)) H3 x its[i]:=y2.mono (fun b z=>by
   rcases z with ⟨z,n⟩ | n
   ·exact ⟨fun y=>y.elim z.1 fun y=>n (y▸hD),z.2⟩
   ·exact ⟨fun y=>R2.al b y n,.inr (R2.dom b n)⟩) fun _ _ _ e=>e
  have ry3:Reps (Free F (fun b=>O b∨b=D)) H3 ys acc:=ry.mono (fun _ z=>z) fun b o _ e=>k3 b o e
  have hD3:=k3 _ _ hD2
  refine hg F _ (capS caps s2) its[i] si1 x (capSt caps σ) H3 _ (R3.cap c) rx hdg fun σ4 R4 hk4 hl4=>?_
  have hsl:∀ {sx:Sg} {Hx:Hp},Rel F (fun b=>O b∨b=D) Mi sx σ4 Hx->sx.length=caps.length:=fun {sx Hx} Rx=>by
   rw [Rx.len,hl4]
   unfold capSt
   rw [List.length_map]
  have nD4:∀ (k:Nat),k∈Mi->σ4[k]?≠some (some (.ref D)):=fun k hk e=>by
   obtain ⟨j,e1,e2⟩:=c.yes k hk
   rw [hk4 k j e1] at e
   obtain ⟨j',e3,e4⟩:=capSt_ref e
   rw [e1] at e3
   obtain rfl:j=j':=by injection e3 with h; injection h
   exact nD j e2 e4
  refine htt _ _ _ ⟨F,_,si1,b,si2,R4,hft,fun H5 S5 R5=>?_⟩
  have freeK:∀ {Hx Hy:Hp},Step σ4 Mi Hx Hy->∀ b o,(Free F O b/\b≠D)->Hx b=some o->Hy b=some o:=fun {Hx Hy} Sx b o z e=>Sx.keep b o (R4.notOwned fun y=>y.elim z.1.1 z.2) e
  have S3':∀ {Hx:Hp},Step σ4 Mi H3 Hx->Step σ M H Hx:=fun {Hx} Sx=>⟨fun b o n e=>Sx.keep b o (fun k hk e'=>by
   obtain ⟨j,e1,e2⟩:=c.yes k hk
   rw [hk4 k j e1] at e'
   obtain ⟨j',e3,e4⟩:=capSt_ref e'
   rw [e1] at e3
   obtain rfl:j=j':=by injection e3 with h; injection h
   exact n j e2 e4) (k3 b o (S2.keep b o n e)),fun b e=>S2.dom b (dm3 b (Sx.dom b e))⟩
  have keepF:∀ {Hx:Hp},Step σ4 Mi H3 Hx->∀ b o,Free F O b->H1 b=some o->Hx b=some o:=fun {Hx} Sx b o z e=>freeK Sx b o ⟨z,fun y=>by rw [y,hD] at e; cases e⟩ (k3 b o (k2 b o z e))
  cases b with
  | false=>
   rw [if_neg Bool.false_ne_true] at hl
   dsimp only
   rw [if_neg Bool.false_ne_true]
   exact ⟨its.length - (i+1),by lia,rfl,hlt,backGo M caps si2 s2,acc,ys,R3.back c S5 R5 hk4 (hsl R5),S5.keep D _ nD4 hD3,Nat.le_succ_of_le hy,ry3.mono (fun _ z=>z) fun b o z e=>S5.keep b o (R4.notOwned z.1) e,S3' S5,keepF S5,hl⟩
  | true=>
   rw [if_pos rfl] at hl
   dsimp only
   rw [if_pos rfl]
   obtain ⟨⟨te,si3⟩,hfe,hl⟩:=Qb hl
   refine ⟨F,_,si2,te,si3,R5,hfe,fun y H6 S6 p6=>?_⟩
   have S56:=S5.trans S6
   have hD6:H6 D=some (.lst ys):=S56.keep D _ nD4 hD3
   have R6:=R3.back c S56 p6.1 hk4 (hsl p6.1)
   refine ⟨ys,hD6,by rw [sizeLine_eq]; lia,its.length - (i+1),by lia,rfl,hlt,backGo M caps si3 s2,acc++[te],ys++[y],?_,upd_same,by rw [List.length_append,List.length_singleton]; lia,?_,?_,?_,hl⟩
   ·-- D is nobody's: writing there keeps the relation
    have kD:∀ b u,b≠D->H6 b=some u->upd H6 D (.lst (ys++[y])) b=some u:=fun b u n e=>by rw [upd_ne n]; exact e
    refine ⟨R6.len,fun j t e n=>?_,fun j t e n=>?_,R6.ow,R6.dis,fun b u n e=>?_,fun b e=>?_,R6.fresh,R6.inD,fun b z e=>?_⟩
    ·obtain ⟨v,a1,a2⟩:=R6.val j t e n
     exact ⟨v,a1,a2.mono (fun _ z=>z) fun b u z e=>kD b u (fun w=>z.1 (.inr w)) e⟩
    ·obtain ⟨a,a1,a2⟩:=R6.own j t e n
     exact ⟨a,a1,a2.mono (fun _ z=>z) (fun b u z e=>kD b u (fun w=>z.1 (.inr w)) e) fun u e=>kD a u (fun w=>nD j n (w▸a1)) e⟩
    ·refine kD b u (fun w=>?_) (R6.keep b u n e)
     subst w
     have:=R1.dom b hD
     rw [this] at e; cases e
    ·refine R6.dom b ?_
     unfold upd at e
     split at e
     ·cases e
     ·exact e
    ·refine R6.al b z ?_
     unfold upd at e
     split at e
     ·cases e
     ·exact e
   ·have r1:Reps (Free F (fun b=>O b∨b=D)) H6 (ys++[y]) (acc++[te]):=(ry3.mono (fun _ z=>z) fun b o z e=>S56.keep b o (R4.notOwned z.1) e).snoc p6.2
    exact r1.mono (fun _ z=>z) fun b u z e=>by rw [upd_ne (fun w=>z.1 (.inr w))]; exact e
   ·exact ⟨fun b o n e=>by rw [upd_ne (ne_of_none e (S1.dom D hD))]; exact (S3' S56).keep b o n e,fun b e=>(S3' S56).dom b (by
     unfold upd at e
     split at e
     ·cases e
     ·exact e)⟩
   ·exact fun b o z e=>by rw [upd_ne (ne_of_none e hD)]; exact keepF S56 b o z e
 ·have e:i=its.length:=by lia
  subst e
  rw [List.drop_length] at hl
  injection hl with hl
  injection hl with e1 e2
  subst e1 e2
  exact .inl ⟨it.2 (Nat.le_refl _),q _ H2 S2 ⟨D,rfl,S1.dom D hD,R2,.lst hD2 ry⟩⟩
end L3
namespace L3
open PySem PySem.Spec PyProof.Rows L2
variable [TheK]
theorem peor{X:Cx}{e:Expr}{t t':TE}(h:PE X e t)(h':PE X e t'):PE X e (fun σ H Q=>t σ H Q∨t' σ H Q):=fun pins s σ H Q I q=>q.elim (h pins s σ H Q I) (h' pins s σ H Q I)
theorem ptor{X:Cx}{e:Expr}{t t':TT}(h:PT X e t)(h':PT X e t'):PT X e (fun σ H Q=>t σ H Q∨t' σ H Q):=fun pins s σ H Q I q=>q.elim (h pins s σ H Q I) (h' pins s σ H Q I)
theorem pior{X:Cx}{tg e:Expr}{t t':TI}(h:PI X tg e t)(h':PI X tg e t'):PI X tg e (fun σ H R=>t σ H R∨t' σ H R):=fun pins s σ H R I q=>q.elim (h pins s σ H R I) (h' pins s σ H R I)
theorem either{M:List Nat}{k k' k2:Kd}{f f' f2:DE}(hs:∀ s p,f2 s=some p->f s=some p∨f' s=some p)(hk:∀ F O σ H s' t v H' (s:Sg),Rel F O M s σ H->Post k F O M σ H s' t v H'->Post k2 F O M σ H s' t v H')(hk':∀ F O σ H s' t v H' (s:Sg),Rel F O M s σ H->Post k' F O M σ H s' t v H'->Post k2 F O M σ H s' t v H') :
  ∀ σ H Q,cE k2 M f2 σ H Q->cE k M f σ H Q∨cE k' M f' σ H Q:=by
 intro σ H Q h_;refine cE_ h_ fun F O s t s' R hf q=>?_
 rcases hs s _ hf with h | h
 ·exact .inl ⟨F,O,s,t,s',R,h,fun v H' S p=>q v H' S (hk F O σ H s' t v H' s R p)⟩
 ·exact .inr ⟨F,O,s,t,s',R,h,fun v H' S p=>q v H' S (hk' F O σ H s' t v H' s R p)⟩
def orG(g g':T->T->Option T):T->T->Option T:=fun x y=>match g x y with
 | some t=>some t
 | none=>g' x y
theorem orG_of{g g':T->T->Option T}{x y:T}{t:T}(h:orG g g' x y=some t):g x y=some t∨g' x y=some t:=by
 unfold orG at h
 cases e:g x y with
 | none=>rw [e] at h; exact .inr h
 | some u=>rw [e] at h; exact .inl h
theorem d2_or{g g':T->T->Option T}{fa fb:DE}:∀ s p,d2 (orG g g') fa fb s=some p->d2 g fa fb s=some p∨d2 g' fa fb s=some p:=fun s p h=>by
 obtain ⟨t,s'⟩:=p
 obtain ⟨x,s1,y,h1,h2,h3⟩:=d2_some h
 rcases orG_of h3 with e | e
 ·left; unfold d2; rw [h1,Option.bind_some,h2,Option.bind_some,e]; rfl
 ·right; unfold d2; rw [h1,Option.bind_some,h2,Option.bind_some,e]; rfl
theorem d2v_or{g g':T->T->Option T}{i:Nat}{fb:DE}:∀ s p,d2v (orG g g') i fb s=some p->d2v g i fb s=some p∨d2v g' i fb s=some p:=fun s p h=>by
 obtain ⟨t,s'⟩:=p
 obtain ⟨x0,x,y,h0,h1,h2,h3⟩:=d2v_some h
 have j0:(s[i]?).join=some x0:=by rw [h0]; rfl
 have j2:(s'[i]?).join=some x:=by rw [h2]; rfl
 rcases orG_of h3 with e | e
 ·left; unfold d2v; rw [j0,Option.bind_some,h1,Option.bind_some,j2,Option.bind_some,e]; rfl
 ·right; unfold d2v; rw [j0,Option.bind_some,h1,Option.bind_some,j2,Option.bind_some,e]; rfl
def gItem:=orG gIx gDIx
def gInA:=orG gIn gDIn
def gNotInA:=orG gNotIn gDNotIn
def gPlus:=orG gAdd gCat
section
variable {X:Cx}{M:List Nat}{a b c e:Expr}{fa fb fe:DE}{pos p:Pos}
theorem idE:∀ (F:Fr) (O:Addr->Prop) (σ:L2.St) (H:Hp) (s':Sg) (t:T) (v:V) (H':Hp) (s:Sg),Rel F O M s σ H->Post .e F O M σ H s' t v H'->Post .e F O M σ H s' t v H':=fun _ _ _ _ _ _ _ _ _ _ p=>p
theorem neE:∀ (F:Fr) (O:Addr->Prop) (σ:L2.St) (H:Hp) (s':Sg) (t:T) (v:V) (H':Hp) (s:Sg),Rel F O M s σ H->Post .n F O M σ H s' t v H'->Post .e F O M σ H s' t v H':=fun _ _ _ _ _ _ _ _ _ R p=>p.ne R
theorem e_item(hK:X.K=TheK.K)(hu:X.A.units+1 < cLine)(ha:PE X a (cE .e M fa))(hb:PE X b (cE .b M fb))(hs:PlainIx b):PE X (.Subscript a b pos) (cE .e M (d2 gItem fa fb)):=weak (peor (e_ix hK ha hb hs) (e_dix hu ha hb hs)) (either d2_or idE idE)
theorem e_itemV{i:Nat}(hK:X.K=TheK.K)(hi:M.contains i=true)(hu:X.A.units+1 < cLine)(ha:PE X a (tVar i))(hb:PE X b (cE .b M fb))(hs:PlainIx b):PE X (.Subscript a b pos) (cE .e M (d2v gItem i fb)):=weak (peor (e_ixV hK hi ha hb hs) (e_dixV hi hu ha hb hs)) (either d2v_or idE idE)
theorem eitherT{f f' f2:DE}(hs:∀ s p,f2 s=some p->f s=some p∨f' s=some p):∀ σ H Q,cT M (dB f2) σ H Q->cT M (dB f) σ H Q∨cT M (dB f') σ H Q:=by
 intro σ H Q h_;refine cT_ h_ fun F O s b s' R hf q=>?_
 rcases hs s _ (dB_some hf) with h | h
 ·exact .inl ⟨F,O,s,b,s',R,by unfold dB; rw [h]; rfl,q⟩
 ·exact .inr ⟨F,O,s,b,s',R,by unfold dB; rw [h]; rfl,q⟩
theorem t_notinA(hu:X.A.units+1 < cLine)(ha:PE X a (cE .e M fa))(hb:PE X b (cE .b M fb))(hm:behindInMarks .NotIn b=false):PT X (.Compare a [.NotIn] [b] pos) (cT M (dB (d2 gNotInA fa fb))):=weakT (ptor (t_notin ha hb hm) (t_dnotin hu ha hb hm)) (eitherT d2_or)
theorem e_plus(ha:PE X a (cE .e M fa))(hb:PE X b (cE .b M fb)):PE X (.BinOp a .Add b pos) (cE .e M (d2 gPlus fa fb)):=weak (peor (e_add ha hb) (e_cat ha hb)) (either d2_or idE neE)
def gSlA(x:T)(lo hi:Option Int):Option T:=match x with
 | .str _=>gSlS x lo hi
 | _=>gSl x lo hi
theorem dSl_or{fl fh:DO}:∀ s p,dSl gSlA fa fl fh s=some p->dSl gSlS fa fl fh s=some p∨dSl gSl fa fl fh s=some p:=fun s p h=>by
 obtain ⟨p1,h1,h2⟩:=Qb h
 obtain ⟨q1,h3,h4⟩:=Qb h2
 obtain ⟨r1,h5,h6⟩:=Qb h4
 obtain ⟨t,h7,h8⟩:=Qm h6
 have e:gSlS p1.1 q1.1 r1.1=some t∨gSl p1.1 q1.1 r1.1=some t:=by
  unfold gSlA at h7
  split at h7
  ·exact .inl h7
  ·exact .inr h7
 rcases e with e | e
 ·left; unfold dSl; rw [h1,Option.bind_some,h3,Option.bind_some,h5,Option.bind_some,e]; exact congrArg some h8
 ·right; unfold dSl; rw [h1,Option.bind_some,h3,Option.bind_some,h5,Option.bind_some,e]; exact congrArg some h8
theorem e_slA{lo hi:Option Expr}{fl fh:DO}{p2:Pos}(hK:X.K=TheK.K)(he:PE X e (cE .e M fe))(hl:PO X lo (cO M fl))(hu:PO X hi (cO M fh)):PE X (.Subscript e (.Slice lo hi none p2) pos) (cE .e M (dSl gSlA fe fl fh)):=weak (peor (e_slS he hl hu) (e_sl hK he hl hu)) (either dSl_or idE neE)
def kT:Key->T
 | .inl i=>.int i
 | .inr x=>.str x
theorem kT_rep{C:Addr->Prop}{H:Hp}(k:Key):Rep C H (kV k) (kT k):=by
 cases k with
 | inl i=>exact .int i
 | inr x=>exact .str x
theorem keys_reps{C:Addr->Prop}{H:Hp}:∀ {vs:List (Key × V)} {ts:List (Key × T)},vs.map (·.1)=ts.map (·.1)->Reps C H (vs.map fun kv=>kV kv.1) (ts.map fun kv=>kT kv.1)
 | [],[],_=>.nil
 | p::vs,[],h=>by simp at h
 | [],q::ts,h=>by simp at h
 | p::vs,q::ts,h=>by
  rw [List.map_cons,List.map_cons] at h
  injection h with h1 h2
  rw [List.map_cons,List.map_cons,h1]
  exact .cons (kT_rep _) (keys_reps h2)
def signT(c:Nat):T:=.str ⟨#[c]⟩
def dItA(f:DE):DI:=fun s=>(f s).bind fun p=>match p.1 with
 | .lst xs=>some (xs,p.2)
 | .scr ns=>some (ns.map .int,p.2)
 | .tup xs=>some (xs,p.2)
 | .fd kvs=>some (kvs.map fun kv=>kT kv.1,p.2)
 | .str x=>some (x.cps.toList.map signT,p.2)
 | _=>none
def dItF(f:DE):DI:=fun s=>(f s).bind fun p=>match p.1 with
 | .fd kvs=>some (kvs.map fun kv=>kT kv.1,p.2)
 | _=>none
def dItS(f:DE):DI:=fun s=>(f s).bind fun p=>match p.1 with
 | .str x=>some (x.cps.toList.map signT,p.2)
 | _=>none
theorem it_dict{F:Fr}{O:Addr->Prop}{H1:Hp}{a:Addr}{o:Obj}{kvs:List (Key × V)}{f:Key × V->V}{ts:List T}(fr:Free F O a)(ha:H1 a=some (.frz o (.dK kvs)))(r:Reps (Free F O) H1 (kvs.map f) ts):ItOk F O ts (Itd f a o) H1:=by
 intro H2 k i
 have h2:=k a _ fr ha
 have hl0:kvs.length=ts.length:=by have:=r.1; simpa using this
 refine ⟨fun t ht=>?_,fun hl=>⟨kvs,h2,by rw [hl0]; exact hl⟩⟩
 obtain ⟨v,hv,rv⟩:=r.get ht
 rw [List.getElem?_map] at hv
 obtain ⟨y,hy,hyv⟩:=Qm hv
 refine ⟨⟨kvs,y,h2,hy⟩,fun x H3 ⟨e1,e2⟩=>⟨.inl e1,?_⟩⟩
 have:=e2 kvs h2
 rw [hy] at this
 have hx:f y=x:=Option.some.inj this
 subst hx hyv e1
 exact rv.there.mono (fun b c=>.inl c) fun b o c e=>k b o c.1 e
theorem i_fd{tg:Expr}(h:PE X e (cE .e M fe)):PI X tg e (cI M (dItF fe)):=weakI (pi_dict h) (by
 intro σ H R h_;refine cI_ h_ fun F O s its s' Rl hf q=>?_
 obtain ⟨⟨p1,p2⟩,h1,h2⟩:=Qb hf
 obtain ⟨ks,rfl⟩:∃ ks,p1=.fd ks:=by cases p1<;>first | exact ⟨_,rfl⟩ | cases h2
 injection h2 with h2
 injection h2 with h3 h4
 subst h3 h4
 refine ⟨F,O,s,_,_,Rl,h1,fun v H1 S1 p=>?_⟩
 obtain ⟨a,o,kvs,rfl,ha,ra,fr⟩:=BRep.fd (.inl p.2)
 exact ⟨a,o,kvs,rfl,ha,q _ H1 S1 p.1 (it_dict fr ha (keys_reps ra.1))⟩)
theorem i_sign{tg:Expr}(h:PE X e (cE .e M fe)):PI X tg e (cI M (dItS fe)):=weakI (pi_sign h) (by
 intro σ H R h_;refine cI_ h_ fun F O s its s' Rl hf q=>?_
 obtain ⟨⟨p1,p2⟩,h1,h2⟩:=Qb hf
 obtain ⟨x,rfl⟩:∃ x,p1=.str x:=by cases p1<;>first | exact ⟨_,rfl⟩ | cases h2
 injection h2 with h2
 injection h2 with h3 h4
 subst h3 h4
 refine ⟨F,O,s,_,_,Rl,h1,fun v H1 S1 p=>?_⟩
 refine ⟨x,BRep.str (.inl p.2),q _ H1 S1 p.1 ?_⟩
 intro H2 k i
 refine ⟨fun t ht=>?_,fun hl=>by simpa [Its] using hl⟩
 rw [List.getElem?_map] at ht
 obtain ⟨c,hc,rfl⟩:=Qm ht
 have hc':x.cps[i]?=some c:=by simpa using hc
 refine ⟨(Array.getElem?_eq_some_iff.mp hc').1,fun y H3 ⟨e1,c',e2,e3⟩=>⟨.inl e1,?_⟩⟩
 rw [hc'] at e2
 cases e2
 subst e3
 exact .str _)
theorem i_any{tg:Expr}(hK:X.K=TheK.K)(h:PE X e (cE .e M fe)):PI X tg e (cI M (dItA fe)):=weakI (pior (pior (i_list hK h) (i_tup h)) (pior (i_fd h) (i_sign h))) (by
 intro σ H R h_;refine cI_ h_ fun F O s its s' Rl hf q=>?_
 obtain ⟨⟨p1,p2⟩,h1,h2⟩:=Qb hf
 cases p1 with
 | lst xs=>exact .inl (.inl ⟨F,O,s,its,s',Rl,by unfold dIt; rw [h1]; exact h2,q⟩)
 | scr xs=>exact .inl (.inl ⟨F,O,s,its,s',Rl,by unfold dIt; rw [h1]; exact h2,q⟩)
 | tup xs=>exact .inl (.inr ⟨F,O,s,its,s',Rl,by unfold dItT; rw [h1]; exact h2,q⟩)
 | fd xs=>exact .inr (.inl ⟨F,O,s,its,s',Rl,by unfold dItF; rw [h1]; exact h2,q⟩)
 | str x=>exact .inr (.inr ⟨F,O,s,its,s',Rl,by unfold dItS; rw [h1]; exact h2,q⟩)
 | _=>cases h2)
variable {es:List Expr}{fs:DA}{x:Str}{k:Nat}{f:Addr}{fd:FuncData}{ps:List Str}{np:Nat}
theorem e_call{fn:List T->Option T}(F:FnOk X.prog X.w X.K X.mg X.base CX0 k f fd ps (spP .e np fn))(hr:Room k X.A)(hg:Gl X x)(hm:X.mg x=some (.ref f))(hk:PySem.W.keepIn X.K (.ref f)=true)(hb:Binds X.K fd ps [])
  (ha:PA X (e::es) (cA M fs)) (ar:Ar fs np) (hdb:(x == ("__debug__":Str))=false:=by decide) (he:starEach (e::es) X.env=(false,eval e X.env)::starEach es X.env:=by rfl) (hpl:(backTo pos (starEach es X.env)).any (·.1)=false:=by rfl) :
  PE X (.Call (.Name x p) (e::es) [] pos) (cE .e M (dCall fn fs)):=weak (pe_call F hr hg hm hk hb .nil pass0 ha hdb he hpl) (call_e ar)
theorem e_callN{fn:List T->Option T}(F:FnOk X.prog X.w X.K X.mg X.base CX0 k f fd ps (spP .n np fn))(hr:Room k X.A)(hg:Gl X x)(hm:X.mg x=some (.ref f))(hk:PySem.W.keepIn X.K (.ref f)=true)(hb:Binds X.K fd ps [])
  (ha:PA X (e::es) (cA M fs)) (ar:Ar fs np) (hdb:(x == ("__debug__":Str))=false:=by decide) (he:starEach (e::es) X.env=(false,eval e X.env)::starEach es X.env:=by rfl) (hpl:(backTo pos (starEach es X.env)).any (·.1)=false:=by rfl) :
  PE X (.Call (.Name x p) (e::es) [] pos) (cE .n M (dCall fn fs)):=weak (pe_call F hr hg hm hk hb .nil pass0 ha hdb he hpl) (call_n ar)
theorem e_callI{fn:List T->Option (T × T)}{i:Nat}(hi:M.contains i=true)(F:FnOk X.prog X.w X.K X.mg X.base CX0 k f fd ps (spI .e (np+1) fn))(hr:Room k X.A)(hg:Gl X x)(hm:X.mg x=some (.ref f))(hk:PySem.W.keepIn X.K (.ref f)=true)(hb:Binds X.K fd ps [])
  (h0:PE X e (tVar i)) (ha:PA X es (cA M fs)) (ar:Ar fs np) (hdb:(x == ("__debug__":Str))=false:=by decide) (he:starEach (e::es) X.env=(false,eval e X.env)::starEach es X.env:=by rfl) (hpl:(backTo pos (starEach es X.env)).any (·.1)=false:=by rfl) :
  PE X (.Call (.Name x p) (e::es) [] pos) (cE .e M (dCallI fn i fs)):=weak (pe_call F hr hg hm hk hb .nil pass0 (pa_cons h0 ha he) hdb he hpl) (callI_e ar hi)
theorem e_callT{fn:List T->Option (T × T)}{rk:Kd}(hrk:rk=.e∨rk=.n)(F:FnOk X.prog X.w X.K X.mg X.base CX0 k f fd ps (spI rk (np+1) fn))(hr:Room k X.A)(hg:Gl X x)(hm:X.mg x=some (.ref f))(hk:PySem.W.keepIn X.K (.ref f)=true)(hb:Binds X.K fd ps [])
  (h0:PE X e (cE .n M fe)) (ha:PA X es (cA M fs)) (ar:Ar fs np) (hdb:(x == ("__debug__":Str))=false:=by decide) (he:starEach (e::es) X.env=(false,eval e X.env)::starEach es X.env:=by rfl) (hpl:(backTo pos (starEach es X.env)).any (·.1)=false:=by rfl) :
  PE X (.Call (.Name x p) (e::es) [] pos) (cE rk M (dCallN fn fe fs)):=weak (pe_call F hr hg hm hk hb .nil pass0 (pa_cons h0 ha he) hdb he hpl) (callN_x hrk ar)
theorem e_len(hK:X.K=TheK.K)(hg:Gl X "len")(hm:X.mg "len"=none)(h:PE X e (cE .b M fe))(he:starEach [e] X.env=(false,eval e X.env)::starEach [] X.env:=by rfl)(hpl:(backTo pos (starEach [] X.env)).any (·.1)=false:=by rfl):PE X (.Call (.Name "len" p) [e] [] pos) (cE .e M (d1 gLen fe)):=
 weak (pe_callB (((show CallR X _ _ from hK▸call_len_seq).or call_len_str).or call_lenR) hg hm PySem.boot_len (pa_cons h pa_nil he) (by decide) (by decide) he hpl) (one_e s_len)
theorem e_isi{cn:String}{ce:Expr}(hc:okTy cn=true)(hg:Gl X "isinstance")(hm:X.mg "isinstance"=none)(h:PE X e (cE .b M fe))(h2:PE X ce (tC (.ty cn)))(he:starEach [e,ce] X.env=(false,eval e X.env)::starEach [ce] X.env:=by rfl)(he2:starEach [ce] X.env=(false,eval ce X.env)::starEach [] X.env:=by rfl)(hpl:(backTo pos (starEach [ce] X.env)).any (·.1)=false:=by rfl) :
  PE X (.Call (.Name "isinstance" p) [e,ce] [] pos) (cE .e M (dIsi cn fe)):=weak (pe_callB call_isi hg hm bt_isinstance (pa_cons h (pa_cons h2 pa_nil he2) he) (by decide) (by decide) he hpl) (isi_e hc)
theorem e_append{i:Nat}{o:Expr}{apos:Pos}(hi:M.contains i=true)(h:PE X (.Call (.Attribute o "append" apos) (e::es) [] pos) (tBM X.K "list" rAppend (tVar i) (cA M fs))):PE X (.Call (.Attribute o "append" apos) (e::es) [] pos) (cE .e M (dMut mApp i fs)):=weak h (mut_e hi m_app)
theorem e_extend{i:Nat}{o:Expr}{apos:Pos}(hi:M.contains i=true)(h:PE X (.Call (.Attribute o "extend" apos) (e::es) [] pos) (tBM X.K "list" rExtend (tVar i) (cA M fs))):PE X (.Call (.Attribute o "extend" apos) (e::es) [] pos) (cE .e M (dMut mExt i fs)):=weak h (mut_e hi m_ext)
theorem yes_ok{Mi:List Nat}:∀ σ H Q,cT Mi dYes σ H Q->tAll σ H Q:=by
 intro σ H Q h_;refine cT_ h_ fun F O s b s' R hf q=>?_
 injection hf with hf
 injection hf with h1 h2
 subst h1 h2
 exact q H .refl R
theorem e_lc{Mi:List Nat}{caps:List (Option Nat)}{fi:DI}{g:TG}{dg:DG}{ft:DT}{tt:TT}(c:capB caps M Mi=true)(hg:TgOk g dg Mi caps)(htt:∀ σ H Q,cT Mi ft σ H Q->tt σ H Q)(h:PE X e (tLC caps (cI M fi) g tt (cE .e Mi fe))):PE X e (cE .n M (dLC M caps fi dg ft fe)):=weak h (lc_ok (.of c) hg htt)
theorem asg_w{st:Stmt}{t t':TE}{g:TG}(h:PS X st (tAsg t g))(hw:∀ σ H Q,t' σ H Q->t σ H Q):PS X st (tAsg t' g):=weakS h fun D σ H q=>hw σ H _ q
theorem s_lc{st:Stmt}{Mi:List Nat}{caps:List (Option Nat)}{fi:DI}{g:TG}{g2:TG}{dg:DG}{ft:DT}{tt:TT}(c:capB caps M Mi=true)(hg:TgOk g dg Mi caps)(htt:∀ σ H Q,cT Mi ft σ H Q->tt σ H Q)(h:PS X st (tAsg (tLC caps (cI M fi) g tt (cE .e Mi fe)) g2)):PS X st (tAsg (cE .n M (dLC M caps fi dg ft fe)) g2):=asg_w h (lc_ok (.of c) hg htt)
theorem s_nE{st:Stmt}{g2:TG}{ff:DE}(h:PS X st (tAsg (cE .n M ff) g2)):PS X st (tAsg (cE .e M ff) g2):=asg_w h fun σ H Q h_=>cE_ h_ fun F O s t s' R hf q=>⟨F,O,s,t,s',R,hf,fun v H' S p=>q v H' S (p.ne R)⟩
theorem pgor{tg:Expr}{t t':TG}(h:PG X tg t)(h':PG X tg t'):PG X tg (fun v σ H Q=>t v σ H Q∨t' v σ H Q):=fun pins s σ H v u Q I r q=>q.elim (h pins s σ H v u Q I r) (h' pins s σ H v u Q I r)
end
end L3
namespace L3
open PySem PySem.Spec PyProof.Rows L2
variable [TheK]
section
variable {X:Cx}{M:List Nat}{a b c e:Expr}{fa fb fc fe fk:DE}{pos p:Pos}
def gListA:T->Option T
 | .lst xs=>some (.lst xs) | .tup xs=>some (.lst xs) | .scr ns=>some (.lst (ns.map .int)) | .dct kvs=>some (.lst (kvs.map fun kv=>kT kv.1)) | .fd kvs=>some (.lst (kvs.map fun kv=>kT kv.1))
 | _=>none
theorem s_listA:S1N (fun xs H Q=>(∃ p ys,xs=[.ref p]/\(SqL TheK.K H p ys∨SqT TheK.K H p ys)/\∀ l,H l=none->Q (.ref l) (upd H l (.lst ys)))∨∃ a kvs,xs=[V.ref a]/\Rd H a (.dK kvs)/\∀ l,H l=none->Q (.ref l) (upd H l (.lst (kvs.map fun kv=>kV kv.1)))) gListA:=by
 intro C H x tx t Q bx hg q
 cases tx with
 | dct ts=>
  injection hg with hg; subst hg
  obtain ⟨a,kvs,rfl,ha,ra⟩:=bx.dct
  exact .inr ⟨a,kvs,rfl,.inl ha,fun p hp=>q p _ hp fun C' hC=>.lst upd_same (keys_reps ra.1)⟩
 | fd ts=>
  injection hg with hg; subst hg
  obtain ⟨a,ob,kvs,rfl,ha,ra,_⟩:=bx.fd
  exact .inr ⟨a,kvs,rfl,.inr ⟨ob,ha⟩,fun p hp=>q p _ hp fun C' hC=>.lst upd_same (keys_reps ra.1)⟩
 | lst ts=>exact .inl (s_list C H x (.lst ts) t Q bx hg q)
 | tup ts=>exact .inl (s_list C H x (.tup ts) t Q bx hg q)
 | scr ts=>exact .inl (s_list C H x (.scr ts) t Q bx hg q)
 | _=>cases hg
theorem e_listA(hK:X.K=TheK.K)(hc:X.calm=true)(hg:Gl X "list")(hm:X.mg "list"=none)(h:PE X e (cE .b M fe))(he:starEach [e] X.env=(false,eval e X.env)::starEach [] X.env:=by rfl)(hpl:(backTo pos (starEach [] X.env)).any (·.1)=false:=by rfl):PE X (.Call (.Name "list" p) [e] [] pos) (cE .n M (d1 gListA fe)):=
 weak (pe_callTy (CallR.or (show CallR X _ _ from hK▸call_list_of) (call_list_dict hc)) hg hm bt_list (pa_cons h pa_nil he) (by decide) (by decide) he hpl) (one_n s_listA)
def gNeg:T->Option T
 | .int i=>some (.int (-i))
 | _=>none
end
end L3
namespace L3
open PySem PySem.Spec PyProof.Rows L2
variable [TheK]
section
variable {X:Cx}{M:List Nat}{e st:Expr}{fe:DE}{fk:DO}{pos p2:Pos}
def dLR(f:DA):DE:=fun s=>(f s).bind fun p=>match p.1 with
 | [.int j]=>if rgOk j=true then some (.lst (rangeT 0 j.toNat),p.2) else none
 | _=>none
theorem rgOk_small{j:Int}(h:rgOk j=true):-16777216<=j/\j<=16777216:=by
 have:=Nat.le_of_ble_eq_true h
 lia
theorem e_listRange{a:Expr}{fa:DA}{p p' pos':Pos}(hc:X.calm=true)(hg:Gl X "list")(hm:X.mg "list"=none)(hg':Gl X "range")(hm':X.mg "range"=none)(ha:PA X [a] (cA M fa))(hs:starEach [a] X.env=[(false,eval a X.env)]:=by rfl)
  (hs':starEach [.Call (.Name "range" p') [a] [] pos'] X.env=[(false,eval (.Call (.Name "range" p') [a] [] pos') X.env)]:=by rfl) :
  PE X (.Call (.Name "list" p) [.Call (.Name "range" p') [a] [] pos'] [] pos) (cE .n M (dLR fa)):=weak (pe_listRange hc hg hm hg' hm' ha hs hs') (by
 intro σ H Q h_;refine cE_ h_ fun F O s t s' R hf q=>?_
 obtain ⟨⟨p1,p2⟩,h1,h2⟩:=Qb hf
 refine ⟨F,O,s,p1,p2,R,h1,fun vs H1 S1 R1 rs=>?_⟩
 dsimp only at h2
 split at h2
 case h_2=>cases h2
 ·rename_i j
  have h2:(if rgOk j=true then some (T.lst (rangeT 0 j.toNat),p2) else none)=some (t,s'):=h2
  split at h2
  ·rename_i hj
   have hj:=rgOk_small hj
   injection h2 with h2
   injection h2 with h3 h4
   subst h3 h4
   obtain ⟨v,rfl,rv⟩:=rs.one
   obtain rfl:v=.int j:=BRep.int (.inl rv)
   refine ⟨j,rfl,by lia,hj.2,fun b hb=>q _ _ (S1.trans (.new hb _)) (.mkN R R1 S1 hb fun C' hC=>.lst upd_same ?_)⟩
   have e:((List.range j.toNat).map fun (k:Nat)=>V.int k)=((List.range j.toNat).map fun (k:Nat)=>(k:Int)).map V.int:=by rw [List.map_map]; rfl
   have e':rangeT 0 j.toNat=((List.range j.toNat).map fun (k:Nat)=>(k:Int)).map T.int:=by
    unfold rangeT
    rw [List.map_map]
    refine List.map_congr_left fun k _=>?_
    rw [Int.zero_add]; rfl
   rw [e,e']
   exact reps_ints _
  ·cases h2)
end
end L3
namespace L3
open PySem PySem.Spec PyProof.Rows L2
variable [TheK]
def gIndex(x y:T):Option T:=match x with
 | .lst ts=>(toVs ts).bind fun vs=>(toV y).bind fun v=>(vs.findIdx? fun u=>eqV u v).map fun (j:Nat)=>.int j
 | _=>none
def blsT:List T->Option (List Bool)
 | []=>some []
 | .bl b::ts=>(blsT ts).map (b::·)
 | _=>none
theorem blsT_ok{C:Addr->Prop}{H:Hp}:∀ {vs:List V} {ts:List T} {bs:List Bool},Reps C H vs ts->blsT ts=some bs->vs=bs.map V.bl
 | [],[],bs,_,h=>by injection h with h; subst h; rfl
 | [],_::_,_,r,_=>by have:=r.1; simp at this
 | _::_,[],_,r,_=>by have:=r.1; simp at this
 | v::vs,t::ts,bs,r,h=>by
  obtain ⟨b,rfl⟩:∃ b,t=.bl b:=by cases t<;>first | exact ⟨_,rfl⟩ | cases h
  obtain ⟨l,h1,rfl⟩:=Qm (show (blsT ts).map (b::·)=some bs from h)
  rw [blsT_ok r.tail h1,BRep.bl (.inl r.head)]; rfl
def gAll:T->Option T
 | .lst ts=>(blsT ts).map fun bs=>.bl (bs.all id)
 | _=>none
def gAny:T->Option T
 | .lst ts=>(blsT ts).map fun bs=>.bl (bs.any id)
 | _=>none
theorem s_all:S1E (fun xs H Q=>∃ (a:Addr) (bs:List Bool),xs=[V.ref a]/\SqL TheK.K H a (bs.map V.bl)/\Q (.bl (bs.all id)) H) gAll:=by
 intro C H x tx t Q bx hg q
 obtain ⟨ts,rfl⟩:∃ ts,tx=.lst ts:=by cases tx<;>first | exact ⟨_,rfl⟩ | cases hg
 obtain ⟨bs,h1,rfl⟩:=Qm (show (blsT ts).map (fun bs=>T.bl (bs.all id))=some t from hg)
 obtain ⟨a,us,rfl,ha,ra⟩:=bx.lst
 rw [blsT_ok ra h1] at ha
 exact ⟨a,bs,rfl,SqL.of ha,q _ (.bl _)⟩
theorem bt_all:bootBuiltins "all"=some (.builtin "all"):=by first | exact PyProof.Rows.boot_all | decide +kernel
section
variable {X:Cx}{M:List Nat}{e o:Expr}{fa fe:DE}{p pos apos:Pos}
theorem e_all(hK:X.K=TheK.K)(hc:X.calm=true)(hg:Gl X "all")(hm:X.mg "all"=none)(h:PE X e (cE .b M fe))(he:starEach [e] X.env=(false,eval e X.env)::starEach [] X.env:=by rfl)(hpl:(backTo pos (starEach [] X.env)).any (·.1)=false:=by rfl):PE X (.Call (.Name "all" p) [e] [] pos) (cE .e M (d1 gAll fe)):=
 weak (pe_callB (show CallR X _ _ from hK▸call_all hc) hg hm bt_all (pa_cons h pa_nil he) (by decide) (by decide) he hpl) (one_e s_all)
end
end L3
namespace L3
open PySem PySem.Spec PyProof.Rows L2
variable [TheK]
def intsT:List T->Option (List Int)
 | []=>some []
 | .int i::ts=>(intsT ts).map (i::·)
 | _=>none
theorem intsT_ok{C:Addr->Prop}{H:Hp}:∀ {vs:List V} {ts:List T} {ns:List Int},Reps C H vs ts->intsT ts=some ns->vs=ns.map V.int
 | [],[],ns,_,h=>by injection h with h; subst h; rfl
 | [],_::_,_,r,_=>by have:=r.1; simp at this
 | _::_,[],_,r,_=>by have:=r.1; simp at this
 | v::vs,t::ts,ns,r,h=>by
  obtain ⟨b,rfl⟩:∃ b,t=.int b:=by cases t<;>first | exact ⟨_,rfl⟩ | cases h
  obtain ⟨l,h1,rfl⟩:=Qm (show (intsT ts).map (b::·)=some ns from h)
  rw [intsT_ok r.tail h1,BRep.int (.inl r.head)]; rfl
def gSorted:T->Option T
 | .lst ts=>match strsT ts with
  | some ss=>if ss.length < 64 then some (.lst ((sortS ss).map T.str)) else none
  | none=>(intsT ts).bind fun ns=>if ns.length < 64 then some (.lst ((sortI ns).map T.int)) else none
 | _=>none
theorem reps_strs{C:Addr->Prop}{H:Hp}:∀ (l:List Str),Reps C H (l.map V.str) (l.map T.str)
 | []=>.nil
 | k::l=>.cons (.str _) (reps_strs l)
theorem s_sorted:S1N (fun xs H Q=>(∃ (a:Addr) (ss:List Str),xs=[V.ref a]/\SqL TheK.K H a (ss.map V.str)/\ss.length < 64/\∀ l,H l=none->Q (.ref l) (upd H l (.lst ((sortS ss).map V.str))))∨∃ (a:Addr) (ss:List Int),xs=[V.ref a]/\SqL TheK.K H a (ss.map V.int)/\ss.length < 64/\∀ l,H l=none->Q (.ref l) (upd H l (.lst ((sortI ss).map V.int)))) gSorted:=by
 intro C H x tx t Q bx hg q
 obtain ⟨ts,rfl⟩:∃ ts,tx=.lst ts:=by cases tx<;>first | exact ⟨_,rfl⟩ | cases hg
 obtain ⟨a,us,rfl,ha,ra⟩:=bx.lst
 have hg:(match strsT ts with
  | some ss=>if ss.length < 64 then some (T.lst ((sortS ss).map T.str)) else none
  | none=>(intsT ts).bind fun ns=>if ns.length < 64 then some (T.lst ((sortI ns).map T.int)) else none)=some t:=hg
 cases e:strsT ts with
 | some ss=>
  rw [e] at hg
  dsimp only at hg
  split at hg
  ·rename_i hl
   injection hg with hg; subst hg
   rw [strsT_ok ra e] at ha
   exact .inl ⟨a,ss,rfl,SqL.of ha,hl,fun l hl=>q l _ hl fun C' _=>.lst upd_same (reps_strs _)⟩
  ·cases hg
 | none=>
  rw [e] at hg
  obtain ⟨ns,e2,hg⟩:=Qb hg
  split at hg
  ·rename_i hl
   injection hg with hg; subst hg
   rw [intsT_ok ra e2] at ha
   exact .inr ⟨a,ns,rfl,SqL.of ha,hl,fun l hl=>q l _ hl fun C' _=>.lst upd_same (reps_ints _)⟩
  ·cases hg
theorem bt_sorted:bootBuiltins "sorted"=some (.builtin "sorted"):=by first | exact PySem.boot_sorted | rfl | decide +kernel
section
variable {X:Cx}{M:List Nat}{e:Expr}{fe:DE}{p pos:Pos}
theorem e_sorted(hK:X.K=TheK.K)(hg:Gl X "sorted")(hm:X.mg "sorted"=none)(h:PE X e (cE .b M fe))(he:starEach [e] X.env=(false,eval e X.env)::starEach [] X.env:=by rfl)(hpl:(backTo pos (starEach [] X.env)).any (·.1)=false:=by rfl):PE X (.Call (.Name "sorted" p) [e] [] pos) (cE .n M (d1 gSorted fe)):=
 weak (pe_callB (CallR.or (show CallR X _ _ from hK▸call_sortedS) (show CallR X _ _ from hK▸call_sortedI)) hg hm bt_sorted (pa_cons h pa_nil he) (by decide) (by decide) he hpl) (one_n s_sorted)
end
end L3
namespace L3
open PySem PySem.Spec PyProof.Rows L2
variable [TheK]
def flatT:T->Bool
 | .non | .bl _ | .int _ | .str _=>true
 | _=>false
theorem flat_rep{C C':Addr->Prop}{H H':Hp}{v:V}{t:T}(h:Rep C H v t)(f:flatT t=true):Rep C' H' v t:=by
 cases h<;>first | exact .non | exact .bl _ | exact .int _ | exact .str _ | cases f
end L3
namespace L3
open PySem PySem.Spec PyProof.Rows L2
variable [TheK]
theorem bt_set:bootBuiltins "set"=some (.type "set"):=by decide +kernel
theorem Rel.plus{F:Fr}{O:Addr->Prop}{M:List Nat}{s:Sg}{σ:L2.St}{H:Hp}{l:Addr}(R:Rel F O M s σ H)(h:H l=none)(o:HO):Rel F O M s σ (upd H l o):=
 R.ext (fun b u e=>by rw [upd_ne (ne_of_none e h)]; exact e) fun b e=>by
  unfold upd at e
  split at e
  ·cases e
  ·exact e
section
variable {X:Cx}{M:List Nat}{e:Expr}{fe:DE}{p p2 pos pos2:Pos}
def dItR(f:DE):DI:=fun s=>(f s).bind fun p=>match p.1 with
 | .lst xs=>some (xs.reverse,p.2)
 | _=>none
end
end L3
namespace L3
open PySem PySem.Spec PyProof.Rows L2
variable [TheK]
section
variable {X:Cx}{M:List Nat}{a b e:Expr}{fa fb fe:DE}{p pos:Pos}
def dSet0:DE:=fun s=>some (.set (fun _=>false) 0,s)
theorem e_set0(hg:Gl X "set")(hm:X.mg "set"=none):PE X (.Call (.Name "set" p) [] [] pos) (cE .n M dSet0):=weak (pe_callTy0 call_set0 hg hm bt_set) (by
 intro σ H Q h_;refine cE_ h_ fun F O s t s' R hf q=>?_
 injection hf with hf
 injection hf with h1 h2
 subst h1 h2
 exact ⟨rfl,fun l hl=>q _ _ (.new hl _) (.mkN R R .refl hl fun C _=>.set upd_same)⟩)
def dSAdd(i:Nat)(fe:DE):DE:=fun s=>(s[i]?).join.bind fun t0=>match t0 with
 | .set _ _=>(fe s).bind fun p=>(p.2[i]?).join.bind fun t1=>match p.1,t1 with
  | .int k,.set S n=>if n < 1000 then some (.non,p.2.set i (some (.set (fun j=>S j||decide (j=k)) (if S k then n else n+1)))) else none
  | _,_=>none
 | _=>none
theorem e_sadd{i:Nat}{o:Expr}{apos:Pos}(hi:M.contains i=true)(h:PE X (.Call (.Attribute o "add" apos) [e] [] pos) (tBM X.K "set" rSAdd (tVar i) (tCons (cE .e M fe) tNil))):PE X (.Call (.Attribute o "add" apos) [e] [] pos) (cE .e M (dSAdd i fe)):=weak h (by
 intro σ H Q h_;refine cE_ h_ fun F O s t s' R hf q=>?_
 have hi':i∈M:=by simpa using hi
 obtain ⟨t0,h0,hf⟩:=Qb hf
 obtain ⟨S0,n0,rfl⟩:∃ S0 n0,t0=.set S0 n0:=by cases t0<;>first | exact ⟨_,_,rfl⟩ | cases hf
 obtain ⟨⟨p1,p2⟩,h1,hf⟩:=Qb hf
 obtain ⟨t1,h2,hf⟩:=Qb hf
 obtain ⟨k,rfl⟩:∃ k,p1=.int k:=by cases p1<;>first | exact ⟨_,rfl⟩ | cases hf
 obtain ⟨S,n,rfl⟩:∃ S n,t1=.set S n:=by cases t1<;>first | exact ⟨_,_,rfl⟩ | cases hf
 replace hf:(if n < 1000 then some (T.non,p2.set i (some (.set (fun j=>S j||decide (j=k)) (if S k then n else n+1)))) else none)=some (t,s'):=hf
 by_cases hn:n < 1000
 ·rw [if_pos hn] at hf
  injection hf with hf
  injection hf with h3 h4
  subst h3 h4
  obtain ⟨a,e1,L0⟩:=R.own i _ (join_some h0) hi'
  have r0:H a=some (.set S0 n0):=by cases L0 with | set r=>exact r
  refine ⟨_,e1,.inr (.inr (.inr ⟨rfl,_,_,r0⟩)),F,O,s,_,p2,R,h1,fun v H1 S1 p1=>?_⟩
  obtain rfl:v=.int k:=BRep.int (.inl p1.2)
  obtain ⟨b,e2,L⟩:=p1.1.own i _ (join_some h2) hi'
  rw [e1] at e2
  injection e2 with e2
  injection e2 with e2
  injection e2 with e2
  subst e2
  have r1:H1 a=some (.set S n):=by cases L with | set r=>exact r
  refine ⟨a,S,n,k,rfl,rfl,r1,hn,q _ _ (S1.trans (.write hi' e1 L.ne)) ⟨?_,.non⟩⟩
  exact p1.1.write hi' e1 (join_some h2) fun Hx kx ex=>.set ex
 ·rw [if_neg hn] at hf; cases hf)
def gNinS:T->T->Option T
 | .int k,.set S _=>some (.bl (!S k))
 | _,_=>none
theorem BRep.setI{C:Addr->Prop}{H:Hp}{v:V}{S:Int->Bool}{n:Nat}(h:BRep C H v (.set S n)):∃ a,v=.ref a/\H a=some (.set S n):=by
 rcases h with h | ⟨a,rfl,h⟩
 ·cases h with | set c r=>exact ⟨_,rfl,r⟩
 ·cases h with | set r=>exact ⟨_,rfl,r⟩
theorem s_ninS:S2E (fun x y H Q=>∃ k a S n,x=.int k/\y=.ref a/\H a=some (.set S n)/\Q (.bl (!S k)) H) gNinS:=by
 intro C H x y tx ty t Q bx by' hg q
 obtain ⟨k,rfl⟩:∃ k,tx=.int k:=by cases tx<;>first | exact ⟨_,rfl⟩ | cases hg
 obtain ⟨S,n,rfl⟩:∃ S n,ty=.set S n:=by cases ty<;>first | exact ⟨_,_,rfl⟩ | cases hg
 injection hg with hg
 subst hg
 obtain rfl:=BRep.int bx
 obtain ⟨a,rfl,r⟩:=BRep.setI by'
 exact ⟨k,a,S,n,rfl,rfl,r,q _ (.bl _)⟩
theorem t_ninS(ha:PE X a (cE .e M fa))(hb:PE X b (cE .b M fb))(hm:behindInMarks .NotIn b=false):PT X (.Compare a [.NotIn] [b] pos) (cT M (dB (d2 gNinS fa fb))):=weakT (pt_cmpR op_ninS ha hb hm) (tst (two_e s_ninS))
end
end L3
namespace L3
open PySem PySem.Spec PyProof.Rows L2
variable [TheK]
def gLtL:T->T->Option T
 | .lst xs,.lst ys=>(intsT xs).bind fun a=>(intsT ys).map fun b=>.bl (HT.lexLt a b)
 | _,_=>none
section
variable {X:Cx}{M:List Nat}{a b e:Expr}{fa fb fe:DE}{p pos:Pos}
def intsLs:List T->Option (List (List Int))
 | []=>some []
 | .lst xs::ts=>(intsT xs).bind fun a=>(intsLs ts).map (a::·)
 | _=>none
theorem intsLs_ok{C:Addr->Prop}{H:Hp}:∀ {vs:List V} {ts:List T} {rs:List (List Int)},Reps C H vs ts->intsLs ts=some rs->∃ as:List Addr,vs=as.map V.ref/\as.length=rs.length/\∀ (i:Nat) b r,as[i]?=some b->rs[i]?=some r->H b=some (.lst (r.map V.int))
 | [],[],rs,_,h=>by injection h with h; subst h; exact ⟨[],rfl,rfl,fun i b r h=>by simp at h⟩
 | [],_::_,_,r,_=>by have:=r.1; simp at this
 | _::_,[],_,r,_=>by have:=r.1; simp at this
 | v::vs,t::ts,rs,r,h=>by
  obtain ⟨xs,rfl⟩:∃ xs,t=.lst xs:=by cases t<;>first | exact ⟨_,rfl⟩ | cases h
  obtain ⟨a,h1,h2⟩:=Qb (show ((intsT xs).bind fun a=>(intsLs ts).map (a::·))=some rs from h)
  obtain ⟨rs',h3,rfl⟩:=Qm h2
  obtain ⟨as,rfl,hl,hh⟩:=intsLs_ok r.tail h3
  have hd:=r.head
  cases hd with
  | @lst b us _ c hr hl' hc=>
   have e:=intsT_ok (C:=C) (H:=H) ⟨hl',hc⟩ h1
   subst e
   refine ⟨b::as,rfl,by simp [hl],fun i b' r' hb hr'=>?_⟩
   cases i with
   | zero=>simp at hb hr'; subst hb hr'; exact hr
   | succ i=>exact hh i b' r' (by simpa using hb) (by simpa using hr')
def gMinL:T->Option T
 | .lst ts=>(intsLs ts).bind fun rs=>if 0 < rs.length then ts[leastAt rs]? else none
 | _=>none
theorem bt_minB:bootBuiltins "min"=some (.builtin "min"):=by first | exact PySem.boot_min | exact PyProof.Rows.boot_min | decide +kernel
end
def flatL:T->Bool
 | .lst ts=>ts.all flatT
 | _=>false
theorem flat_reps{C C':Addr->Prop}{H H':Hp}{vs:List V}{ts:List T}(r:Reps C H vs ts)(f:ts.all flatT=true):Reps C' H' vs ts:=
 ⟨r.1,fun i v t hv ht=>flat_rep (r.2 i v t hv ht) (List.all_eq_true.mp f t (List.mem_of_getElem? ht))⟩
theorem flat_live{C C':Addr->Prop}{H:Hp}{a:Addr}{t:T}(h:Live C H a t)(f:flatL t=true):Live C' H a t:=by
 cases h with
 | lst r h=>exact .lst r (flat_reps h f)
 | _=>cases f
end L3
namespace L3
open PySem PySem.Spec PyProof.Rows L2
variable [TheK]
theorem Rel.but{F:Fr}{O:Addr->Prop}{M:List Nat}{s:Sg}{σ:L2.St}{H H':Hp}{D:Addr}(R:Rel F O M s σ H)(hO:O D)(nD:∀ (j:Nat),j∈M->σ[j]?≠some (some (.ref D)))(h0:F.H0 D=none)
  (k:∀ b u,b≠D->H b=some u->H' b=some u) (d:∀ b,H' b=none->H b=none):Rel F O M s σ H':=by
 refine ⟨R.len,fun j t e n=>?_,fun j t e n=>?_,R.ow,R.dis,fun b u n e=>?_,fun b e=>R.dom b (d b e),R.fresh,R.inD,fun b z e=>R.al b z (d b e)⟩
 ·obtain ⟨v,a1,a2⟩:=R.val j t e n
  exact ⟨v,a1,a2.mono (fun _ z=>z) fun b u z e=>k b u (fun w=>z.1 (w▸hO)) e⟩
 ·obtain ⟨a,a1,a2⟩:=R.own j t e n
  exact ⟨a,a1,a2.mono (fun _ z=>z) (fun b u z e=>k b u (fun w=>z.1 (w▸hO)) e) fun u e=>k a u (fun w=>nD j n (w▸a1)) e⟩
 ·refine k b u (fun w=>?_) (R.keep b u n e)
  subst w
  rw [h0] at e
  cases e
theorem upd_no{H:Hp}{p b:Addr}{o:HO}(e:upd H p o b=none):H b=none:=by
 unfold upd at e
 split at e
 ·cases e
 ·exact e
end L3
namespace L3
open PySem PySem.Spec PyProof.Rows L2
variable [TheK]
def FlatM(M:List Nat)(s:Sg):Prop:=∀ i:Nat,i∈M->∀ t,s[i]?=some (some t)->flatL t=true
structure DRel (F:Fr) (O W:Addr->Prop) (M:List Nat) (x:Nat) (s:Sg) (σ:L2.St) (H:Hp) (v:V) (t:T):Prop where
 R:Rel F O M (s.set x none) σ H
 sx:s[x]?=some (some t)
 vx:σ[x]?=some (some v)
 xM:x∉M
 rep:Rep W H v t
 wO:∀ b,W b->O b
 wM:∀ (i:Nat) b,i∈M->σ[i]?=some (some (.ref b))->¬ W b
 wD:∀ b,W b->¬ F.D b
section
variable {F:Fr}{O W:Addr->Prop}{M:List Nat}{x:Nat}{s:Sg}{σ:L2.St}{H H':Hp}{v:V}{t:T}
theorem DRel.rel(d:DRel F O W M x s σ H v t):Rel F (fun b=>O b/\¬ W b) M s σ H:=by
 have hx:x < s.length:=(List.getElem?_eq_some_iff.mp d.sx).1
 have R1:Rel F (fun b=>O b/\¬ W b) M (s.set x none) σ H:=d.R.less (fun b z=>z.1) (fun i a hi e=>⟨d.R.ow i a hi e,d.wM i a hi e⟩) fun a ha=>⟨d.R.inD a ha,fun z=>d.wD a z ha⟩
 have R2:=R1.setE (M':=M) (i:=x) (v:=v) (t:=t) (fun j hj=>⟨hj,fun z=>d.xM (z▸hj)⟩) (fun j hj=>.inl hj) (by rw [List.length_set]; exact hx) (d.rep.mono (fun b w=>⟨fun z=>z.2 w,.inr ((d.R.fresh b (d.wO b w)).resolve_left (d.wD b w))⟩) fun _ _ _ e=>e)
 have e1:(s.set x none).set x (some t)=s:=by
  rw [List.set_set]
  refine List.ext_getElem? fun j=>?_
  rw [List.getElem?_set]
  by_cases h:x=j
  ·subst h
   rw [if_pos rfl,if_pos hx,d.sx]
  ·rw [if_neg h]
 have e2:σ.set x (some v)=σ:=by
  refine List.ext_getElem? fun j=>?_
  rw [List.getElem?_set]
  by_cases h:x=j
  ·subst h
   rw [if_pos rfl,if_pos (List.getElem?_eq_some_iff.mp d.vx).1,d.vx]
  ·rw [if_neg h]
 rw [e1,e2] at R2
 exact R2
theorem DRel.back(d:DRel F O W M x s σ H v t)(S:Step σ M H H')(R1:Rel F (fun b=>O b/\¬ W b) M s σ H')(hf:FlatM M s):DRel F O W M x s σ H' v t:=by
 have wk:∀ b o,W b->H b=some o->H' b=some o:=fun b o w e=>S.keep b o (fun i hi z=>d.wM i b hi z w) e
 refine ⟨⟨d.R.len,fun j t' e n=>?_,fun j t' e n=>?_,d.R.ow,d.R.dis,R1.keep,R1.dom,d.R.fresh,d.R.inD,fun a z e=>d.R.al a z (S.dom a e)⟩,d.sx,d.vx,d.xM,d.rep.mono (fun _ w=>w) wk,d.wO,d.wM,d.wD⟩
 ·obtain ⟨u,h1,h2⟩:=d.R.val j t' e n
  exact ⟨u,h1,d.R.stay S h2⟩
 ·have hj:x≠j:=fun z=>d.xM (z▸n)
  rw [List.getElem?_set_ne hj] at e
  obtain ⟨a,h1,h2⟩:=R1.own j t' e n
  exact ⟨a,h1,flat_live h2 (hf j n t' e)⟩
end
def DEnd(F:Fr)(rk:Kd)(io M:List Nat)(x:Nat)(O:Addr->Prop)(H:Hp)(D:Ends):Fl->Prop
 | .nx s'=>∀ O' W' σ' H' v' t',KeepO O H O' H'->DRel F O' W' M x s' σ' H' v' t'->Ios F io M σ'->D.nx σ' H'
 | .rt t s'=>∀ v H',RetOk F rk io s' t v H'->D.rt v H'
 | _=>False
def cD(rk:Kd)(io M:List Nat)(x:Nat)(d:DS):TS:=fun D σ H=>∃ F O W s v t r,DRel F O W M x s σ H v t/\Ios F io M σ/\d s=some r/\DEnd F rk io M x O H D r
theorem DEnd.more{F:Fr}{rk:Kd}{io M:List Nat}{x:Nat}{O O':Addr->Prop}{H H':Hp}{D:Ends}{r:Fl}(h:DEnd F rk io M x O H D r)(k:KeepO O H O' H'):DEnd F rk io M x O' H' D r:=by
 cases r with
 | nx s'=>exact fun O2 W2 σ2 H2 v2 t2 k2=>h O2 W2 σ2 H2 v2 t2 (k.trans k2)
 | rt t s'=>exact h
 | bk s'=>exact h
 | ct s'=>exact h
noncomputable def dIfD(M:List Nat)(ft:DT)(d d':DS):DS:=fun s=>(ft s).bind fun p=>@ite _ (p.2=s/\FlatM M s) (Classical.propDecidable _) (if p.1 then d s else d' s) none
def dRtD(d:DS):DS:=fun s=>match d s with
 | some (.rt t s')=>some (.rt t s')
 | _=>none
section
variable {X:Cx}{rk:Kd}{io M M' Mb:List Nat}{x:Nat}{st:Stmt}{sts:List Stmt}{c:Expr}{a b:List Stmt}{d d':DS}{ft:DT}{fe:DE}{pos:Pos}
theorem ss_dnil:PSs X [] (cD rk io M x dNext):=weakSs pss_nil (by
 rintro D σ H ⟨F,O,W,s,v,t,r,R,I,hd,q⟩
 injection hd with hd
 subst hd
 exact q O W σ H v t .refl R I)
theorem ss_done(h:PS X st (cD rk io M x d)):PSs X [st] (cD rk io M x d):=pss_one h
theorem ss_dcons(h:PS X st (cD rk io M x d))(h2:PSs X sts (cD rk io M x d')):PSs X (st::sts) (cD rk io M x (dSeq d d')):=weakSs (pss_cons h h2) (by
 rintro D σ H ⟨F,O,W,s,v,t,r,R,I,hd,q⟩
 obtain ⟨r1,h1,h2⟩:=Qb hd
 refine ⟨F,O,W,s,v,t,r1,R,I,h1,?_⟩
 cases r1 with
 | nx s1=>exact fun O1 W1 σ1 H1 v1 t1 k1 R1 I1=>⟨F,O1,W1,s1,v1,t1,r,R1,I1,h2,q.more k1⟩
 | bk s1=>injection h2 with h2; subst h2; exact q
 | ct s1=>injection h2 with h2; subst h2; exact q
 | rt t s1=>injection h2 with h2; subst h2; exact q)
theorem s_dif(hc:PT X c (cT M ft))(ha:PSs X a (cD rk io M x d))(hb:PSs X b (cD rk io M x d')):PS X (.If c a b pos) (cD rk io M x (dIfD M ft d d')):=weakS (ps_if hc ha hb) (by
 rintro D σ H ⟨F,O,W,s,v,t,r,R,I,hd,q⟩
 obtain ⟨p,h1,h2⟩:=Qb hd
 split at h2
 case isFalse=>cases h2
 rename_i hp
 obtain ⟨hp1,hp2⟩:=hp
 refine ⟨F,_,s,p.1,p.2,R.rel,h1,fun H1 S1 R1=>?_⟩
 rw [hp1] at R1
 have R2:=R.back S1 R1 hp2
 have k:=S1.keepO R.R
 try dsimp only
 split at h2
 ·rename_i hp
  rw [if_pos hp]
  exact ⟨F,O,W,s,v,t,r,R2,I,h2,q.more k⟩
 ·rename_i hp
  rw [if_neg hp]
  exact ⟨F,O,W,s,v,t,r,R2,I,h2,q.more k⟩)
theorem ss_drt(h:PSs X sts (cS rk io M M' Mb d)):PSs X sts (cD rk io M x (dRtD d)):=weakSs h (by
 rintro D σ H ⟨F,O,W,s,v,t,r,R,I,hd,q⟩
 unfold dRtD at hd
 split at hd
 ·rename_i t' s' he
  injection hd with hd
  subst hd
  exact ⟨F,_,s,_,R.rel,I,he,q⟩
 ·cases hd)
end
end L3
namespace L3
open PySem PySem.Spec PyProof.Rows L2
variable [TheK]
def unD(x:Nat):Fl->Option Fl
 | .nx s=>some (.nx (s.set x none))
 | .rt t s=>some (.rt t s)
 | _=>none
end L3
namespace L3
open PySem PySem.Spec PyProof.Rows L2
variable [TheK]
def spD(np:Nat)(fn:List T->Option T):Sp:=fun vs H Q _=>∃ C ts t,ts.length=np/\Reps C H vs ts/\fn ts=some t/\∀ v H',(∀ b o,H b=some o->H' b=some o)->(∀ b,H' b=none->H b=none)->Rep (fun b=>H b=none) H' v t->Q v H'
def dDeep2(fn:List T->Option T)(fa:DA)(x:Nat)(d:DS):DS:=fun s=>(fa s).bind fun p=>(fn p.1).bind fun t=>if x < p.2.length then (d (p.2.set x (some t))).bind (unD x) else none
theorem Rel.forg{F:Fr}{O:Addr->Prop}{M:List Nat}{s:Sg}{σ:L2.St}{H:Hp}{j:Nat}(R:Rel F O M s σ H)(hj:j∉M):Rel F O M (s.set j none) σ H:=by
 have ne:∀ (i:Nat) t,(s.set j none)[i]?=some (some t)->s[i]?=some (some t):=fun i t e=>by
  rw [List.getElem?_set] at e
  split at e
  ·split at e<;>cases e
  ·exact e
 exact ⟨by rw [List.length_set]; exact R.len,fun i t e n=>R.val i t (ne i t e) n,fun i t e n=>R.own i t (ne i t e) n,R.ow,R.dis,R.keep,R.dom,R.fresh,R.inD,R.al⟩
theorem Rel.setU{F:Fr}{O:Addr->Prop}{M:List Nat}{s:Sg}{σ:L2.St}{H:Hp}{j:Nat}(R:Rel F O M s σ H)(hj:j∉M)(hs:∀ t,s[j]?≠some (some t))(v:V):Rel F O M s (σ.set j (some v)) H:=by
 refine ⟨by rw [List.length_set]; exact R.len,fun i t e n=>?_,fun i t e n=>?_,fun i a hi e=>?_,fun i k a hi hk e1 e2=>?_,R.keep,R.dom,R.fresh,R.inD,R.al⟩
 ·have:j≠i:=fun z=>hs t (z▸e)
  rw [List.getElem?_set_ne this]
  exact R.val i t e n
 ·rw [List.getElem?_set_ne (fun z:j=i=>hj (z▸n))]
  exact R.own i t e n
 ·rw [List.getElem?_set_ne (fun z:j=i=>hj (by rw [z]; exact hi))] at e
  exact R.ow i a hi e
 ·rw [List.getElem?_set_ne (fun z:j=i=>hj (by rw [z]; exact hi))] at e1
  rw [List.getElem?_set_ne (fun z:j=k=>hj (by rw [z]; exact hk))] at e2
  exact R.dis i k a hi hk e1 e2
section
variable {X:Cx}{rk:Kd}{io M Mb:List Nat}{x np:Nat}{st:Stmt}{sts:List Stmt}{d:DS}{fn:List T->Option T}{fa:DA}
theorem ss_deep2(hxM:M.contains x=false)(hio:io.all (M.contains ·)=true)(ar:Ar fa np)(h:PS X st (tAsg (tCall (spD np fn) [] E0 (cA M fa)) (gName x)))(h2:PSs X sts (cD rk io M x d)) :
  PSs X (st::sts) (cS rk io M M Mb (dDeep2 fn fa x d)):=weakSs (pss_cons h h2) (by
 rintro D σ H ⟨F,O,s,r,R,I,hd,qe⟩
 have hx':x∉M:=by simpa using hxM
 obtain ⟨p,h1,hd⟩:=Qb hd
 obtain ⟨t,h3,hd⟩:=Qb hd
 split at hd
 case isFalse=>cases hd
 rename_i hxl
 obtain ⟨r0,hd0,hr0⟩:=Qb hd
 refine ⟨F,O,s,p.1,p.2,R,h1,fun vs H1 S1 R1 rs=>?_⟩
 show spD np fn (vs++[]) H1 _ E0
 rw [List.append_nil]
 refine ⟨Free F O,p.1,t,ar _ _ _ h1,rs,h3,fun v H2 k dm rep=>?_⟩
 show cD rk io M x d D (σ.set x (some v)) H2
 have W0:=rep.there
 generalize hWd:(fun b=>H1 b=none/\H2 b≠none)=W at W0
 have wH:∀ b,W b->H1 b=none:=fun b z=>by
  rw [<-hWd] at z
  exact z.1
 have wL:∀ b,W b->H2 b≠none:=fun b z=>by
  rw [<-hWd] at z
  exact z.2
 have nO:∀ b,W b->¬ O b:=fun b z y=>R1.al b y (wH b z)
 have fr:∀ b,Free F O b/\H1 b≠none->Free F (fun b=>O b∨W b) b:=fun b c=>⟨fun z=>z.elim c.1.1 fun z=>c.2 (wH b z),c.1.2⟩
 have R2:Rel F (fun b=>O b∨W b) M (p.2.set x none) (σ.set x (some v)) H2:=by
  refine ⟨by rw [List.length_set,List.length_set]; exact R1.len,fun j t e' n=>?_,fun j t e' n=>?_,fun j b hj e=>?_,fun j k' b hj hk e2 e3=>?_,fun b o n e=>k b o (R1.keep b o n e),fun b e=>R1.dom b (dm b e),fun b z=>?_,fun b z=>.inl (R1.inD b z),fun b z=>?_⟩
  ·have hij:x≠j:=fun z=>by
    subst z
    rw [List.getElem?_set_self hxl] at e'
    cases e'
   rw [List.getElem?_set_ne hij] at e'
   rw [List.getElem?_set_ne hij]
   obtain ⟨u,g1,g2⟩:=R1.val j t e' n
   exact ⟨u,g1,g2.there.mono fr fun b o _ e=>k b o e⟩
  ·have hij:x≠j:=fun z=>hx' (z▸n)
   rw [List.getElem?_set_ne hij] at e'
   rw [List.getElem?_set_ne hij]
   obtain ⟨b,g1,g2⟩:=R1.own j t e' n
   exact ⟨b,g1,g2.there.mono fr (fun b o _ e=>k b o e) fun o e=>k b o e⟩
  ·rw [List.getElem?_set_ne (fun z:x=j=>hx' (by rw [z]; exact hj))] at e
   exact .inl (R1.ow j b hj e)
  ·rw [List.getElem?_set_ne (fun z:x=j=>hx' (by rw [z]; exact hj))] at e2
   rw [List.getElem?_set_ne (fun z:x=k'=>hx' (by rw [z]; exact hk))] at e3
   exact R1.dis j k' b hj hk e2 e3
  ·rcases z with z | z
   ·exact R1.fresh b z
   ·exact .inr (R1.dom b (wH b z))
  ·rcases z with z | z
   ·exact fun e=>R1.al b z (dm b e)
   ·exact wL b z
 have KO:KeepO O H (fun b=>O b∨W b) H2:=(S1.keepO R).trans ⟨fun b o n e=>⟨k b o e,fun z=>z.elim n fun z=>by rw [wH b z] at e; cases e⟩,dm⟩
 have I2:Ios F io M (σ.set x (some v)):=I.set (fun z=>hx' (sub_of hio x z)) (sub_of hio)
 refine ⟨F,fun b=>O b∨W b,W,p.2.set x (some t),v,t,r0,⟨by rw [List.set_set]; exact R2,List.getElem?_set_self hxl,List.getElem?_set_self (by rw [<-R1.len]; exact hxl),hx',W0,fun b z=>.inr z,fun j b hj e z=>?_,fun b z y=>nO b z (R1.inD b y)⟩,I2,hd0,?_⟩
 ·rw [List.getElem?_set_ne (fun z:x=j=>hx' (by rw [z]; exact hj))] at e
  exact nO b z (R1.ow j b hj e)
 ·cases r0 with
  | nx s'=>
   injection hr0 with hr0
   subst hr0
   exact fun O' W' σ' H' v' t' k DR I'=>qe O' σ' H' (KO.trans k) DR.R I'
  | rt t s'=>
   injection hr0 with hr0
   subst hr0
   exact qe
  | bk s'=>cases hr0
  | ct s'=>cases hr0)
theorem e_deep2{e:Expr}{es:List Expr}{p pos:Pos}{k:Nat}{f:Addr}{fd:FuncData}{ps:List Str}{y:Str}(F:FnOk X.prog X.w X.K X.mg X.base CX0 k f fd ps (spD np fn))(hr:Room k X.A)(hg:Gl X y)(hm:X.mg y=some (.ref f))(hk:PySem.W.keepIn X.K (.ref f)=true)(hb:Binds X.K fd ps [])
  (ha:PA X (e::es) (cA M fa)) (hdb:(y == ("__debug__":Str))=false:=by decide) (he:starEach (e::es) X.env=(false,eval e X.env)::starEach es X.env:=by rfl) (hpl:(backTo pos (starEach es X.env)).any (·.1)=false:=by rfl) :
  PE X (.Call (.Name y p) (e::es) [] pos) (tCall (spD np fn) [] E0 (cA M fa)):=pe_call F hr hg hm hk hb .nil pass0 ha hdb he hpl
end
end L3
namespace L3
open PySem PySem.Spec PyProof.Rows L2
variable [TheK]
def cED(M:List Nat)(f:DE):TE:=fun σ H Q=>∃ F O s t s',Rel F O M s σ H/\f s=some (t,s')/\∀ v H',Step σ M H H'->Rel F O M s' σ H'->Rep (fun b=>H b=none) H' v t->Q v H'
theorem d_imp{np:Nat}{fn:List T->Option T}:∀ vs H Q E,spP .e np fn vs H Q E->spD np fn vs H Q E:=fun vs H Q E ⟨C,ts,t,hl,r,hf,q⟩=>⟨C,ts,t,hl,r,hf,fun v H' k d rp=>q v H' ⟨k,d,rp.mono (fun b z=>.inr z) fun _ _ _ e=>e⟩⟩
section
variable {X:Cx}{rk:Kd}{io M M' Mb:List Nat}{x k:Nat}{st:Stmt}{e a b:Expr}{es:List Expr}{fe f1 f2 f3:DE}{fa:DA}{pos p p' pos':Pos}
theorem s_retD(he:PE X e (cED M fe)):PS X (.Return (some e) pos) (cS .b [] M M' Mb (dRetI [] fe)):=weakS (ps_ret he) (by
 intro D σ H h_;refine cS_ h_ fun F O s r R I hd q=>?_
 obtain ⟨p,h1,h2⟩:=Qb hd
 split at h2
 case isFalse=>cases h2
 injection h2 with h2
 subst h2
 exact ⟨F,O,s,p.1,p.2,R,h1,fun v H1 S1 R1 rp=>q v H1 ⟨R1.keep,R1.dom,rp.mono (fun b z=>R.dom b z) fun _ _ _ e=>e⟩⟩)
end
section
variable {rk:Kd}{M' Mb:List Nat}{d:DS}{N:List Str}{np:Nat}
theorem run_D(hN:np<=N.length){vs:List V}{H:Hp}{Q:VK}{E:XK}(h:spD np (fnPn N.length d) vs H Q E) :
  cS .b [] [] M' Mb d { nx:=fun _ H'=>Q .non H',rt:=Q } (L2.start N vs) H:=by
 obtain ⟨C,ts,t,hl,r,hf,q⟩:=h
 obtain ⟨l1,l2⟩:=start_get (N:=N) r (by lia)
 have w:∀ b,C b->Free ⟨H,C,fun _=>False,fun _=>0⟩ (fun _=>False) b:=fun b c=>⟨fun z=>z,.inl c⟩
 have R:Rel ⟨H,C,fun _=>False,fun _=>0⟩ (fun _=>False) [] (start3 N.length ts) (L2.start N vs) H:=by
  refine ⟨l1,fun i t e _=>?_,fun i t e n=>by simp at n,fun i a n=>by simp at n,fun i j a n=>by simp at n,fun b o _ e=>e,fun b e=>e,fun a z=>z.elim,fun a z=>z,fun a z=>z.elim⟩
  obtain ⟨v,h1,_,_,rv⟩:=l2 i t e
  exact ⟨v,h1,rv.mono w fun _ _ _ e=>e⟩
 have I:Ios ⟨H,C,fun _=>False,fun _=>0⟩ [] [] (L2.start N vs):=⟨fun i hi=>by simp at hi,fun a z=>z.elim⟩
 unfold fnPn at hf
 split at hf
 case h_2=>cases hf
 rename_i hd
 obtain rfl:=Option.some.inj hf
 exact ⟨_,_,_,_,R,I,hd,fun v H' ro=>q v H' (fun b o e=>ro.keep b o (fun z=>z) e) ro.dom ro.res⟩
end
end L3
namespace L3
open PySem PySem.Spec PyProof.Rows L2
variable [TheK]
def dCallD(fn:List T->Option T)(fe:DE):DE:=fun s=>(fe s).bind fun p=>match p.1 with
 | .lst ts=>if ts.all flatT=true then (fn [.lst ts]).map fun t=>(t,p.2) else none
 | _=>none
def dNils(n:Nat):DE:=fun s=>some (.lst (List.replicate n (.lst [])),s)
section
variable {X:Cx}{M:List Nat}{e:Expr}{fe:DE}{pos p:Pos}{k:Nat}{x:Str}{ps:List Str}{fn:List T->Option T}
theorem callD_e:∀ σ H Q,cED M (dCallD fn fe) σ H Q->tCall (spP .e 1 fn) [] E0 (tCons (cE .n M fe) tNil) σ H Q:=by
 intro σ H Q hz; obtain ⟨F,O,s,t,s',R,hf,q⟩:=hz
 obtain ⟨⟨p1,p2⟩,h1,h2⟩:=Qb hf
 dsimp only at h2
 split at h2
 case h_2=>cases h2
 rename_i ts
 split at h2
 case isFalse=>cases h2
 rename_i hfl
 obtain ⟨t',h3,h4⟩:=Qm h2
 injection h4 with h4 h5
 subst h4 h5
 refine ⟨F,O,s,.lst ts,p2,R,h1,fun v H1 S1 po=>?_⟩
 have R1:=(po.ne R).1
 obtain ⟨a,rfl,ha0,_,L1⟩:=po
 obtain ⟨vs,hv,rv⟩:=L1.lst'
 have rr:Reps (fun b=>b=a) H1 [.ref a] [.lst ts]:=.cons (.lst rfl hv rv.1 (flat_reps rv hfl).2) .nil
 refine ⟨fun b=>b=a,[.lst ts],t',rfl,rr,h3,fun v2 H2 c=>q v2 H2 (S1.trans ⟨fun b o _ e=>c.keep b o e,c.dom⟩) (R1.ext c.keep c.dom) ?_⟩
 exact c.res.mono (fun b z=>z.elim (fun z=>z▸ha0) fun z=>S1.dom b z) fun _ _ _ e=>e
theorem e_dcall{f:Addr}{fd:FuncData}(F:FnOk X.prog X.w X.K X.mg X.base CX0 k f fd ps (spP .e 1 fn))(hr:Room k X.A)(hg:Gl X x)(hm:X.mg x=some (.ref f))(hk:PySem.W.keepIn X.K (.ref f)=true)(hb:Binds X.K fd ps [])(h:PE X e (cE .n M fe))(hdb:(x == ("__debug__":Str))=false:=by decide)(he:starEach [e] X.env=(false,eval e X.env)::starEach [] X.env:=by rfl)(hpl:(backTo pos (starEach [] X.env)).any (·.1)=false:=by rfl):PE X (.Call (.Name x p) [e] [] pos) (cED M (dCallD fn fe)):=
 weak (pe_call F hr hg hm hk hb .nil pass0 (pa_cons h pa_nil he) hdb he hpl) callD_e
theorem e_dnil1{p1:Pos}(hs:starEach [.List [] p1] X.env=(false,eval (.List [] p1) X.env)::starEach [] X.env:=by rfl):PE X (.List [.List [] p1] pos) (cED M (dNils 1)):=weak (pe_lst (pa_cons (pe_lst pa_nil) pa_nil hs)) (by
 intro σ H Q hz; obtain ⟨F,O,s,t,s',R,hf,q⟩:=hz
 obtain ⟨rfl,rfl⟩:=Prod.mk.inj (Option.some.inj hf)
 refine ⟨Nat.zero_le _,fun a ha=>⟨by show 1<=sizeLine; decide,fun b hb=>?_⟩⟩
 have hab:a≠b:=fun z=>by rw [z] at hb; rw [upd_same] at hb; cases hb
 have hb0:H b=none:=by rwa [upd_ne (Ne.symm hab)] at hb
 have r1:Rep (fun b=>H b=none) (upd (upd H a (.lst [])) b (.lst [.ref a])) (.ref a) (.lst []):=.lst ha (by rw [upd_ne hab,upd_same]) rfl (fun i v t hv=>by simp at hv)
 have rr:Reps (fun b=>H b=none) (upd (upd H a (.lst [])) b (.lst [.ref a])) [.ref a] [.lst []]:=.cons r1 .nil
 exact q _ _ ((Step.new ha _).trans (.new hb _)) ((R.plus ha _).plus hb _) (.lst hb0 upd_same rr.1 rr.2))
end
end L3
namespace L3
open PySem PySem.Spec PyProof.Rows L2
variable [TheK]
structure ForB (M:List Nat) (x y:Nat) (z:Int) (ft:DT) (s:Sg) (ts:List T):Prop where
 yx:y≠x
 yM:y∉M
 yl:y < s.length
 fm:FlatM M s
 it:∀ t∈ts,∃ l,t=.lst l/\l.all flatT=true/\l.length<=10000/\∀ m,m<=10000->ft ((s.set x (some T.any)).set y (some (.lst (l++List.replicate m (.int z)))))=some (false,(s.set x (some T.any)).set y (some (.lst (l++List.replicate m (.int z)))))
 tl:ts.length<=10000
noncomputable def dForB(M:List Nat)(x y:Nat)(z:Int)(ft:DT):DS:=fun s=>match (s[x]?).join with
 | some (.lst ts)=>@ite _ (ForB M x y z ft s ts) (Classical.propDecidable _) (some (.nx ((s.set y none).set x (some (.lst (ts.map fun _=>T.any)))))) none
 | _=>none
def dClx(x:Nat):DS:=fun s=>match (s[x]?).join with
 | some (.lst _)=>some (.nx (s.set x (some (.lst []))))
 | _=>none
section
variable {X:Cx}{rk:Kd}{io M:List Nat}{x y:Nat}{ft:DT}{tg xe c ae:Expr}{rb:List Stmt}{dr:DS}{p1 p2 pos:Pos}{z:Int}
theorem s_dclx{st:Stmt}(h:PS X st (tDrop (tBM0 X.K "list" rClear (tVar x)))):PS X st (cD rk io M x (dClx x)):=weakS h (by
 rintro D σ H ⟨F,O,W,s,v,t,r,R,I,hd,q⟩
 unfold dClx at hd
 rw [R.sx] at hd
 have hd:(match (some t:Option T) with
  | some (.lst ts)=>some (Fl.nx (s.set x (some (.lst []))))
  | _=>none)=some r:=hd
 obtain ⟨ts,rfl⟩:∃ ts,t=.lst ts:=by cases t<;>first | exact ⟨_,rfl⟩ | cases hd
 obtain rfl:=Option.some.inj hd
 have rp:=R.rep
 have hxl:x < s.length:=(List.getElem?_eq_some_iff.mp R.sx).1
 cases rp with
 | @lst rr vs _ wr hrr l hh=>
  have orr:=R.wO rr wr
  have h0:F.H0 rr=none:=(R.R.fresh rr orr).resolve_left (R.wD rr wr)
  have kb:∀ b w,b≠rr->H b=some w->upd H rr (.lst []) b=some w:=fun b w nn e=>by rw [upd_ne nn]; exact e
  have R5:=R.R.but orr (fun j hj e=>R.wM j rr hj e wr) h0 kb fun b e=>upd_no e
  refine ⟨_,R.vx,.inl ⟨rfl,vs,SqL.of hrr⟩,rr,vs,rfl,rfl,hrr,?_⟩
  refine q O W σ _ (.ref rr) (.lst []) ⟨fun b o n e=>⟨kb b o (fun z=>n (z▸orr)) e,n⟩,fun b e=>upd_no e⟩ ⟨by rw [List.set_set]; exact R5,List.getElem?_set_self hxl,R.vx,R.xM,.lst wr upd_same rfl (fun i v t hv=>by simp at hv),R.wO,R.wM,R.wD⟩ I)
end
end L3
namespace L3
open PySem PySem.Spec PyProof.Rows L2
variable [TheK]
structure ForA (M:List Nat) (x y:Nat) (s:Sg) (ts:List T):Prop where
 yx:y≠x
 yM:y∉M
 yl:y < s.length
 it:∀ t∈ts,∃ l,t=.lst l/\l.all flatT=true/\l.length<=10000
 tl:ts.length<=10000
noncomputable def dForA(M:List Nat)(x y:Nat):DS:=fun s=>match (s[x]?).join with
 | some (.lst ts)=>@ite _ (ForA M x y s ts) (Classical.propDecidable _) (some (.nx ((s.set y none).set x (some (.lst (ts.map fun _=>T.any)))))) none
 | _=>none
section
variable {X:Cx}{rk:Kd}{io M:List Nat}{x y:Nat}{tg xe ae:Expr}{p2 pos:Pos}{z:Int}
theorem s_dforA(hp:PassesOwn (model X.prog X.w) X.A X.env X.xe)(hcm:X.calm=true)(hi:PE X xe (tVar x))(hg:PG X tg (gName y))(ha:PE X ae (tBM X.K "list" rAppend (tVar y) (tCons (tC (.int z)) tNil)))
  (hio:io.all (M.contains ·)=true) (hs:swapsWith ae none p2.line X.env=pure false:=by rfl) (hs2:∀ v,foldedSetIterable xe X.env v=pure v:=by intro _; rfl) :
  PS X (.For tg xe [.Expr ae p2] [] pos) (cD rk io M x (dForA M x y)):=weakS (ps_for hp hcm (pi_list hi) hg (pss_one (ps_expr ha hs)) hs2) (by
 rintro D σ H ⟨F,O,W,s,v,t,r,R,I,hd,qe⟩
 unfold dForA at hd
 rw [R.sx] at hd
 have hd:(match (some t:Option T) with
  | some (.lst ts)=>@ite _ (ForA M x y s ts) (Classical.propDecidable _) (some (Fl.nx ((s.set y none).set x (some (.lst (ts.map fun _=>T.any)))))) none
  | _=>none)=some r:=hd
 obtain ⟨ts,rfl⟩:∃ ts,t=.lst ts:=by cases t<;>first | exact ⟨_,rfl⟩ | cases hd
 dsimp only at hd
 split at hd
 case isFalse=>cases hd
 rename_i K
 injection hd with hd
 subst hd
 have rp:=R.rep
 have hxl:x < s.length:=(List.getElem?_eq_some_iff.mp R.sx).1
 cases rp with
 | @lst rr vs _ wr hrr l hh=>
  have noref:∀ {C:Addr->Prop} {H:Hp} {p:Addr} {t:T},Rep C H (.ref p) t->flatT t=true->False:=fun r f=>by cases r<;>cases f
  have items:∀ k,k < vs.length->∃ q ws,vs[k]?=some (.ref q)/\W q/\q≠rr/\H q=some (.lst ws)/\ws.length<=10000+0:=fun k hk=>by
   have hkt:k < ts.length:=by rw [<-l]; exact hk
   obtain ⟨li,e1,e2,e3⟩:=K.it ts[k] (List.getElem_mem hkt)
   have rk:=hh k vs[k] ts[k] (List.getElem?_eq_getElem hk) (List.getElem?_eq_getElem hkt)
   rw [e1] at rk
   have ev:vs[k]?=some vs[k]:=List.getElem?_eq_getElem hk
   generalize vs[k]=vk at rk ev
   cases rk with
   | @lst q ws _ wq hq l3 hh3=>
    refine ⟨q,ws,ev,wq,fun zz=>?_,hq,by rw [l3]; exact e3⟩
    subst zz
    rw [hrr] at hq
    obtain rfl:vs=ws:=by injection hq with hq; injection hq
    have hk3:k < li.length:=by rw [<-l3]; exact hk
    have:=hh3 k (.ref q) li[k] ev (List.getElem?_eq_getElem hk3)
    exact noref this (List.all_eq_true.mp e2 _ (List.getElem_mem hk3))
  refine ⟨_,R.vx,rr,rfl,⟨vs,SqL.of hrr⟩,?_⟩
  have base:Rel F O M ((s.set y none).set x none) σ H:=by
   rw [List.set_comm _ _ K.yx]
   exact R.R.forg K.yM
  generalize hb:(s.set y none).set x none=b0 at base
  have bl:b0.length=s.length:=by rw [<-hb]; simp
  have by0:∀ t,b0[y]?≠some (some t):=fun t e=>by
   rw [<-hb,List.getElem?_set_ne (Ne.symm K.yx),List.getElem?_set_self K.yl] at e
   cases e
  refine ⟨fun i m σ' H'=>m=vs.length - i/\i<=vs.length/\Rel F O M b0 σ' H'/\σ'[x]?=some (some (.ref rr))/\H' rr=some (.lst vs)/\(∀ k,k < vs.length->∃ q ws,vs[k]?=some (.ref q)/\W q/\q≠rr/\H' q=some (.lst ws)/\ws.length<=10000+i)/\KeepO O H O H'/\Ios F io M σ'/\∀ j,j∈M->σ'[j]?=σ[j]?,⟨vs.length,rfl,Nat.zero_le _,base,R.vx,hrr,items,.refl,I,fun _ _=>rfl⟩,?_⟩
  rintro i m σ' H' ⟨rfl,hi',Rb,hx',hr',its,KO,I',sm⟩
  have wM':∀ (j:Nat) b,j∈M->σ'[j]?=some (some (.ref b))->¬ W b:=fun j b hj e=>R.wM j b hj (by rw [<-sm j hj]; exact e)
  by_cases hlt:i < vs.length
  ·refine .inr ⟨⟨vs,vs[i],SqL.of hr',List.getElem?_eq_getElem hlt⟩,fun σ2 H2=>(vs.length - (i+1))=vs.length - (i+1)/\i+1<=vs.length/\Rel F O M b0 σ2 H2/\σ2[x]?=some (some (.ref rr))/\H2 rr=some (.lst vs)/\(∀ k,k < vs.length->∃ q ws,vs[k]?=some (.ref q)/\W q/\q≠rr/\H2 q=some (.lst ws)/\ws.length<=10000+(i+1))/\KeepO O H O H2/\Ios F io M σ2/\∀ j,j∈M->σ2[j]?=σ[j]?,fun σ2 H2 q=>⟨_,by lia,q⟩,fun u H2 yl=>?_⟩
   obtain ⟨rfl,hu⟩:=yl
   obtain ⟨q,ws,ev,wq,nq,hq,hwl⟩:=its i hlt
   have:=hu vs (SqL.of hr')
   rw [ev] at this
   obtain rfl:=Option.some.inj this
   have yl0:y < b0.length:=by rw [bl]; exact K.yl
   have sM:∀ j,j∈M->(σ'.set y (some (.ref q)))[j]?=σ'[j]?:=fun j hj=>by
    rw [List.getElem?_set_ne (fun zz:y=j=>K.yM (by rw [zz]; exact hj))]
   have yl':y < σ'.length:=by rw [<-Rb.len]; exact yl0
   have R4:=Rb.setU K.yM by0 (.ref q)
   refine ⟨_,List.getElem?_set_self yl',.inl ⟨rfl,ws,SqL.of hq⟩,q,ws,.int z,rfl,rfl,hq,Nat.lt_of_le_of_lt hwl (by have:=K.tl; rw [<-l] at this; exact Nat.lt_of_lt_of_le (show 10000+i < 100000 by lia) (by decide)),?_⟩
   have oq:=R.wO q wq
   have h0:F.H0 q=none:=(R.R.fresh q oq).resolve_left (R.wD q wq)
   have kb:∀ b u,b≠q->H2 b=some u->upd H2 q (.lst (ws++[.int z])) b=some u:=fun b u nn e=>by rw [upd_ne nn]; exact e
   have R5:=R4.but oq (fun j hj e=>wM' j q hj (by rw [<-sM j hj]; exact e) wq) h0 kb fun b e=>upd_no e
   refine ⟨rfl,hlt,R5,?_,kb _ _ (Ne.symm nq) hr',fun k hk=>?_,KO.trans ⟨fun b o nn e=>⟨kb b o (fun zz=>nn (zz▸oq)) e,nn⟩,fun b e=>upd_no e⟩,I'.set (fun zz=>K.yM (sub_of hio y zz)) (sub_of hio),fun j hj=>by rw [sM j hj]; exact sm j hj⟩
   ·rw [List.getElem?_set_ne K.yx]; exact hx'
   ·obtain ⟨q',ws',ev',wq',nq',hq',hwl'⟩:=its k hk
    by_cases hqq:q'=q
    ·subst hqq
     exact ⟨q',_,ev',wq',nq',upd_same,by rw [List.length_append,List.length_singleton]; lia⟩
    ·exact ⟨q',ws',ev',wq',nq',kb _ _ hqq hq',by lia⟩
  ·obtain rfl:i=vs.length:=by lia
   refine .inl ⟨⟨vs,SqL.of hr',Nat.le_refl _⟩,?_⟩
   refine qe O W σ' H' (.ref rr) (.lst (ts.map fun _=>T.any)) KO ⟨by rw [List.set_set,hb]; exact Rb,?_,hx',R.xM,?_,R.wO,wM',R.wD⟩ I'
   ·rw [List.getElem?_set_self (by rw [List.length_set]; exact hxl)]
   ·refine .lst wr hr' (by rw [List.length_map]; exact l) fun k u w e1 e2=>?_
    rw [List.getElem?_map] at e2
    obtain ⟨_,_,rfl⟩:=Qm e2
    exact .any)
end
end L3
namespace L3
open PySem PySem.Spec PyProof.Rows L2
variable [TheK]
def gOfI(f:List Int->Int):T->Option T
 | .lst ts=>(intsT ts).bind fun ns=>if 0 < ns.length then some (.int (f ns)) else none
 | _=>none
def gMinI:=gOfI lowI
def gMaxI:=gOfI topI
theorem s_ofI{f:List Int->Int}:S1E (fun xs H Q=>∃ (a:Addr) (ns:List Int),xs=[V.ref a]/\SqL TheK.K H a (ns.map V.int)/\0 < ns.length/\Q (.int (f ns)) H) (gOfI f):=by
 intro C H x tx t Q bx hg q
 cases tx with
 | lst ts=>
  obtain ⟨ns,h1,h2⟩:=Qb (show ((intsT ts).bind fun ns=>if 0 < ns.length then some (T.int (f ns)) else none)=some t from hg)
  split at h2
  ·rename_i hn
   injection h2 with h2; subst h2
   obtain ⟨a,us,rfl,ha,ra⟩:=bx.lst
   rw [intsT_ok ra h1] at ha
   exact ⟨a,ns,rfl,SqL.of ha,hn,q _ (.int _)⟩
  ·cases h2
 | _=>cases hg
def gSortU:T->Option T
 | .lst ts=>(intsLs ts).bind fun rs=>if rs.length < 64 then if riseL rs=true then some (.lst ts) else none else none
 | _=>none
theorem s_sortU:S1N (fun xs H Q=>∃ (a:Addr) (as:List Addr) (rs:List (List Int)),xs=[V.ref a]/\SqL TheK.K H a (as.map V.ref)/\as.length=rs.length/\rs.length < 64/\riseL rs=true /\
  (∀ (i:Nat) b r,as[i]?=some b->rs[i]?=some r->SqL TheK.K H b (r.map V.int))/\∀ l,H l=none->Q (.ref l) (upd H l (.lst (as.map V.ref)))) gSortU:=by
 intro C H x tx t Q bx hg q
 cases tx with
 | lst ts=>
  obtain ⟨rs,h1,h2⟩:=Qb (show ((intsLs ts).bind fun rs=>if rs.length < 64 then if riseL rs=true then some (T.lst ts) else none else none)=some t from hg)
  split at h2
  ·rename_i hn
   split at h2
   ·rename_i hr
    injection h2 with h2; subst h2
    obtain ⟨a,us,rfl,ha,ra⟩:=bx.lst
    obtain ⟨as,rfl,hl,hh⟩:=intsLs_ok ra h1
    exact ⟨a,as,rs,rfl,SqL.of ha,hl,hn,hr,fun i b r hb hr=>SqL.of (hh i b r hb hr),fun p hp=>q p _ hp fun C' hC=>.lst upd_same (ra.there.mono hC fun c o _ e=>by rw [upd_ne (ne_of_none e hp)]; exact e)⟩
   ·cases h2
  ·cases h2
 | _=>cases hg
theorem bt_maxB:bootBuiltins "max"=some (.builtin "max"):=by first | exact PySem.boot_max | exact PyProof.Rows.boot_max | decide +kernel
section
variable {X:Cx}{M:List Nat}{e:Expr}{fe:DE}{p pos:Pos}
theorem e_minI(hK:X.K=TheK.K)(hc:X.calm=true)(hg:Gl X "min")(hm:X.mg "min"=none)(h:PE X e (cE .b M fe))(he:starEach [e] X.env=(false,eval e X.env)::starEach [] X.env:=by rfl)(hpl:(backTo pos (starEach [] X.env)).any (·.1)=false:=by rfl):PE X (.Call (.Name "min" p) [e] [] pos) (cE .e M (d1 gMinI fe)):=
 weak (pe_callB (show CallR X _ _ from hK▸call_minI hc) hg hm bt_minB (pa_cons h pa_nil he) (by decide) (by decide) he hpl) (one_e s_ofI)
theorem e_maxI(hK:X.K=TheK.K)(hc:X.calm=true)(hg:Gl X "max")(hm:X.mg "max"=none)(h:PE X e (cE .b M fe))(he:starEach [e] X.env=(false,eval e X.env)::starEach [] X.env:=by rfl)(hpl:(backTo pos (starEach [] X.env)).any (·.1)=false:=by rfl):PE X (.Call (.Name "max" p) [e] [] pos) (cE .e M (d1 gMaxI fe)):=
 weak (pe_callB (show CallR X _ _ from hK▸call_maxI hc) hg hm bt_maxB (pa_cons h pa_nil he) (by decide) (by decide) he hpl) (one_e s_ofI)
theorem e_sortU(hK:X.K=TheK.K)(hu:X.A.units+8 < cLine)(hg:Gl X "sorted")(hm:X.mg "sorted"=none)(h:PE X e (cE .b M fe))(he:starEach [e] X.env=(false,eval e X.env)::starEach [] X.env:=by rfl)(hpl:(backTo pos (starEach [] X.env)).any (·.1)=false:=by rfl):PE X (.Call (.Name "sorted" p) [e] [] pos) (cE .n M (d1 gSortU fe)):=
 weak (pe_callB (show CallR X _ _ from hK▸call_sortedUp hu) hg hm bt_sorted (pa_cons h pa_nil he) (by decide) (by decide) he hpl) (one_n s_sortU)
end
def CMulB(i j:Int):Prop:=i.natAbs < 2 ^ 200/\j.natAbs < 2 ^ 200
theorem bits200{k:Int}(h:k.natAbs < 2 ^ 200):Builtin.Int.intBits k<=2 ^ 20:=by
 unfold Builtin.Int.intBits
 split
 ·exact Nat.zero_le _
 ·rename_i hne
  have h0:k.natAbs≠0:=by
   intro z
   exact hne (by simpa using z)
  have:=(Nat.log2_lt h0).mpr h
  have e:(2:Nat) ^ 20=1048576:=by decide
  lia
theorem op_mulB{X:Cx}:OpR X (binaryOp .Mult) (rI CMulB fun i j=>.int (i*j)):=opI fun _ _ _ _ _ _ _ hc q=>mul_int q (.of_bits (bits200 hc.1) (bits200 hc.2))
def bMulB(i j:Int):Bool:=Nat.ble i.natAbs 10000000000000000000000000000000000000000&&Nat.ble j.natAbs 10000000000000000000000000000000000000000
def gMulB:=gI bMulB fun i j=>i*j
section
variable {X:Cx}{M:List Nat}{a b:Expr}{fa fb:DE}{pos:Pos}
theorem e_mulB(ha:PE X a (cE .e M fa))(hb:PE X b (cE .b M fb)):PE X (.BinOp a .Mult b pos) (cE .e M (d2 gMulB fa fb)):=weak (pe_op op_mulB ha hb) (two_e (s_I fun i j h=>by
 unfold bMulB at h
 rw [Bool.and_eq_true] at h
 have h1:=Nat.le_of_ble_eq_true h.1
 have h2:=Nat.le_of_ble_eq_true h.2
 have e:(10000000000000000000000000000000000000000:Nat) < 2 ^ 200:=by decide
 exact ⟨Nat.lt_of_le_of_lt h1 e,Nat.lt_of_le_of_lt h2 e⟩))
end
end L3
namespace L3
open PySem PySem.Spec PyProof.Rows L2
def Here(K:PySem.W.Frag)(mg:Str->Option Value)(x:Str)(st:Stmt)(ps:List Str):Prop:=
 ∃ f fd,Fun K x x st f fd/\Binds K fd ps []/\PySem.W.keepIn K (.ref f)=true/\mg x=some (.ref f)
def Cal(P:Program)(w:World)(K:PySem.W.Frag)(mg:Str->Option Value)(base:Heap)(n:Nat)(x:Str)(ps:List Str)(sp:Sp):Prop:=
 ∃ f fd,FnOk P w K mg base CX0 n f fd ps sp/\Binds K fd ps []/\PySem.W.keepIn K (.ref f)=true/\mg x=some (.ref f)
theorem here_mk{K:PySem.W.Frag}{h:Heap}{mg:Str->Option Value}(X:K.In h)(G:h.Ns mainGlobals mg){x:Str}{st:Stmt}{ps:List Str}{f:Addr}{oc:Value}{od an:Option Addr}{osl:Array (Option Value)}{kV doc pm cdv ct:Value}
  (hb:∀ (kV doc pm:Value) (an:Option Addr) (cdv ct:Value) (us:List Value),us.length=ps.length->bindArgs (PySem.W.fnOf x x (defArgs st) (defBody st) (defScope st) .none kV doc pm an cdv ct) ⟨us,[]⟩=pure (ps.zip us))
  (a:PySem.W.nsIn K mainGlobals x=some (some (.ref f))) (l:K.lookup f=some ⟨oc,od,.func (PySem.W.fnOf x x (defArgs st) (defBody st) (defScope st) .none kV doc pm an cdv ct),osl⟩)
  (c:PySem.W.codeIn K cdv x=true) (k:PySem.W.keepIn K (.ref f)=true):Here K mg x st ps:=by
 have F:=fun_mk (st:=st) l c k
 exact ⟨f,_,F,F.binds hb,k,PySem.W.mg_of X G a⟩
section
variable {P:Program}{w:World}{K:PySem.W.Frag}{mg:Str->Option Value}{base:Heap}
theorem Here.ok{x:Str}{st:Stmt}{N ps:List Str}{k:Nat}{sp:Sp}(h:Here K mg x st ps)(S:FnScope N ps (defScope st))(len:∀ vs H Q E,sp vs H Q E->vs.length=ps.length)
  (hbody:∀ (f:Addr) (cdv:Value) (A:Around) (outer:List Env) (s:Shared) (H:Hp) (vs:List V) (Q:VK) (E:XK),Room k (A.deeper (envOfC x (defScope st) s.heap.objs.size f cdv))->sp vs H Q E->
   ∃ t,PSs (cxOf CX0 P w K mg base N x (defScope st) f cdv A outer s H E).nox (defBody st) t/\t { nx:=fun _ H'=>Q .non H',rt:=Q } (L2.start N vs) H):Cal P w K mg base (k+1) x ps sp:=by
 obtain ⟨f,fd,F,b,kp,m⟩:=h
 exact ⟨f,fd,F.ok S len fun cdv A outer s H vs Q E hr hs=>hbody f cdv A outer s H vs Q E hr hs,b,kp,m⟩
theorem Cal.mono{j k:Nat}{x:Str}{ps:List Str}{sp:Sp}(h:Cal P w K mg base j x ps sp)(hjk:j<=k):Cal P w K mg base k x ps sp:=by
 obtain ⟨f,fd,F,b,kp,m⟩:=h
 exact ⟨f,fd,F.mono hjk,b,kp,m⟩
end
def Body(tk:TheK)(P:Program)(w:World)(mg:Str->Option Value)(base:Heap)(k:Nat)(x:Str)(st:Stmt)(N:List Str)(t:TS):Prop:=
 ∀ (f:Addr) (cdv:Value) (A:Around) (outer:List Env) (s:Shared) (H:Hp) (E:XK),Room k (A.deeper (envOfC x (defScope st) s.heap.objs.size f cdv))->PSs (cxOf CX0 P w tk.K mg base N x (defScope st) f cdv A outer s H E).nox (defBody st) t
variable [tk:TheK]
section
variable {P:Program}{w:World}{mg:Str->Option Value}{base:Heap}{x:Str}{st:Stmt}{N ps:List Str}{k:Nat}{d:DS}{M' Mb:List Nat}
theorem Here.okP(h:Here tk.K mg x st ps)(S:FnScope N ps (defScope st))(hb:Body tk P w mg base k x st N (cS .e [] [] M' Mb d))(hN:ps.length<=N.length:=by decide):Cal P w tk.K mg base (k+1) x ps (spP .e ps.length (fnP N.length d)):=by
 refine h.ok S (fun vs H Q E ⟨C,ts,t,hl,r,_⟩=>by rw [r.1,hl]) fun f cdv A outer s H vs Q E hr hs=>⟨_,hb f cdv A outer s H E hr,?_⟩
 refine run_P (fun ts t e=>?_) (.inl rfl) hN hs
 unfold fnP at e
 split at e
 ·injection e with e; subst e; exact .inl ⟨_,by assumption⟩
 ·injection e with e; subst e; exact .inr ⟨rfl,rfl,_,by assumption⟩
 ·cases e
theorem Here.okN(h:Here tk.K mg x st ps)(S:FnScope N ps (defScope st))(hb:Body tk P w mg base k x st N (cS .n [] [] M' Mb d))(hN:ps.length<=N.length:=by decide):Cal P w tk.K mg base (k+1) x ps (spP .n ps.length (fnPn N.length d)):=by
 refine h.ok S (fun vs H Q E ⟨C,ts,t,hl,r,_⟩=>by rw [r.1,hl]) fun f cdv A outer s H vs Q E hr hs=>⟨_,hb f cdv A outer s H E hr,?_⟩
 refine run_P (fun ts t e=>?_) (.inr rfl) hN hs
 unfold fnPn at e
 split at e
 ·injection e with e; subst e; exact .inl ⟨_,by assumption⟩
 ·cases e
theorem Here.okD(h:Here tk.K mg x st ps)(S:FnScope N ps (defScope st))(hb:Body tk P w mg base k x st N (cS .b [] [] M' Mb d))(hN:ps.length<=N.length:=by decide):Cal P w tk.K mg base (k+1) x ps (spD ps.length (fnPn N.length d)):=
 h.ok S (fun vs H Q E ⟨C,ts,t,hl,r,_⟩=>by rw [r.1,hl]) fun f cdv A outer s H vs Q E hr hs=>⟨_,hb f cdv A outer s H E hr,run_D hN hs⟩
theorem spI_len{rk:Kd}{np:Nat}{fn:List T->Option (T × T)}{vs:List V}{H:Hp}{Q:VK}{E:XK}(h:spI rk np fn vs H Q E):vs.length=np:=by
 obtain ⟨C,a,us,t0,ts,t,t1,hl,rfl,_,_,r,_⟩:=h
 rw [<-hl,List.length_cons,List.length_cons,r.1]
theorem Here.okI(h:Here tk.K mg x st ps)(S:FnScope N ps (defScope st))(hb:Body tk P w mg base k x st N (cS .e [0] [0] M' Mb d))(hN:ps.length<=N.length:=by decide):Cal P w tk.K mg base (k+1) x ps (spI .e ps.length (fnI N.length d)):=
 h.ok S (fun vs H Q E h=>spI_len h) fun f cdv A outer s H vs Q E hr hs=>⟨_,hb f cdv A outer s H E hr,run_I (.inl rfl) hN hs⟩
def spLaw(K:PySem.W.Frag):Sp:=fun vs H Q _=>∃ (a:Addr) (ns:List Int),vs=[.ref a]/\Only H/\SqL K H a (ns.map V.int)/\ns.length<=63/\∀ H',Q (.bl true) H'
theorem law_fn{fw:Addr}{dw:FuncData}(F:Fun tk.K x x st fw dw)(S:FnScope N [ps0] (defScope st))(hb:Body tk P w mg base k x st N (cS .e [] [] M' Mb d))(hN:1<=N.length)(hd:∀ ns:List Int,ns.length<=63->fnP N.length d [.scr ns]=some (.bl true)):FnOk P w tk.K mg base CX0 (k+1) fw dw [ps0] (spLaw tk.K):=by
 refine F.ok S (fun vs H Q E ⟨a,ns,e,_⟩=>by rw [e]; rfl) fun cdv A outer s H vs Q E hr hs=>⟨_,hb fw cdv A outer s H E hr,?_⟩
 obtain ⟨a,ns,rfl,hO,hS,h63,q⟩:=hs
 have rp:Rep (fun _=>True) H (.ref a) (.scr ns):=by
  rcases hS with (hS | ⟨o,hS⟩) | hS
  ·rcases hO a with z | ⟨_,_,z⟩<;>rw [hS] at z<;>cases z
  ·exact .scr trivial hS
  ·exact .scrK fun H'=>.inr hS
 refine run_P (np:=1) (N:=N) (fn:=L3.fnP N.length d) (fun ts t e=>?_) (.inl rfl) hN (E:=E) ⟨fun _=>True,[.scr ns],.bl true,rfl,.cons rp .nil,hd ns h63,fun v H' c=>?_⟩
 ·unfold L3.fnP at e
  split at e
  ·injection e with e; subst e; exact .inl ⟨_,by assumption⟩
  ·injection e with e; subst e; exact .inr ⟨rfl,rfl,_,by assumption⟩
  ·cases e
 ·have:v=.bl true:=BRep.bl (.inl c.res)
  rw [this]
  exact q H'
end
theorem walk{l:PySem.W.OpenLaw}{q:Program}{loose:List Str}{XP:(Str->Option Value)->Heap->Prop}{YP:World->Heap->Prop}{d:DefRec}{K:Params->PySem.W.Frag}{x:Str}{k:Nat}(hn:l.most=some 63)(hdf:d.params.defaults=[])(hk:k < 60)
  (hY:∀ (w:World) (h:Heap),YP w h->(K w.params).In h)
  (F:∀ (w:World) (mg:Str->Option Value) (fa:Addr) (h:Heap),(K w.params).In h->h.Ns mainGlobals mg->mg d.name=some (.ref fa)->
   ∃ fd:FuncData,(∀ (s:Shared) (u:Value),BindsTo s fd ⟨[u],[]⟩ [(x,u)])/\∀ base:Heap,(K w.params).In base->base.Ns mainGlobals mg->FnOk l.prog w (K w.params) mg base CX0 k fa fd [x] (spLaw (K w.params))) :
  PySem.W.WalkO q loose XP YP l.row.toRowW d [] (fun f vs=>PySem.call f vs):=
 L2.walk_of (n:=63) (k:=k) (x:=x) (CX:=fun _=>CX0) (sp:=fun w=>spLaw (K w.params)) hn (by decide) hdf (Room.mono (k:=60) ⟨rfl,by decide,by decide⟩ (by lia)) hY F (fun _ _ a ns hl hO hS=>⟨a,ns,rfl,hO,hS,hl,fun _=>rfl⟩) fun _ _ _ _ _ z=>z
end L3
namespace L3
open PySem PySem.Spec PyProof.Rows L2
theorem hu8_of{A:Around}{k:Nat}(hr:Room k A):A.units+8 < cLine:=by have:=hr.un; lia
end L3
namespace L3
open PySem PySem.Spec PyProof.Rows L2
structure QE (X:Cx) (e:Expr) (t:TE):Prop where
 un:L2.PE X e t
structure QT (X:Cx) (e:Expr) (t:TT):Prop where
 un:L2.PT X e t
structure QW (X:Cx) (e:Expr) (t:TT):Prop where
 un:L2.PW X e t
structure QA (X:Cx) (e:List Expr) (t:TA):Prop where
 un:L2.PA X e t
structure QSs (X:Cx) (e:List Stmt) (t:TS):Prop where
 un:L2.PSs X e t
structure QS (X:Cx) (e:Stmt) (t:TS):Prop where
 un:L2.PS X e t
structure QI (X:Cx) (tg iter:Expr) (t:TI):Prop where
 un:L2.PI X tg iter t
structure QGs (X:Cx) (e:List Expr) (t:TGs):Prop where
 un:L2.PGs X e t
structure QG (X:Cx) (e:Expr) (t:TG):Prop where
 un:L2.PG X e t
structure QTs (X:Cx) (e:List Expr) (t:TT):Prop where
 un:L2.PTs X e t
structure QO (X:Cx) (e:Option Expr) (t:TO):Prop where
 un:L2.PO X e t
section
variable {X:Cx}
theorem qpe_int{i j pos}:QE X (.Constant (.int i) j pos) (tC (.int i)):=⟨L2.pe_int ⟩
end
section
variable {X:Cx}
theorem qpe_bltn{x:Str}{v:V}{u:Value}{pos:Pos}(hg:Gl X x)(hm:X.mg x=none)(hv:bootBuiltins x=some u)(r:RelV v u)(hn:x≠"__name__":=by decide)(hd:(x == ("__debug__":Str))=false:=by decide):QE X (.Name x pos) (tC v):=⟨L2.pe_bltn hg hm hv r hn hd⟩
end
section
variable {X:Cx}{st:Stmt}{rest:List Stmt}{t u:TS}{e:Expr}{te:TE}{pos:Pos}
theorem qps_expr(he:QE X e te)(hs:swapsWith e none pos.line X.env=pure false:=by rfl):QS X (.Expr e pos) (tDrop te):=⟨L2.ps_expr he.un hs⟩
end
section
variable {X:Cx}{pos:Pos}
theorem qpg_name{i:Nat}{x:Str}(hN:X.N.Nodup)(hi:X.N[i]?=some x)(hx:Loc X.env.scope x)(hf:X.fn x=true∨X.env.scope.names.lookup x=some .local:=by first | exact .inl rfl | exact .inr rfl | assumption):QG X (.Name x pos) (gName i):=⟨L2.pg_name hN hi hx hf⟩
end
section
variable {X:Cx}{pos:Pos}
theorem qpgs_nil :QGs X [] gNil:=⟨L2.pgs_nil ⟩
end
section
variable {X:Cx}{pos:Pos}
theorem qpgs_cons{e:Expr}{es:List Expr}{t:TG}{u:TGs}(h1:QG X e t)(h2:QGs X es u)(hs:(assignEach (e::es) X.env).map (·.2)=assign e X.env::(assignEach es X.env).map (·.2):=by rfl):QGs X (e::es) (gCons t u):=⟨L2.pgs_cons h1.un h2.un hs⟩
end
section
variable {X:Cx}{pos:Pos}
theorem qpg_tup{es:List Expr}{k:Nat}{t:TGs}{n:Nat}(hc:X.calm=true)(h:QGs X es t)(hn:(assignEach es X.env).length=n:=by rfl)(hst:(assignEach es X.env).findIdx? (·.1)=none:=by rfl):QG X (.Tuple es k pos) (gTup X.K n t):=⟨L2.pg_tup hc h.un hn hst⟩
end
section
variable {X:Cx}{pos:Pos}
theorem qpg_sub{o i:Expr}{to ti:TE}{t:TSet}(ho:QE X o to)(hi:QE X i ti)(hs:PSet X t)(ha:∀ v,assign (.Subscript o i pos) X.env v=(do
   let ov <-holding [v] (eval o X.env)
   let iv <-holding [v,ov] (eval i X.env)
   standAt pos
   holding [v,ov,iv] (setItem ov iv v)
   release [v,ov,iv] []):=by intro _; rfl):QG X (.Subscript o i pos) (gSub to ti t):=⟨L2.pg_sub ho.un hi.un hs ha⟩
end
section
variable {X:Cx}{pos:Pos}
theorem qps_asg{tg e:Expr}{te:TE}{g:TG}(he:QE X e te)(hg:QG X tg g)(hs:swapsWithSole [tg] e pos.line X.env=pure false:=by rfl)(hw:swappedStores [tg] e X.env=pure none:=by rfl)(h1:(assignEach [tg] X.env).map (·.2)=[assign tg X.env]:=by rfl):QS X (.Assign [tg] e pos) (tAsg te g):=⟨L2.ps_asg he.un hg.un hs hw h1⟩
end
section
variable {X:Cx}{pos:Pos}
theorem qps_set{i:Nat}{x:Str}{e:Expr}{te:TE}{pos':Pos}(hN:X.N.Nodup)(hi:X.N[i]?=some x)(hx:Loc X.env.scope x)(he:QE X e te)(hs:swapsWith e (some (.Name x pos')) pos.line X.env=pure false:=by rfl)(hf:X.fn x=true∨X.env.scope.names.lookup x=some .local:=by first | exact .inl rfl | exact .inr rfl | assumption):QS X (.Assign [.Name x pos'] e pos) (tAsg te (gName i)):=⟨L2.ps_set hN hi hx he.un hs hf⟩
end
section
variable {X:Cx}{tg:Expr}
theorem qps_for{iter:Expr}{body:List Stmt}{wi:TI}{g:TG}{tb:TS}{pos:Pos}(hp:PassesOwn (model X.prog X.w) X.A X.env X.xe)(hc:X.calm=true)(hi:QI X tg iter wi)(hg:QG X tg g)(hb:QSs X body tb)(hs:∀ x,foldedSetIterable iter X.env x=pure x:=by intro _; rfl):QS X (.For tg iter body [] pos) (tFor wi g tb):=⟨L2.ps_for hp hc hi.un hg.un hb.un hs⟩
end
section
variable {X:Cx}{e:Expr}{es:List Expr}{te:TE}{t:TA}{pos:Pos}
theorem qpa_nil :QA X [] tNil:=⟨L2.pa_nil ⟩
end
section
variable {X:Cx}{e:Expr}{es:List Expr}{te:TE}{t:TA}{pos:Pos}
theorem qpa_cons(ha:QE X e te)(hr:QA X es t)(hs:starEach (e::es) X.env=(false,eval e X.env)::starEach es X.env:=by rfl):QA X (e::es) (tCons te t):=⟨L2.pa_cons ha.un hr.un hs⟩
end
section
variable {X:Cx}{a b:Expr}{ta tb:TE}{pos:Pos}
variable {o e:Expr}{es:List Expr}{to:TE}{t:TA}{name:Str}{apos cpos:Pos}{T id:String}{r:V->List V->Hp->VK->Prop}
theorem qpe_bm0(pa:PlainAttrs T)(slot:Slot T name id)(hty:typeOf (.builtin id)=pure (.type "method_descriptor"))(hm:MtR X id r)(ho:QE X o to)(hbase:attributeBase o name X.env (eval o X.env)=eval o X.env:=by rfl)(hline:(apos.endLine == cpos.line)=true:=by rfl):QE X (.Call (.Attribute o name apos) [] [] cpos) (tBM0 X.K T r to):=⟨L2.pe_bm0 pa slot hty hm ho.un hbase hline⟩
end
section
variable {X:Cx}{a b:Expr}{ta tb:TE}{pos:Pos}
variable {o e:Expr}{es:List Expr}{to:TE}{t:TA}{name:Str}{apos cpos:Pos}{T id:String}{r:V->List V->Hp->VK->Prop}
theorem qpe_bm(pa:PlainAttrs T)(slot:Slot T name id)(hty:typeOf (.builtin id)=pure (.type "method_descriptor"))(hm:MtR X id r)(ho:QE X o to)(ha:QA X (e::es) t)(hbase:attributeBase o name X.env (eval o X.env)=eval o X.env:=by rfl)(hfew:((backTo cpos (starEach (e::es) X.env)).all (fun x=>!x.1)&&(backToKw cpos (keywordEach [] X.env)).all (fun x=>x.1.isSome)
   && decide ((e::es).length+([]:List Keyword).length+(if ([]:List Keyword).isEmpty then 0 else 1) < 30))=true:=by rfl) (hline:(apos.endLine == cpos.line)=true:=by rfl) (hs:starEach (e::es) X.env=(false,eval e X.env)::starEach es X.env:=by rfl) (hplain:(backTo cpos (starEach es X.env)).any (·.1)=false:=by rfl):QE X (.Call (.Attribute o name apos) (e::es) [] cpos) (tBM X.K T r to t):=⟨L2.pe_bm pa slot hty hm ho.un ha.un hbase hfew hline hs hplain⟩
end
section
variable {X:Cx}
theorem qpv(i:Nat){x:Str}{pos:Pos}(hN:X.N[i]?=some x:=by rfl)(hv:Vis X.env.scope x:=by first | exact Or.inl rfl | exact Or.inr (Or.inl rfl) | exact Or.inr (Or.inr rfl))(hd:(x == ("__debug__":Str))=false:=by decide)(hcd:(x == ("__classdict__":Str))=false:=by decide):QE X (.Name x pos) (tVar i):=⟨L2.pv i hN hv hd hcd⟩
end
section
theorem qpts_nil{X:Cx}:QTs X [] tAll:=⟨L2.pts_nil ⟩
end
section
theorem qpts_one{X:Cx}{c:Expr}{t:TT}(h:QT X c t):QTs X [c] t:=⟨L2.pts_one h.un⟩
end
section
variable {X:Cx}{N:List Str}{scope:Scope}{caps:List (Option Nat)}{tg elt iter:Expr}{ifs:List Expr}{wi:TI}{g:TG}{tt:TT}{te:TE}{pos:Pos}
theorem qpe_lc(hc:X.calm=true)(hi:QI X tg iter wi)(hg:∀ cl C s0 H0 fp,QG (cxComp X N scope cl C s0 H0 fp) tg g)(hgk:KeepG caps g)(ht:∀ cl C s0 H0 fp,QTs (cxComp X N scope cl C s0 H0 fp) ifs tt)(he:∀ cl C s0 H0 fp,QE (cxComp X N scope cl C s0 H0 fp) elt te)(hcap:capOk N X.N scope X.env.scope caps=true:=by rfl)(hkind:scope.kind=.function:=by rfl)(hcell:scope.names.all (fun p=>p.2 != .cell)=true:=by rfl)(hnames:scope.names.all (fun p=>p.2 != .local||scope.names.lookup p.1 == some .local)=true:=by rfl)(hfr:scope.names.all (fun p=>p.2 != .free||(X.env.scope.names.lookup p.1 == some .cell||X.env.scope.names.lookup p.1 == some .free))=true:=by rfl)(hs:∀ x,foldedSetIterable iter X.env x=pure x:=by intro _; rfl):QE X (.ListComp elt [⟨tg,iter,ifs,0⟩] scope pos) (tLC caps wi g tt te):=⟨L2.pe_lc hc hi.un (fun cl C s0 H0 fp=>(hg cl C s0 H0 fp).un) hgk (fun cl C s0 H0 fp=>(ht cl C s0 H0 fp).un) (fun cl C s0 H0 fp=>(he cl C s0 H0 fp).un) hcap hkind hcell hnames hfr hs⟩
end
section
variable {X:Cx}{N:List Str}{scope:Scope}{caps:List (Option Nat)}{tg elt iter:Expr}{ifs:List Expr}{wi:TI}{g:TG}{tt:TT}{te:TE}{pos:Pos}
theorem qps_setLC{i:Nat}{y:Str}{py spos:Pos}(hN:X.N.Nodup)(hiy:X.N[i]?=some y)(hy:X.env.scope.names.lookup y=some .local)(hc:X.calm=true)(hi:QI X tg iter wi)(hg:∀ cl C s0 H0 fp,QG (cxComp X N scope cl C s0 H0 fp) tg g)(hgk:KeepG caps g)(ht:∀ cl C s0 H0 fp,QTs (cxComp X N scope cl C s0 H0 fp) ifs tt)(he:∀ cl C s0 H0 fp,QE (cxComp X N scope cl C s0 H0 fp) elt te)(hsw:swapsWith (.ListComp elt [⟨tg,iter,ifs,0⟩] scope pos) (some (.Name y py)) spos.line X.env=pure true:=by rfl)(hcap:capOk N X.N scope X.env.scope caps=true:=by rfl)(hkind:scope.kind=.function:=by rfl)(hcell:scope.names.all (fun p=>p.2 != .cell)=true:=by rfl)(hnames:scope.names.all (fun p=>p.2 != .local||scope.names.lookup p.1 == some .local)=true:=by rfl)(hfr:scope.names.all (fun p=>p.2 != .free||(X.env.scope.names.lookup p.1 == some .cell||X.env.scope.names.lookup p.1 == some .free))=true:=by rfl)(hs:∀ x,foldedSetIterable iter X.env x=pure x:=by intro _; rfl):QS X (.Assign [.Name y py] (.ListComp elt [⟨tg,iter,ifs,0⟩] scope pos) spos) (tAsg (tLC caps wi g tt te) (gName i)):=⟨L2.ps_setLC hN hiy hy hc hi.un (fun cl C s0 H0 fp=>(hg cl C s0 H0 fp).un) hgk (fun cl C s0 H0 fp=>(ht cl C s0 H0 fp).un) (fun cl C s0 H0 fp=>(he cl C s0 H0 fp).un) hsw hcap hkind hcell hnames hfr hs⟩
end
section
variable {X:Cx}{K:PySem.W.Frag}
theorem qpg_tupK{es:List Expr}{k:Nat}{t:TGs}{n:Nat}{pos:Pos}(hK:X.K=K)(hc:X.calm=true)(h:QGs X es t)(hn:(assignEach es X.env).length=n:=by rfl)(hst:(assignEach es X.env).findIdx? (·.1)=none:=by rfl):QG X (.Tuple es k pos) (gTup K n t):=⟨L2.pg_tupK hK hc h.un hn hst⟩
end
section
variable {X:Cx}{pos:Pos}
theorem qpg_unl{es:List Expr}{k:Nat}{t:TGs}{n:Nat}(hc:X.calm=true)(h:QGs X es t)(hn:(assignEach es X.env).length=n:=by rfl)(hst:(assignEach es X.env).findIdx? (·.1)=none:=by rfl):QG X (.Tuple es k pos) (gUnl X.K n t):=⟨L2.pg_unl hc h.un hn hst⟩
end
section
variable [TheK]
variable {X:Cx}{M:List Nat}{e a b:Expr}{fa fb:DE}
theorem qne(h:QE X e (cE .n M fa)):QE X e (cE .e M fa):=⟨L3.ne h.un⟩
end
section
variable [TheK]
variable {X:Cx}{M:List Nat}{e a b:Expr}{fa fb:DE}
theorem qeb(h:QE X e (cE .e M fa)):QE X e (cE .b M fa):=⟨L3.eb h.un⟩
end
section
variable [TheK]
variable {X:Cx}{M:List Nat}{e a b:Expr}{fa fb:DE}
theorem qnb(h:QE X e (cE .n M fa)):QE X e (cE .b M fa):=⟨L3.nb h.un⟩
end
section
variable [TheK]
variable {X:Cx}{M:List Nat}{e a b:Expr}{fa fb:DE}
theorem qv_{i:Nat}(hi:M.contains i=false)(h:QE X e (tVar i)):QE X e (cE .e M (dV i)):=⟨L3.e_var hi h.un⟩
end
section
variable [TheK]
variable {X:Cx}{M:List Nat}{e a b:Expr}{fa fb:DE}
theorem qe_raw{i:Nat}(hi:M.contains i=true)(h:QE X e (tVar i)):QE X e (cE .b M (dV i)):=⟨L3.e_raw hi h.un⟩
end
section
variable [TheK]
variable {X:Cx}{M:List Nat}{e a b:Expr}{fa fb:DE}
theorem qi_{i j pos}:QE X (.Constant (.int i) j pos) (cE .e M (dC (.int i))):=⟨L3.e_int ⟩
end
section
variable [TheK]
variable {X:Cx}{M:List Nat}{e a b:Expr}{fa fb:DE}
theorem qe_bl{i j pos}:QE X (.Constant (.bool i) j pos) (cE .e M (dC (.bl i))):=⟨L3.e_bl ⟩
end
section
variable [TheK]
variable {X:Cx}{M:List Nat}{e a b:Expr}{fa fb:DE}
theorem qe_str{i j pos}:QE X (.Constant (.str i) j pos) (cE .e M (dC (.str i))):=⟨L3.e_str ⟩
end
section
variable [TheK]
variable {X:Cx}
variable {M:List Nat}{a b:Expr}{fa fb:DE}{pos:Pos}
theorem qe_sub(ha:QE X a (cE .e M fa))(hb:QE X b (cE .b M fb)):QE X (.BinOp a .Sub b pos) (cE .e M (d2 gSb fa fb)):=⟨L3.e_sub ha.un hb.un⟩
end
section
variable [TheK]
variable {X:Cx}
variable {M:List Nat}{a b:Expr}{fa fb:DE}{pos:Pos}
theorem qe_mul(ha:QE X a (cE .e M fa))(hb:QE X b (cE .b M fb)):QE X (.BinOp a .Mult b pos) (cE .e M (d2 gMul fa fb)):=⟨L3.e_mul ha.un hb.un⟩
end
section
variable [TheK]
variable {X:Cx}
variable {M:List Nat}{a b:Expr}{fa fb:DE}{pos:Pos}
theorem qe_div(ha:QE X a (cE .e M fa))(hb:QE X b (cE .b M fb)):QE X (.BinOp a .FloorDiv b pos) (cE .e M (d2 gDiv fa fb)):=⟨L3.e_div ha.un hb.un⟩
end
section
variable [TheK]
variable {X:Cx}
variable {M:List Nat}{a b:Expr}{fa fb:DE}{pos:Pos}
theorem qe_mod(ha:QE X a (cE .e M fa))(hb:QE X b (cE .b M fb)):QE X (.BinOp a .Mod b pos) (cE .e M (d2 gMod fa fb)):=⟨L3.e_mod ha.un hb.un⟩
end
section
variable [TheK]
variable {X:Cx}
variable {M:List Nat}{a b:Expr}{fa fb:DE}{pos:Pos}
theorem qe_pow(ha:QE X a (cE .e M fa))(hb:QE X b (cE .b M fb)):QE X (.BinOp a .Pow b pos) (cE .e M (d2 gPow fa fb)):=⟨L3.e_pow ha.un hb.un⟩
end
section
variable [TheK]
variable {X:Cx}{M:List Nat}{a b:Expr}{fa fb:DE}{pos:Pos}
theorem qe_eq(hu:X.A.units+8 < cLine)(ha:QE X a (cE .e M fa))(hb:QE X b (cE .b M fb)):QE X (.Compare a [.Eq] [b] pos) (cE .e M (d2 gEq fa fb)):=⟨L3.e_eq hu ha.un hb.un⟩
end
section
variable [TheK]
variable {X:Cx}{M:List Nat}{a b c:Expr}{fa fb:DE}{ft fu:DT}{pos:Pos}{k:Kd}
theorem qt_tru(h:QE X a (cE .b M fa))(he:∀ whole,isTrue a X.env whole=(do let v <-whole; standAt a.pos; holding [v] (truthy v)):=by intro _; rfl):QT X a (cT M (dTru fa)):=⟨L3.t_tru h.un he⟩
end
section
variable [TheK]
variable {X:Cx}{M:List Nat}{a b c:Expr}{fa fb:DE}{ft fu:DT}{pos:Pos}{k:Kd}
theorem qt_eq(hu:X.A.units+8 < cLine)(ha:QE X a (cE .e M fa))(hb:QE X b (cE .b M fb)):QT X (.Compare a [.Eq] [b] pos) (cT M (dB (d2 gEq fa fb))):=⟨L3.t_eq hu ha.un hb.un⟩
end
section
variable [TheK]
variable {X:Cx}{M:List Nat}{a b c:Expr}{fa fb:DE}{ft fu:DT}{pos:Pos}{k:Kd}
theorem qt_ne(hu:X.A.units+8 < cLine)(ha:QE X a (cE .e M fa))(hb:QE X b (cE .b M fb)):QT X (.Compare a [.NotEq] [b] pos) (cT M (dB (d2 gNe fa fb))):=⟨L3.t_ne hu ha.un hb.un⟩
end
section
variable [TheK]
variable {X:Cx}{M:List Nat}{a b c:Expr}{fa fb:DE}{ft fu:DT}{pos:Pos}{k:Kd}
theorem qt_lt(ha:QE X a (cE .e M fa))(hb:QE X b (cE .b M fb)):QT X (.Compare a [.Lt] [b] pos) (cT M (dB (d2 gLt fa fb))):=⟨L3.t_lt ha.un hb.un⟩
end
section
variable [TheK]
variable {X:Cx}{M:List Nat}{a b c:Expr}{fa fb:DE}{ft fu:DT}{pos:Pos}{k:Kd}
theorem qt_gt(ha:QE X a (cE .e M fa))(hb:QE X b (cE .b M fb)):QT X (.Compare a [.Gt] [b] pos) (cT M (dB (d2 gGt fa fb))):=⟨L3.t_gt ha.un hb.un⟩
end
section
variable [TheK]
variable {X:Cx}{M:List Nat}{a b c:Expr}{fa fb:DE}{ft fu:DT}{pos:Pos}{k:Kd}
theorem qt_ge(ha:QE X a (cE .e M fa))(hb:QE X b (cE .b M fb)):QT X (.Compare a [.GtE] [b] pos) (cT M (dB (d2 gGe fa fb))):=⟨L3.t_ge ha.un hb.un⟩
end
section
variable [TheK]
variable {X:Cx}{M:List Nat}{a b c:Expr}{fa fb:DE}{ft fu:DT}{pos:Pos}{k:Kd}
theorem qt_not(h:QT X a (cT M ft)):QT X (.UnaryOp .Not a pos) (cT M (dNot ft)):=⟨L3.t_not h.un⟩
end
section
variable [TheK]
variable {X:Cx}{M:List Nat}{a b c:Expr}{fa fb:DE}{ft fu:DT}{pos:Pos}{k:Kd}
theorem qw_and1(h:QT X a (cT M ft)):QW X (.BoolOp .And [a] pos) (cT M ft):=⟨L3.w_and1 h.un⟩
end
section
variable [TheK]
variable {X:Cx}{M:List Nat}{a b c:Expr}{fa fb:DE}{ft fu:DT}{pos:Pos}{k:Kd}
theorem qw_or1(h:QT X a (cT M ft)):QW X (.BoolOp .Or [a] pos) (cT M ft):=⟨L3.w_or1 h.un⟩
end
section
variable [TheK]
variable {X:Cx}{M:List Nat}{a b c:Expr}{fa fb:DE}{ft fu:DT}{pos:Pos}{k:Kd}
theorem qw_and{rest:List Expr}(ha:QT X a (cT M ft))(hb:QW X (.BoolOp .And (b::rest) pos) (cT M fu)):QW X (.BoolOp .And (a::b::rest) pos) (cT M (dAnd ft fu)):=⟨L3.w_and ha.un hb.un⟩
end
section
variable [TheK]
variable {X:Cx}{M:List Nat}{a b c:Expr}{fa fb:DE}{ft fu:DT}{pos:Pos}{k:Kd}
theorem qw_or{rest:List Expr}(ha:QT X a (cT M ft))(hb:QW X (.BoolOp .Or (b::rest) pos) (cT M fu)):QW X (.BoolOp .Or (a::b::rest) pos) (cT M (dOr ft fu)):=⟨L3.w_or ha.un hb.un⟩
end
section
variable [TheK]
variable {X:Cx}{M:List Nat}{a b c:Expr}{fa fb:DE}{ft fu:DT}{pos:Pos}{k:Kd}
theorem qe_one{op}(h:QE X a (cE .e M fa)):QE X (.BoolOp op [a] pos) (cE .e M fa):=⟨L3.e_one h.un⟩
end
section
variable [TheK]
variable {X:Cx}{M:List Nat}{a b c:Expr}{fa fb:DE}{ft fu:DT}{pos:Pos}{k:Kd}
theorem qe_and{rest:List Expr}(ha:QE X a (cE .e M fa))(hb:QE X (.BoolOp .And (b::rest) pos) (cE .e M fb)):QE X (.BoolOp .And (a::b::rest) pos) (cE .e M (dAndV fa fb)):=⟨L3.e_and ha.un hb.un⟩
end
section
variable [TheK]
variable {X:Cx}{M:List Nat}{a b c:Expr}{fa fb:DE}{ft fu:DT}{pos:Pos}{k:Kd}
theorem qe_not(ha:QE X a (cE .e M fa)):QE X (.UnaryOp .Not a pos) (cE .e M (dNotV fa)):=⟨L3.e_not ha.un⟩
end
section
variable [TheK]
variable {X:Cx}{M:List Nat}{a b c:Expr}{fa fb:DE}{ft fu:DT}{pos:Pos}{k:Kd}
theorem qe_if(hc:QT X c (cT M ft))(ha:QE X a (cE .e M fa))(hb:QE X b (cE .e M fb)):QE X (.IfExp c a b pos) (cE .e M (dIf ft fa fb)):=⟨L3.e_if hc.un ha.un hb.un⟩
end
section
variable [TheK]
variable {X:Cx}{M:List Nat}{e:Expr}{es:List Expr}{fe:DE}{fa:DA}{pos:Pos}
theorem qa_nil :QA X [] (cA M dAn):=⟨L3.a_nil ⟩
end
section
variable [TheK]
variable {X:Cx}{M:List Nat}{e:Expr}{es:List Expr}{fe:DE}{fa:DA}{pos:Pos}
theorem qa_(h:QE X e (cE .e M fe))(ha:QA X es (cA M fa))(hs:starEach (e::es) X.env=(false,eval e X.env)::starEach es X.env:=by rfl):QA X (e::es) (cA M (dAc fe fa)):=⟨L3.a_cons h.un ha.un hs⟩
end
section
variable [TheK]
variable {X:Cx}{M:List Nat}{e:Expr}{es:List Expr}{fe:DE}{fa:DA}{pos:Pos}
theorem qe_lst(h:QA X es (cA M fa)):QE X (.List es pos) (cE .n M (dLst fa)):=⟨L3.e_lst h.un⟩
end
section
variable [TheK]
variable {X:Cx}{M:List Nat}{e:Expr}{lo hi:Option Expr}{fe:DE}{fl fh:DO}{pos p2:Pos}
theorem qo_none :QO X none (cO M dOn):=⟨L3.o_none ⟩
end
section
variable [TheK]
variable {X:Cx}{M:List Nat}{e:Expr}{lo hi:Option Expr}{fe:DE}{fl fh:DO}{pos p2:Pos}
theorem qo_some(h:QE X e (cE .e M fe)):QO X (some e) (cO M (dOs fe)):=⟨L3.o_some h.un⟩
end
section
variable [TheK]
variable {X:Cx}{M:List Nat}{e:Expr}{lo hi:Option Expr}{fe:DE}{fl fh:DO}{pos p2:Pos}
theorem qe_sl(hK:X.K=TheK.K)(he:QE X e (cE .e M fe))(hl:QO X lo (cO M fl))(hu:QO X hi (cO M fh)):QE X (.Subscript e (.Slice lo hi none p2) pos) (cE .n M (dSl gSl fe fl fh)):=⟨L3.e_sl hK he.un hl.un hu.un⟩
end
section
variable [TheK]
variable {F:Fr}{O O' O'':Addr->Prop}{io M M' Mb:List Nat}{s s':Sg}{σ:L2.St}{H H' H'':Hp}{v:V}{t:T}{a:Addr}{rk:Kd}
theorem qs_pre{X:Cx}{st:Stmt}{d:DS}{Mx:List Nat}(h:QS X st (cS rk io M' Mx Mb d))(hM:M'.all (M.contains ·)=true:=by rfl)(hio:io.all (M'.contains ·)=true:=by rfl):QS X st (cS rk io M Mx Mb d):=⟨L3.s_pre h.un hM hio⟩
end
section
variable [TheK]
variable {F:Fr}{O O' O'':Addr->Prop}{io M M' Mb:List Nat}{s s':Sg}{σ:L2.St}{H H' H'':Hp}{v:V}{t:T}{a:Addr}{rk:Kd}
theorem qss_post{X:Cx}{st:List Stmt}{d:DS}{Mx:List Nat}(h:QSs X st (cS rk io M M' Mb d))(hM:Mx.all (M'.contains ·)=true:=by rfl)(hio:io.all (Mx.contains ·)=true:=by rfl):QSs X st (cS rk io M Mx Mb d):=⟨L3.ss_post h.un hM hio⟩
end
section
variable [TheK]
variable {X:Cx}{rk:Kd}{io M M' M'' Mb:List Nat}{st:Stmt}{sts:List Stmt}{e c:Expr}{a b:List Stmt}{d d':DS}{fe:DE}{ft:DT}{pos pos':Pos}
theorem qss_nil :QSs X [] (cS rk io M M Mb dNext):=⟨L3.ss_nil ⟩
end
section
variable [TheK]
variable {X:Cx}{rk:Kd}{io M M' M'' Mb:List Nat}{st:Stmt}{sts:List Stmt}{e c:Expr}{a b:List Stmt}{d d':DS}{fe:DE}{ft:DT}{pos pos':Pos}
theorem qss_one(h:QS X st (cS rk io M M' Mb d)):QSs X [st] (cS rk io M M' Mb d):=⟨L3.ss_one h.un⟩
end
section
variable [TheK]
variable {X:Cx}{rk:Kd}{io M M' M'' Mb:List Nat}{st:Stmt}{sts:List Stmt}{e c:Expr}{a b:List Stmt}{d d':DS}{fe:DE}{ft:DT}{pos pos':Pos}
theorem qs_(h:QS X st (cS rk io M M' Mb d))(h2:QSs X sts (cS rk io M' M'' Mb d')):QSs X (st::sts) (cS rk io M M'' Mb (dSeq d d')):=⟨L3.ss_cons h.un h2.un⟩
end
section
variable [TheK]
variable {X:Cx}{rk:Kd}{io M M' M'' Mb:List Nat}{st:Stmt}{sts:List Stmt}{e c:Expr}{a b:List Stmt}{d d':DS}{fe:DE}{ft:DT}{pos pos':Pos}
theorem qs_if(hc:QT X c (cT M ft))(ha:QSs X a (cS rk io M M' Mb d))(hb:QSs X b (cS rk io M M' Mb d')):QS X (.If c a b pos) (cS rk io M M' Mb (dIfS ft d d')):=⟨L3.s_if hc.un ha.un hb.un⟩
end
section
variable [TheK]
variable {X:Cx}{rk:Kd}{io M M' M'' Mb:List Nat}{st:Stmt}{sts:List Stmt}{e c:Expr}{a b:List Stmt}{d d':DS}{fe:DE}{ft:DT}{pos pos':Pos}
theorem qs_setE{i:Nat}(h:QS X st (tAsg (cE .e M fe) (gName i)))(hM:setsE M M' io i=true:=by rfl):QS X st (cS rk io M M' Mb (dSet i fe)):=⟨L3.s_setE h.un hM⟩
end
section
variable [TheK]
variable {X:Cx}{rk:Kd}{io M M' M'' Mb:List Nat}{st:Stmt}{sts:List Stmt}{e c:Expr}{a b:List Stmt}{d d':DS}{fe:DE}{ft:DT}{pos pos':Pos}
theorem qs_setN{i:Nat}(h:QS X st (tAsg (cE .n M fe) (gName i)))(hM:setsN M M' io i=true:=by rfl):QS X st (cS rk io M M' Mb (dSet i fe)):=⟨L3.s_setN h.un hM⟩
end
section
variable [TheK]
variable {X:Cx}{rk:Kd}{io M M' M'' Mb:List Nat}{st:Stmt}{sts:List Stmt}{e c:Expr}{a b:List Stmt}{d d':DS}{fe:DE}{ft:DT}{pos pos':Pos}
theorem qs_do{k:Kd}(hk:k=.e∨k=.b)(he:QE X e (cE k M fe))(hs:swapsWith e none pos.line X.env=pure false:=by rfl):QS X (.Expr e pos) (cS rk io M M Mb (dDo fe)):=⟨L3.s_do hk he.un hs⟩
end
section
variable [TheK]
variable {X:Cx}{rk:Kd}{io M M' M'' Mb:List Nat}{st:Stmt}{sts:List Stmt}{e c:Expr}{a b:List Stmt}{d d':DS}{fe:DE}{ft:DT}{pos pos':Pos}
theorem qs_retE(he:QE X e (cE .e M fe)):QS X (.Return (some e) pos) (cS .e io M M' Mb (dRetI io fe)):=⟨L3.s_retE he.un⟩
end
section
variable [TheK]
variable {X:Cx}{rk:Kd}{io M M' M'' Mb:List Nat}{st:Stmt}{sts:List Stmt}{e c:Expr}{a b:List Stmt}{d d':DS}{fe:DE}{ft:DT}{pos pos':Pos}
theorem qs_retN(he:QE X e (cE .n M fe)):QS X (.Return (some e) pos) (cS .n io M M' Mb (dRetI io fe)):=⟨L3.s_retN he.un⟩
end
section
variable [TheK]
variable {X:Cx}{rk:Kd}{io M M' Mb:List Nat}{st:Stmt}{fk fv:DE}
theorem qs_setI{i:Nat}(hi:M.contains i=true)(h:QS X st (tAsg (cE .e M fv) (gSub (tVar i) (cE .e M fk) rSetL))):QS X st (cS rk io M M Mb (dSetI i fk fv)):=⟨L3.s_setI hi h.un⟩
end
section
variable [TheK]
variable {X:Cx}{rk:Kd}{io M M' Mb:List Nat}{st:Stmt}{fk fv:DE}
theorem qs_unl{is:List Nat}{n:Nat}{K:PySem.W.Frag}{fe:DE}(h:QS X st (tAsg (cE .e M fe) (fun v σ H Q=>gUnl K n (gsN is) v σ H Q∨gTup K n (gsN is) v σ H Q)))(hn:is.length=n)(hm:is.all (fun i=>!M.contains i)=true)(hio:io.all (M.contains ·)=true):QS X st (cS rk io M M Mb (dUn is fe)):=⟨L3.s_unl h.un hn hm hio⟩
end
section
variable [TheK]
variable {X:Cx}{M:List Nat}{tg e:Expr}{fe:DE}{fa:DA}
theorem qi_range1{a:Expr}{p pos:Pos}(hg:Gl X "range")(hm:X.mg "range"=none)(ha:QA X [a] (cA M fa))(hs:starEach [a] X.env=[(false,eval a X.env)]:=by rfl):QI X tg (.Call (.Name "range" p) [a] [] pos) (cI M (dRg1 fa)):=⟨L3.i_range1 hg hm ha.un hs⟩
end
section
variable [TheK]
variable {X:Cx}{M:List Nat}{tg e:Expr}{fe:DE}{fa:DA}
theorem qi_range2{a b:Expr}{p pos:Pos}(hg:Gl X "range")(hm:X.mg "range"=none)(ha:QA X [a,b] (cA M fa))(hs:starEach [a,b] X.env=[(false,eval a X.env),(false,eval b X.env)]:=by rfl)(hs2:starEach [b] X.env=[(false,eval b X.env)]:=by rfl):QI X tg (.Call (.Name "range" p) [a,b] [] pos) (cI M (dRg2 fa)):=⟨L3.i_range2 hg hm ha.un hs hs2⟩
end
section
variable [TheK]
variable {X:Cx}{M:List Nat}{tg e:Expr}{fe:DE}{fa:DA}
theorem qi_enum{elts:List Expr}{x1:Nat}{tp:Pos}{a:Expr}{p pos:Pos}(hg:Gl X "enumerate")(hm:X.mg "enumerate"=none)(ha:QA X [a] (cA M fa))(hs:starEach [a] X.env=[(false,eval a X.env)]:=by rfl):QI X (.Tuple elts x1 tp) (.Call (.Name "enumerate" p) [a] [] pos) (cI M (dEn fa)):=⟨L3.i_enum hg hm ha.un hs⟩
end
section
variable [TheK]
variable {X:Cx}{rk:Kd}{io M M' Mb:List Nat}{tg iter:Expr}{body:List Stmt}{fi:DI}{g:DG}{db:DS}{pos:Pos}
theorem qg_name{i:Nat}(h:QG X tg (gName i))(hi:M.contains i=false:=by rfl)(hio:io.all (M.contains ·)=true:=by rfl):QG X tg (cG io M (dGn i)):=⟨L3.g_name h.un hi hio⟩
end
section
variable [TheK]
variable {X:Cx}{rk:Kd}{io M M' Mb:List Nat}{tg iter:Expr}{body:List Stmt}{fi:DI}{g:DG}{db:DS}{pos:Pos}
theorem qs_for(h:QS X (.For tg iter body [] pos) (tFor (cI M fi) (cG io M g) (cS rk io M M M db))):QS X (.For tg iter body [] pos) (cS rk io M M Mb (dFor fi g db)):=⟨L3.s_for h.un⟩
end
section
variable [TheK]
variable {X:Cx}{rk:Kd}{io M M' Mb:List Nat}{tg iter:Expr}{body:List Stmt}{fi:DI}{g:DG}{db:DS}{pos:Pos}
theorem qs_while{c:Expr}{ft:DT}(n:Nat)(hp:PassesOwn (model X.prog X.w) X.A X.env X.xe)(hc:QT X c (cT M ft))(hb:QSs X body (cS rk io M M M db)):QS X (.While c body [] pos) (cS rk io M M Mb (whileN ft db n)):=⟨L3.s_while n hp hc.un hb.un⟩
end
section
variable [TheK]
variable {X:Cx}{M:List Nat}{a b c e:Expr}{fa fb fe:DE}{pos p:Pos}
theorem qe_item(hK:X.K=TheK.K)(hu:X.A.units+1 < cLine)(ha:QE X a (cE .e M fa))(hb:QE X b (cE .b M fb))(hs:PlainIx b):QE X (.Subscript a b pos) (cE .e M (d2 gItem fa fb)):=⟨L3.e_item hK hu ha.un hb.un hs⟩
end
section
variable [TheK]
variable {X:Cx}{M:List Nat}{a b c e:Expr}{fa fb fe:DE}{pos p:Pos}
theorem qe_itemV{i:Nat}(hK:X.K=TheK.K)(hi:M.contains i=true)(hu:X.A.units+1 < cLine)(ha:QE X a (tVar i))(hb:QE X b (cE .b M fb))(hs:PlainIx b):QE X (.Subscript a b pos) (cE .e M (d2v gItem i fb)):=⟨L3.e_itemV hK hi hu ha.un hb.un hs⟩
end
section
variable [TheK]
variable {X:Cx}{M:List Nat}{a b c e:Expr}{fa fb fe:DE}{pos p:Pos}
theorem qt_notinA(hu:X.A.units+1 < cLine)(ha:QE X a (cE .e M fa))(hb:QE X b (cE .b M fb))(hm:behindInMarks .NotIn b=false):QT X (.Compare a [.NotIn] [b] pos) (cT M (dB (d2 gNotInA fa fb))):=⟨L3.t_notinA hu ha.un hb.un hm⟩
end
section
variable [TheK]
variable {X:Cx}{M:List Nat}{a b c e:Expr}{fa fb fe:DE}{pos p:Pos}
theorem qe_plus(ha:QE X a (cE .e M fa))(hb:QE X b (cE .b M fb)):QE X (.BinOp a .Add b pos) (cE .e M (d2 gPlus fa fb)):=⟨L3.e_plus ha.un hb.un⟩
end
section
variable [TheK]
variable {X:Cx}{M:List Nat}{a b c e:Expr}{fa fb fe:DE}{pos p:Pos}
theorem qe_slA{lo hi:Option Expr}{fl fh:DO}{p2:Pos}(hK:X.K=TheK.K)(he:QE X e (cE .e M fe))(hl:QO X lo (cO M fl))(hu:QO X hi (cO M fh)):QE X (.Subscript e (.Slice lo hi none p2) pos) (cE .e M (dSl gSlA fe fl fh)):=⟨L3.e_slA hK he.un hl.un hu.un⟩
end
section
variable [TheK]
variable {X:Cx}{M:List Nat}{a b c e:Expr}{fa fb fe:DE}{pos p:Pos}
theorem qi_any{tg:Expr}(hK:X.K=TheK.K)(h:QE X e (cE .e M fe)):QI X tg e (cI M (dItA fe)):=⟨L3.i_any hK h.un⟩
end
section
variable [TheK]
variable {X:Cx}{M:List Nat}{a b c e:Expr}{fa fb fe:DE}{pos p:Pos}
variable {es:List Expr}{fs:DA}{x:Str}{k:Nat}{f:Addr}{fd:FuncData}{ps:List Str}{np:Nat}
theorem qe_call{fn:List T->Option T}(F:FnOk X.prog X.w X.K X.mg X.base CX0 k f fd ps (spP .e np fn))(hr:Room k X.A)(hg:Gl X x)(hm:X.mg x=some (.ref f))(hk:PySem.W.keepIn X.K (.ref f)=true)(hb:Binds X.K fd ps [])(ha:QA X (e::es) (cA M fs))(ar:Ar fs np)(hdb:(x == ("__debug__":Str))=false:=by decide)(he:starEach (e::es) X.env=(false,eval e X.env)::starEach es X.env:=by rfl)(hpl:(backTo pos (starEach es X.env)).any (·.1)=false:=by rfl):QE X (.Call (.Name x p) (e::es) [] pos) (cE .e M (dCall fn fs)):=⟨L3.e_call F hr hg hm hk hb ha.un ar hdb he hpl⟩
end
section
variable [TheK]
variable {X:Cx}{M:List Nat}{a b c e:Expr}{fa fb fe:DE}{pos p:Pos}
variable {es:List Expr}{fs:DA}{x:Str}{k:Nat}{f:Addr}{fd:FuncData}{ps:List Str}{np:Nat}
theorem qe_callN{fn:List T->Option T}(F:FnOk X.prog X.w X.K X.mg X.base CX0 k f fd ps (spP .n np fn))(hr:Room k X.A)(hg:Gl X x)(hm:X.mg x=some (.ref f))(hk:PySem.W.keepIn X.K (.ref f)=true)(hb:Binds X.K fd ps [])(ha:QA X (e::es) (cA M fs))(ar:Ar fs np)(hdb:(x == ("__debug__":Str))=false:=by decide)(he:starEach (e::es) X.env=(false,eval e X.env)::starEach es X.env:=by rfl)(hpl:(backTo pos (starEach es X.env)).any (·.1)=false:=by rfl):QE X (.Call (.Name x p) (e::es) [] pos) (cE .n M (dCall fn fs)):=⟨L3.e_callN F hr hg hm hk hb ha.un ar hdb he hpl⟩
end
section
variable [TheK]
variable {X:Cx}{M:List Nat}{a b c e:Expr}{fa fb fe:DE}{pos p:Pos}
variable {es:List Expr}{fs:DA}{x:Str}{k:Nat}{f:Addr}{fd:FuncData}{ps:List Str}{np:Nat}
theorem qe_callI{fn:List T->Option (T × T)}{i:Nat}(hi:M.contains i=true)(F:FnOk X.prog X.w X.K X.mg X.base CX0 k f fd ps (spI .e (np+1) fn))(hr:Room k X.A)(hg:Gl X x)(hm:X.mg x=some (.ref f))(hk:PySem.W.keepIn X.K (.ref f)=true)(hb:Binds X.K fd ps [])(h0:QE X e (tVar i))(ha:QA X es (cA M fs))(ar:Ar fs np)(hdb:(x == ("__debug__":Str))=false:=by decide)(he:starEach (e::es) X.env=(false,eval e X.env)::starEach es X.env:=by rfl)(hpl:(backTo pos (starEach es X.env)).any (·.1)=false:=by rfl):QE X (.Call (.Name x p) (e::es) [] pos) (cE .e M (dCallI fn i fs)):=⟨L3.e_callI hi F hr hg hm hk hb h0.un ha.un ar hdb he hpl⟩
end
section
variable [TheK]
variable {X:Cx}{M:List Nat}{a b c e:Expr}{fa fb fe:DE}{pos p:Pos}
variable {es:List Expr}{fs:DA}{x:Str}{k:Nat}{f:Addr}{fd:FuncData}{ps:List Str}{np:Nat}
theorem qe_callT{fn:List T->Option (T × T)}{rk:Kd}(hrk:rk=.e∨rk=.n)(F:FnOk X.prog X.w X.K X.mg X.base CX0 k f fd ps (spI rk (np+1) fn))(hr:Room k X.A)(hg:Gl X x)(hm:X.mg x=some (.ref f))(hk:PySem.W.keepIn X.K (.ref f)=true)(hb:Binds X.K fd ps [])(h0:QE X e (cE .n M fe))(ha:QA X es (cA M fs))(ar:Ar fs np)(hdb:(x == ("__debug__":Str))=false:=by decide)(he:starEach (e::es) X.env=(false,eval e X.env)::starEach es X.env:=by rfl)(hpl:(backTo pos (starEach es X.env)).any (·.1)=false:=by rfl):QE X (.Call (.Name x p) (e::es) [] pos) (cE rk M (dCallN fn fe fs)):=⟨L3.e_callT hrk F hr hg hm hk hb h0.un ha.un ar hdb he hpl⟩
end
section
variable [TheK]
variable {X:Cx}{M:List Nat}{a b c e:Expr}{fa fb fe:DE}{pos p:Pos}
variable {es:List Expr}{fs:DA}{x:Str}{k:Nat}{f:Addr}{fd:FuncData}{ps:List Str}{np:Nat}
theorem qe_len(hK:X.K=TheK.K)(hg:Gl X "len")(hm:X.mg "len"=none)(h:QE X e (cE .b M fe))(he:starEach [e] X.env=(false,eval e X.env)::starEach [] X.env:=by rfl)(hpl:(backTo pos (starEach [] X.env)).any (·.1)=false:=by rfl):QE X (.Call (.Name "len" p) [e] [] pos) (cE .e M (d1 gLen fe)):=⟨L3.e_len hK hg hm h.un he hpl⟩
end
section
variable [TheK]
variable {X:Cx}{M:List Nat}{a b c e:Expr}{fa fb fe:DE}{pos p:Pos}
variable {es:List Expr}{fs:DA}{x:Str}{k:Nat}{f:Addr}{fd:FuncData}{ps:List Str}{np:Nat}
theorem qe_isi{cn:String}{ce:Expr}(hc:okTy cn=true)(hg:Gl X "isinstance")(hm:X.mg "isinstance"=none)(h:QE X e (cE .b M fe))(h2:QE X ce (tC (.ty cn)))(he:starEach [e,ce] X.env=(false,eval e X.env)::starEach [ce] X.env:=by rfl)(he2:starEach [ce] X.env=(false,eval ce X.env)::starEach [] X.env:=by rfl)(hpl:(backTo pos (starEach [ce] X.env)).any (·.1)=false:=by rfl):QE X (.Call (.Name "isinstance" p) [e,ce] [] pos) (cE .e M (dIsi cn fe)):=⟨L3.e_isi hc hg hm h.un h2.un he he2 hpl⟩
end
section
variable [TheK]
variable {X:Cx}{M:List Nat}{a b c e:Expr}{fa fb fe:DE}{pos p:Pos}
variable {es:List Expr}{fs:DA}{x:Str}{k:Nat}{f:Addr}{fd:FuncData}{ps:List Str}{np:Nat}
theorem qe_append{i:Nat}{o:Expr}{apos:Pos}(hi:M.contains i=true)(h:QE X (.Call (.Attribute o "append" apos) (e::es) [] pos) (tBM X.K "list" rAppend (tVar i) (cA M fs))):QE X (.Call (.Attribute o "append" apos) (e::es) [] pos) (cE .e M (dMut mApp i fs)):=⟨L3.e_append hi h.un⟩
end
section
variable [TheK]
variable {X:Cx}{M:List Nat}{a b c e:Expr}{fa fb fe:DE}{pos p:Pos}
variable {es:List Expr}{fs:DA}{x:Str}{k:Nat}{f:Addr}{fd:FuncData}{ps:List Str}{np:Nat}
theorem qe_extend{i:Nat}{o:Expr}{apos:Pos}(hi:M.contains i=true)(h:QE X (.Call (.Attribute o "extend" apos) (e::es) [] pos) (tBM X.K "list" rExtend (tVar i) (cA M fs))):QE X (.Call (.Attribute o "extend" apos) (e::es) [] pos) (cE .e M (dMut mExt i fs)):=⟨L3.e_extend hi h.un⟩
end
section
variable [TheK]
variable {X:Cx}{M:List Nat}{a b c e:Expr}{fa fb fe:DE}{pos p:Pos}
variable {es:List Expr}{fs:DA}{x:Str}{k:Nat}{f:Addr}{fd:FuncData}{ps:List Str}{np:Nat}
theorem qe_lc{Mi:List Nat}{caps:List (Option Nat)}{fi:DI}{g:TG}{dg:DG}{ft:DT}{tt:TT}(c:capB caps M Mi=true)(hg:TgOk g dg Mi caps)(htt:∀ σ H Q,cT Mi ft σ H Q->tt σ H Q)(h:QE X e (tLC caps (cI M fi) g tt (cE .e Mi fe))):QE X e (cE .n M (dLC M caps fi dg ft fe)):=⟨L3.e_lc c hg htt h.un⟩
end
section
variable [TheK]
variable {X:Cx}{M:List Nat}{a b c e:Expr}{fa fb fe:DE}{pos p:Pos}
variable {es:List Expr}{fs:DA}{x:Str}{k:Nat}{f:Addr}{fd:FuncData}{ps:List Str}{np:Nat}
theorem qs_lc{st:Stmt}{Mi:List Nat}{caps:List (Option Nat)}{fi:DI}{g:TG}{g2:TG}{dg:DG}{ft:DT}{tt:TT}(c:capB caps M Mi=true)(hg:TgOk g dg Mi caps)(htt:∀ σ H Q,cT Mi ft σ H Q->tt σ H Q)(h:QS X st (tAsg (tLC caps (cI M fi) g tt (cE .e Mi fe)) g2)):QS X st (tAsg (cE .n M (dLC M caps fi dg ft fe)) g2):=⟨L3.s_lc c hg htt h.un⟩
end
section
variable [TheK]
variable {X:Cx}{M:List Nat}{a b c e:Expr}{fa fb fe:DE}{pos p:Pos}
variable {es:List Expr}{fs:DA}{x:Str}{k:Nat}{f:Addr}{fd:FuncData}{ps:List Str}{np:Nat}
theorem qs_nE{st:Stmt}{g2:TG}{ff:DE}(h:QS X st (tAsg (cE .n M ff) g2)):QS X st (tAsg (cE .e M ff) g2):=⟨L3.s_nE h.un⟩
end
section
variable [TheK]
variable {X:Cx}{M:List Nat}{a b c e:Expr}{fa fb fe:DE}{pos p:Pos}
variable {es:List Expr}{fs:DA}{x:Str}{k:Nat}{f:Addr}{fd:FuncData}{ps:List Str}{np:Nat}
theorem qpgor{tg:Expr}{t t':TG}(h:QG X tg t)(h':QG X tg t'):QG X tg (fun v σ H Q=>t v σ H Q∨t' v σ H Q):=⟨L3.pgor h.un h'.un⟩
end
section
variable [TheK]
variable {X:Cx}{M:List Nat}{a b c e:Expr}{fa fb fc fe fk:DE}{pos p:Pos}
theorem qe_listA(hK:X.K=TheK.K)(hc:X.calm=true)(hg:Gl X "list")(hm:X.mg "list"=none)(h:QE X e (cE .b M fe))(he:starEach [e] X.env=(false,eval e X.env)::starEach [] X.env:=by rfl)(hpl:(backTo pos (starEach [] X.env)).any (·.1)=false:=by rfl):QE X (.Call (.Name "list" p) [e] [] pos) (cE .n M (d1 gListA fe)):=⟨L3.e_listA hK hc hg hm h.un he hpl⟩
end
section
variable [TheK]
variable {X:Cx}{M:List Nat}{e st:Expr}{fe:DE}{fk:DO}{pos p2:Pos}
theorem qe_listRange{a:Expr}{fa:DA}{p p' pos':Pos}(hc:X.calm=true)(hg:Gl X "list")(hm:X.mg "list"=none)(hg':Gl X "range")(hm':X.mg "range"=none)(ha:QA X [a] (cA M fa))(hs:starEach [a] X.env=[(false,eval a X.env)]:=by rfl)(hs':starEach [.Call (.Name "range" p') [a] [] pos'] X.env=[(false,eval (.Call (.Name "range" p') [a] [] pos') X.env)]:=by rfl):QE X (.Call (.Name "list" p) [.Call (.Name "range" p') [a] [] pos'] [] pos) (cE .n M (dLR fa)):=⟨L3.e_listRange hc hg hm hg' hm' ha.un hs hs'⟩
end
section
variable [TheK]
variable {X:Cx}{M:List Nat}{e o:Expr}{fa fe:DE}{p pos apos:Pos}
theorem qe_all(hK:X.K=TheK.K)(hc:X.calm=true)(hg:Gl X "all")(hm:X.mg "all"=none)(h:QE X e (cE .b M fe))(he:starEach [e] X.env=(false,eval e X.env)::starEach [] X.env:=by rfl)(hpl:(backTo pos (starEach [] X.env)).any (·.1)=false:=by rfl):QE X (.Call (.Name "all" p) [e] [] pos) (cE .e M (d1 gAll fe)):=⟨L3.e_all hK hc hg hm h.un he hpl⟩
end
section
variable [TheK]
variable {X:Cx}{M:List Nat}{e:Expr}{fe:DE}{p pos:Pos}
theorem qe_sorted(hK:X.K=TheK.K)(hg:Gl X "sorted")(hm:X.mg "sorted"=none)(h:QE X e (cE .b M fe))(he:starEach [e] X.env=(false,eval e X.env)::starEach [] X.env:=by rfl)(hpl:(backTo pos (starEach [] X.env)).any (·.1)=false:=by rfl):QE X (.Call (.Name "sorted" p) [e] [] pos) (cE .n M (d1 gSorted fe)):=⟨L3.e_sorted hK hg hm h.un he hpl⟩
end
section
variable [TheK]
variable {X:Cx}{M:List Nat}{a b e:Expr}{fa fb fe:DE}{p pos:Pos}
theorem qe_set0(hg:Gl X "set")(hm:X.mg "set"=none):QE X (.Call (.Name "set" p) [] [] pos) (cE .n M dSet0):=⟨L3.e_set0 hg hm⟩
end
section
variable [TheK]
variable {X:Cx}{M:List Nat}{a b e:Expr}{fa fb fe:DE}{p pos:Pos}
theorem qe_sadd{i:Nat}{o:Expr}{apos:Pos}(hi:M.contains i=true)(h:QE X (.Call (.Attribute o "add" apos) [e] [] pos) (tBM X.K "set" rSAdd (tVar i) (tCons (cE .e M fe) tNil))):QE X (.Call (.Attribute o "add" apos) [e] [] pos) (cE .e M (dSAdd i fe)):=⟨L3.e_sadd hi h.un⟩
end
section
variable [TheK]
variable {X:Cx}{M:List Nat}{a b e:Expr}{fa fb fe:DE}{p pos:Pos}
theorem qt_ninS(ha:QE X a (cE .e M fa))(hb:QE X b (cE .b M fb))(hm:behindInMarks .NotIn b=false):QT X (.Compare a [.NotIn] [b] pos) (cT M (dB (d2 gNinS fa fb))):=⟨L3.t_ninS ha.un hb.un hm⟩
end
section
variable [TheK]
variable {X:Cx}{rk:Kd}{io M M' Mb:List Nat}{x:Nat}{st:Stmt}{sts:List Stmt}{c:Expr}{a b:List Stmt}{d d':DS}{ft:DT}{fe:DE}{pos:Pos}
theorem qss_dnil :QSs X [] (cD rk io M x dNext):=⟨L3.ss_dnil ⟩
end
section
variable [TheK]
variable {X:Cx}{rk:Kd}{io M M' Mb:List Nat}{x:Nat}{st:Stmt}{sts:List Stmt}{c:Expr}{a b:List Stmt}{d d':DS}{ft:DT}{fe:DE}{pos:Pos}
theorem qss_done(h:QS X st (cD rk io M x d)):QSs X [st] (cD rk io M x d):=⟨L3.ss_done h.un⟩
end
section
variable [TheK]
variable {X:Cx}{rk:Kd}{io M M' Mb:List Nat}{x:Nat}{st:Stmt}{sts:List Stmt}{c:Expr}{a b:List Stmt}{d d':DS}{ft:DT}{fe:DE}{pos:Pos}
theorem qss_dcons(h:QS X st (cD rk io M x d))(h2:QSs X sts (cD rk io M x d')):QSs X (st::sts) (cD rk io M x (dSeq d d')):=⟨L3.ss_dcons h.un h2.un⟩
end
section
variable [TheK]
variable {X:Cx}{rk:Kd}{io M M' Mb:List Nat}{x:Nat}{st:Stmt}{sts:List Stmt}{c:Expr}{a b:List Stmt}{d d':DS}{ft:DT}{fe:DE}{pos:Pos}
theorem qs_dif(hc:QT X c (cT M ft))(ha:QSs X a (cD rk io M x d))(hb:QSs X b (cD rk io M x d')):QS X (.If c a b pos) (cD rk io M x (dIfD M ft d d')):=⟨L3.s_dif hc.un ha.un hb.un⟩
end
section
variable [TheK]
variable {X:Cx}{rk:Kd}{io M M' Mb:List Nat}{x:Nat}{st:Stmt}{sts:List Stmt}{c:Expr}{a b:List Stmt}{d d':DS}{ft:DT}{fe:DE}{pos:Pos}
theorem qss_drt(h:QSs X sts (cS rk io M M' Mb d)):QSs X sts (cD rk io M x (dRtD d)):=⟨L3.ss_drt h.un⟩
end
section
variable [TheK]
variable {X:Cx}{rk:Kd}{io M Mb:List Nat}{x np:Nat}{st:Stmt}{sts:List Stmt}{d:DS}{fn:List T->Option T}{fa:DA}
theorem qss_deep2(hxM:M.contains x=false)(hio:io.all (M.contains ·)=true)(ar:Ar fa np)(h:QS X st (tAsg (tCall (spD np fn) [] E0 (cA M fa)) (gName x)))(h2:QSs X sts (cD rk io M x d)):QSs X (st::sts) (cS rk io M M Mb (dDeep2 fn fa x d)):=⟨L3.ss_deep2 hxM hio ar h.un h2.un⟩
end
section
variable [TheK]
variable {X:Cx}{rk:Kd}{io M Mb:List Nat}{x np:Nat}{st:Stmt}{sts:List Stmt}{d:DS}{fn:List T->Option T}{fa:DA}
theorem qe_deep2{e:Expr}{es:List Expr}{p pos:Pos}{k:Nat}{f:Addr}{fd:FuncData}{ps:List Str}{y:Str}(F:FnOk X.prog X.w X.K X.mg X.base CX0 k f fd ps (spD np fn))(hr:Room k X.A)(hg:Gl X y)(hm:X.mg y=some (.ref f))(hk:PySem.W.keepIn X.K (.ref f)=true)(hb:Binds X.K fd ps [])(ha:QA X (e::es) (cA M fa))(hdb:(y == ("__debug__":Str))=false:=by decide)(he:starEach (e::es) X.env=(false,eval e X.env)::starEach es X.env:=by rfl)(hpl:(backTo pos (starEach es X.env)).any (·.1)=false:=by rfl):QE X (.Call (.Name y p) (e::es) [] pos) (tCall (spD np fn) [] E0 (cA M fa)):=⟨L3.e_deep2 F hr hg hm hk hb ha.un hdb he hpl⟩
end
section
variable [TheK]
variable {X:Cx}{rk:Kd}{io M M' Mb:List Nat}{x k:Nat}{st:Stmt}{e a b:Expr}{es:List Expr}{fe f1 f2 f3:DE}{fa:DA}{pos p p' pos':Pos}
theorem qs_retD(he:QE X e (cED M fe)):QS X (.Return (some e) pos) (cS .b [] M M' Mb (dRetI [] fe)):=⟨L3.s_retD he.un⟩
end
section
variable [TheK]
variable {X:Cx}{M:List Nat}{e:Expr}{fe:DE}{pos p:Pos}{k:Nat}{x:Str}{ps:List Str}{fn:List T->Option T}
theorem qe_dcall{f:Addr}{fd:FuncData}(F:FnOk X.prog X.w X.K X.mg X.base CX0 k f fd ps (spP .e 1 fn))(hr:Room k X.A)(hg:Gl X x)(hm:X.mg x=some (.ref f))(hk:PySem.W.keepIn X.K (.ref f)=true)(hb:Binds X.K fd ps [])(h:QE X e (cE .n M fe))(hdb:(x == ("__debug__":Str))=false:=by decide)(he:starEach [e] X.env=(false,eval e X.env)::starEach [] X.env:=by rfl)(hpl:(backTo pos (starEach [] X.env)).any (·.1)=false:=by rfl):QE X (.Call (.Name x p) [e] [] pos) (cED M (dCallD fn fe)):=⟨L3.e_dcall F hr hg hm hk hb h.un hdb he hpl⟩
end
section
variable [TheK]
variable {X:Cx}{M:List Nat}{e:Expr}{fe:DE}{pos p:Pos}{k:Nat}{x:Str}{ps:List Str}{fn:List T->Option T}
theorem qe_dnil1{p1:Pos}(hs:starEach [.List [] p1] X.env=(false,eval (.List [] p1) X.env)::starEach [] X.env:=by rfl):QE X (.List [.List [] p1] pos) (cED M (dNils 1)):=⟨L3.e_dnil1 hs⟩
end
section
variable [TheK]
variable {X:Cx}{rk:Kd}{io M:List Nat}{x y:Nat}{ft:DT}{tg xe c ae:Expr}{rb:List Stmt}{dr:DS}{p1 p2 pos:Pos}{z:Int}
theorem qs_dclx{st:Stmt}(h:QS X st (tDrop (tBM0 X.K "list" rClear (tVar x)))):QS X st (cD rk io M x (dClx x)):=⟨L3.s_dclx h.un⟩
end
section
variable [TheK]
variable {X:Cx}{rk:Kd}{io M:List Nat}{x y:Nat}{tg xe ae:Expr}{p2 pos:Pos}{z:Int}
theorem qs_dforA(hp:PassesOwn (model X.prog X.w) X.A X.env X.xe)(hcm:X.calm=true)(hi:QE X xe (tVar x))(hg:QG X tg (gName y))(ha:QE X ae (tBM X.K "list" rAppend (tVar y) (tCons (tC (.int z)) tNil)))(hio:io.all (M.contains ·)=true)(hs:swapsWith ae none p2.line X.env=pure false:=by rfl)(hs2:∀ v,foldedSetIterable xe X.env v=pure v:=by intro _; rfl):QS X (.For tg xe [.Expr ae p2] [] pos) (cD rk io M x (dForA M x y)):=⟨L3.s_dforA hp hcm hi.un hg.un ha.un hio hs hs2⟩
end
section
variable [TheK]
variable {X:Cx}{M:List Nat}{e:Expr}{fe:DE}{p pos:Pos}
theorem qe_minI(hK:X.K=TheK.K)(hc:X.calm=true)(hg:Gl X "min")(hm:X.mg "min"=none)(h:QE X e (cE .b M fe))(he:starEach [e] X.env=(false,eval e X.env)::starEach [] X.env:=by rfl)(hpl:(backTo pos (starEach [] X.env)).any (·.1)=false:=by rfl):QE X (.Call (.Name "min" p) [e] [] pos) (cE .e M (d1 gMinI fe)):=⟨L3.e_minI hK hc hg hm h.un he hpl⟩
end
section
variable [TheK]
variable {X:Cx}{M:List Nat}{e:Expr}{fe:DE}{p pos:Pos}
theorem qe_maxI(hK:X.K=TheK.K)(hc:X.calm=true)(hg:Gl X "max")(hm:X.mg "max"=none)(h:QE X e (cE .b M fe))(he:starEach [e] X.env=(false,eval e X.env)::starEach [] X.env:=by rfl)(hpl:(backTo pos (starEach [] X.env)).any (·.1)=false:=by rfl):QE X (.Call (.Name "max" p) [e] [] pos) (cE .e M (d1 gMaxI fe)):=⟨L3.e_maxI hK hc hg hm h.un he hpl⟩
end
section
variable [TheK]
variable {X:Cx}{M:List Nat}{e:Expr}{fe:DE}{p pos:Pos}
theorem qe_sortU(hK:X.K=TheK.K)(hu:X.A.units+8 < cLine)(hg:Gl X "sorted")(hm:X.mg "sorted"=none)(h:QE X e (cE .b M fe))(he:starEach [e] X.env=(false,eval e X.env)::starEach [] X.env:=by rfl)(hpl:(backTo pos (starEach [] X.env)).any (·.1)=false:=by rfl):QE X (.Call (.Name "sorted" p) [e] [] pos) (cE .n M (d1 gSortU fe)):=⟨L3.e_sortU hK hu hg hm h.un he hpl⟩
end
section
variable [TheK]
variable {X:Cx}{M:List Nat}{a b:Expr}{fa fb:DE}{pos:Pos}
theorem qe_mulB(ha:QE X a (cE .e M fa))(hb:QE X b (cE .b M fb)):QE X (.BinOp a .Mult b pos) (cE .e M (d2 gMulB fa fb)):=⟨L3.e_mulB ha.un hb.un⟩
end
theorem QW.pt{X:Cx}{e:Expr}{t:TT}(h:QW X e t):QT X e t:=⟨h.un.pt⟩
def QBody(tk:TheK)(P:Program)(w:World)(mg:Str->Option Value)(base:Heap)(k:Nat)(x:Str)(st:Stmt)(N:List Str)(t:TS):Prop:=
 ∀ (f:Addr) (cdv:Value) (A:Around) (outer:List Env) (s:Shared) (H:Hp) (E:XK),Room k (A.deeper (envOfC x (defScope st) s.heap.objs.size f cdv))->QSs (cxOf CX0 P w tk.K mg base N x (defScope st) f cdv A outer s H E).nox (defBody st) t
theorem QBody.b{tk:TheK}{P:Program}{w:World}{mg:Str->Option Value}{base:Heap}{k:Nat}{x:Str}{st:Stmt}{N:List Str}{t:TS}(h:QBody tk P w mg base k x st N t):Body tk P w mg base k x st N t:=fun f cdv A outer s H E hr=>(h f cdv A outer s H E hr).un
section
variable [tk:TheK]{P:Program}{w:World}{mg:Str->Option Value}{base:Heap}{x:Str}{st:Stmt}{N ps:List Str}{k:Nat}{d:DS}{M' Mb:List Nat}
theorem Here.qP(h:Here tk.K mg x st ps)(S:FnScope N ps (defScope st))(hb:QBody tk P w mg base k x st N (cS .e [] [] M' Mb d))(hN:ps.length<=N.length:=by decide):Cal P w tk.K mg base (k+1) x ps (spP .e ps.length (fnP N.length d)):=h.okP S hb.b hN
theorem Here.qD(h:Here tk.K mg x st ps)(S:FnScope N ps (defScope st))(hb:QBody tk P w mg base k x st N (cS .b [] [] M' Mb d))(hN:ps.length<=N.length:=by decide):Cal P w tk.K mg base (k+1) x ps (spD ps.length (fnPn N.length d)):=h.okD S hb.b hN
theorem Here.qN(h:Here tk.K mg x st ps)(S:FnScope N ps (defScope st))(hb:QBody tk P w mg base k x st N (cS .n [] [] M' Mb d))(hN:ps.length<=N.length:=by decide):Cal P w tk.K mg base (k+1) x ps (spP .n ps.length (fnPn N.length d)):=h.okN S hb.b hN
theorem Here.qI(h:Here tk.K mg x st ps)(S:FnScope N ps (defScope st))(hb:QBody tk P w mg base k x st N (cS .e [0] [0] M' Mb d))(hN:ps.length<=N.length:=by decide):Cal P w tk.K mg base (k+1) x ps (spI .e ps.length (fnI N.length d)):=h.okI S hb.b hN
theorem law_q{ps0:Str}{fw:Addr}{dw:FuncData}(F:Fun tk.K x x st fw dw)(S:FnScope N [ps0] (defScope st))(hb:QBody tk P w mg base k x st N (cS .e [] [] M' Mb d))(hN:1<=N.length)(hd:∀ ns:List Int,ns.length<=63->fnP N.length d [.scr ns]=some (.bl true)):FnOk P w tk.K mg base CX0 (k+1) fw dw [ps0] (spLaw tk.K):=law_fn F S hb.b hN hd
end
end L3
namespace L3
open PySem PySem.Spec PyProof.Rows L2
theorem join_ss{α:Type}(x:α):(some (some x):Option (Option α)).join=some x:=rfl
theorem small_le{n:Nat}(h:n<=1000000):n<=sizeLine:=by rw [sizeLine_eq]; lia
theorem small_lt{n:Nat}(h:n<=1000000):n < sizeLine:=by rw [sizeLine_eq]; lia
theorem lc_le{n:Nat}(h:n<=1000000):n<=lcMax:=by rw [show lcMax=1000000 by unfold lcMax; rfl]; exact h
theorem rgOk_of{j:Int}(h0:-2000<=j)(h:j<=2000):rgOk j=true:=by
 unfold rgOk
 refine Nat.ble_eq_true_of_le ?_
 lia
theorem atI_of{α:Type}{xs:List α}{i:Nat}{x:α}(h:xs[i]?=some x):atI xs (i:Int)=some x:=by
 have h2:i < xs.length:=(List.getElem?_eq_some_iff.mp h).1
 unfold atI ixN
 rw [if_pos (by lia),if_pos (by lia),Option.bind_some,Int.toNat_natCast,h]
theorem for_inv{g:DG}{db:DS}(I:Nat->Sg->Prop):∀ (xs:List T) (i:Nat) (s:Sg),I i s->(∀ j x s,xs[j]?=some x->I (i+j) s->∃ s1,g x s=some s1/\∃ s2,(db s1=some (.nx s2)∨db s1=some (.ct s2))/\I (i+j+1) s2)->
  ∃ s',loopF g db xs s=some (.nx s')/\I (i+xs.length) s'
 | [],i,s,h0,_=>⟨s,by unfold loopF; rfl,h0⟩
 | x::xs,i,s,h0,h=>by
  obtain ⟨s1,h1,s2,h2,h3⟩:=h 0 x s rfl h0
  obtain ⟨s',h4,h5⟩:=for_inv I xs (i+1) s2 h3 fun j y s e q=>by
   have z:=h (j+1) y s (by simpa using e)
   rw [show i+(j+1)=i+1+j by lia] at z
   exact z q
  refine ⟨s',?_,by rw [List.length_cons,show i+(xs.length+1)=i+1+xs.length by lia]; exact h5⟩
  unfold loopF
  rw [h1,Option.bind_some]
  rcases h2 with h2 | h2<;>rw [h2,Option.bind_some]<;>exact h4
theorem eqD_succ'(n:Nat)(x y:T):eqD (n+1) x y=eqS n x y:=by cases x<;>cases y<;>rfl
theorem eqD_sc{n:Nat}{x y:T}{b:Bool}(h:scE x y=some b):eqD n x y=some b:=by
 cases n with
 | zero=>unfold eqD; exact h
 | succ n=>rw [eqD_succ']; unfold eqS; cases x<;>cases y<;>simp [scE] at h<;>simpa [scE] using h
theorem eqD_int(n:Nat)(i j:Int):eqD n (.int i) (.int j)=some (i == j):=eqD_sc rfl
theorem eqD_bl(n:Nat)(i j:Bool):eqD n (.bl i) (.bl j)=some (i == j):=eqD_sc rfl
theorem eqD_str(n:Nat)(i j:Str):eqD n (.str i) (.str j)=some (i == j):=eqD_sc rfl
theorem allE_map{α:Type}[DecidableEq α]{f:T->T->Option Bool}{enc:α->T}(h:∀ a b,f (enc a) (enc b)=some (decide (a=b))):∀ (xs ys:List α),xs.length=ys.length->allE f (xs.map enc) (ys.map enc)=some (decide (xs=ys))
 | [],[],_=>rfl
 | [],_::_,hl=>by simp at hl
 | _::_,[],hl=>by simp at hl
 | x::xs,y::ys,hl=>by
  rw [List.map_cons,List.map_cons]
  unfold allE
  rw [h,Option.bind_some,allE_map h xs ys (by simpa using hl),Option.map_some]
  refine congrArg some ?_
  by_cases h1:x=y<;>by_cases h2:xs=ys<;>simp [h1,h2]
theorem eqD_lst{α:Type}[DecidableEq α]{n:Nat}{enc:α->T}(h:∀ a b,eqD n (enc a) (enc b)=some (decide (a=b)))(xs ys:List α):eqD (n+1) (.lst (xs.map enc)) (.lst (ys.map enc))=some (decide (xs=ys)):=by
 rw [eqD_succ']
 unfold eqS
 dsimp only
 rw [List.length_map,List.length_map]
 by_cases hl:xs.length=ys.length
 ·rw [if_pos hl,allE_map h xs ys hl]
 ·rw [if_neg hl,decide_eq_false (fun z=>hl (by rw [z]))]
theorem eqD_strs{n:Nat}(xs ys:List Str):eqD (n+1) (.lst (xs.map T.str)) (.lst (ys.map T.str))=some (decide (xs=ys)):=eqD_lst (fun a b=>by rw [eqD_str]; refine congrArg some ?_; by_cases h:a=b<;>simp [h]) xs ys
theorem toVs_strs(xs:List Str):toVs (xs.map T.str)=some (xs.map V.str):=by
 induction xs with
 | nil=>rfl
 | cons x xs ih=>rw [List.map_cons]; unfold toVs; rw [ih]; rfl
theorem inV_strs(x:Str)(xs:List Str):inV (.str x) (xs.map V.str)=decide (x∈xs):=by
 unfold inV
 rw [List.any_map,Bool.eq_iff_iff,List.any_eq_true,decide_eq_true_iff]
 constructor
 ·rintro ⟨y,hy,e⟩
  have:y=x:=by simpa [eqV] using e
  exact this▸hy
 ·intro h
  exact ⟨x,h,by simp [eqV]⟩
theorem countV_strs(x:Str)(xs:List Str):(xs.map V.str).countP (fun u=>eqV u (.str x))=xs.count x:=by
 rw [List.countP_map,List.count_eq_countP]
 refine List.countP_congr fun y hy=>?_
 simp [eqV]
end L3
namespace L3
open PySem PySem.Spec PyProof.Rows L2
theorem seq_nx{f g:DS}{s s':Sg}{r:Option Fl}(h:f s=some (.nx s'))(k:g s'=r):dSeq f g s=r:=by
 unfold dSeq
 rw [h,Option.bind_some]
 exact k
theorem seq_rt{f g:DS}{s s':Sg}{t:T}(h:f s=some (.rt t s')):dSeq f g s=some (.rt t s'):=by
 unfold dSeq
 rw [h]
 rfl
theorem fnP_of{n:Nat}{d:DS}{ts:List T}{t:T}{s:Sg}(h:d (start3 n ts)=some (.rt t s)):fnP n d ts=some t:=by unfold fnP; rw [h]
theorem fnPn_of{n:Nat}{d:DS}{ts:List T}{t:T}{s:Sg}(h:d (start3 n ts)=some (.rt t s)):fnPn n d ts=some t:=by unfold fnPn; rw [h]
theorem fnI_of{n:Nat}{d:DS}{ts:List T}{t u:T}{s:Sg}(h:d (start3 n ts)=some (.rt t s))(hs:s[0]?=some (some u)):fnI n d ts=some (t,u):=by unfold fnI; rw [h]; simp [hs]
theorem for_nx{fi:DI}{g:DG}{db:DS}{s s1 s2:Sg}{its:List T}(h:fi s=some (its,s1))(k:loopF g db its s1=some (.nx s2)):dFor fi g db s=some (.nx s2):=by unfold dFor; rw [h,Option.bind_some]; exact k
theorem range_get{lo:Int}{n j:Nat}{x:T}(h:(rangeT lo n)[j]?=some x):j < n/\x=.int (lo+j):=by
 unfold rangeT at h
 rw [List.getElem?_map] at h
 obtain ⟨i,h1,h2⟩:=Qm h
 have hj:j < n:=by simpa using (List.getElem?_eq_some_iff.mp h1).1
 rw [List.getElem?_range hj] at h1
 injection h1 with h1
 subst h1
 exact ⟨hj,h2.symm⟩
theorem range_len(lo:Int)(n:Nat):(rangeT lo n).length=n:=by unfold rangeT; simp
theorem cutT_to{α:Type}(xs:List α){t:Int}(h0:0<=t)(h:t<=xs.length):cutT xs none (some t)=xs.take t.toNat:=by
 unfold cutT HT.sIx
 simp only [List.drop_zero,Nat.sub_zero]
 split
 ·lia
 ·rw [Nat.min_eq_left (by lia)]
theorem cutT_from{α:Type}(xs:List α){t:Int}(h0:0<=t)(h:t<=xs.length):cutT xs (some t) none=xs.drop t.toNat:=by
 unfold cutT HT.sIx
 dsimp only
 split
 ·lia
 ·rw [Nat.min_eq_left (by lia),List.take_of_length_le (by rw [List.length_drop]; lia)]
end L3
namespace L3
open PySem PySem.Spec PyProof.Rows L2
def Run(d:DS)(s:Sg)(Q:Fl->Prop):Prop:=∃ r,d s=some r/\Q r
def Onto(P:Sg->Prop):Fl->Prop
 | .nx s=>P s
 | .ct s=>P s
 | _=>False
theorem run_end{d:DS}{s:Sg}{Q:Fl->Prop}{r:Fl}(h:d s=some r)(k:Q r):Run d s Q:=⟨r,h,k⟩
theorem run_seq{f g:DS}{s s':Sg}{Q:Fl->Prop}(h:f s=some (.nx s'))(k:Run g s' Q):Run (dSeq f g) s Q:=by
 obtain ⟨r,h1,h2⟩:=k
 exact ⟨r,seq_nx h h1,h2⟩
theorem run_mid{f g:DS}{s:Sg}{Q:Fl->Prop}(P:Sg->Prop)(h:Run f s fun r=>match r with | .nx s'=>P s' | _=>False)(k:∀ s',P s'->Run g s' Q):Run (dSeq f g) s Q:=by
 obtain ⟨r,h1,h2⟩:=h
 cases r with
 | nx s'=>exact run_seq h1 (k s' h2)
 | _=>exact h2.elim
theorem run_for{fi:DI}{g:DG}{db d:DS}{s s1:Sg}{its:List T}{Q:Fl->Prop}(I:Nat->Sg->Prop)(h:fi s=some (its,s1))(h0:I 0 s1)
  (hs:∀ j x s,its[j]?=some x->I j s->∃ s1,g x s=some s1/\Run db s1 (Onto (I (j+1)))) (k:∀ s',I its.length s'->Run d s' Q):Run (dSeq (dFor fi g db) d) s Q:=by
 obtain ⟨s',h1,h2⟩:=for_inv (g:=g) (db:=db) I its 0 s1 h0 fun j x s e q=>by
  rw [Nat.zero_add] at q ⊢
  obtain ⟨s1,h1,r,h2,h3⟩:=hs j x s e q
  refine ⟨s1,h1,?_⟩
  cases r with
  | nx s2=>exact ⟨s2,.inl h2,h3⟩
  | ct s2=>exact ⟨s2,.inr h2,h3⟩
  | bk s2=>exact h3.elim
  | rt t s2=>exact h3.elim
 rw [Nat.zero_add] at h2
 exact run_seq (for_nx h h1) (k s' h2)
theorem run_while{ft:DT}{db d:DS}{n:Nat}{s:Sg}{Q:Fl->Prop}(I:Sg->Prop)(μ:Sg->Nat)(hn:μ s < n)(h0:I s)(hs:∀ s,I s->∃ b s1,ft s=some (b,s1)/\if b=true then Run db s1 (Onto fun s2=>I s2/\μ s2 < μ s) else True)
  (k:∀ s0 s',I s0->ft s0=some (false,s')->Run d s' Q):Run (dSeq (whileN ft db n) d) s Q:=by
 have key:∀ n s,μ s < n->I s->∃ s0 s',whileN ft db n s=some (.nx s')/\I s0/\ft s0=some (false,s'):=by
  intro n
  induction n with
  | zero=>intro s hn; exact absurd hn (Nat.not_lt_zero _)
  | succ n ih=>
   intro s hn h0
   obtain ⟨b,s1,h1,h2⟩:=hs s h0
   unfold whileN
   rw [h1,Option.bind_some]
   dsimp only
   cases b with
   | true=>
    rw [if_pos rfl] at h2
    obtain ⟨r,h3,h4⟩:=h2
    rw [if_pos rfl,h3,Option.bind_some]
    cases r with
    | nx s2=>exact ih s2 (by have:=h4.2; lia) h4.1
    | ct s2=>exact ih s2 (by have:=h4.2; lia) h4.1
    | bk s2=>exact h4.elim
    | rt t s2=>exact h4.elim
   | false=>exact ⟨s,s1,by rw [if_neg Bool.false_ne_true],h0,h1⟩
 obtain ⟨s0,s',h1,h2,h3⟩:=key n s hn h0
 exact run_seq h1 (k s0 s' h2 h3)
theorem fnP_run{n:Nat}{d:DS}{ts:List T}{Q:T->Prop}(h:Run d (start3 n ts) fun r=>∃ t s,r=.rt t s/\Q t):∃ t,fnP n d ts=some t/\Q t:=by
 obtain ⟨r,h1,t,s,rfl,h2⟩:=h
 exact ⟨t,fnP_of h1,h2⟩
theorem fnPn_run{n:Nat}{d:DS}{ts:List T}{Q:T->Prop}(h:Run d (start3 n ts) fun r=>∃ t s,r=.rt t s/\Q t):∃ t,fnPn n d ts=some t/\Q t:=by
 obtain ⟨r,h1,t,s,rfl,h2⟩:=h
 exact ⟨t,fnPn_of h1,h2⟩
theorem fnI_run{n:Nat}{d:DS}{ts:List T}{Q:T->T->Prop}(h:Run d (start3 n ts) fun r=>∃ t u s,r=.rt t (some u::s)/\Q t u):∃ t u,fnI n d ts=some (t,u)/\Q t u:=by
 obtain ⟨r,h1,t,u,s,rfl,h2⟩:=h
 exact ⟨t,u,fnI_of h1 rfl,h2⟩
end L3
namespace L3
open PySem PySem.Spec PyProof.Rows L2
structure Ev where
 P:Program
 w:World
 mg:Str->Option Value
 base:Heap
abbrev Cl[tk:TheK](v:Ev)(k:Nat)(x:Str)(ps:List Str)(sp:Sp):Prop:=Cal v.P v.w tk.K v.mg v.base k x ps sp
theorem scm{N P:List Str}{sc:Scope}(h1:sc.kind=.function:=by rfl)(h2:sc.isCoroutine=false:=by rfl)(h3:sc.isGenerator=false:=by rfl)(h4:N.Nodup:=by decide +kernel)(h5:N.take P.length=P:=by rfl)
  (h6:∀ x∈P,sc.names.lookup x=some .local∨sc.names.lookup x=some .cell:=by decide +kernel) (h7:∀ y∈sc.names,y.2≠.free:=by decide +kernel):FnScope N P sc:=⟨h1,h2,h3,h4,h5,h6,h7⟩
theorem Cal.up{P:Program}{w:World}{K:PySem.W.Frag}{mg:Str->Option Value}{base:Heap}{j k:Nat}{x:Str}{ps:List Str}{sp:Sp}(h:Cal P w K mg base j x ps sp)(hjk:j<=k:=by decide):Cal P w K mg base k x ps sp:=h.mono hjk
section
variable [TheK]{f1 f2 f3 f4 f5 f6:DE}
theorem ar1:Ar (dAc f1 dAn) 1:=ar_ ar_nil
theorem ar2:Ar (dAc f1 (dAc f2 dAn)) 2:=ar_ ar1
end
section
variable [TheK]{X:Cx}{M:List Nat}{e e1 e2:Expr}{es:List Expr}{fe f0:DE}{fs:DA}{p pos:Pos}{k np i:Nat}{ps:List Str}{x:Str}{fn:List T->Option T}{fi:List T->Option (T × T)}
theorem qc(C:Cal X.prog X.w X.K X.mg X.base k x ps (spP .e np fn))(hr:Room k X.A)(hg:Gl X x)(ha:QA X (e::es) (cA M fs))(ar:Ar fs np)(hdb:(x == ("__debug__":Str))=false:=by decide)(he:starEach (e::es) X.env=(false,eval e X.env)::starEach es X.env:=by rfl)(hpl:(backTo pos (starEach es X.env)).any (·.1)=false:=by rfl):QE X (.Call (.Name x p) (e::es) [] pos) (cE .e M (dCall fn fs)):=by
 obtain ⟨f,fd,F,hb,hk,hm⟩:=C
 exact qe_call F hr hg hm hk hb ha ar hdb he hpl
theorem qcN(C:Cal X.prog X.w X.K X.mg X.base k x ps (spP .n np fn))(hr:Room k X.A)(hg:Gl X x)(ha:QA X (e::es) (cA M fs))(ar:Ar fs np)(hdb:(x == ("__debug__":Str))=false:=by decide)(he:starEach (e::es) X.env=(false,eval e X.env)::starEach es X.env:=by rfl)(hpl:(backTo pos (starEach es X.env)).any (·.1)=false:=by rfl):QE X (.Call (.Name x p) (e::es) [] pos) (cE .n M (dCall fn fs)):=by
 obtain ⟨f,fd,F,hb,hk,hm⟩:=C
 exact qe_callN F hr hg hm hk hb ha ar hdb he hpl
theorem qcI(hi:M.contains i=true)(C:Cal X.prog X.w X.K X.mg X.base k x ps (spI .e (np+1) fi))(hr:Room k X.A)(hg:Gl X x)(h0:QE X e (tVar i))(ha:QA X es (cA M fs))(ar:Ar fs np)(hdb:(x == ("__debug__":Str))=false:=by decide)(he:starEach (e::es) X.env=(false,eval e X.env)::starEach es X.env:=by rfl)(hpl:(backTo pos (starEach es X.env)).any (·.1)=false:=by rfl):QE X (.Call (.Name x p) (e::es) [] pos) (cE .e M (dCallI fi i fs)):=by
 obtain ⟨f,fd,F,hb,hk,hm⟩:=C
 exact qe_callI hi F hr hg hm hk hb h0 ha ar hdb he hpl
theorem qcT{rk:Kd}(hrk:rk=.e∨rk=.n)(C:Cal X.prog X.w X.K X.mg X.base k x ps (spI rk (np+1) fi))(hr:Room k X.A)(hg:Gl X x)(h0:QE X e (cE .n M fe))(ha:QA X es (cA M fs))(ar:Ar fs np)(hdb:(x == ("__debug__":Str))=false:=by decide)(he:starEach (e::es) X.env=(false,eval e X.env)::starEach es X.env:=by rfl)(hpl:(backTo pos (starEach es X.env)).any (·.1)=false:=by rfl):QE X (.Call (.Name x p) (e::es) [] pos) (cE rk M (dCallN fi fe fs)):=by
 obtain ⟨f,fd,F,hb,hk,hm⟩:=C
 exact qe_callT hrk F hr hg hm hk hb h0 ha ar hdb he hpl
end
section
variable [tk:TheK]{v:Ev}{x:Str}{st:Stmt}{N ps:List Str}
theorem _root_.L3.Here.vP(k:Nat)(M':List Nat)(d:DS)(h:Here tk.K v.mg x st ps)(S:FnScope N ps (defScope st))(hb:QBody tk v.P v.w v.mg v.base k x st N (cS .e [] [] M' [] d))(hN:ps.length<=N.length:=by decide):Cl v (k+1) x ps (spP .e ps.length (fnP N.length d)):=h.qP S hb hN
theorem _root_.L3.Here.vD(k:Nat)(M':List Nat)(d:DS)(h:Here tk.K v.mg x st ps)(S:FnScope N ps (defScope st))(hb:QBody tk v.P v.w v.mg v.base k x st N (cS .b [] [] M' [] d))(hN:ps.length<=N.length:=by decide):Cl v (k+1) x ps (spD ps.length (fnPn N.length d)):=h.qD S hb hN
theorem _root_.L3.Here.vN(k:Nat)(M':List Nat)(d:DS)(h:Here tk.K v.mg x st ps)(S:FnScope N ps (defScope st))(hb:QBody tk v.P v.w v.mg v.base k x st N (cS .n [] [] M' [] d))(hN:ps.length<=N.length:=by decide):Cl v (k+1) x ps (spP .n ps.length (fnPn N.length d)):=h.qN S hb hN
theorem _root_.L3.Here.vI(k:Nat)(M':List Nat)(d:DS)(h:Here tk.K v.mg x st ps)(S:FnScope N ps (defScope st))(hb:QBody tk v.P v.w v.mg v.base k x st N (cS .e [0] [0] M' [] d))(hN:ps.length<=N.length:=by decide):Cl v (k+1) x ps (spI .e ps.length (fnI N.length d)):=h.qI S hb hN
end
def Fd(K:PySem.W.Frag)(x:Str)(st:Stmt):Prop:=∃ (f:Addr) (oc:Value) (od:Option Addr) (sl:Array (Option Value)) (kV dc pm:Value) (an:Option Addr) (cd ct:Value),PySem.W.nsIn K mainGlobals x=some (some (.ref f))/\K.lookup f=some ⟨oc,od,.func (PySem.W.fnOf x x (defArgs st) (defBody st) (defScope st) .none kV dc pm an cd ct),sl⟩/\PySem.W.codeIn K cd x=true/\PySem.W.keepIn K (.ref f)=true
section
variable {K:PySem.W.Frag}{h:Heap}{mg:Str->Option Value}{x p1 p2 p3 p4 p5 p6:Str}{st:Stmt}
theorem Fd.mk{f:Addr}{oc:Value}{od:Option Addr}{sl:Array (Option Value)}{kV dc pm:Value}{an:Option Addr}{cd ct:Value}(a:PySem.W.nsIn K mainGlobals x=some (some (.ref f)))(l:K.lookup f=some ⟨oc,od,.func (PySem.W.fnOf x x (defArgs st) (defBody st) (defScope st) .none kV dc pm an cd ct),sl⟩)(c:PySem.W.codeIn K cd x=true)(k:PySem.W.keepIn K (.ref f)=true):Fd K x st:=⟨f,oc,od,sl,kV,dc,pm,an,cd,ct,a,l,c,k⟩
def Bd(x:Str)(st:Stmt)(ps:List Str):Prop:=∀ (kV doc pm:Value) (an:Option Addr) (cdv ct:Value) (us:List Value),us.length=ps.length->bindArgs (PySem.W.fnOf x x (defArgs st) (defBody st) (defScope st) .none kV doc pm an cdv ct) ⟨us,[]⟩=pure (ps.zip us)
theorem Fd.here{ps:List Str}(X:K.In h)(G:h.Ns mainGlobals mg)(a:Fd K x st)(hb:Bd x st ps):Here K mg x st ps:=by
 obtain ⟨f,oc,od,sl,kV,dc,pm,an,cd,ct,a,l,c,k⟩:=a
 exact here_mk X G hb a l c k
theorem bd1(h:∀ (kV doc pm:Value) (an:Option Addr) (cdv ct u1:Value),bindArgs (PySem.W.fnOf x x (defArgs st) (defBody st) (defScope st) .none kV doc pm an cdv ct) ⟨[u1],[]⟩=pure [(p1,u1)]):Bd x st [p1]:=fun a b c d e f us hl=>by
 cases us with
 | nil=>cases hl
 | cons u us=>cases us with
  | nil=>exact h a b c d e f u
  | cons _ _=>cases hl
theorem bd2(h:∀ (kV doc pm:Value) (an:Option Addr) (cdv ct u1 u2:Value),bindArgs (PySem.W.fnOf x x (defArgs st) (defBody st) (defScope st) .none kV doc pm an cdv ct) ⟨[u1,u2],[]⟩=pure [(p1,u1),(p2,u2)]):Bd x st [p1,p2]:=fun a b c d e f us hl=>by
 obtain ⟨u1,u2,rfl⟩:∃ u1 u2,us=[u1,u2]:=by
  cases us with
  | nil=>cases hl
  | cons u us=>obtain ⟨u2,rfl⟩:=List.length_eq_one_iff.mp (Nat.succ.inj hl); exact ⟨u,u2,rfl⟩
 exact h a b c d e f u1 u2
theorem law_top{l:PySem.W.OpenLaw}{w:World}{fa:Addr}{N:List Str}{p:Str}{k:Nat}{d:DS}{M' Mb:List Nat}(X:K.In h)(G:h.Ns mainGlobals mg)(hfa:mg "law"=some (.ref fa))(a:Fd K "law" st)(sc:FnScope N [p] (defScope st))
  (hbt:∀ (kV dc pm:Value) (an:Option Addr) (cd ct v:Value),bindArgs (PySem.W.fnOf "law" "law" (defArgs st) (defBody st) (defScope st) .none kV dc pm an cd ct) ⟨[v],[]⟩=pure [(p,v)]) (hN:1<=N.length)
  (hd:∀ ns:List Int,fnP N.length d [.scr ns]=some (.bl true)) (hb:∀ base:Heap,QBody ⟨K⟩ l.prog w mg base k "law" st N (@cS ⟨K⟩ .e [] [] M' Mb d)) :
  ∃ fd:FuncData,(∀ (s:Shared) (v:Value),BindsTo s fd ⟨[v],[]⟩ [(p,v)])/\∀ base:Heap,K.In base->base.Ns mainGlobals mg->FnOk l.prog w K mg base CX0 (k+1) fa fd [p] (spLaw K):=by
 obtain ⟨f,oc,od,sl,kV,dc,pm,an,cd,ct,a,ll,c,kk⟩:=a
 have e:=hfa.symm.trans (PySem.W.mg_of X G a)
 cases e
 exact ⟨PySem.W.fnOf "law" "law" (defArgs st) (defBody st) (defScope st) .none kV dc pm an cd ct,fun s v=>.of_eq (hbt kV dc pm an cd ct v),fun base _ _=>law_q (tk:=⟨K⟩) (fun_mk (st:=st) ll c kk) sc (hb base) hN fun ns _=>hd ns⟩
end
theorem walkT{l:PySem.W.OpenLaw}{q:Program}{loose:List Str}{XP:(Str->Option Value)->Heap->Prop}{YP:World->Heap->Prop}{d:DefRec}{K:Params->PySem.W.Frag}{x:Str}{k:Nat}(hn:l.most=some 63)(hdf:d.params.defaults=[])(hk:k < 60)
  (hY:∀ (w:World) (h:Heap),YP w h->(K w.params).In h)
  (F:∀ (w:World) (mg:Str->Option Value) (fa:Addr) (h:Heap),(K w.params).In h->h.Ns mainGlobals mg->mg d.name=some (.ref fa)->
   ∃ fd:FuncData,(∀ (s:Shared) (u:Value),BindsTo s fd ⟨[u],[]⟩ [(x,u)])/\∀ base:Heap,(K w.params).In base->base.Ns mainGlobals mg->FnOk l.prog w (K w.params) mg base CX0 k fa fd [x] (spLaw (K w.params))) :
  PySem.W.WalkO q loose XP YP l.row.toRowW d [] (fun f vs=>PySem.call f vs):=
 L2.walk_of (n:=63) (k:=k) (x:=x) (CX:=fun _=>CX0) (sp:=fun w=>spLaw (K w.params)) hn (by decide) hdf (Room.mono (k:=60) ⟨rfl,by decide,by decide⟩ (by lia)) hY F (fun _ _ a ns hl hO hS=>⟨a,ns,rfl,hO,hS,hl,fun _=>rfl⟩) fun _ _ _ _ _ z=>z
end L3
namespace L3
open PySem PySem.Spec PyProof.Rows L2
theorem vdV(i:Nat)(s:Sg):dV i s=(s[i]?).join.map fun t=>(t,s):=rfl
theorem vdC(t:T)(s:Sg):dC t s=some (t,s):=rfl
theorem vd2(g:T->T->Option T)(fa fb:DE)(s:Sg):d2 g fa fb s=(fa s).bind fun p=>(fb p.2).bind fun q=>(g p.1 q.1).map fun t=>(t,q.2):=rfl
theorem vd2v(g:T->T->Option T)(i:Nat)(fb:DE)(s:Sg):d2v g i fb s=(s[i]?).join.bind fun _=>(fb s).bind fun q=>(q.2[i]?).join.bind fun x=>(g x q.1).map fun t=>(t,q.2):=rfl
theorem vdB(f:DE)(s:Sg):dB f s=(f s).bind fun p=>match p.1 with
 | .bl b=>some (b,p.2)
 | _=>none:=rfl
theorem vdTru(f:DE)(s:Sg):dTru f s=(f s).bind fun p=>(tru p.1).map fun b=>(b,p.2):=rfl
theorem vdAnd(f g:DT)(s:Sg):dAnd f g s=(f s).bind fun p=>if p.1 then g p.2 else some (false,p.2):=rfl
theorem vdOr(f g:DT)(s:Sg):dOr f g s=(f s).bind fun p=>if p.1 then some (true,p.2) else g p.2:=rfl
theorem vdNot(f:DT)(s:Sg):dNot f s=(f s).map fun p=>(!p.1,p.2):=rfl
theorem vdAndV(f g:DE)(s:Sg):dAndV f g s=(dB f s).bind fun p=>if p.1 then g p.2 else some (.bl false,p.2):=rfl
theorem vdNotV(f:DE)(s:Sg):dNotV f s=(dB f s).map fun p=>(.bl (!p.1),p.2):=rfl
theorem vdIf(c:DT)(f g:DE)(s:Sg):dIf c f g s=(c s).bind fun p=>if p.1 then f p.2 else g p.2:=rfl
theorem vdAn(s:Sg):dAn  s=some ([],s):=rfl
theorem vdAc(f:DE)(g:DA)(s:Sg):dAc f g s=(f s).bind fun p=>(g p.2).map fun q=>(p.1::q.1,q.2):=rfl
theorem vdLst(f:DA)(s:Sg):dLst f s=(f s).bind fun p=>if p.1.length<=sizeLine then some (.lst p.1,p.2) else none:=rfl
theorem vdOn(s:Sg):dOn  s=some (none,s):=rfl
theorem vdOs(f:DE)(s:Sg):dOs f s=(f s).bind fun p=>match p.1 with
 | .int i=>some (some i,p.2)
 | _=>none:=rfl
theorem vdSl(g:T->Option Int->Option Int->Option T)(f:DE)(l h:DO)(s:Sg):dSl g f l h s=(f s).bind fun p=>(l p.2).bind fun q=>(h q.2).bind fun r=>(g p.1 q.1 r.1).map fun t=>(t,r.2):=rfl
theorem vdSeq(f g:DS)(s:Sg):dSeq f g s=(f s).bind fun r=>match r with
 | .nx s'=>g s'
 | r=>some r:=rfl
theorem vdNext(s:Sg):dNext  s=some (.nx s):=rfl
theorem vdSet(i:Nat)(f:DE)(s:Sg):dSet i f s=(f s).bind fun p=>if i < p.2.length then some (.nx (p.2.set i (some p.1))) else none:=rfl
theorem vdIfS(c:DT)(f g:DS)(s:Sg):dIfS c f g s=(c s).bind fun p=>if p.1 then f p.2 else g p.2:=rfl
theorem vdDo(f:DE)(s:Sg):dDo f s=(f s).map fun p=>.nx p.2:=rfl
theorem vdRetI(io:List Nat)(f:DE)(s:Sg):dRetI io f s=(f s).bind fun p=>if hasAll io p.2 then some (.rt p.1 p.2) else none:=rfl
theorem vdMut(g:T->List T->Option (T × T))(i:Nat)(fa:DA)(s:Sg):dMut g i fa s=(s[i]?).join.bind fun t0=>if isLst t0 then (fa s).bind fun p=>(p.2[i]?).join.bind fun t=>(g t p.1).map fun q=>(q.2,p.2.set i (some q.1)) else none:=rfl
theorem vdSetI(i:Nat)(fk fv:DE)(s:Sg):dSetI i fk fv s=(fv s).bind fun p=>(p.2[i]?).join.bind fun _=>(fk p.2).bind fun q=>(q.2[i]?).join.bind fun t=>match t,q.1 with
 | .lst xs,.int k=>(ixN xs.length k).map fun j=>.nx (q.2.set i (some (.lst (xs.set j p.1))))
 | _,_=>none:=rfl
theorem vdUn(is:List Nat)(f:DE)(s:Sg):dUn is f s=(f s).bind fun p=>(itemsT p.1).bind fun ts=>(setAll is ts p.2).map .nx:=rfl
theorem vdRg1(f:DA)(s:Sg):dRg1 f s=(f s).bind fun p=>match p.1 with
 | [.int j]=>if rgOk j=true then some (rangeT 0 j.toNat,p.2) else none
 | _=>none:=rfl
theorem vdRg2(f:DA)(s:Sg):dRg2 f s=(f s).bind fun p=>match p.1 with
 | [.int i,.int j]=>if rgOk i=true/\rgOk j=true then some (rangeT i (j - i).toNat,p.2) else none
 | _=>none:=rfl
theorem vdEn(f:DA)(s:Sg):dEn f s=(f s).bind fun p=>match p.1 with
 | [.lst xs]=>some (enumT xs,p.2)
 | _=>none:=rfl
theorem vdGn(i:Nat)(t:T)(s:Sg):dGn i t s=if i < s.length then some (s.set i (some t)) else none:=rfl
theorem vdGt(is:List Nat)(t:T)(s:Sg):dGt is t s=match t with
 | .tup ts=>setAll is ts s
 | _=>none:=rfl
theorem vdCall(fn:List T->Option T)(fa:DA)(s:Sg):dCall fn fa s=(fa s).bind fun p=>(fn p.1).map fun t=>(t,p.2):=rfl
theorem vdCallI(fn:List T->Option (T × T))(i:Nat)(fa:DA)(s:Sg):dCallI fn i fa s=(s[i]?).join.bind fun _=>(fa s).bind fun p=>(p.2[i]?).join.bind fun t0=>(fn (t0::p.1)).map fun q=>(q.1,p.2.set i (some q.2)):=rfl
theorem vdCallN(fn:List T->Option (T × T))(f0:DE)(fa:DA)(s:Sg):dCallN fn f0 fa s=(f0 s).bind fun p=>(fa p.2).bind fun q=>(fn (p.1::q.1)).map fun r=>(r.1,q.2):=rfl
theorem vd1(g:T->Option T)(f:DE)(s:Sg):d1 g f s=(f s).bind fun p=>(g p.1).map fun t=>(t,p.2):=rfl
theorem vdItA(f:DE)(s:Sg):dItA f s=(f s).bind fun p=>match p.1 with
 | .lst xs=>some (xs,p.2)
 | .scr ns=>some (ns.map .int,p.2)
 | .tup xs=>some (xs,p.2)
 | .fd kvs=>some (kvs.map fun kv=>kT kv.1,p.2)
 | .str x=>some (x.cps.toList.map signT,p.2)
 | _=>none:=rfl
theorem vdLR(f:DA)(s:Sg):dLR f s=(f s).bind fun p=>match p.1 with
 | [.int j]=>if rgOk j=true then some (.lst (rangeT 0 j.toNat),p.2) else none
 | _=>none:=rfl
theorem vdItR(f:DE)(s:Sg):dItR f s=(f s).bind fun p=>match p.1 with
 | .lst xs=>some (xs.reverse,p.2)
 | _=>none:=rfl
theorem vdSet0(s:Sg):dSet0  s=some (.set (fun _=>false) 0,s):=rfl
theorem vdSAdd(i:Nat)(fe:DE)(s:Sg):dSAdd i fe s=(s[i]?).join.bind fun t0=>match t0 with
 | .set _ _=>(fe s).bind fun p=>(p.2[i]?).join.bind fun t1=>match p.1,t1 with
  | .int k,.set S n=>if n < 1000 then some (.non,p.2.set i (some (.set (fun j=>S j||decide (j=k)) (if S k then n else n+1)))) else none
  | _,_=>none
 | _=>none:=rfl
theorem vdRtD(d:DS)(s:Sg):dRtD d s=match d s with
 | some (.rt t s')=>some (.rt t s')
 | _=>none:=rfl
theorem vdDeep2(fn:List T->Option T)(fa:DA)(x:Nat)(d:DS)(s:Sg):dDeep2 fn fa x d s=(fa s).bind fun p=>(fn p.1).bind fun t=>if x < p.2.length then (d (p.2.set x (some t))).bind (unD x) else none:=rfl
theorem vdCallD(fn:List T->Option T)(fe:DE)(s:Sg):dCallD fn fe s=(fe s).bind fun p=>match p.1 with
 | .lst ts=>if ts.all flatT=true then (fn [.lst ts]).map fun t=>(t,p.2) else none
 | _=>none:=rfl
theorem vdNils(n:Nat)(s:Sg):dNils n s=some (.lst (List.replicate n (.lst [])),s):=rfl
theorem vdClx(x:Nat)(s:Sg):dClx x s=match (s[x]?).join with
 | some (.lst _)=>some (.nx (s.set x (some (.lst []))))
 | _=>none:=rfl
theorem vdIsi(c:String)(f:DE)(s:Sg):dIsi c f s=(f s).bind fun p=>((isi c p.1).map T.bl).map fun t=>(t,p.2):=rfl
theorem vdYes(s:Sg):dYes s=some (true,s):=rfl
def nT(k:Nat):T:=.int (k:Int)
theorem vnT(k:Nat):nT k=.int (k:Int):=rfl
theorem vPlusI(i j:Int):gPlus (.int i) (.int j)=some (.int (i+j)):=rfl
theorem vPlusL{a b:List T}(h:a.length+b.length<=1000000):gPlus (.lst a) (.lst b)=some (.lst (a++b)):=by
 have q:a.length+b.length<=sizeLine:=small_le h
 simp only [gPlus,orG,gAdd,gCat,q,if_true]
theorem vCatL{a b:List T}(h:a.length+b.length<=1000000):gCat (.lst a) (.lst b)=some (.lst (a++b)):=by
 have q:a.length+b.length<=sizeLine:=small_le h
 simp only [gCat,q,if_true]
theorem vPlusS{a b:Str}(h:a.length+b.length<=1000000):gPlus (.str a) (.str b)=some (.str (a++b)):=by
 have q:a.length+b.length<=sizeLine:=small_le h
 simp only [gPlus,orG,gAdd,q,if_true]
theorem vSb(i j:Int):gSb (.int i) (.int j)=some (.int (i - j)):=rfl
theorem vMul{i j:Int}(h:-1000000000000<=i/\i<=1000000000000∨-1000000000000<=j/\j<=1000000000000):gMul (.int i) (.int j)=some (.int (i*j)):=by
 have:bMul i j=true:=by unfold bMul; rw [Bool.or_eq_true,decide_eq_true_iff,decide_eq_true_iff]; lia
 simp only [gMul,gI,this,if_true]
theorem vDiv{i j:Int}(h:0 < j/\j<=1000000000):gDiv (.int i) (.int j)=some (.int (i / j)):=by
 have:bDiv i j=true:=decide_eq_true (by lia)
 simp only [gDiv,gI,this,if_true]
theorem vMod{i j:Int}(h:0 < j):gMod (.int i) (.int j)=some (.int (i%j)):=by
 have:bMod i j=true:=decide_eq_true h
 simp only [gMod,gI,this,if_true]
theorem vNeg(i:Int):gNeg (.int i)=some (.int (-i)):=rfl
theorem vLt(i j:Int):gLt (.int i) (.int j)=some (.bl (decide (i < j))):=rfl
theorem vLe(i j:Int):gLe (.int i) (.int j)=some (.bl (decide (i<=j))):=rfl
theorem vGt(i j:Int):gGt (.int i) (.int j)=some (.bl (decide (j < i))):=rfl
theorem vGe(i j:Int):gGe (.int i) (.int j)=some (.bl (decide (j<=i))):=rfl
theorem vEqI(i j:Int):gEq (.int i) (.int j)=some (.bl (decide (i=j))):=by simp only [gEq,eqD_int,Option.map_some]; rfl
theorem vNeI(i j:Int):gNe (.int i) (.int j)=some (.bl (!decide (i=j))):=by simp only [gNe,eqD_int,Option.map_some]; rfl
theorem vEqB(i j:Bool):gEq (.bl i) (.bl j)=some (.bl (i == j)):=by simp only [gEq,eqD_bl,Option.map_some]
theorem vNeB(i j:Bool):gNe (.bl i) (.bl j)=some (.bl (!(i == j))):=by simp only [gNe,eqD_bl,Option.map_some]
theorem vEqS(i j:Str):gEq (.str i) (.str j)=some (.bl (decide (i=j))):=by
 simp only [gEq,eqD_str,Option.map_some]
 by_cases h:i=j<;>simp [h]
theorem vNeS(i j:Str):gNe (.str i) (.str j)=some (.bl (!decide (i=j))):=by
 simp only [gNe,eqD_str,Option.map_some]
 by_cases h:i=j<;>simp [h]
theorem vEqSs(xs ys:List Str):gEq (.lst (xs.map T.str)) (.lst (ys.map T.str))=some (.bl (decide (xs=ys))):=by simp only [gEq,eqD_strs,Option.map_some]
theorem vNeSs(xs ys:List Str):gNe (.lst (xs.map T.str)) (.lst (ys.map T.str))=some (.bl (!decide (xs=ys))):=by simp only [gNe,eqD_strs,Option.map_some]
theorem eqD_nats{n:Nat}(xs ys:List Nat):eqD (n+1) (.lst (xs.map nT)) (.lst (ys.map nT))=some (decide (xs=ys)):=eqD_lst (fun a b=>by
 rw [vnT,vnT,eqD_int]; refine congrArg some ?_
 by_cases h:a=b
 ·subst h; simp
 ·rw [decide_eq_false h]; simp; lia) xs ys
theorem vEqNs(xs ys:List Nat):gEq (.lst (xs.map nT)) (.lst (ys.map nT))=some (.bl (decide (xs=ys))):=by simp only [gEq,eqD_nats,Option.map_some]
theorem vNeNs(xs ys:List Nat):gNe (.lst (xs.map nT)) (.lst (ys.map nT))=some (.bl (!decide (xs=ys))):=by simp only [gNe,eqD_nats,Option.map_some]
theorem vLenL(xs:List T):gLen (.lst xs)=some (.int xs.length):=rfl
theorem vLenT(xs:List T):gLen (.tup xs)=some (.int xs.length):=rfl
theorem vLenD(xs:List (Key × T)):gLen (.dct xs)=some (.int xs.length):=rfl
theorem vLenR(xs:List Int):gLen (.scr xs)=some (.int xs.length):=rfl
theorem atI_nat'{α:Type}(xs:List α)(k:Nat):atI xs (k:Int)=xs[k]?:=by
 unfold atI ixN
 rw [if_pos (by lia)]
 split
 ·simp
 ·rename_i h
  rw [Option.bind_none,eq_comm,List.getElem?_eq_none_iff]; lia
theorem vItemL(xs:List T)(k:Nat):gItem (.lst xs) (.int (k:Int))=xs[k]?:=by
 have:gItem (.lst xs) (.int (k:Int))=orG gIx gDIx (.lst xs) (.int (k:Int)):=rfl
 rw [this]; unfold orG
 have e:gIx (.lst xs) (.int (k:Int))=xs[k]?:=by show atI xs (k:Int)=_; exact atI_nat' xs k
 rw [e]
 cases xs[k]?<;>rfl
theorem vItemT(xs:List T)(k:Nat):gItem (.tup xs) (.int (k:Int))=xs[k]?:=by
 have:gItem (.tup xs) (.int (k:Int))=orG gIx gDIx (.tup xs) (.int (k:Int)):=rfl
 rw [this]; unfold orG
 have e:gIx (.tup xs) (.int (k:Int))=xs[k]?:=by show atI xs (k:Int)=_; exact atI_nat' xs k
 rw [e]
 cases xs[k]?<;>rfl
theorem vItemDs(kvs:List (Key × T))(x:Str):gItem (.dct kvs) (.str x)=lookT kvs (.inr x):=by
 show (match (none:Option T) with | some t=>some t | none=>_)=_
 rfl
theorem vItemDi(kvs:List (Key × T))(x:Int):gItem (.dct kvs) (.int x)=lookT kvs (.inl x):=rfl
theorem vTruB(b:Bool):tru (.bl b)=some b:=rfl
theorem vTruL(xs:List T):tru (.lst xs)=some (!xs.isEmpty):=rfl
theorem vTruI(i:Int):tru (.int i)=some (i != 0):=rfl
theorem vListL(xs:List T):gListA (.lst xs)=some (.lst xs):=rfl
theorem vListT(xs:List T):gListA (.tup xs)=some (.lst xs):=rfl
theorem vAppS{xs:List Str}(x:Str)(h:xs.length<=1000000):mApp (.lst (xs.map T.str)) [.str x]=some (.lst ((xs++[x]).map T.str),.non):=by
 have q:(xs.map T.str).length < sizeLine:=small_lt (by rw [List.length_map]; exact h)
 simp only [mApp,q,if_true,List.map_append,List.map_cons,List.map_nil]
theorem vAppN{xs:List Nat}(x:Nat)(h:xs.length<=1000000):mApp (.lst (xs.map nT)) [.int (x:Int)]=some (.lst ((xs++[x]).map nT),.non):=by
 have q:(xs.map nT).length < sizeLine:=small_lt (by rw [List.length_map]; exact h)
 simp only [mApp,q,if_true,List.map_append,List.map_cons,List.map_nil,vnT]
theorem vAppA{xs:List T}(x:T)(h:xs.length<=1000000):mApp (.lst xs) [x]=some (.lst (xs++[x]),.non):=by
 have q:xs.length < sizeLine:=small_lt h
 simp only [mApp,q,if_true]
theorem vNotInS(x:Str)(xs:List Str):gNotInA (.str x) (.lst (xs.map T.str))=some (.bl (!decide (x∈xs))):=by
 simp only [gNotInA,orG,gNotIn,gInB,toV,toVs_strs,Option.bind_some,Option.map_some,inV_strs]
theorem vInS(x:Str)(xs:List Str):gInA (.str x) (.lst (xs.map T.str))=some (.bl (decide (x∈xs))):=by
 simp only [gInA,orG,gIn,gInB,toV,toVs_strs,Option.bind_some,Option.map_some,inV_strs]
theorem toVs_nats(xs:List Nat):toVs (xs.map nT)=some (xs.map fun (k:Nat)=>V.int (k:Int)):=by
 induction xs with
 | nil=>rfl
 | cons x xs ih=>rw [List.map_cons]; unfold toVs; rw [ih]; rfl
theorem inV_nats(x:Nat)(xs:List Nat):inV (.int (x:Int)) (xs.map fun (k:Nat)=>V.int (k:Int))=decide (x∈xs):=by
 unfold inV
 rw [List.any_map,Bool.eq_iff_iff,List.any_eq_true,decide_eq_true_iff]
 constructor
 ·rintro ⟨y,hy,e⟩
  have:(y:Int)=x:=by simpa [eqV] using e
  have:y=x:=by lia
  exact this▸hy
 ·intro h
  exact ⟨x,h,by simp [eqV]⟩
theorem vInN(x:Nat)(xs:List Nat):gInA (.int (x:Int)) (.lst (xs.map nT))=some (.bl (decide (x∈xs))):=by
 simp only [gInA,orG,gIn,gInB,toV,toVs_nats,Option.bind_some,Option.map_some,inV_nats]
theorem vNotInN(x:Nat)(xs:List Nat):gNotInA (.int (x:Int)) (.lst (xs.map nT))=some (.bl (!decide (x∈xs))):=by
 simp only [gNotInA,orG,gNotIn,gInB,toV,toVs_nats,Option.bind_some,Option.map_some,inV_nats]
theorem vInD(x:Str)(kvs:List (Key × T)):gInA (.str x) (.dct kvs)=some (.bl (lookT kvs (.inr x)).isSome):=rfl
theorem vNotInD(x:Str)(kvs:List (Key × T)):gNotInA (.str x) (.dct kvs)=some (.bl (!(lookT kvs (.inr x)).isSome)):=rfl
theorem vCountS(x:Str)(xs:List Str):gCount (.lst (xs.map T.str)) (.str x)=some (.int (xs.count x:Nat)):=by
 simp only [gCount,toVs_strs,toV,Option.bind_some,Option.map_some,countV_strs]
theorem visiLl(xs:List T):isi "list" (.lst xs)=some true:=by simp [isi]
theorem visiIi(i:Int):isi "int" (.int i)=some true:=by simp [isi]
theorem visiBi(i:Int):isi "bool" (.int i)=some false:=by simp [isi]
theorem visiBb(b:Bool):isi "bool" (.bl b)=some true:=by simp [isi]
theorem visiTt(xs:List T):isi "tuple" (.tup xs)=some true:=by simp [isi]
theorem visiSs(x:Str):isi "str" (.str x)=some true:=by simp [isi]
theorem hasAll_nil(s:Sg):hasAll [] s=true:=rfl
theorem blsT_map(bs:List Bool):blsT (bs.map T.bl)=some bs:=by
 induction bs with
 | nil=>rfl
 | cons b bs ih=>rw [List.map_cons]; unfold blsT; rw [ih]; rfl
theorem vAllB(bs:List Bool):gAll (.lst (bs.map T.bl))=some (.bl (bs.all id)):=by simp only [gAll,blsT_map,Option.map_some]
theorem vAnyB(bs:List Bool):gAny (.lst (bs.map T.bl))=some (.bl (bs.any id)):=by simp only [gAny,blsT_map,Option.map_some]
theorem isLst_lst(xs:List T):isLst (.lst xs)=true:=rfl
theorem sz0:0<=sizeLine:=Nat.zero_le _
theorem sz1:1<=sizeLine:=small_le (by lia)
theorem sz2:2<=sizeLine:=small_le (by lia)
theorem sz3:3<=sizeLine:=small_le (by lia)
theorem sz4:4<=sizeLine:=small_le (by lia)
theorem rgN{k:Nat}(h:k<=2000):rgOk (k:Int)=true:=rgOk_of (by lia) (by lia)
theorem lc_enc{α:Type}{M:List Nat}{caps:List (Option Nat)}{fi:DI}{dg:DG}{ft:DT}{fe:DE}{s:Sg}(xs:List α)(enc:α->T)(b:α->Bool)(e:α->T)(hi:fi s=some (xs.map enc,s))(hl:xs.length<=1000000)
  (h:∀ x∈xs,∃ s1,dg (enc x) (capS caps s)=some s1/\ft s1=some (b x,s1)/\(b x=true->fe s1=some (e x,s1))/\backGo M caps s1 s=s):dLC M caps fi dg ft fe s=some (.lst ((xs.filter b).map e),s):=by
 have key:∀ (ys:List α) (acc:List T),(∀ y∈ys,y∈xs)->lcGo M caps dg ft fe (ys.map enc) acc s=some (acc++(ys.filter b).map e,s):=by
  intro ys
  induction ys with
  | nil=>intro acc _; unfold lcGo; simp
  | cons y ys ih=>
   intro acc hy
   obtain ⟨s1,h1,h2,h3,h4⟩:=h y (hy y List.mem_cons_self)
   rw [List.map_cons]
   unfold lcGo
   rw [h1,Option.bind_some,h2,Option.bind_some]
   have ih':=fun acc=>ih acc fun z hz=>hy z (List.mem_cons_of_mem _ hz)
   cases hb:b y with
   | true=>rw [if_pos rfl,h3 hb,Option.bind_some,h4,ih',List.filter_cons,if_pos hb,List.map_cons,List.append_assoc]; rfl
   | false=>rw [if_neg Bool.false_ne_true,h4,ih',List.filter_cons,if_neg (by rw [hb]; exact Bool.false_ne_true)]
 unfold dLC
 rw [hi,Option.bind_some]
 have q:(xs.map enc).length<=lcMax:=lc_le (by rw [List.length_map]; exact hl)
 rw [if_pos q,key xs [] (fun _ h=>h),Option.map_some]
 rfl
theorem lc_encm{α:Type}{M:List Nat}{caps:List (Option Nat)}{fi:DI}{dg:DG}{fe:DE}{s:Sg}(xs:List α)(enc:α->T)(e:α->T)(hi:fi s=some (xs.map enc,s))(hl:xs.length<=1000000)
  (h:∀ x∈xs,∃ s1,dg (enc x) (capS caps s)=some s1/\fe s1=some (e x,s1)/\backGo M caps s1 s=s):dLC M caps fi dg dYes fe s=some (.lst (xs.map e),s):=by
 have:=lc_enc (M:=M) (caps:=caps) (fi:=fi) (dg:=dg) (ft:=dYes) (fe:=fe) (s:=s) xs enc (fun _=>true) e hi hl fun x hx=>by
  obtain ⟨s1,h1,h2,h3⟩:=h x hx
  exact ⟨s1,h1,rfl,fun _=>h2,h3⟩
 rw [this,List.filter_eq_self.mpr (fun _ _=>rfl)]
theorem enum_map{α:Type}(xs:List α)(enc:α->T):enumT (xs.map enc)=xs.zipIdx.map fun p=>T.tup [.int (p.2:Nat),enc p.1]:=by
 unfold enumT
 refine List.ext_getElem (by simp) fun i h1 h2=>?_
 have hi:i < xs.length:=by simpa using h2
 rw [List.getElem_map,List.getElem_range,List.getElem_map,List.getElem_zipIdx,List.getD_eq_getElem?_getD,List.getElem?_map,List.getElem?_eq_getElem hi]
 simp
theorem range_nT(m:Nat):rangeT 0 m=(List.range m).map nT:=by
 unfold rangeT
 refine List.map_congr_left fun i _=>?_
 rw [Int.zero_add]; rfl
theorem run_nx{f g:DS}{s s':Sg}{Q:Fl->Prop}(h:f s=some (.nx s'))(k:Run g s' Q):Run (dSeq f g) s Q:=run_seq h k
theorem run_rt{f g:DS}{s s':Sg}{t:T}{Q:Fl->Prop}(h:f s=some (.rt t s'))(k:Q (.rt t s')):Run (dSeq f g) s Q:=⟨_,seq_rt h,k⟩
theorem fnP_eq{n:Nat}{d:DS}{ts:List T}{t:T}(h:Run d (start3 n ts) fun r=>∃ s,r=.rt t s):fnP n d ts=some t:=by
 obtain ⟨r,h1,s,rfl⟩:=h
 exact fnP_of h1
theorem fnPn_eq{n:Nat}{d:DS}{ts:List T}{t:T}(h:Run d (start3 n ts) fun r=>∃ s,r=.rt t s):fnPn n d ts=some t:=by
 obtain ⟨r,h1,s,rfl⟩:=h
 exact fnPn_of h1
theorem run_ret{d:DS}{s s':Sg}{t t':T}(h:d s=some (.rt t' s'))(k:t'=t):Run d s fun r=>∃ s,r=.rt t s:=⟨_,h,s',by rw [k]⟩
theorem vcap0(s:Sg):capS [] s=[]:=rfl
theorem vcapN(cs:List (Option Nat))(s:Sg):capS (none::cs) s=none::capS cs s:=rfl
theorem vcapS(j:Nat)(cs:List (Option Nat))(s:Sg):capS (some j::cs) s=(s[j]?).join::capS cs s:=rfl
theorem run_retq{f g:DS}{s s':Sg}{t t':T}(h:f s=some (.rt t' s'))(k:t'=t):Run (dSeq f g) s fun r=>∃ s,r=.rt t s:=⟨_,seq_rt h,s',by rw [k]⟩
theorem run_onto{d:DS}{s s':Sg}{P:Sg->Prop}(h:d s=some (.nx s'))(k:P s'):Run d s (Onto P):=⟨_,h,k⟩
def OntoR(P:Sg->Prop)(Q:Fl->Prop):Fl->Prop
 | .nx s=>P s
 | .ct s=>P s
 | .rt t s=>Q (.rt t s)
 | .bk _=>False
theorem loop_R{g:DG}{db:DS}{Q:Fl->Prop}(I:Nat->Sg->Prop):∀ (xs:List T) (i:Nat) (s:Sg),I i s->(∀ j x s,xs[j]?=some x->I (i+j) s->∃ s1,g x s=some s1/\Run db s1 (OntoR (I (i+j+1)) Q))->
  (∃ s',loopF g db xs s=some (.nx s')/\I (i+xs.length) s')∨∃ t s',loopF g db xs s=some (.rt t s')/\Q (.rt t s')
 | [],i,s,h0,_=>.inl ⟨s,by unfold loopF; rfl,h0⟩
 | x::xs,i,s,h0,h=>by
  obtain ⟨s1,h1,r,h2,h3⟩:=h 0 x s rfl h0
  have next:∀ s2,I (i+0+1) s2->(∃ s',loopF g db xs s2=some (.nx s')/\I (i+(xs.length+1)) s')∨∃ t s',loopF g db xs s2=some (.rt t s')/\Q (.rt t s'):=fun s2 q=>by
   have:=loop_R I xs (i+1) s2 q fun j y s e q'=>by
    have z:=h (j+1) y s (by simpa using e)
    rw [show i+(j+1)=i+1+j by lia] at z
    exact z q'
   rw [show i+(xs.length+1)=i+1+xs.length by lia]
   exact this
  rw [List.length_cons]
  cases r with
  | nx s2=>unfold loopF; rw [h1,Option.bind_some,h2,Option.bind_some]; exact next s2 h3
  | ct s2=>unfold loopF; rw [h1,Option.bind_some,h2,Option.bind_some]; exact next s2 h3
  | bk s2=>exact h3.elim
  | rt t s2=>exact .inr ⟨t,s2,by unfold loopF; rw [h1,Option.bind_some,h2]; rfl,h3⟩
theorem run_forR{fi:DI}{g:DG}{db d:DS}{s s1:Sg}{its:List T}{Q:Fl->Prop}(I:Nat->Sg->Prop)(h:fi s=some (its,s1))(h0:I 0 s1)
  (hs:∀ j x s,its[j]?=some x->I j s->∃ s1,g x s=some s1/\Run db s1 (OntoR (I (j+1)) Q)) (k:∀ s',I its.length s'->Run d s' Q):Run (dSeq (dFor fi g db) d) s Q:=by
 rcases loop_R (g:=g) (db:=db) (Q:=Q) I its 0 s1 h0 (fun j x s e q=>by rw [Nat.zero_add] at q ⊢; exact hs j x s e q) with ⟨s',h1,h2⟩ | ⟨t,s',h1,h2⟩
 ·rw [Nat.zero_add] at h2
  exact run_seq (for_nx h h1) (k s' h2)
 ·refine ⟨.rt t s',?_,h2⟩
  unfold dSeq dFor
  rw [h,Option.bind_some,h1]
  rfl
theorem onto_nx{d:DS}{s s':Sg}{P:Sg->Prop}{Q:Fl->Prop}(h:d s=some (.nx s'))(k:P s'):Run d s (OntoR P Q):=⟨_,h,k⟩
theorem vsign(c:Nat):signT c=.str ⟨#[c]⟩:=rfl
theorem onto_ret{d:DS}{s s':Sg}{P:Sg->Prop}{t t':T}(h:d s=some (.rt t' s'))(k:t'=t):Run d s (OntoR P fun r=>∃ s,r=.rt t s):=⟨_,h,s',by rw [k]⟩
end L3
namespace Dw
open PySem PySem.Spec PyProof.Rows L2 L3
theorem mem_fold(x:Str):∀ (wd acc:List Str),x∈wd.foldl stp acc↔x∈acc∨x∈wd
 | [],acc=>by simp
 | y::wd,acc=>by
  rw [List.foldl_cons,mem_fold x wd,List.mem_cons]
  unfold stp
  split
  ·rename_i h
   constructor
   ·rintro (q | q)
    ·exact .inl q
    ·exact .inr (.inr q)
   ·rintro (q | q | q)
    ·exact .inl q
    ·exact .inl (q▸h)
    ·exact .inr q
  ·rw [List.mem_append,List.mem_singleton]
   constructor
   ·rintro ((q | q) | q)
    ·exact .inl q
    ·exact .inr (.inl q)
    ·exact .inr (.inr q)
   ·rintro (q | q | q)
    ·exact .inl (.inl q)
    ·exact .inl (.inr q)
    ·exact .inr q
theorem mem_firsts{x:Str}{wd:List Str}:x∈firsts wd↔x∈wd:=by unfold firsts; rw [mem_fold]; simp
theorem nodup_fold:∀ (wd acc:List Str),acc.Nodup->(wd.foldl stp acc).Nodup
 | [],acc,h=>h
 | y::wd,acc,h=>by
  rw [List.foldl_cons]
  refine nodup_fold wd _ ?_
  unfold stp
  split
  ·exact h
  ·rename_i q
   rw [List.nodup_append]
   exact ⟨h,by simp,fun a ha b hb e=>q (by rw [List.mem_singleton] at hb; subst hb; subst e; exact ha)⟩
theorem firsts_nodup(wd:List Str):(firsts wd).Nodup:=nodup_fold wd [] List.nodup_nil
def numsOf(wd:List Str):List Nat:=wd.map fun x=>(firsts wd).idxOf x
end Dw
namespace Dw
open PySem PySem.Spec PyProof.Rows L2 L3
theorem reps_strs[TheK]{C:Addr->Prop}{H:Hp}(l:List Str):Reps C H (l.map V.str) (l.map T.str):=by
 induction l with
 | nil=>exact .nil
 | cons x l ih=>exact .cons (.str x) ih
end Dw
namespace Dw
open PySem PySem.Spec PyProof.Rows L2 L3
theorem mem_places{wd:List Str}{x:Str}{k:Nat}(h:k∈placesOf wd x):wd[k]?=some x:=of_decide_eq_true (List.mem_filter.mp h).2
end Dw
namespace Dw
open PySem PySem.Spec PyProof.Rows L2 L3
theorem sum_count:∀ (wd ns:List Str),ns.Nodup->(∀ x∈wd,x∈ns)->wd.length=(ns.map fun x=>wd.count x).sum
 | [],ns,_,_=>by
  have:(ns.map fun x=>([]:List Str).count x)=ns.map fun _=>0:=List.map_congr_left fun x _=>by simp
  have z:∀ l:List Str,(l.map fun _=>0).sum=0:=fun l=>by
   induction l with
   | nil=>rfl
   | cons n l ih=>rw [List.map_cons,List.sum_cons,ih]
  rw [this,z]
  rfl
 | y::wd,ns,hn,h=>by
  have ih:=sum_count wd ns hn fun x hx=>h x (List.mem_cons_of_mem _ hx)
  have key:∀ (ns:List Str),ns.Nodup->(ns.map fun x=>(y::wd).count x).sum=(ns.map fun x=>wd.count x).sum+if y∈ns then 1 else 0:=by
   intro ns
   induction ns with
   | nil=>intro _; rfl
   | cons n ns ihn=>
    intro hn
    rw [List.nodup_cons] at hn
    rw [List.map_cons,List.sum_cons,List.map_cons,List.sum_cons,ihn hn.2,List.count_cons]
    by_cases e:y=n
    ·subst e
     rw [if_pos (by simp),if_neg hn.1,if_pos (by simp)]; lia
    ·rw [if_neg (by simpa using e)]
     by_cases e2:y∈ns
     ·rw [if_pos e2,if_pos (List.mem_cons_of_mem _ e2)]; lia
     ·rw [if_neg e2,if_neg (by simp [e,e2])]; lia
  rw [key ns hn,if_pos (h y List.mem_cons_self),<-ih,List.length_cons]
theorem two_len{wd:List Str}(h:∀ x∈wd,wd.count x=2):wd.length=2*(firsts wd).length:=by
 have:=sum_count wd (firsts wd) (firsts_nodup wd) fun x hx=>mem_firsts.mpr hx
 rw [this]
 have e:(firsts wd).map (fun x=>wd.count x)=(firsts wd).map fun _=>2:=List.map_congr_left fun x hx=>h x (mem_firsts.mp hx)
 rw [e]
 generalize firsts wd=l
 induction l with
 | nil=>rfl
 | cons a l ih=>rw [List.map_cons,List.sum_cons,ih,List.length_cons]; lia
end Dw
namespace Dw
open PySem PySem.Spec PyProof.Rows L2 L3
theorem places_two{wd:List Str}{x:Str}(h:wd.count x=2):∃ i j,placesOf wd x=[i,j]:=by
 have hl:=placesOf_len wd x
 rw [h] at hl
 match h:placesOf wd x,hl with
 | [i,j],_=>exact ⟨i,j,rfl⟩
end Dw
namespace Dw
open PySem PySem.Spec PyProof.Rows L2 L3
def rest(w:List Str)(st n:Nat):List Str:=w.take st++w.drop (st+n)
end Dw
namespace Dw
theorem nodup_len{α:Type}[DecidableEq α]:∀ {l m:List α},l.Nodup->(∀ x∈l,x∈m)->l.length<=m.length
 | [],m,_,_=>Nat.zero_le _
 | a::l,m,hd,h=>by
  rw [List.nodup_cons] at hd
  have hm:a∈m:=h a (by simp)
  have ih:=nodup_len (l:=l) (m:=m.erase a) hd.2 fun x hx=>(List.mem_erase_of_ne (fun z:x=a=>hd.1 (z▸hx))).mpr (h x (List.mem_cons_of_mem _ hx))
  rw [List.length_erase_of_mem hm] at ih
  have:=List.length_pos_of_mem hm
  rw [List.length_cons]
  lia
def itr(f:Nat->Nat):Nat->Nat->Nat
 | 0,x=>x
 | k+1,x=>f (itr f k x)
theorem itr_add(f:Nat->Nat)(j k x:Nat):itr f (j+k) x=itr f j (itr f k x):=by
 induction j with
 | zero=>rw [Nat.zero_add]; rfl
 | succ j ih=>rw [Nat.succ_add]; show f (itr f (j+k) x)=f (itr f j (itr f k x)); rw [ih]
structure Perm1 (n:Nat) (f:Nat->Nat):Prop where
 lt:∀ x,x < n->f x < n
 inj:∀ x y,x < n->y < n->f x=f y->x=y
theorem Perm1.itr_lt{n:Nat}{f:Nat->Nat}(h:Perm1 n f)(k:Nat){x:Nat}(hx:x < n):itr f k x < n:=by
 induction k with
 | zero=>exact hx
 | succ k ih=>exact h.lt _ ih
theorem Perm1.itr_inj{n:Nat}{f:Nat->Nat}(h:Perm1 n f)(k:Nat){x y:Nat}(hx:x < n)(hy:y < n)(e:itr f k x=itr f k y):x=y:=by
 induction k with
 | zero=>exact e
 | succ k ih=>exact ih (h.inj _ _ (h.itr_lt k hx) (h.itr_lt k hy) e)
theorem Perm1.back{n:Nat}{f:Nat->Nat}(h:Perm1 n f){x:Nat}(hx:x < n):∃ p,0 < p/\itr f p x=x:=by
 by_cases hd:((List.range (n+1)).map fun k=>itr f k x).Nodup
 ·have:=nodup_len (m:=List.range n) hd fun y hy=>by
   obtain ⟨k,_,rfl⟩:=List.mem_map.mp hy
   exact List.mem_range.mpr (h.itr_lt k hx)
  rw [List.length_map,List.length_range,List.length_range] at this
  lia
 ·have:∃ i j,i < j/\itr f i x=itr f j x:=by
   apply Classical.byContradiction
   intro hne
   apply hd
   rw [List.Nodup,List.pairwise_map]
   exact List.Pairwise.imp (fun {i j} hij e=>hne ⟨i,j,hij,e⟩) List.pairwise_lt_range
  obtain ⟨i,j,hij,e⟩:=this
  refine ⟨j - i,by lia,?_⟩
  have e2:itr f j x=itr f i (itr f (j - i) x):=by rw [<-itr_add]; congr 1; lia
  rw [e2] at e
  exact (h.itr_inj i hx (h.itr_lt _ hx) e).symm
def Orb(f:Nat->Nat)(x y:Nat):Prop:=∃ k,itr f k x=y
theorem Orb.refl(f:Nat->Nat)(x:Nat):Orb f x x:=⟨0,rfl⟩
theorem Orb.trans{f:Nat->Nat}{x y z:Nat}(a:Orb f x y)(b:Orb f y z):Orb f x z:=by
 obtain ⟨j,rfl⟩:=a
 obtain ⟨k,rfl⟩:=b
 exact ⟨k+j,itr_add f k j x⟩
theorem itr_mul{f:Nat->Nat}{p x:Nat}(h:itr f p x=x)(m:Nat):itr f (m*p) x=x:=by
 induction m with
 | zero=>rw [Nat.zero_mul]; rfl
 | succ m ih=>rw [Nat.succ_mul,itr_add,h,ih]
theorem Orb.symm{n:Nat}{f:Nat->Nat}(h:Perm1 n f){x y:Nat}(hx:x < n)(a:Orb f x y):Orb f y x:=by
 obtain ⟨k,rfl⟩:=a
 obtain ⟨p,hp,e⟩:=h.back hx
 refine ⟨k*p - k,?_⟩
 rw [<-itr_add,show k*p - k+k=k*p by have:=Nat.le_mul_of_pos_right k hp; lia]
 exact itr_mul e k
structure Trav (n:Nat) (R:Nat->Nat->Prop) (L:List Nat):Prop where
 lt:∀ x∈L,x < n
 one:L.Pairwise fun x y=>¬ R x y
 all:∀ x,x < n->∃ y∈L,R y x
theorem Trav.le{n:Nat}{R:Nat->Nat->Prop}(hs:∀ x y,x < n->y < n->R x y->R y x)(ht:∀ x y z,R x y->R y z->R x z){L M:List Nat}(h1:Trav n R L)(h2:Trav n R M):L.length<=M.length:=by
 have ch:∀ x,x∈L->∃ y,y∈M/\R y x:=fun x hx=>by
  obtain ⟨y,hy,r⟩:=h2.all x (h1.lt x hx)
  exact ⟨y,hy,r⟩
 let g:Nat->Nat:=fun x=>open Classical in if h:∃ y,y∈M/\R y x then Classical.choose h else 0
 have hg:∀ x,x∈L->g x∈M/\R (g x) x:=fun x hx=>by
  have h:=ch x hx
  show (open Classical in if h:∃ y,y∈M/\R y x then Classical.choose h else 0)∈M/\R (open Classical in if h:∃ y,y∈M/\R y x then Classical.choose h else 0) x
  rw [dif_pos h]
  exact Classical.choose_spec h
 have nd:(L.map g).Nodup:=by
  rw [List.Nodup,List.pairwise_map]
  have hm:∀ x∈L,x∈L:=fun _ h=>h
  refine List.Pairwise.imp_of_mem (fun {x y} hx hy hne e=>hne ?_) h1.one
  have a:=(hg x hx).2
  have b:=(hg y hy).2
  rw [<-e] at b
  exact ht _ _ _ (hs _ _ (h2.lt _ (hg x hx).1) (h1.lt x hx) a) b
 have:=nodup_len (m:=M) nd fun z hz=>by
  obtain ⟨x,hx,rfl⟩:=List.mem_map.mp hz
  exact (hg x hx).1
 rwa [List.length_map] at this
theorem Trav.same{n:Nat}{f:Nat->Nat}(h:Perm1 n f){L M:List Nat}(h1:Trav n (Orb f) L)(h2:Trav n (Orb f) M):L.length=M.length:=
 Nat.le_antisymm (Trav.le (n:=n) (R:=Orb f) (fun x y hx hy r=>Orb.symm h hx r) (fun _ _ _ a b=>Orb.trans a b) h1 h2) (Trav.le (n:=n) (R:=Orb f) (fun x y hx hy r=>Orb.symm h hx r) (fun _ _ _ a b=>Orb.trans a b) h2 h1)
end Dw
namespace Dw
open PySem
abbrev Org:=List (Str × Option Str)
end Dw
namespace Dw
section
variable {M:Nat}[NeZero M]
def enc:Nat->(Nat->Fin M)->Nat
 | 0,_=>0
 | k+1,h=>(h 0).val+M*enc k fun i=>h (i+1)
def sm(l:List Nat)(h:Nat->Fin M):Fin M:=l.foldr (fun k s=>h k+s) 0
end
def prv(n k:Nat):Nat:=if k=0 then 2*n - 1 else k - 1
end Dw
namespace Dw
section
variable {M:Nat}[NeZero M]{n:Nat}{a b nm f:Nat->Nat}
def l0G(n:Nat)(G:Nat->Fin M):Fin M:=G (2*prv n 0)
def dG(G:Nat->Fin M)(k:Nat):Fin M:=G (2*k) - G (2*k+1)
def xG(n:Nat)(a:Nat->Nat)(G:Nat->Fin M)(v:Nat):Fin M:=dG G (a v) - dG G (prv n (a v))
def par(n:Nat)(a:Nat->Nat)(G:Nat->Fin M):Nat->Fin M
 | 0=>l0G n G
 | 1=>dG G (prv n 0)
 | v+2=>xG n a G v
structure Cls (m:Nat) (f r:Nat->Nat) (F:Nat):Prop where
 lt:∀ w,w < m->r w < F
 stay:∀ w,w < m->r (f w)=r w
 all:∀ i,i < F->∃ w,w < m/\r w=i
 one:∀ w w',w < m->w' < m->r w=r w'->Orb f w w'
end
end Dw
namespace Dw
abbrev F2:=Fin 2
section
variable {n:Nat}{i j nm:Nat->Nat}{hd:Nat->Bool}
def io(i j:Nat->Nat)(u k:Nat):F2:=if i u < k/\k<=j u then 1 else 0
def n2(k:Nat):F2:=Fin.ofNat 2 k
end
end Dw
namespace Dw
def trs(a b x:Nat):Nat:=if x=a then b else if x=b then a else x
theorem trs_a(a b:Nat):trs a b a=b:=if_pos rfl
theorem trs_b(a b:Nat):trs a b b=a:=by unfold trs; split<;>simp_all
theorem trs_ne{a b x:Nat}(h1:x≠a)(h2:x≠b):trs a b x=x:=by unfold trs; rw [if_neg h1,if_neg h2]
theorem trs_trs(a b x:Nat):trs a b (trs a b x)=x:=by
 by_cases h1:x=a
 ·rw [h1,trs_a,trs_b]
 ·by_cases h2:x=b
  ·rw [h2,trs_b,trs_a]
  ·rw [trs_ne h1 h2,trs_ne h1 h2]
theorem Perm1.trs{n:Nat}{f:Nat->Nat}(h:Perm1 n f){a b:Nat}(ha:a < n)(hb:b < n):Perm1 n fun x=>trs a b (f x):=by
 refine ⟨fun x hx=>?_,fun x y hx hy e=>h.inj x y hx hy ?_⟩
 ·show Dw.trs a b (f x) < n
  unfold Dw.trs
  have:=h.lt x hx
  split
  ·exact hb
  ·split<;>lia
 ·have e:Dw.trs a b (f x)=Dw.trs a b (f y):=e
  rw [<-trs_trs a b (f x),e,trs_trs]
section
variable {n:Nat}{f:Nat->Nat}{a b:Nat}
theorem itr_trs{x:Nat}:∀ k,(∀ j,j < k->f (itr f j x)≠a/\f (itr f j x)≠b)->itr (fun x=>trs a b (f x)) k x=itr f k x:=fun k=>by
 induction k with
 | zero=>intro _; rfl
 | succ k ih=>
  intro h
  show trs a b (f (itr (fun x=>trs a b (f x)) k x))=f (itr f k x)
  rw [ih fun j hj=>h j (by lia)]
  exact trs_ne (h k (by lia)).1 (h k (by lia)).2
theorem first_met{x:Nat}(h:∃ k,f (itr f k x)=a∨f (itr f k x)=b):∃ k,(f (itr f k x)=a∨f (itr f k x)=b)/\∀ j,j < k->f (itr f j x)≠a/\f (itr f j x)≠b:=by
 obtain ⟨k,hk⟩:=h
 induction k using Nat.strongRecOn with
 | _ k ih=>
  by_cases q:∃ j,j < k/\(f (itr f j x)=a∨f (itr f j x)=b)
  ·obtain ⟨j,hj,e⟩:=q
   exact ih j hj e
  ·exact ⟨k,hk,fun j hj=>⟨fun e=>q ⟨j,hj,.inl e⟩,fun e=>q ⟨j,hj,.inr e⟩⟩⟩
theorem orb_trs(hf:Perm1 n f)(ha:a < n)(hb:b < n)(hn:¬ Orb f a b):Orb (fun x=>trs a b (f x)) a b/\∀ x y,x < n->Orb f x y->Orb (fun x=>trs a b (f x)) x y:=by
 have hn':¬ Orb f b a:=fun o=>hn (Orb.symm hf hb o)
 have hg:=hf.trs ha hb
 -- from a to b
 have ab:∀ {a b:Nat},a < n->¬ Orb f a b->∃ p,f (itr f p a)=a/\(∀ j,j < p->f (itr f j a)≠a)/\∀ j,f (itr f j a)≠b:=fun {a b} ha hn=>by
  obtain ⟨p,hp,e⟩:=hf.back ha
  obtain ⟨q,rfl⟩:∃ q,p=q+1:=⟨p - 1,by lia⟩
  obtain ⟨k,h1,h2⟩:=first_met (f:=f) (a:=a) (b:=a) (x:=a) ⟨q,.inl e⟩
  exact ⟨k,h1.elim id id,fun j hj=>(h2 j hj).1,fun j e=>hn ⟨j+1,e⟩⟩
 have go:Orb (fun x=>trs a b (f x)) a b:=by
  obtain ⟨p,h1,h2,h3⟩:=ab ha hn
  refine ⟨p+1,?_⟩
  show trs a b (f (itr (fun x=>trs a b (f x)) p a))=b
  rw [itr_trs p fun j hj=>⟨h2 j hj,h3 j⟩,h1,trs_a]
 refine ⟨go,fun x y hx o=>?_⟩
 -- one step of f
 have step:∀ x,x < n->Orb (fun x=>trs a b (f x)) x (f x):=fun x hx=>by
  by_cases h1:f x=a
  ·have o:Orb (fun x=>trs a b (f x)) x b:=⟨1,by show trs a b (f x)=b; rw [h1,trs_a]⟩
   rw [h1]
   exact o.trans (Orb.symm hg ha go)
  ·by_cases h2:f x=b
   ·have o:Orb (fun x=>trs a b (f x)) x a:=⟨1,by show trs a b (f x)=a; rw [h2,trs_b]⟩
    rw [h2]
    exact o.trans go
   ·exact ⟨1,trs_ne h1 h2⟩
 obtain ⟨k,rfl⟩:=o
 induction k with
 | zero=>exact Orb.refl _ _
 | succ k ih=>exact ih.trans (step _ (hf.itr_lt k hx))
theorem orb_of(hf:Perm1 n f){x y:Nat}(o:Orb (fun x=>trs a b (f x)) x y):Orb f x y∨((Orb f x a∨Orb f x b)/\(Orb f a y∨Orb f b y)):=by
 obtain ⟨k,rfl⟩:=o
 induction k with
 | zero=>exact .inl (Orb.refl _ _)
 | succ k ih=>
  show Orb f x (trs a b (f (itr (fun x=>trs a b (f x)) k x)))∨((Orb f x a∨Orb f x b)/\(Orb f a (trs a b (f (itr (fun x=>trs a b (f x)) k x)))∨Orb f b (trs a b (f (itr (fun x=>trs a b (f x)) k x)))))
  generalize itr (fun x=>trs a b (f x)) k x=z at *
  have one:Orb f z (f z):=⟨1,rfl⟩
  by_cases h1:f z=a
  ·rw [h1] at one
   rw [h1,trs_a]
   rcases ih with q | ⟨q,_⟩
   ·exact .inr ⟨.inl (q.trans one),.inr (Orb.refl _ _)⟩
   ·exact .inr ⟨q,.inr (Orb.refl _ _)⟩
  ·by_cases h2:f z=b
   ·rw [h2] at one
    rw [h2,trs_b]
    rcases ih with q | ⟨q,_⟩
    ·exact .inr ⟨.inr (q.trans one),.inl (Orb.refl _ _)⟩
    ·exact .inr ⟨q,.inl (Orb.refl _ _)⟩
   ·rw [trs_ne h1 h2]
    rcases ih with q | ⟨q,q'⟩
    ·exact .inl (q.trans one)
    ·exact .inr ⟨q,q'.imp (·.trans one) (·.trans one)⟩
theorem trav_less(hf:Perm1 n f)(ha:a < n)(hb:b < n)(hn:¬ Orb f a b){L M:List Nat}(hL:Trav n (Orb f) L)(hM:Trav n (Orb fun x=>trs a b (f x)) M):L.length=M.length+1:=by
 obtain ⟨go,up⟩:=orb_trs hf ha hb hn
 have hg:=hf.trs ha hb
 have hn':¬ Orb f b a:=fun o=>hn (Orb.symm hf hb o)
 have uniq:∀ x∈M,∀ y∈M,Orb (fun x=>trs a b (f x)) x y->x=y:=fun x hx y hy o=>by
  apply Classical.byContradiction
  intro hne
  obtain ⟨i,hi,ei⟩:=List.getElem_of_mem hx
  obtain ⟨j,hj,ej⟩:=List.getElem_of_mem hy
  have pw:=List.pairwise_iff_getElem.mp hM.one
  rcases Nat.lt_trichotomy i j with q | q | q
  ·exact pw i j hi hj q (by rw [ei,ej]; exact o)
  ·subst q; exact hne (ei.symm.trans ej)
  ·exact pw j i hj hi q (by rw [ei,ej]; exact Orb.symm hg (hM.lt x hx) o)
 obtain ⟨m,hm,om⟩:=hM.all a ha
 have sy:∀ {x y},x < n->Orb f x y->Orb f y x:=fun hx o=>Orb.symm hf hx o
 have lt:∀ {x y},x < n->Orb f x y->y < n:=fun hx ⟨k,e⟩=>e▸hf.itr_lt k hx
 -- c: the one of a and b in whose round m is not; d: the other
 obtain ⟨c,d,hc,hd,omd,hcd,oa,ob⟩:∃ c d,c < n/\d < n/\Orb f m d/\¬ Orb f d c/\(∀ x,(Orb f a x∨Orb f b x)->(Orb f c x∨Orb f d x))/\(∀ x,Orb f c x->Orb (fun x=>trs a b (f x)) m x):=by
  have toM:∀ x,Orb f a x∨Orb f b x->Orb (fun x=>trs a b (f x)) m x:=fun x q=>q.elim (fun q=>om.trans (up a x ha q)) fun q=>om.trans (go.trans (up b x hb q))
  rcases orb_of hf om with q | ⟨q | q,_⟩
  ·exact ⟨b,a,hb,ha,q,hn,fun x z=>z.elim .inr .inl,fun x z=>toM x (.inr z)⟩
  ·exact ⟨b,a,hb,ha,q,hn,fun x z=>z.elim .inr .inl,fun x z=>toM x (.inr z)⟩
  ·exact ⟨a,b,ha,hb,q,hn',fun x z=>z.elim .inl .inr,fun x z=>toM x (.inl z)⟩
 have t:Trav n (Orb f) (M++[c]):=by
  refine ⟨fun x hx=>?_,?_,fun x hx=>?_⟩
  ·rcases List.mem_append.mp hx with q | q
   ·exact hM.lt x q
   ·rw [List.mem_singleton.mp q]; exact hc
  ·rw [List.pairwise_append]
   refine ⟨hM.one.imp_of_mem fun {x y} hx hy hne o=>hne (up x y (hM.lt x hx) o),by simp,fun x hx y hy o=>?_⟩
   rw [List.mem_singleton.mp hy] at o
   have o2:=ob x (sy (hM.lt x hx) o)
   have:=uniq m hm x hx o2
   subst this
   exact hcd ((sy (hM.lt m hm) omd).trans o)
  ·obtain ⟨y,hy,o⟩:=hM.all x hx
   rcases orb_of hf o with q | ⟨q,q'⟩
   ·exact ⟨y,List.mem_append_left _ hy,q⟩
   ·rcases oa x q' with z | z
    ·exact ⟨c,by simp,z⟩
    ·exact ⟨m,List.mem_append_left _ hm,omd.trans z⟩
 have:=Trav.same hf hL t
 rw [this,List.length_append]; rfl
theorem trav_more(hf:Perm1 n f)(ha:a < n)(hb:b < n)(hne:a≠b)(ho:Orb f a b){L M:List Nat}(hL:Trav n (Orb f) L)(hM:Trav n (Orb fun x=>trs a b (f x)) M):M.length=L.length+1:=by
 have hg:=hf.trs ha hb
 have back:(fun x=>trs a b (trs a b (f x)))=f:=by funext x; exact trs_trs a b (f x)
 have hn:¬ Orb (fun x=>trs a b (f x)) a b:=by
  -- walked from a,a comes again ahead of b
  obtain ⟨k,hk⟩:=ho
  obtain ⟨k,rfl⟩:∃ q,k=q+1:=by
   cases k with
   | zero=>exact absurd hk hne
   | succ k=>exact ⟨k,rfl⟩
  obtain ⟨m,h1,h2⟩:=first_met (f:=f) (a:=b) (b:=b) (x:=a) ⟨k,.inl hk⟩
  have h1:f (itr f m a)=b:=h1.elim id id
  have na:∀ i,i < m->f (itr f i a)≠a:=fun i hi e=>by
   have e1:itr f (i+1) a=a:=e
   have e2:itr f (m - (i+1)) (itr f (i+1) a)=itr f m a:=by rw [<-itr_add]; congr 1; lia
   rw [e1] at e2
   rw [<-e2] at h1
   exact (h2 (m - (i+1)) (by lia)).1 h1
  have same:∀ j,j<=m->itr (fun x=>trs a b (f x)) j a=itr f j a:=fun j hj=>itr_trs j fun i hi=>⟨na i (by lia),(h2 i (by lia)).1⟩
  have per:itr (fun x=>trs a b (f x)) (m+1) a=a:=by
   show trs a b (f (itr (fun x=>trs a b (f x)) m a))=a
   rw [same m (Nat.le_refl _),h1,trs_b]
  rintro ⟨k,e⟩
  have ek:k=k%(m+1)+k / (m+1)*(m+1):=by rw [Nat.mul_comm]; exact (Nat.mod_add_div k (m+1)).symm
  have hr:k%(m+1) < m+1:=Nat.mod_lt k (Nat.succ_pos m)
  rw [ek,itr_add,itr_mul per] at e
  rw [same _ (Nat.le_of_lt_succ hr)] at e
  generalize k%(m+1)=r at e hr
  cases r with
  | zero=>exact hne e
  | succ r=>exact (h2 r (by lia)).1 e
 have hL':Trav n (Orb fun x=>trs a b (trs a b (f x))) L:=by rw [back]; exact hL
 exact trav_less hg ha hb hn hM hL'
theorem trav_is(hf:Perm1 n f):∃ L,Trav n (Orb f) L:=by
 have key:∀ m,m<=n->∃ L:List Nat,(∀ x∈L,x < n)/\(L.Pairwise fun x y=>¬ Orb f x y)/\∀ x,x < m->∃ y∈L,Orb f y x:=fun m=>by
  induction m with
  | zero=>intro _; exact ⟨[],fun x hx=>(by cases hx),.nil,fun x hx=>by lia⟩
  | succ m ih=>
   intro hm
   obtain ⟨L,h1,h2,h3⟩:=ih (by lia)
   by_cases q:∃ y∈L,Orb f y m
   ·refine ⟨L,h1,h2,fun x hx=>?_⟩
    by_cases z:x=m
    ·rw [z]; exact q
    ·exact h3 x (by lia)
   ·refine ⟨L++[m],fun x hx=>?_,?_,fun x hx=>?_⟩
    ·rcases List.mem_append.mp hx with z | z
     ·exact h1 x z
     ·rw [List.mem_singleton.mp z]; lia
    ·rw [List.pairwise_append]
     exact ⟨h2,by simp,fun x hx y hy o=>q ⟨x,hx,by rw [List.mem_singleton.mp hy] at o; exact o⟩⟩
    ·by_cases z:x=m
     ·exact ⟨m,by simp,by rw [z]; exact Orb.refl f m⟩
     ·obtain ⟨y,hy,o⟩:=h3 x (by lia)
      exact ⟨y,List.mem_append_left _ hy,o⟩
 obtain ⟨L,h1,h2,h3⟩:=key n (Nat.le_refl n)
 exact ⟨L,h1,h2,h3⟩
def trl:List (Nat × Nat)->(Nat->Nat)->Nat->Nat
 | [],f=>f
 | p::ps,f=>trl ps fun x=>trs p.1 p.2 (f x)
theorem trl_par:∀ (ps:List (Nat × Nat)) {f:Nat->Nat},(∀ p∈ps,p.1 < n/\p.2 < n/\p.1≠p.2)->Perm1 n f->∀ {L M:List Nat},Trav n (Orb f) L->Trav n (Orb (trl ps f)) M->(M.length+L.length+ps.length)%2=0:=fun ps=>by
 induction ps with
 | nil=>
  intro f _ hf L M hL hM
  have:=Trav.same hf hL hM
  rw [List.length_nil]; lia
 | cons p ps ih=>
  intro f h hf L M hL hM
  obtain ⟨h1,h2,h3⟩:=h p (by simp)
  have hg:=hf.trs h1 h2
  obtain ⟨K,hK⟩:=trav_is hg
  have e:=ih (fun q hq=>h q (List.mem_cons_of_mem _ hq)) hg hK hM
  rw [List.length_cons]
  by_cases o:Orb f p.1 p.2
  ·have:=trav_more hf h1 h2 h3 o hL hK
   lia
  ·have:=trav_less hf h1 h2 o hL hK
   lia
end
end Dw
set_option maxHeartbeats 4000000
namespace Dw
open PySem PySem.Spec PyProof.Rows L2 L3
def top(i:Nat):Stmt:=PySem.Challenge.pw_drawnword_k27_rings.main.body.getD i (.Pass ⟨0,0,0,0⟩)
variable {v:Ev}
abbrev s_l_names:Stmt:=top 11
theorem sc_l_names:FnScope ["_law_cell_here","_law_many","_law_letters","_law_size","_law_rest","_law_stem","_law_k","_law_spot","_law_made","_law_letter","_law_name"] ["_law_cell_here","_law_many"] (defScope s_l_names):=scm
def d_l_names:DS:=(dSeq (dSet 2 (dC (.str "abcdefghijklmnopqrstuvwxyz")))
  (dSeq (dSet 3 (d2 gPlus (dC (.int 1)) (d2 gMod (dV 0) (dC (.int 8)))))
  (dSeq (dSet 4 (d2 gMod (d2 gDiv (dV 0) (dC (.int 8))) (d2 gPow (dC (.int 10)) (dC (.int 18)))))
  (dSeq (dSet 5 (dC (.str "")))
  (dSeq (dFor (dRg1 (dAc (dV 3) dAn)) (dGn 6)
  (dSeq (dSet 5 (d2 gPlus (dV 5) (d2 gItem (dV 2) (d2 gMod (dV 4) (dC (.int 26))))))
  (dSet 4 (d2 gPlus (d2 gDiv (dV 4) (dC (.int 26))) (d2 gMul (dC (.int 5)) (dV 6))))))
  (dSeq (dSet 7 (d2 gMod (d2 gDiv (dV 0) (dC (.int 3))) (dV 3)))
  (dSeq (dSet 8 (dLst dAn))
  (dSeq (dIfS (dB (d2 gEq (d2 gMod (d2 gDiv (dV 0) (dC (.int 5))) (dC (.int 3))) (dC (.int 1)))) (dSet 8 (dSl gSl (dLC [8] [none,some 5] (dRg2 (dAc (dC (.int 1)) (dAc (d2 gPlus (dV 3) (dC (.int 1))) dAn))) (dGn 0) dYes (dSl gSlA (dV 1) dOn (dOs (dV 0)))) dOn (dOs (dV 1)))) dNext)
  (dSeq (dIfS (dOr (dB (d2 gEq (d2 gMod (d2 gDiv (dV 0) (dC (.int 5))) (dC (.int 3))) (dC (.int 2)))) (dB (d2 gGt (dV 1) (dC (.int 24))))) (dSet 8 (dLC [8] [none,some 2,some 5,some 4] (dRg1 (dAc (dV 1) dAn)) (dGn 0) dYes (d2 gPlus (d2 gPlus (dSl gSlA (dV 2) dOn (dOs (dC (.int 6)))) (d2 gItem (dV 1) (d2 gDiv (dV 0) (dC (.int 5))))) (d2 gItem (dV 1) (d2 gMod (d2 gPlus (dV 0) (dV 3)) (dC (.int 26))))))) dNext)
  (dSeq (dFor (dItA (dV 2)) (dGn 9)
  (dSeq (dSet 10 (d2 gPlus (d2 gPlus (dSl gSlA (dV 5) dOn (dOs (dV 7))) (dV 9)) (dSl gSlA (dV 5) (dOs (d2 gPlus (dV 7) (dC (.int 1)))) dOn)))
  (dIfS (dAnd (dB (d2 gLt (d1 gLen (dV 8)) (dV 1))) (dB (d2 gNotInA (dV 10) (dV 8)))) (dDo (dMut mApp 8 (dAc (dV 10) dAn))) dNext)))
  (dRetI [] (dV 8))))))))))))
def fn_l_names:List T->Option T:=fnP 11 d_l_names
abbrev U_l_names[TheK](v:Ev)(k:Nat):Prop:=Cl v k "_law_names" ["_law_cell_here","_law_many"] (spP .e 2 fn_l_names)
theorem ok_l_names[tk:TheK](h:Here tk.K v.mg "_law_names" s_l_names ["_law_cell_here","_law_many"])(m_range:v.mg "range"=none)(m_len:v.mg "len"=none):U_l_names v 1:=by
 refine (h.vP 0 [] d_l_names sc_l_names fun f cdv A outer s H E hr=>?_ :)
 have sc:=sc_l_names
 have hu:=hu_of hr
 have hu8:=hu8_of hr
 exact (qs_ (M':=[]) (qs_setE (M':=[]) (qps_set (i:=2) sc.nd rfl (Or.inr rfl) qe_str))
  (qs_ (M':=[]) (qs_setE (M':=[]) (qps_set (i:=3) sc.nd rfl (Or.inl rfl) (qe_plus qi_ (qeb (qe_mod (qv_ rfl (qpv 0)) (qeb qi_))))))
  (qs_ (M':=[]) (qs_setE (M':=[]) (qps_set (i:=4) sc.nd rfl (Or.inr rfl) (qe_mod (qe_div (qv_ rfl (qpv 0)) (qeb qi_)) (qeb (qe_pow qi_ (qeb qi_))))))
  (qs_ (M':=[]) (qs_setE (M':=[]) (qps_set (i:=5) sc.nd rfl (Or.inr rfl) qe_str))
  (qs_ (M':=[]) (qs_for (qps_for PassesOwn.never rfl (qi_range1 rfl m_range (qa_ (qv_ rfl (qpv 3)) qa_nil)) (qg_name (qpg_name (i:=6) sc.nd rfl (Or.inl rfl)))
  (qs_ (M':=[]) (qs_setE (M':=[]) (qps_set (i:=5) sc.nd rfl (Or.inr rfl) (qe_plus (qv_ rfl (qpv 5)) (qeb (qe_item rfl hu (qv_ rfl (qpv 2)) (qeb (qe_mod (qv_ rfl (qpv 4)) (qeb qi_))) (fun _ _=>rfl))))))
  (qss_one (qs_setE (M':=[]) (qps_set (i:=4) sc.nd rfl (Or.inr rfl) (qe_plus (qe_div (qv_ rfl (qpv 4)) (qeb qi_)) (qeb (qe_mul qi_ (qeb (qv_ rfl (qpv 6))))))))))))
  (qs_ (M':=[]) (qs_setE (M':=[]) (qps_set (i:=7) sc.nd rfl (Or.inl rfl) (qe_mod (qe_div (qv_ rfl (qpv 0)) (qeb qi_)) (qeb (qv_ rfl (qpv 3))))))
  (qs_ (M':=[8]) (qs_setN (M':=[8]) (qps_set (i:=8) sc.nd rfl (Or.inl rfl) (qe_lst qa_nil)))
  (qs_ (M':=[8]) (qs_if (M':=[8]) (qt_eq hu8 (qe_mod (qe_div (qv_ rfl (qpv 0)) (qeb qi_)) (qeb qi_)) (qeb qi_)) (qss_one (qs_setN (M':=[8]) (qps_set (i:=8) sc.nd rfl (Or.inl rfl) (qe_sl rfl (qne (qe_lc (Mi:=[]) rfl (tg_name (i:=0)) yes_ok (qpe_lc (N:=["_law_k","_law_stem"]) (caps:=[none,some 5]) rfl (qi_range2 rfl m_range (qa_ qi_ (qa_ (qe_plus (qv_ rfl (qpv 3)) (qeb qi_)) qa_nil))) (fun _ _ _ _ _=>(qpg_name (i:=0) (show (["_law_k","_law_stem"]:List Str).Nodup by decide +kernel) rfl (Or.inl rfl))) kg_name (fun _ _ _ _ _=>qpts_nil) (fun _ _ _ _ _=>(qe_slA rfl (qv_ rfl (qpv 1)) qo_none (qo_some (qv_ rfl (qpv 0)))))))) qo_none (qo_some (qv_ rfl (qpv 1))))))) qss_nil)
  (qs_ (M':=[8]) (qs_if (M':=[8]) (QW.pt (qw_or (qt_eq hu8 (qe_mod (qe_div (qv_ rfl (qpv 0)) (qeb qi_)) (qeb qi_)) (qeb qi_)) (qw_or1 (qt_gt (qv_ rfl (qpv 1)) (qeb qi_))))) (qss_one (qs_setN (M':=[8]) (qs_lc (Mi:=[]) rfl (tg_name (i:=0)) yes_ok (qps_setLC (i:=8) sc.nd rfl rfl (N:=["_law_k","_law_letters","_law_stem","_law_rest"]) (caps:=[none,some 2,some 5,some 4]) rfl (qi_range1 rfl m_range (qa_ (qv_ rfl (qpv 1)) qa_nil)) (fun _ _ _ _ _=>(qpg_name (i:=0) (show (["_law_k","_law_letters","_law_stem","_law_rest"]:List Str).Nodup by decide +kernel) rfl (Or.inl rfl))) kg_name (fun _ _ _ _ _=>qpts_nil) (fun _ _ _ _ _=>(qe_plus (qe_plus (qe_slA rfl (qv_ rfl (qpv 2)) qo_none (qo_some qi_)) (qeb (qe_item rfl hu (qv_ rfl (qpv 1)) (qeb (qe_div (qv_ rfl (qpv 0)) (qeb qi_))) (fun _ _=>rfl)))) (qeb (qe_item rfl hu (qv_ rfl (qpv 1)) (qeb (qe_mod (qe_plus (qv_ rfl (qpv 0)) (qeb (qv_ rfl (qpv 3)))) (qeb qi_))) (fun _ _=>rfl))))))))) qss_nil)
  (qs_ (M':=[8]) (qs_for (qps_for PassesOwn.never rfl (qi_any rfl (qv_ rfl (qpv 2))) (qg_name (qpg_name (i:=9) sc.nd rfl (Or.inl rfl)))
  (qs_ (M':=[8]) (qs_setE (M':=[8]) (qps_set (i:=10) sc.nd rfl (Or.inl rfl) (qe_plus (qe_plus (qe_slA rfl (qv_ rfl (qpv 5)) qo_none (qo_some (qv_ rfl (qpv 7)))) (qeb (qv_ rfl (qpv 9)))) (qeb (qe_slA rfl (qv_ rfl (qpv 5)) (qo_some (qe_plus (qv_ rfl (qpv 7)) (qeb qi_))) qo_none)))))
  (qss_one (qs_if (M':=[8]) (QW.pt (qw_and (qt_lt (qe_len rfl rfl m_len (qe_raw rfl (qpv 8))) (qeb (qv_ rfl (qpv 1)))) (qw_and1 (qt_notinA hu (qv_ rfl (qpv 10)) (qe_raw rfl (qpv 8)) (by with_unfolding_all rfl))))) (qss_one (qs_do (.inl rfl) (qe_append rfl (qpe_bm PySem.F.plainAttrs_list PySem.F.slot_list_append PySem.F.type_list_append mt_append (qpv 8) (qa_ (qv_ rfl (qpv 10)) qa_nil))))) qss_nil)))))
  (qss_one (qs_pre (M':=[]) (qs_retE (qv_ rfl (qpv 8)))))))))))))))
abbrev s_l_cell:Stmt:=top 8
theorem sc_l_cell:FnScope ["_law_script","_law_k"] ["_law_script","_law_k"] (defScope s_l_cell):=scm
def d_l_cell:DS:=(dSeq (dIfS (dB (d2 gLt (dV 1) (d1 gLen (dV 0)))) (dRetI [] (d2 gItem (dV 0) (dV 1))) dNext)
  (dRetI [] (dC (.int 0))))
def fn_l_cell:List T->Option T:=fnP 2 d_l_cell
abbrev U_l_cell[TheK](v:Ev)(k:Nat):Prop:=Cl v k "_law_cell" ["_law_script","_law_k"] (spP .e 2 fn_l_cell)
theorem ok_l_cell[tk:TheK](h:Here tk.K v.mg "_law_cell" s_l_cell ["_law_script","_law_k"])(m_len:v.mg "len"=none):U_l_cell v 1:=by
 refine (h.vP 0 [] d_l_cell sc_l_cell fun f cdv A outer s H E hr=>?_ :)
 have hu:=hu_of hr
 exact (qs_ (M':=[]) (qs_if (M':=[]) (qt_lt (qv_ rfl (qpv 1)) (qeb (qe_len rfl rfl m_len (qeb (qv_ rfl (qpv 0)))))) (qss_one (qs_retE (qe_item rfl hu (qv_ rfl (qpv 0)) (qeb (qv_ rfl (qpv 1))) (fun _ _=>rfl)))) qss_nil)
  (qss_one (qs_retE qi_)))
abbrev s_l_draw:Stmt:=top 10
theorem sc_l_draw:FnScope ["_law_bag_here","_law_many","_law_found"] ["_law_bag_here","_law_many"] (defScope s_l_draw):=scm
def d_l_draw:DS:=(dSeq (dIfS (dB (d2 gGt (d2v gItem 0 (dC (.int 0))) (dC (.int 0)))) (dSeq (dSet 2 (d2 gMod (d2v gItem 0 (dC (.int 0))) (dV 1)))
  (dSeq (dSetI 0 (dC (.int 0)) (d2 gDiv (d2v gItem 0 (dC (.int 0))) (dV 1)))
  (dRetI [0] (dV 2)))) dNext)
  (dSeq (dSetI 0 (dC (.int 1)) (d2 gMod (d2 gPlus (d2 gMul (d2v gItem 0 (dC (.int 1))) (dC (.int 48271))) (dC (.int 4099))) (dC (.int 2147483647))))
  (dRetI [0] (d2 gMod (d2 gDiv (d2 gMod (d2 gMul (d2v gItem 0 (dC (.int 1))) (d2 gPlus (d2 gDiv (d2v gItem 0 (dC (.int 1))) (dC (.int 65536))) (dC (.int 7)))) (dC (.int 2147483629))) (dC (.int 32))) (dV 1)))))
def fn_l_draw:List T->Option (T × T):=fnI 3 d_l_draw
abbrev U_l_draw[TheK](v:Ev)(k:Nat):Prop:=Cl v k "_law_draw" ["_law_bag_here","_law_many"] (spI .e 2 fn_l_draw)
theorem ok_l_draw[tk:TheK](h:Here tk.K v.mg "_law_draw" s_l_draw ["_law_bag_here","_law_many"]):U_l_draw v 1:=by
 refine (h.vI 0 [] d_l_draw sc_l_draw fun f cdv A outer s H E hr=>?_ :)
 have sc:=sc_l_draw
 have hu:=hu_of hr
 exact (qs_ (M':=[0]) (qs_if (M':=[0]) (qt_gt (qe_itemV rfl rfl hu (qpv 0) (qeb qi_) (fun _ _=>rfl)) (qeb qi_)) (qs_ (M':=[0]) (qs_setE (M':=[0]) (qps_set (i:=2) sc.nd rfl (Or.inl rfl) (qe_mod (qe_itemV rfl rfl hu (qpv 0) (qeb qi_) (fun _ _=>rfl)) (qeb (qv_ rfl (qpv 1))))))
  (qs_ (M':=[0]) (qs_setI rfl (qps_asg (qe_div (qe_itemV rfl rfl hu (qpv 0) (qeb qi_) (fun _ _=>rfl)) (qeb (qv_ rfl (qpv 1)))) (qpg_sub (qpv 0) qi_ set_list)))
  (qss_one (qs_retE (qv_ rfl (qpv 2)))))) qss_nil)
  (qs_ (M':=[0]) (qs_setI rfl (qps_asg (qe_mod (qe_plus (qe_mul (qe_itemV rfl rfl hu (qpv 0) (qeb qi_) (fun _ _=>rfl)) (qeb qi_)) (qeb qi_)) (qeb qi_)) (qpg_sub (qpv 0) qi_ set_list)))
  (qss_one (qs_retE (qe_mod (qe_div (qe_mod (qe_mul (qe_itemV rfl rfl hu (qpv 0) (qeb qi_) (fun _ _=>rfl)) (qeb (qe_plus (qe_div (qe_itemV rfl rfl hu (qpv 0) (qeb qi_) (fun _ _=>rfl)) (qeb qi_)) (qeb qi_)))) (qeb qi_)) (qeb qi_)) (qeb (qv_ rfl (qpv 1))))))))
abbrev s_l_built_word:Stmt:=top 13
theorem sc_l_built_word:FnScope ["_law_bag_here","_law_names_here","_law_forms","_law_made","_law_left","_law_form_of","_law_at"] ["_law_bag_here","_law_names_here"] (defScope s_l_built_word):=scm
def d_l_built_word:DS:=(dSeq (dSet 2 (dLst (dAc (dLst (dAc (dC (.int 0)) (dAc (dC (.int 0)) dAn))) (dAc (dLst (dAc (dC (.int 0)) (dAc (dC (.int 1)) (dAc (dC (.int 2)) (dAc (dC (.int 0)) (dAc (dC (.int 1)) (dAc (dC (.int 2)) dAn))))))) (dAc (dLst (dAc (dC (.int 0)) (dAc (dC (.int 1)) (dAc (dC (.int 2)) (dAc (dC (.int 0)) (dAc (dC (.int 3)) (dAc (dC (.int 2)) (dAc (dC (.int 1)) (dAc (dC (.int 3)) dAn))))))))) (dAc (dLst (dAc (dC (.int 0)) (dAc (dC (.int 1)) (dAc (dC (.int 2)) (dAc (dC (.int 3)) (dAc (dC (.int 4)) (dAc (dC (.int 0)) (dAc (dC (.int 1)) (dAc (dC (.int 2)) (dAc (dC (.int 3)) (dAc (dC (.int 4)) dAn))))))))))) (dAc (dLst (dAc (dC (.int 0)) (dAc (dC (.int 1)) (dAc (dC (.int 1)) (dAc (dC (.int 0)) dAn))))) dAn)))))))
  (dSeq (dSet 2 (d2 gPlus (dV 2) (dLst (dAc (dLst (dAc (dC (.int 0)) (dAc (dC (.int 1)) (dAc (dC (.int 2)) (dAc (dC (.int 3)) (dAc (dC (.int 4)) (dAc (dC (.int 2)) (dAc (dC (.int 1)) (dAc (dC (.int 0)) (dAc (dC (.int 3)) (dAc (dC (.int 4)) dAn))))))))))) (dAc (dLst (dAc (dC (.int 0)) (dAc (dC (.int 1)) (dAc (dC (.int 2)) (dAc (dC (.int 3)) (dAc (dC (.int 1)) (dAc (dC (.int 0)) (dAc (dC (.int 3)) (dAc (dC (.int 2)) dAn))))))))) dAn)))))
  (dSeq (dSet 3 (dLst dAn))
  (dSeq (dSet 4 (d1 gListA (dV 1)))
  (dSeq (whileN (dB (d2 gGt (d1 gLen (dV 4)) (dC (.int 0))))
  (dSeq (dSet 5 (d2 gItem (dV 2) (dCallI fn_l_draw 0 (dAc (dC (.int 7)) dAn))))
  (dSeq (dIfS (dB (d2 gGe (d1 gMaxI (dV 5)) (d1 gLen (dV 4)))) (dSet 5 (d2 gItem (dV 2) (dC (.int 0)))) dNext)
  (dSeq (dSet 6 (dCallI fn_l_draw 0 (dAc (d2 gPlus (d1 gLen (dV 3)) (dC (.int 1))) dAn)))
  (dSeq (dSet 3 (d2 gPlus (d2 gPlus (dSl gSlA (dV 3) dOn (dOs (dV 6))) (dLC [0] [none,some 4] (dItA (dV 5)) (dGn 0) dYes (d2 gItem (dV 1) (dV 0)))) (dSl gSlA (dV 3) (dOs (dV 6)) dOn)))
  (dSet 4 (dSl gSlA (dV 4) (dOs (d2 gPlus (d1 gMaxI (dV 5)) (dC (.int 1)))) dOn)))))) 100)
  (dRetI [0] (dV 3)))))))
def fn_l_built_word:List T->Option (T × T):=fnI 7 d_l_built_word
abbrev U_l_built_word[TheK](v:Ev)(k:Nat):Prop:=Cl v k "_law_built_word" ["_law_bag_here","_law_names_here"] (spI .e 2 fn_l_built_word)
theorem ok_l_built_word[tk:TheK](h:Here tk.K v.mg "_law_built_word" s_l_built_word ["_law_bag_here","_law_names_here"])(C_l_draw:U_l_draw v 1)(m_list:v.mg "list"=none)(m_len:v.mg "len"=none)(m_max:v.mg "max"=none):U_l_built_word v 2:=by
 refine (h.vI 1 [] d_l_built_word sc_l_built_word fun f cdv A outer s H E hr=>?_ :)
 have sc:=sc_l_built_word
 have hu:=hu_of hr
 exact (qs_ (M':=[0]) (qs_setE (M':=[0]) (qps_set (i:=2) sc.nd rfl (Or.inl rfl) (qne (qe_lst (qa_ (qne (qe_lst (qa_ qi_ (qa_ qi_ qa_nil)))) (qa_ (qne (qe_lst (qa_ qi_ (qa_ qi_ (qa_ qi_ (qa_ qi_ (qa_ qi_ (qa_ qi_ qa_nil)))))))) (qa_ (qne (qe_lst (qa_ qi_ (qa_ qi_ (qa_ qi_ (qa_ qi_ (qa_ qi_ (qa_ qi_ (qa_ qi_ (qa_ qi_ qa_nil)))))))))) (qa_ (qne (qe_lst (qa_ qi_ (qa_ qi_ (qa_ qi_ (qa_ qi_ (qa_ qi_ (qa_ qi_ (qa_ qi_ (qa_ qi_ (qa_ qi_ (qa_ qi_ qa_nil)))))))))))) (qa_ (qne (qe_lst (qa_ qi_ (qa_ qi_ (qa_ qi_ (qa_ qi_ qa_nil)))))) qa_nil)))))))))
  (qs_ (M':=[0]) (qs_setE (M':=[0]) (qps_set (i:=2) sc.nd rfl (Or.inl rfl) (qe_plus (qv_ rfl (qpv 2)) (qnb (qe_lst (qa_ (qne (qe_lst (qa_ qi_ (qa_ qi_ (qa_ qi_ (qa_ qi_ (qa_ qi_ (qa_ qi_ (qa_ qi_ (qa_ qi_ (qa_ qi_ (qa_ qi_ qa_nil)))))))))))) (qa_ (qne (qe_lst (qa_ qi_ (qa_ qi_ (qa_ qi_ (qa_ qi_ (qa_ qi_ (qa_ qi_ (qa_ qi_ (qa_ qi_ qa_nil)))))))))) qa_nil)))))))
  (qs_ (M':=[0]) (qs_setE (M':=[0]) (qps_set (i:=3) sc.nd rfl (Or.inl rfl) (qne (qe_lst qa_nil))))
  (qs_ (M':=[0]) (qs_setE (M':=[0]) (qps_set (i:=4) sc.nd rfl (Or.inr rfl) (qne (qe_listA rfl rfl rfl m_list (qeb (qv_ rfl (qpv 1)))))))
  (qs_ (M':=[0]) (qs_while 100 PassesOwn.never (qt_gt (qe_len rfl rfl m_len (qeb (qv_ rfl (qpv 4)))) (qeb qi_))
  (qs_ (M':=[0]) (qs_setE (M':=[0]) (qps_set (i:=5) sc.nd rfl (Or.inl rfl) (qe_item rfl hu (qv_ rfl (qpv 2)) (qeb (qcI rfl C_l_draw hr rfl (qpv 0) (qa_ qi_ qa_nil) ar1)) (fun _ _=>rfl))))
  (qs_ (M':=[0]) (qs_if (M':=[0]) (qt_ge (qe_maxI rfl rfl rfl m_max (qeb (qv_ rfl (qpv 5)))) (qeb (qe_len rfl rfl m_len (qeb (qv_ rfl (qpv 4)))))) (qss_one (qs_setE (M':=[0]) (qps_set (i:=5) sc.nd rfl (Or.inl rfl) (qe_item rfl hu (qv_ rfl (qpv 2)) (qeb qi_) (fun _ _=>rfl))))) qss_nil)
  (qs_ (M':=[0]) (qs_setE (M':=[0]) (qps_set (i:=6) sc.nd rfl (Or.inl rfl) (qcI rfl C_l_draw hr rfl (qpv 0) (qa_ (qe_plus (qe_len rfl rfl m_len (qeb (qv_ rfl (qpv 3)))) (qeb qi_)) qa_nil) ar1)))
  (qs_ (M':=[0]) (qs_setE (M':=[0]) (qps_set (i:=3) sc.nd rfl (Or.inl rfl) (qe_plus (qe_plus (qe_slA rfl (qv_ rfl (qpv 3)) qo_none (qo_some (qv_ rfl (qpv 6)))) (qnb (qe_lc (Mi:=[]) rfl (tg_name (i:=0)) yes_ok (qpe_lc (N:=["_law_k","_law_left"]) (caps:=[none,some 4]) rfl (qi_any rfl (qv_ rfl (qpv 5))) (fun _ _ _ _ _=>(qpg_name (i:=0) (show (["_law_k","_law_left"]:List Str).Nodup by decide +kernel) rfl (Or.inl rfl))) kg_name (fun _ _ _ _ _=>qpts_nil) (fun _ _ _ _ _=>(qe_item rfl hu (qv_ rfl (qpv 1)) (qeb (qv_ rfl (qpv 0))) (fun _ _=>rfl))))))) (qeb (qe_slA rfl (qv_ rfl (qpv 3)) (qo_some (qv_ rfl (qpv 6))) qo_none)))))
  (qss_one (qs_setE (M':=[0]) (qps_set (i:=4) sc.nd rfl (Or.inr rfl) (qe_slA rfl (qv_ rfl (qpv 4)) (qo_some (qe_plus (qe_maxI rfl rfl rfl m_max (qeb (qv_ rfl (qpv 5)))) (qeb qi_))) qo_none)))))))))
  (qss_one (qs_retE (qv_ rfl (qpv 3)))))))))
abbrev s_l_any_word:Stmt:=top 12
theorem sc_l_any_word:FnScope ["_law_bag_here","_law_names_here","_law_free","_law_made","_law_name","_law_at"] ["_law_bag_here","_law_names_here"] (defScope s_l_any_word):=scm
def d_l_any_word:DS:=(dSeq (dSet 2 (dLR (dAc (d2 gMul (dC (.int 2)) (d1 gLen (dV 1))) dAn)))
  (dSeq (dSet 3 (dLC [0] [none] (dItA (dV 2)) (dGn 0) dYes (dC (.str ""))))
  (dSeq (dFor (dItA (dV 1)) (dGn 4)
  (dSeq (dSetI 3 (d2 gItem (dV 2) (dC (.int 0))) (dV 4))
  (dSeq (dSet 5 (d2 gItem (dV 2) (d2 gPlus (dC (.int 1)) (dCallI fn_l_draw 0 (dAc (d2 gSb (d1 gLen (dV 2)) (dC (.int 1))) dAn)))))
  (dSeq (dSetI 3 (dV 5) (dV 4))
  (dSet 2 (dLC [0,3] [none,some 5] (dItA (dSl gSlA (dV 2) (dOs (dC (.int 1))) dOn)) (dGn 0) (dB (d2 gNe (dV 0) (dV 1))) (dV 0)))))))
  (dRetI [0] (dV 3)))))
def fn_l_any_word:List T->Option (T × T):=fnI 6 d_l_any_word
abbrev U_l_any_word[TheK](v:Ev)(k:Nat):Prop:=Cl v k "_law_any_word" ["_law_bag_here","_law_names_here"] (spI .e 2 fn_l_any_word)
theorem ok_l_any_word[tk:TheK](h:Here tk.K v.mg "_law_any_word" s_l_any_word ["_law_bag_here","_law_names_here"])(C_l_draw:U_l_draw v 1)(m_list:v.mg "list"=none)(m_range:v.mg "range"=none)(m_len:v.mg "len"=none):U_l_any_word v 2:=by
 refine (h.vI 1 [] d_l_any_word sc_l_any_word fun f cdv A outer s H E hr=>?_ :)
 have sc:=sc_l_any_word
 have hu:=hu_of hr
 have hu8:=hu8_of hr
 exact (qs_ (M':=[0]) (qs_setE (M':=[0]) (qps_set (i:=2) sc.nd rfl (Or.inl rfl) (qne (qe_listRange rfl rfl m_list rfl m_range (qa_ (qe_mul qi_ (qeb (qe_len rfl rfl m_len (qeb (qv_ rfl (qpv 1)))))) qa_nil)))))
  (qs_ (M':=[0,3]) (qs_setN (M':=[0,3]) (qs_lc (Mi:=[]) rfl (tg_name (i:=0)) yes_ok (qps_setLC (i:=3) sc.nd rfl rfl (N:=["_law_at"]) (caps:=[none]) rfl (qi_any rfl (qv_ rfl (qpv 2))) (fun _ _ _ _ _=>(qpg_name (i:=0) (show (["_law_at"]:List Str).Nodup by decide +kernel) rfl (Or.inl rfl))) kg_name (fun _ _ _ _ _=>qpts_nil) (fun _ _ _ _ _=>qe_str))))
  (qs_ (M':=[0,3]) (qs_for (qps_for PassesOwn.never rfl (qi_any rfl (qv_ rfl (qpv 1))) (qg_name (qpg_name (i:=4) sc.nd rfl (Or.inl rfl)))
  (qs_ (M':=[0,3]) (qs_setI rfl (qps_asg (qv_ rfl (qpv 4)) (qpg_sub (qpv 3) (qe_item rfl hu (qv_ rfl (qpv 2)) (qeb qi_) (fun _ _=>rfl)) set_list)))
  (qs_ (M':=[0,3]) (qs_setE (M':=[0,3]) (qps_set (i:=5) sc.nd rfl (Or.inr rfl) (qe_item rfl hu (qv_ rfl (qpv 2)) (qeb (qe_plus qi_ (qeb (qcI rfl C_l_draw hr rfl (qpv 0) (qa_ (qe_sub (qe_len rfl rfl m_len (qeb (qv_ rfl (qpv 2)))) (qeb qi_)) qa_nil) ar1)))) (fun _ _=>rfl))))
  (qs_ (M':=[0,3]) (qs_setI rfl (qps_asg (qv_ rfl (qpv 4)) (qpg_sub (qpv 3) (qv_ rfl (qpv 5)) set_list)))
  (qss_one (qs_setE (M':=[0,3]) (qs_nE (qs_lc (Mi:=[]) rfl (tg_name (i:=0)) (fun _ _ _ h=>h) (qps_setLC (i:=2) sc.nd rfl rfl (N:=["_law_spot","_law_at"]) (caps:=[none,some 5]) rfl (qi_any rfl (qe_slA rfl (qv_ rfl (qpv 2)) (qo_some qi_) qo_none)) (fun _ _ _ _ _=>(qpg_name (i:=0) (show (["_law_spot","_law_at"]:List Str).Nodup by decide +kernel) rfl (Or.inl rfl))) kg_name (fun _ _ _ _ _=>(qpts_one (qt_ne hu8 (qv_ rfl (qpv 0)) (qeb (qv_ rfl (qpv 1)))))) (fun _ _ _ _ _=>(qv_ rfl (qpv 0)))))))))))))
  (qss_one (qs_pre (M':=[0]) (qs_retE (qv_ rfl (qpv 3))))))))
abbrev s_l_bag:Stmt:=top 9
theorem sc_l_bag:FnScope ["_law_cell_here"] ["_law_cell_here"] (defScope s_l_bag):=scm
def d_l_bag:DS:=(dRetI [] (dLst (dAc (d2 gMul (d2 gMod (d2 gDiv (dV 0) (dC (.int 2))) (d2 gMulB (d2 gPow (dC (.int 10)) (dC (.int 40))) (d2 gPow (dC (.int 10)) (dC (.int 40))))) (d2 gMod (dV 0) (dC (.int 2)))) (dAc (d2 gMod (d2 gDiv (dV 0) (dC (.int 2))) (dC (.int 2147483647))) dAn))))
def fn_l_bag:List T->Option T:=fnPn 1 d_l_bag
abbrev U_l_bag[TheK](v:Ev)(k:Nat):Prop:=Cl v k "_law_bag" ["_law_cell_here"] (spP .n 1 fn_l_bag)
theorem ok_l_bag[tk:TheK](h:Here tk.K v.mg "_law_bag" s_l_bag ["_law_cell_here"]):U_l_bag v 1:=by
 refine (h.vN 0 [] d_l_bag sc_l_bag fun f cdv A outer s H E hr=>?_ :)
 exact (qss_one (qs_retN (qe_lst (qa_ (qe_mul (qe_mod (qe_div (qv_ rfl (qpv 0)) (qeb qi_)) (qeb (qe_mulB (qe_pow qi_ (qeb qi_)) (qeb (qe_pow qi_ (qeb qi_)))))) (qeb (qe_mod (qv_ rfl (qpv 0)) (qeb qi_)))) (qa_ (qe_mod (qe_div (qv_ rfl (qpv 0)) (qeb qi_)) (qeb qi_)) qa_nil)))))
abbrev s_l_word:Stmt:=top 14
theorem sc_l_word:FnScope ["_law_cell_here","_law_names_here"] ["_law_cell_here","_law_names_here"] (defScope s_l_word):=scm
def d_l_word:DS:=(dSeq (dIfS (dB (d2 gEq (d2 gMod (dV 0) (dC (.int 2))) (dC (.int 1)))) (dRetI [] (dCallN fn_l_any_word (dCall fn_l_bag (dAc (dV 0) dAn)) (dAc (dSl gSlA (dV 1) dOn (dOs (dC (.int 8)))) dAn))) dNext)
  (dRetI [] (dCallN fn_l_built_word (dCall fn_l_bag (dAc (d2 gDiv (dV 0) (dC (.int 2))) dAn)) (dAc (dV 1) dAn))))
def fn_l_word:List T->Option T:=fnP 2 d_l_word
abbrev U_l_word[TheK](v:Ev)(k:Nat):Prop:=Cl v k "_law_word" ["_law_cell_here","_law_names_here"] (spP .e 2 fn_l_word)
theorem ok_l_word[tk:TheK](h:Here tk.K v.mg "_law_word" s_l_word ["_law_cell_here","_law_names_here"])(C_l_any_word:U_l_any_word v 2)(C_l_bag:U_l_bag v 2)(C_l_built_word:U_l_built_word v 2):U_l_word v 3:=by
 refine (h.vP 2 [] d_l_word sc_l_word fun f cdv A outer s H E hr=>?_ :)
 have hu8:=hu8_of hr
 exact (qs_ (M':=[]) (qs_if (M':=[]) (qt_eq hu8 (qe_mod (qv_ rfl (qpv 0)) (qeb qi_)) (qeb qi_)) (qss_one (qs_retE (qcT (.inl rfl) C_l_any_word hr rfl (qcN C_l_bag hr rfl (qa_ (qv_ rfl (qpv 0)) qa_nil) ar1) (qa_ (qe_slA rfl (qv_ rfl (qpv 1)) qo_none (qo_some qi_)) qa_nil) ar1))) qss_nil)
  (qss_one (qs_retE (qcT (.inl rfl) C_l_built_word hr rfl (qcN C_l_bag hr rfl (qa_ (qe_div (qv_ rfl (qpv 0)) (qeb qi_)) qa_nil) ar1) (qa_ (qv_ rfl (qpv 1)) qa_nil) ar1))))
abbrev s_p_rounds:Stmt:=top 1
theorem sc_p_rounds:FnScope ["after","told","walked","start","walk","at"] ["after"] (defScope s_p_rounds):=scm
def d_p_rounds:DS:=(dSeq (dSet 1 (dLst dAn))
  (dSeq (dSet 2 dSet0)
  (dSeq (dFor (dRg1 (dAc (d1 gLen (dV 0)) dAn)) (dGn 3)
  (dSeq (dSet 4 (dLst dAn))
  (dSeq (dSet 5 (dV 3))
  (dSeq (whileN (dB (d2 gNinS (dV 5) (dV 2)))
  (dSeq (dDo (dSAdd 2 (dV 5)))
  (dSeq (dDo (dMut mApp 4 (dAc (dV 5) dAn)))
  (dSet 5 (d2 gItem (dV 0) (dV 5))))) 300)
  (dIfS (dTru (dV 4)) (dDo (dMut mApp 1 (dAc (dV 4) dAn))) dNext)))))
  (dRetI [] (dV 1)))))
def fn_p_rounds:List T->Option T:=fnP 6 d_p_rounds
abbrev U_p_rounds[TheK](v:Ev)(k:Nat):Prop:=Cl v k "rounds" ["after"] (spP .e 1 fn_p_rounds)
theorem ok_p_rounds[tk:TheK](h:Here tk.K v.mg "rounds" s_p_rounds ["after"])(m_set:v.mg "set"=none)(m_range:v.mg "range"=none)(m_len:v.mg "len"=none):U_p_rounds v 1:=by
 refine (h.vP 0 [] d_p_rounds sc_p_rounds fun f cdv A outer s H E hr=>?_ :)
 have sc:=sc_p_rounds
 have hu:=hu_of hr
 exact (qs_ (M':=[1]) (qs_setN (M':=[1]) (qps_set (i:=1) sc.nd rfl (Or.inl rfl) (qe_lst qa_nil)))
  (qs_ (M':=[1,2]) (qs_setN (M':=[1,2]) (qps_set (i:=2) sc.nd rfl (Or.inl rfl) (qe_set0 rfl m_set)))
  (qs_ (M':=[1,2]) (qs_for (qps_for PassesOwn.never rfl (qi_range1 rfl m_range (qa_ (qe_len rfl rfl m_len (qeb (qv_ rfl (qpv 0)))) qa_nil)) (qg_name (qpg_name (i:=3) sc.nd rfl (Or.inl rfl)))
  (qs_ (M':=[1,2,4]) (qs_setN (M':=[1,2,4]) (qps_set (i:=4) sc.nd rfl (Or.inl rfl) (qe_lst qa_nil)))
  (qs_ (M':=[1,2,4]) (qs_setE (M':=[1,2,4]) (qps_set (i:=5) sc.nd rfl (Or.inl rfl) (qv_ rfl (qpv 3))))
  (qs_ (M':=[1,2,4]) (qs_while 300 PassesOwn.never (qt_ninS (qv_ rfl (qpv 5)) (qe_raw rfl (qpv 2)) (by with_unfolding_all rfl))
  (qs_ (M':=[1,2,4]) (qs_do (.inl rfl) (qe_sadd rfl (qpe_bm PySem.F.plainAttrs_set PySem.F.slot_set_add PySem.F.type_set_add mt_sadd (qpv 2) (qpa_cons (qv_ rfl (qpv 5)) qpa_nil))))
  (qs_ (M':=[1,2,4]) (qs_do (.inl rfl) (qe_append rfl (qpe_bm PySem.F.plainAttrs_list PySem.F.slot_list_append PySem.F.type_list_append mt_append (qpv 4) (qa_ (qv_ rfl (qpv 5)) qa_nil))))
  (qss_one (qs_setE (M':=[1,2,4]) (qps_set (i:=5) sc.nd rfl (Or.inl rfl) (qe_item rfl hu (qv_ rfl (qpv 0)) (qeb (qv_ rfl (qpv 5))) (fun _ _=>rfl))))))))
  (qss_one (qs_if (M':=[1,2]) (qt_tru (qe_raw rfl (qpv 4))) (qss_one (qs_pre (M':=[1,2]) (qs_do (.inl rfl) (qe_append rfl (qpe_bm PySem.F.plainAttrs_list PySem.F.slot_list_append PySem.F.type_list_append mt_append (qpv 1) (qa_ (qv_ rfl (qpv 4)) qa_nil)))))) (qss_post (M':=[1,2,4]) qss_nil))))))))
  (qss_one (qs_pre (M':=[2]) (qs_retE (qv_ rfl (qpv 1))))))))
abbrev s_p_standings:Stmt:=top 3
theorem sc_p_standings:FnScope ["word","name"] ["word","name"] (defScope s_p_standings):=scm
def d_p_standings:DS:=(dRetI [] (dLC [] [none,none,some 1] (dEn (dAc (dV 0) dAn)) (dGt [0,1]) (dB (d2 gEq (dV 1) (dV 2))) (dV 0)))
def fn_p_standings:List T->Option T:=fnP 2 d_p_standings
abbrev U_p_standings[TheK](v:Ev)(k:Nat):Prop:=Cl v k "standings" ["word","name"] (spP .e 2 fn_p_standings)
theorem ok_p_standings[tk:TheK](h:Here tk.K v.mg "standings" s_p_standings ["word","name"])(m_enumerate:v.mg "enumerate"=none):U_p_standings v 1:=by
 refine (h.vP 0 [] d_p_standings sc_p_standings fun f cdv A outer s H E hr=>?_ :)
 have hu8:=hu8_of hr
 exact (qss_one (qs_retE (qne (qe_lc (Mi:=[]) rfl (tg_tup (K:=tk.K) (is:=[0,1]) (n:=2)) (fun _ _ _ h=>h) (qpe_lc (N:=["at","other","name"]) (caps:=[none,none,some 1]) (g:=gTup tk.K 2 (gsN [0,1])) rfl (qi_enum rfl m_enumerate (qa_ (qv_ rfl (qpv 0)) qa_nil)) (fun _ _ _ _ _=>(qpg_tupK (K:=tk.K) rfl rfl (qpgs_cons (qpg_name (i:=0) (show (["at","other","name"]:List Str).Nodup by decide +kernel) rfl (Or.inl rfl)) (qpgs_cons (qpg_name (i:=1) (show (["at","other","name"]:List Str).Nodup by decide +kernel) rfl (Or.inl rfl)) qpgs_nil)))) kg_pair (fun _ _ _ _ _=>(qpts_one (qt_eq hu8 (qv_ rfl (qpv 1)) (qeb (qv_ rfl (qpv 2)))))) (fun _ _ _ _ _=>(qv_ rfl (qpv 0))))))))
abbrev s_p_partner:Stmt:=top 4
theorem sc_p_partner:FnScope ["word","at","low","high"] ["word","at"] (defScope s_p_partner):=scm
def d_p_partner:DS:=(dSeq (dUn [2,3] (dCall fn_p_standings (dAc (dV 0) (dAc (d2 gItem (dV 0) (dV 1)) dAn))))
  (dRetI [] (dIf (dB (d2 gEq (dV 1) (dV 2))) (dV 3) (dV 2))))
def fn_p_partner:List T->Option T:=fnP 4 d_p_partner
abbrev U_p_partner[TheK](v:Ev)(k:Nat):Prop:=Cl v k "partner" ["word","at"] (spP .e 2 fn_p_partner)
theorem ok_p_partner[tk:TheK](h:Here tk.K v.mg "partner" s_p_partner ["word","at"])(C_p_standings:U_p_standings v 1):U_p_partner v 2:=by
 refine (h.vP 1 [] d_p_partner sc_p_partner fun f cdv A outer s H E hr=>?_ :)
 have sc:=sc_p_partner
 have hu:=hu_of hr
 have hu8:=hu8_of hr
 exact (qs_ (M':=[]) (qs_unl (is:=[2,3]) (n:=2) (K:=tk.K) (qps_asg (qc C_p_standings hr rfl (qa_ (qv_ rfl (qpv 0)) (qa_ (qe_item rfl hu (qv_ rfl (qpv 0)) (qeb (qv_ rfl (qpv 1))) (fun _ _=>rfl)) qa_nil)) ar2) (qpgor (qpg_unl rfl (qpgs_cons (qpg_name (i:=2) sc.nd rfl (Or.inl rfl)) (qpgs_cons (qpg_name (i:=3) sc.nd rfl (Or.inl rfl)) qpgs_nil))) (qpg_tup rfl (qpgs_cons (qpg_name (i:=2) sc.nd rfl (Or.inl rfl)) (qpgs_cons (qpg_name (i:=3) sc.nd rfl (Or.inl rfl)) qpgs_nil))))) rfl rfl rfl)
  (qss_one (qs_retE (qe_if (qt_eq hu8 (qv_ rfl (qpv 1)) (qeb (qv_ rfl (qpv 2)))) (qv_ rfl (qpv 3)) (qv_ rfl (qpv 2))))))
abbrev s_p_rings:Stmt:=top 6
theorem sc_p_rings:FnScope ["word","size"] ["word"] (defScope s_p_rings):=scm
def d_p_rings:DS:=(dSeq (dIfS (dNot (dTru (dV 0))) (dRetI [] (dNils 1)) dNext)
  (dSeq (dSet 1 (d1 gLen (dV 0)))
  (dRetI [] (dCallD fn_p_rounds (dLC [] [none,some 0,some 1] (dRg1 (dAc (dV 1) dAn)) (dGn 0) dYes (dCall fn_p_partner (dAc (dV 1) (dAc (d2 gMod (d2 gPlus (dV 0) (dC (.int 1))) (dV 2)) dAn))))))))
def fn_p_rings:List T->Option T:=fnPn 2 d_p_rings
abbrev U_p_rings[TheK](v:Ev)(k:Nat):Prop:=Cl v k "rings" ["word"] (spD 1 fn_p_rings)
theorem ok_p_rings[tk:TheK](h:Here tk.K v.mg "rings" s_p_rings ["word"])(C_p_rounds:U_p_rounds v 2)(C_p_partner:U_p_partner v 2)(m_len:v.mg "len"=none)(m_range:v.mg "range"=none):U_p_rings v 3:=by
 obtain ⟨f_p_rounds,fd_p_rounds,G_p_rounds,b_p_rounds,k_p_rounds,m_p_rounds⟩:=C_p_rounds
 refine (h.vD 2 [] d_p_rings sc_p_rings fun f cdv A outer s H E hr=>?_ :)
 have sc:=sc_p_rings
 exact (qs_ (M':=[]) (qs_if (M':=[]) (qt_not (qt_tru (qeb (qv_ rfl (qpv 0))))) (qss_one (qs_retD qe_dnil1)) qss_nil)
  (qs_ (M':=[]) (qs_setE (M':=[]) (qps_set (i:=1) sc.nd rfl (Or.inr rfl) (qe_len rfl rfl m_len (qeb (qv_ rfl (qpv 0))))))
  (qss_one (qs_retD (qe_dcall G_p_rounds hr rfl m_p_rounds k_p_rounds b_p_rounds (qe_lc (Mi:=[]) rfl (tg_name (i:=0)) yes_ok (qpe_lc (N:=["stretch","word","size"]) (caps:=[none,some 0,some 1]) rfl (qi_range1 rfl m_range (qa_ (qv_ rfl (qpv 1)) qa_nil)) (fun _ _ _ _ _=>(qpg_name (i:=0) (show (["stretch","word","size"]:List Str).Nodup by decide +kernel) rfl (Or.inl rfl))) kg_name (fun _ _ _ _ _=>qpts_nil) (fun _ _ _ _ _=>(qc C_p_partner hr rfl (qa_ (qv_ rfl (qpv 1)) (qa_ (qe_mod (qe_plus (qv_ rfl (qpv 0)) (qeb qi_)) (qeb (qv_ rfl (qpv 2)))) qa_nil)) ar2)))))))))
abbrev s_l_other:Stmt:=top 17
theorem sc_l_other:FnScope ["_law_word_here","_law_at","_law_spot"] ["_law_word_here","_law_at"] (defScope s_l_other):=scm
def d_l_other:DS:=(dSeq (dFor (dRg1 (dAc (d1 gLen (dV 0)) dAn)) (dGn 2)
  (dIfS (dAnd (dB (d2 gNe (dV 2) (dV 1))) (dB (d2 gEq (d2 gItem (dV 0) (dV 2)) (d2 gItem (dV 0) (dV 1))))) (dRetI [] (dV 2)) dNext))
  (dRetI [] (dV 1)))
def fn_l_other:List T->Option T:=fnP 3 d_l_other
abbrev U_l_other[TheK](v:Ev)(k:Nat):Prop:=Cl v k "_law_other" ["_law_word_here","_law_at"] (spP .e 2 fn_l_other)
theorem ok_l_other[tk:TheK](h:Here tk.K v.mg "_law_other" s_l_other ["_law_word_here","_law_at"])(m_range:v.mg "range"=none)(m_len:v.mg "len"=none):U_l_other v 1:=by
 refine (h.vP 0 [] d_l_other sc_l_other fun f cdv A outer s H E hr=>?_ :)
 have sc:=sc_l_other
 have hu:=hu_of hr
 have hu8:=hu8_of hr
 exact (qs_ (M':=[]) (qs_for (qps_for PassesOwn.never rfl (qi_range1 rfl m_range (qa_ (qe_len rfl rfl m_len (qeb (qv_ rfl (qpv 0)))) qa_nil)) (qg_name (qpg_name (i:=2) sc.nd rfl (Or.inl rfl)))
  (qss_one (qs_if (M':=[]) (QW.pt (qw_and (qt_ne hu8 (qv_ rfl (qpv 2)) (qeb (qv_ rfl (qpv 1)))) (qw_and1 (qt_eq hu8 (qe_item rfl hu (qv_ rfl (qpv 0)) (qeb (qv_ rfl (qpv 2))) (fun _ _=>rfl)) (qeb (qe_item rfl hu (qv_ rfl (qpv 0)) (qeb (qv_ rfl (qpv 1))) (fun _ _=>rfl))))))) (qss_one (qs_retE (qv_ rfl (qpv 2)))) qss_nil))))
  (qss_one (qs_retE (qv_ rfl (qpv 1)))))
abbrev s_l_whole:Stmt:=top 15
theorem sc_l_whole:FnScope ["_law_found"] ["_law_found"] (defScope s_l_whole):=scm
def d_l_whole:DS:=(dRetI [] (dAndV (dIsi "int" (dV 0)) (dNotV (dIsi "bool" (dV 0)))))
def fn_l_whole:List T->Option T:=fnP 1 d_l_whole
abbrev U_l_whole[TheK](v:Ev)(k:Nat):Prop:=Cl v k "_law_whole" ["_law_found"] (spP .e 1 fn_l_whole)
theorem ok_l_whole[tk:TheK](h:Here tk.K v.mg "_law_whole" s_l_whole ["_law_found"])(m_isinstance:v.mg "isinstance"=none)(m_bool:v.mg "bool"=none)(m_int:v.mg "int"=none):U_l_whole v 1:=by
 refine (h.vP 0 [] d_l_whole sc_l_whole fun f cdv A outer s H E hr=>?_ :)
 exact (qss_one (qs_retE (qe_and (qe_isi (cn:="int") rfl rfl m_isinstance (qeb (qv_ rfl (qpv 0))) (qpe_bltn (v:=.ty "int") rfl m_int bt_int rfl)) (qe_one (qe_not (qe_isi (cn:="bool") rfl rfl m_isinstance (qeb (qv_ rfl (qpv 0))) (qpe_bltn (v:=.ty "bool") rfl m_bool bt_bool rfl)))))))
abbrev s_l_lists:Stmt:=top 16
theorem sc_l_lists:FnScope ["_law_found","_law_many"] ["_law_found","_law_many"] (defScope s_l_lists):=scm
def d_l_lists:DS:=(dRetI [] (dAndV (dIsi "list" (dV 0)) (dAndV (d2 gEq (d1 gLen (dV 0)) (dV 1)) (d1 gAll (dLC [] [none] (dItA (dV 0)) (dGn 0) dYes (dCall fn_l_whole (dAc (dV 0) dAn)))))))
def fn_l_lists:List T->Option T:=fnP 2 d_l_lists
abbrev U_l_lists[TheK](v:Ev)(k:Nat):Prop:=Cl v k "_law_lists" ["_law_found","_law_many"] (spP .e 2 fn_l_lists)
theorem ok_l_lists[tk:TheK](h:Here tk.K v.mg "_law_lists" s_l_lists ["_law_found","_law_many"])(C_l_whole:U_l_whole v 1)(m_all:v.mg "all"=none)(m_len:v.mg "len"=none)(m_isinstance:v.mg "isinstance"=none)(m_list:v.mg "list"=none):U_l_lists v 2:=by
 refine (h.vP 1 [] d_l_lists sc_l_lists fun f cdv A outer s H E hr=>?_ :)
 have hu8:=hu8_of hr
 exact (qss_one (qs_retE (qe_and (qe_isi (cn:="list") rfl rfl m_isinstance (qeb (qv_ rfl (qpv 0))) (qpe_bltn (v:=.ty "list") rfl m_list bt_list rfl)) (qe_and (qe_eq hu8 (qe_len rfl rfl m_len (qeb (qv_ rfl (qpv 0)))) (qeb (qv_ rfl (qpv 1)))) (qe_one (qe_all rfl rfl rfl m_all (qnb (qe_lc (Mi:=[]) rfl (tg_name (i:=0)) yes_ok (qpe_lc (N:=["_law_number"]) (caps:=[none]) rfl (qi_any rfl (qv_ rfl (qpv 0))) (fun _ _ _ _ _=>(qpg_name (i:=0) (show (["_law_number"]:List Str).Nodup by decide +kernel) rfl (Or.inl rfl))) kg_name (fun _ _ _ _ _=>qpts_nil) (fun _ _ _ _ _=>(qc C_l_whole hr rfl (qa_ (qv_ rfl (qpv 0)) qa_nil) ar1)))))))))))
abbrev s_l_right:Stmt:=top 18
theorem sc_l_right:FnScope ["_law_found","_law_word_here","_law_met","_law_ring","_law_k"] ["_law_found","_law_word_here"] (defScope s_l_right):=scm
def d_l_right:DS:=(dSeq (dIfS (dOr (dNot (dTru (dIsi "list" (dV 0)))) (dNot (dTru (d1 gAll (dLC [] [none] (dItA (dV 0)) (dGn 0) dYes (dCall fn_l_lists (dAc (dV 0) (dAc (d1 gLen (dV 0)) dAn)))))))) (dRetI [] (dC (.bl false))) dNext)
  (dSeq (dIfS (dB (d2 gEq (d1 gLen (dV 1)) (dC (.int 0)))) (dRetI [] (d2 gEq (dV 0) (dLst (dAc (dLst dAn) dAn)))) dNext)
  (dSeq (dSet 2 (dLst dAn))
  (dSeq (dFor (dItA (dV 0)) (dGn 3)
  (dSeq (dIfS (dOr (dB (d2 gEq (dV 3) (dLst dAn))) (dOr (dB (d2 gNe (d1 gMinI (dV 3)) (d2 gItem (dV 3) (dC (.int 0))))) (dOr (dB (d2 gLt (d1 gMinI (dV 3)) (dC (.int 0)))) (dB (d2 gGe (d1 gMaxI (dV 3)) (d1 gLen (dV 1))))))) (dRetI [] (dC (.bl false))) dNext)
  (dSeq (dFor (dRg1 (dAc (d1 gLen (dV 3)) dAn)) (dGn 4)
  (dIfS (dB (d2 gNe (d2 gItem (dV 3) (dV 4)) (dCall fn_l_other (dAc (dV 1) (dAc (d2 gMod (d2 gPlus (d2 gItem (dV 3) (d2 gSb (dV 4) (dC (.int 1)))) (dC (.int 1))) (d1 gLen (dV 1))) dAn))))) (dRetI [] (dC (.bl false))) dNext))
  (dDo (dMut mExt 2 (dAc (dV 3) dAn))))))
  (dRetI [] (dAndV (d2 gEq (d1 gSorted (dV 2)) (dLR (dAc (d1 gLen (dV 1)) dAn))) (dAndV (d2 gEq (d1 gSortU (dV 0)) (dV 0)) (d2 gEq (d2 gMod (d2 gPlus (d1 gLen (dV 0)) (d2 gDiv (d1 gLen (dV 1)) (dC (.int 2)))) (dC (.int 2))) (dC (.int 1))))))))))
def fn_l_right:List T->Option T:=fnP 5 d_l_right
abbrev U_l_right[TheK](v:Ev)(k:Nat):Prop:=Cl v k "_law_right" ["_law_found","_law_word_here"] (spP .e 2 fn_l_right)
theorem ok_l_right[tk:TheK](h:Here tk.K v.mg "_law_right" s_l_right ["_law_found","_law_word_here"])(C_l_lists:U_l_lists v 2)(C_l_other:U_l_other v 2)(m_all:v.mg "all"=none)(m_len:v.mg "len"=none)(m_isinstance:v.mg "isinstance"=none)(m_list:v.mg "list"=none)(m_max:v.mg "max"=none)(m_min:v.mg "min"=none)(m_range:v.mg "range"=none)(m_sorted:v.mg "sorted"=none):U_l_right v 3:=by
 refine (h.vP 2 [] d_l_right sc_l_right fun f cdv A outer s H E hr=>?_ :)
 have sc:=sc_l_right
 have hu:=hu_of hr
 have hu8:=hu8_of hr
 exact (qs_ (M':=[]) (qs_if (M':=[]) (QW.pt (qw_or (qt_not (qt_tru (qeb (qe_isi (cn:="list") rfl rfl m_isinstance (qeb (qv_ rfl (qpv 0))) (qpe_bltn (v:=.ty "list") rfl m_list bt_list rfl))))) (qw_or1 (qt_not (qt_tru (qeb (qe_all rfl rfl rfl m_all (qnb (qe_lc (Mi:=[]) rfl (tg_name (i:=0)) yes_ok (qpe_lc (N:=["_law_ring"]) (caps:=[none]) rfl (qi_any rfl (qv_ rfl (qpv 0))) (fun _ _ _ _ _=>(qpg_name (i:=0) (show (["_law_ring"]:List Str).Nodup by decide +kernel) rfl (Or.inl rfl))) kg_name (fun _ _ _ _ _=>qpts_nil) (fun _ _ _ _ _=>(qc C_l_lists hr rfl (qa_ (qv_ rfl (qpv 0)) (qa_ (qe_len rfl rfl m_len (qeb (qv_ rfl (qpv 0)))) qa_nil)) ar2)))))))))))) (qss_one (qs_retE qe_bl)) qss_nil)
  (qs_ (M':=[]) (qs_if (M':=[]) (qt_eq hu8 (qe_len rfl rfl m_len (qeb (qv_ rfl (qpv 1)))) (qeb qi_)) (qss_one (qs_retE (qe_eq hu8 (qv_ rfl (qpv 0)) (qnb (qe_lst (qa_ (qne (qe_lst qa_nil)) qa_nil)))))) qss_nil)
  (qs_ (M':=[2]) (qs_setN (M':=[2]) (qps_set (i:=2) sc.nd rfl (Or.inl rfl) (qe_lst qa_nil)))
  (qs_ (M':=[2]) (qs_for (qps_for PassesOwn.never rfl (qi_any rfl (qv_ rfl (qpv 0))) (qg_name (qpg_name (i:=3) sc.nd rfl (Or.inl rfl)))
  (qs_ (M':=[2]) (qs_if (M':=[2]) (QW.pt (qw_or (qt_eq hu8 (qv_ rfl (qpv 3)) (qnb (qe_lst qa_nil))) (qw_or (qt_ne hu8 (qe_minI rfl rfl rfl m_min (qeb (qv_ rfl (qpv 3)))) (qeb (qe_item rfl hu (qv_ rfl (qpv 3)) (qeb qi_) (fun _ _=>rfl)))) (qw_or (qt_lt (qe_minI rfl rfl rfl m_min (qeb (qv_ rfl (qpv 3)))) (qeb qi_)) (qw_or1 (qt_ge (qe_maxI rfl rfl rfl m_max (qeb (qv_ rfl (qpv 3)))) (qeb (qe_len rfl rfl m_len (qeb (qv_ rfl (qpv 1))))))))))) (qss_one (qs_retE qe_bl)) qss_nil)
  (qs_ (M':=[2]) (qs_for (qps_for PassesOwn.never rfl (qi_range1 rfl m_range (qa_ (qe_len rfl rfl m_len (qeb (qv_ rfl (qpv 3)))) qa_nil)) (qg_name (qpg_name (i:=4) sc.nd rfl (Or.inl rfl)))
  (qss_one (qs_if (M':=[2]) (qt_ne hu8 (qe_item rfl hu (qv_ rfl (qpv 3)) (qeb (qv_ rfl (qpv 4))) (fun _ _=>rfl)) (qeb (qc C_l_other hr rfl (qa_ (qv_ rfl (qpv 1)) (qa_ (qe_mod (qe_plus (qe_item rfl hu (qv_ rfl (qpv 3)) (qeb (qe_sub (qv_ rfl (qpv 4)) (qeb qi_))) (fun _ _=>rfl)) (qeb qi_)) (qeb (qe_len rfl rfl m_len (qeb (qv_ rfl (qpv 1)))))) qa_nil)) ar2))) (qss_one (qs_retE qe_bl)) qss_nil))))
  (qss_one (qs_do (.inl rfl) (qe_extend rfl (qpe_bm PySem.F.plainAttrs_list PySem.F.slot_list_extend PySem.F.type_list_extend mt_extend (qpv 2) (qa_ (qv_ rfl (qpv 3)) qa_nil)))))))))
  (qss_one (qs_retE (qe_and (qe_eq hu8 (qne (qe_sorted rfl rfl m_sorted (qe_raw rfl (qpv 2)))) (qnb (qe_listRange rfl rfl m_list rfl m_range (qa_ (qe_len rfl rfl m_len (qeb (qv_ rfl (qpv 1)))) qa_nil)))) (qe_and (qe_eq hu8 (qne (qe_sortU rfl hu8 rfl m_sorted (qeb (qv_ rfl (qpv 0))))) (qeb (qv_ rfl (qpv 0)))) (qe_one (qe_eq hu8 (qe_mod (qe_plus (qe_len rfl rfl m_len (qeb (qv_ rfl (qpv 0)))) (qeb (qe_div (qe_len rfl rfl m_len (qeb (qv_ rfl (qpv 1)))) (qeb qi_)))) (qeb qi_)) (qeb qi_)))))))))))
abbrev s_law:Stmt:=top 19
theorem sc_law:FnScope ["_law_script","_law_names_here","_law_cell_here","_law_word_here","_law_handed","_law_found","_law_ring"] ["_law_script"] (defScope s_law):=scm
noncomputable def d_law:DS:=(dSeq (dSet 1 (dCall fn_l_names (dAc (dCall fn_l_cell (dAc (dV 0) (dAc (dC (.int 0)) dAn))) (dAc (d2 gMod (dCall fn_l_cell (dAc (dV 0) (dAc (dC (.int 1)) dAn))) (dC (.int 31))) dAn))))
  (dSeq (dFor (dItA (d2 gPlus (dLst (dAc (dCall fn_l_cell (dAc (dV 0) (dAc (dC (.int 2)) dAn))) dAn)) (dSl gSlA (dV 0) (dOs (dC (.int 3))) (dOs (dC (.int 8)))))) (dGn 2)
  (dSeq (dSet 3 (dCall fn_l_word (dAc (dV 2) (dAc (dV 1) dAn))))
  (dSeq (dSet 4 (d1 gListA (dV 3)))
  (dDeep2 fn_p_rings (dAc (dV 4) dAn) 5 (dSeq (dIfD [] (dOr (dNot (dTru (dCall fn_l_right (dAc (dV 5) (dAc (dV 3) dAn))))) (dB (d2 gNe (dV 4) (dV 3)))) (dRtD (dRetI [] (dC (.bl false)))) dNext)
  (dSeq (dForA [] 5 6)
  (dSeq (dClx 5)
  (dIfD [] (dNot (dTru (dCall fn_l_right (dAc (dCall fn_p_rings (dAc (dV 4) dAn)) (dAc (dV 3) dAn))))) (dRtD (dRetI [] (dC (.bl false)))) dNext))))))))
  (dRetI [] (dC (.bl true)))))
noncomputable def fn_law:List T->Option T:=fnP 7 d_law
theorem b_law[tk:TheK](C_l_names:U_l_names v 3)(C_l_cell:U_l_cell v 3)(C_l_word:U_l_word v 3)(C_p_rings:U_p_rings v 3)(C_l_right:U_l_right v 3)(m_list:v.mg "list"=none)  :QBody tk v.P v.w v.mg v.base 3 "law" s_law ["_law_script","_law_names_here","_law_cell_here","_law_word_here","_law_handed","_law_found","_law_ring"] (cS .e [] [] [] [] d_law):=by
 obtain ⟨f_p_rings,fd_p_rings,G_p_rings,b_p_rings,k_p_rings,m_p_rings⟩:=C_p_rings
 intro f cdv A outer s H E hr
 have sc:=sc_law
 have hu8:=hu8_of hr
 exact (qs_ (M':=[]) (qs_setE (M':=[]) (qps_set (i:=1) sc.nd rfl (Or.inl rfl) (qc C_l_names hr rfl (qa_ (qc C_l_cell hr rfl (qa_ (qv_ rfl (qpv 0)) (qa_ qi_ qa_nil)) ar2) (qa_ (qe_mod (qc C_l_cell hr rfl (qa_ (qv_ rfl (qpv 0)) (qa_ qi_ qa_nil)) ar2) (qeb qi_)) qa_nil)) ar2)))
  (qs_ (M':=[]) (qs_for (qps_for PassesOwn.never rfl (qi_any rfl (qe_plus (qne (qe_lst (qa_ (qc C_l_cell hr rfl (qa_ (qv_ rfl (qpv 0)) (qa_ qi_ qa_nil)) ar2) qa_nil))) (qeb (qe_slA rfl (qv_ rfl (qpv 0)) (qo_some qi_) (qo_some qi_))))) (qg_name (qpg_name (i:=2) sc.nd rfl (Or.inl rfl)))
  (qs_ (M':=[]) (qs_setE (M':=[]) (qps_set (i:=3) sc.nd rfl (Or.inl rfl) (qc C_l_word hr rfl (qa_ (qv_ rfl (qpv 2)) (qa_ (qv_ rfl (qpv 1)) qa_nil)) ar2)))
  (qs_ (M':=[]) (qs_setE (M':=[]) (qps_set (i:=4) sc.nd rfl (Or.inl rfl) (qne (qe_listA rfl rfl rfl m_list (qeb (qv_ rfl (qpv 3)))))))
  (qss_deep2 (x:=5) rfl rfl ar1 (qps_set (i:=5) sc.nd rfl (Or.inl rfl) (qe_deep2 G_p_rings hr rfl m_p_rings k_p_rings b_p_rings (qa_ (qv_ rfl (qpv 4)) qa_nil))) (qss_dcons (qs_dif (QW.pt (qw_or (qt_not (qt_tru (qeb (qc C_l_right hr rfl (qa_ (qv_ rfl (qpv 5)) (qa_ (qv_ rfl (qpv 3)) qa_nil)) ar2)))) (qw_or1 (qt_ne hu8 (qv_ rfl (qpv 4)) (qeb (qv_ rfl (qpv 3))))))) (qss_drt (M':=[]) (Mb:=[]) (qss_one (qs_retE qe_bl))) qss_dnil)
  (qss_dcons (qs_dforA (y:=6) PassesOwn.never rfl (qpv 5) (qpg_name (i:=6) sc.nd rfl (Or.inl rfl)) (qpe_bm PySem.F.plainAttrs_list PySem.F.slot_list_append PySem.F.type_list_append mt_append (qpv 6) (qpa_cons qpe_int qpa_nil)) rfl)
  (qss_dcons (qs_dclx (qps_expr (qpe_bm0 PySem.F.plainAttrs_list PySem.F.slot_list_clear PySem.F.type_list_clear mt_clear (qpv 5))))
  (qss_done (qs_dif (qt_not (qt_tru (qeb (qc C_l_right hr rfl (qa_ (qe_call (G_p_rings.imp d_imp) hr rfl m_p_rings k_p_rings b_p_rings (qa_ (qv_ rfl (qpv 4)) qa_nil) ar1) (qa_ (qv_ rfl (qpv 3)) qa_nil)) ar2)))) (qss_drt (M':=[]) (Mb:=[]) (qss_one (qs_retE qe_bl))) qss_dnil))))))))))
  (qss_one (qs_retE qe_bl))))
end Dw
set_option maxHeartbeats 1000000
local macro_rules | `(tactic| simp_all? [$args,*]) => `(tactic| simp (disch := (first | lia | (simp only [List.length_map, List.length_append, List.length_cons, List.length_nil, List.length_reverse, List.length_range, List.length_set, List.length_take, List.length_drop, List.length_zipIdx]; lia))) only [L3.vdV, L3.vdC, L3.vd2, L3.vd2v, L3.vdB, L3.vdTru, L3.vdAnd, L3.vdOr, L3.vdNot, L3.vdAndV, L3.vdNotV, L3.vdIf, L3.vdAn, L3.vdAc, L3.vdLst, L3.vdOn, L3.vdOs, L3.vdSl, L3.vdSeq, L3.vdNext, L3.vdSet, L3.vdIfS, L3.vdDo, L3.vdRetI, L3.vdMut, L3.vdSetI, L3.vdUn, L3.vdRg1, L3.vdRg2, L3.vdEn, L3.vdGn, L3.vdGt, L3.vdCall, L3.vdCallI, L3.vdCallN, L3.vd1, L3.vdItA, L3.vdLR, L3.vdSet0, L3.vdSAdd, L3.vdRtD, L3.vdDeep2, L3.vdCallD, L3.vdNils, L3.vdClx, L3.vdIsi, L3.vdYes, L3.vnT, L3.vPlusI, L3.vPlusL, L3.vCatL, L3.vSb, L3.vMul, L3.vDiv, L3.vMod, L3.vNeg, L3.vLt, L3.vLe, L3.vGt, L3.vGe, L3.vEqI, L3.vNeI, L3.vEqB, L3.vNeB, L3.vEqS, L3.vNeS, L3.vEqSs, L3.vNeSs, L3.vEqNs, L3.vNeNs, L3.vLenL, L3.vLenT, L3.vLenD, L3.vLenR, L3.vItemL, L3.vItemT, L3.vItemDs, L3.vItemDi, L3.vTruB, L3.vTruL, L3.vTruI, L3.vListL, L3.vListT, L3.vAppS, L3.vAppN, L3.vNotInS, L3.vInS, L3.vInN, L3.vNotInN, L3.vInD, L3.vNotInD, L3.vCountS, L3.visiLl, L3.visiIi, L3.visiBi, L3.visiBb, L3.visiTt, L3.visiSs, L3.hasAll_nil, L3.vcap0, L3.vcapN, L3.vcapS, L3.vAllB, L3.vAnyB, L3.isLst_lst, L3.vsign, L3.sz0, L3.sz1, L3.sz2, L3.sz3, L3.sz4, List.getElem?_cons_zero, List.getElem?_cons_succ, L3.join_ss, Option.bind_some, Option.map_some, List.set_cons_succ, List.set_cons_zero, List.length_cons, List.length_nil, List.length_map, if_true, if_false, Bool.not_true, Bool.not_false, decide_true, decide_false, Bool.false_eq_true, L3.setAll, L3.itemsT, Nat.reduceAdd, Nat.reduceLT, Int.zero_add, $args,*])
namespace Dw
open PySem L2 L3
theorem cell_eq(ns:List Int)(k:Nat):fn_l_cell [.scr ns,.int k]=some (.int (ns.getD k 0)):=by
 unfold fn_l_cell fnP d_l_cell
 by_cases h:k < ns.length
 ·have e:atI ns (k:Int)=some ns[k]:=atI_of (List.getElem?_eq_getElem h)
  simp [dSeq,dNext,dIfS,dRetI,dV,dC,d2,d1,dB,gLt,gCmp,gLen,gItem,orG,gIx,start3,hasAll,h,e]
 ·simp [dSeq,dNext,dIfS,dRetI,dV,dC,d2,d1,dB,gLt,gCmp,gLen,gItem,orG,gIx,start3,hasAll,h]
structure Bag2 where
 (a b:Int)
def Bag2.t(x:Bag2):T:=.lst [.int x.a,.int x.b]
structure Bag2.Ok (x:Bag2):Prop where
 b0:0<=x.b
 b1:x.b < 2147483647
theorem big_pow:gPow (.int 10) (.int 40)=some (.int 10000000000000000000000000000000000000000):=by rfl
theorem big_mul:gMulB (.int 10000000000000000000000000000000000000000) (.int 10000000000000000000000000000000000000000)=some (.int 100000000000000000000000000000000000000000000000000000000000000000000000000000000):=by rfl
theorem bag2_eq(n:Int):∃ x:Bag2,fn_l_bag [.int n]=some x.t/\x.Ok:=by
 refine ⟨⟨n / 2%100000000000000000000000000000000000000000000000000000000000000000000000000000000*(n%2),n / 2%2147483647⟩,?_,⟨Int.emod_nonneg _ (by lia),Int.emod_lt_of_pos _ (by lia)⟩⟩
 unfold fn_l_bag
 refine fnPn_eq ?_
 show Run d_l_bag [some (.int n)] _
 exact run_ret (s':=[some (.int n)]) (by unfold d_l_bag; simp_all? [big_pow,big_mul]<;>rfl) rfl
theorem draw_ex{x:Bag2}(h:x.Ok)(n:Int)(hn:0 < n)(hn2:n < 1073741824):∃ (z:Int) (y:Bag2),fn_l_draw [x.t,.int n]=some (.int z,y.t)/\y.Ok/\0<=z/\z < n:=by
 have h0:=h.b0
 have h1:=h.b1
 have m1:bMul x.b 48271=true:=by unfold bMul; rw [Bool.or_eq_true,decide_eq_true_iff]; left; lia
 have m2:bMul ((x.b*48271+4099)%2147483647) ((x.b*48271+4099)%2147483647 / 65536+7)=true:=by unfold bMul; rw [Bool.or_eq_true,decide_eq_true_iff]; left; lia
 by_cases hp:0 < x.a
 ·refine ⟨x.a%n,⟨x.a / n,x.b⟩,?_,⟨h0,h1⟩,Int.emod_nonneg _ (by lia),Int.emod_lt_of_pos _ hn⟩
  unfold fn_l_draw fnI d_l_draw Bag2.t
  simp [dSeq,dNext,dIfS,dSet,dSetI,dRetI,dV,dC,d2,d2v,d1,dB,gGt,gI1,gItem,orG,gIx,gMod,gDiv,gI,bMod,bDiv,start3,hasAll,atI,ixN,hp,hn,hn2]
 ·refine ⟨(x.b*48271+4099)%2147483647*((x.b*48271+4099)%2147483647 / 65536+7)%2147483629 / 32%n,⟨x.a,(x.b*48271+4099)%2147483647⟩,?_,⟨Int.emod_nonneg _ (by lia),Int.emod_lt_of_pos _ (by lia)⟩,Int.emod_nonneg _ (by lia),Int.emod_lt_of_pos _ hn⟩
  unfold fn_l_draw fnI d_l_draw Bag2.t
  simp [dSeq,dNext,dIfS,dSet,dSetI,dRetI,dV,dC,d2,d2v,d1,dB,gGt,gI1,gItem,orG,gIx,gMod,gDiv,gMul,gPlus,gAdd,gI,bMod,bDiv,start3,hasAll,atI,ixN,hp,m1,m2,hn,hn2]
end Dw
namespace Dw
open PySem L2 L3
theorem cut_map{α β:Type}(f:α->β)(xs:List α)(lo hi:Option Int):cutT (xs.map f) lo hi=(cutT xs lo hi).map f:=by
 unfold cutT
 rw [List.length_map,List.map_take,List.map_drop]
theorem ixN_at{n j:Nat}(h:j < n):ixN n (j:Int)=some j:=by simp [ixN,h]
def nmO(names:List Str):Option Nat->Str
 | none=>Str.ofString ""
 | some k=>names.getD k Str.empty
theorem any_eq{x:Bag2}(hx:x.Ok){names:List Str}(hn:names.length<=30)(hd:names.Nodup)(hN:∀ x∈names,IsName x):∃ (wd:List Str) (y:Bag2),fn_l_any_word [x.t,.lst (names.map T.str)]=some (.lst (wd.map T.str),y.t)/\GoodWord wd/\∀ x∈wd,x∈names:=by
 have hr:rgOk (2*((names.length:Nat):Int))=true:=rgOk_of (by lia) (by lia)
 have e2:(2*((names.length:Nat):Int)).toNat=2*names.length:=by lia
 obtain ⟨t,u,e,wd,y,rfl,rfl,gw⟩:=fnI_run (n:=6) (d:=d_l_any_word) (ts:=[x.t,.lst (names.map T.str)]) (Q:=fun t u=>∃ (wd:List Str) (y:Bag2),t=.lst (wd.map T.str)/\u=y.t/\GoodWord wd/\∀ x∈wd,x∈names) (by
  unfold d_l_any_word
  show Run _ [some x.t,some (.lst (names.map T.str)),none,none,none,none] _
  refine run_nx (s':=[some x.t,some (.lst (names.map T.str)),some (.lst ((List.range (2*names.length)).map nT)),none,none,none]) (by simp_all? [hr,e2,range_nT]) ?_
  have l1:=lc_encm (M:=[0]) (caps:=[none]) (fi:=dItA (dV 2)) (dg:=dGn 0) (fe:=dC (.str "")) (s:=[some x.t,some (.lst (names.map T.str)),some (.lst ((List.range (2*names.length)).map nT)),none,none,none]) (List.range (2*names.length)) nT (fun _=>.str "") (by simp_all? []) (by simp; lia) (fun z _=>⟨[some (nT z)],rfl,rfl,rfl⟩)
  have l2:(List.range (2*names.length)).map (fun _=>T.str "")=((List.replicate (2*names.length) none).map (nmO names)).map T.str:=by
   rw [List.map_replicate,List.map_replicate]
   refine (List.eq_replicate_iff (a:=T.str (Str.ofString ""))).mpr ⟨by simp,fun b hb=>?_⟩
   obtain ⟨_,_,h⟩:=List.mem_map.mp hb
   exact h.symm
  rw [l2] at l1
  refine run_nx (by simp_all? [l1]<;>rfl) ?_
  refine run_for (its:=names.map T.str) (fun i s=>∃ (y:Bag2) (fr:List Nat) (pl:List (Option Nat)) (a b:Option T),s=[some y.t,some (.lst (names.map T.str)),some (.lst (fr.map nT)),some (.lst ((pl.map (nmO names)).map T.str)),a,b]/\y.Ok/\fr.length+2*i=2*names.length/\fr.Nodup/\(∀ k∈fr,pl[k]?=some none)/\Half pl names.length i)
   (by simp_all? []<;>rfl) ⟨x,_,_,_,_,rfl,hx,by simp,List.nodup_range,fun k hk=>by rw [List.getElem?_replicate,if_pos (List.mem_range.mp hk)],Half.start _⟩ ?_ ?_
  ·rintro i z s hz ⟨y,fr,pl,a,b,rfl,oy,hl,hnd,hlt,hh⟩
   rw [List.getElem?_map] at hz
   obtain ⟨x,hx,rfl⟩:=Qm hz
   have hi:i < names.length:=(List.getElem?_eq_some_iff.mp hx).1
   refine ⟨_,by simp_all? []<;>rfl,?_⟩
   match fr,hl,hnd,hlt with
   | [],hl,_,_=>exact absurd hl (by simp; lia)
   | k0::fr,hl,hnd,hlt=>
   rw [List.length_cons] at hl
   rw [List.nodup_cons] at hnd
   have hk0:=hlt k0 (List.mem_cons_self ..)
   obtain ⟨u,y',eu,o',a',b'⟩:=draw_ex oy (fr.length:Int) (by lia) (by lia)
   have hu:u.toNat < fr.length:=by lia
   have hk1:=hlt fr[u.toNat] (List.mem_cons_of_mem _ (List.getElem_mem hu))
   have hne:k0≠fr[u.toNat]:=fun z=>hnd.1 (z▸List.getElem_mem hu)
   have hlen:=hh.len
   have q0:k0 < pl.length:=(List.getElem?_eq_some_iff.mp hk0).1
   have q1:fr[u.toNat] < pl.length:=(List.getElem?_eq_some_iff.mp hk1).1
   have hxn:x=nmO names (some i):=by
    show x=names.getD i Str.empty
    rw [getD_at hi]
    exact (Option.some.inj ((List.getElem?_eq_getElem hi).symm.trans hx)).symm
   have i0:=ixN_at (n:=pl.length) q0
   have i1:=ixN_at (n:=pl.length) q1
   have g0:gItem (.lst ((k0::fr).map nT)) (.int 0)=some (nT k0):=vItemL ((k0::fr).map nT) 0
   have lf:gLen (.lst ((k0::fr).map nT))=some (.int ((fr.length:Int)+1)):=by rw [vLenL,List.length_map,List.length_cons]; rfl
   have gu:gItem (.lst ((k0::fr).map nT)) (.int (1+u))=some (nT fr[u.toNat]):=by
    have:(1+u:Int)=((u.toNat+1:Nat):Int):=by lia
    rw [this,vItemL,List.map_cons,List.getElem?_cons_succ,List.getElem?_map,List.getElem?_eq_getElem hu]
    rfl
   have sl:gSlA (.lst ((k0::fr).map nT)) (some 1) none=some (.lst (fr.map nT)):=by
    show some (T.lst (cutT ((k0::fr).map nT) (some 1) none))=_
    rw [cut_map,cutT_from (k0::fr) (by lia) (by rw [List.length_cons]; lia)]; rfl
   generalize hFR:T.lst ((k0::fr).map nT)=FR at g0 lf gu sl
   refine run_nx (s':=[some y.t,some (.lst (names.map T.str)),some FR,some (.lst (((pl.set k0 (some i)).map (nmO names)).map T.str)),some (.str x),b]) (by simp_all? [g0,i0]; rw [List.map_set,List.map_set,<-hxn]) ?_
   refine run_nx (s':=[some y'.t,some (.lst (names.map T.str)),some FR,some (.lst (((pl.set k0 (some i)).map (nmO names)).map T.str)),some (.str x),some (.int ((fr[u.toNat]:Nat):Int))]) (by simp_all? [lf,Int.add_sub_cancel,eu,gu]) ?_
   refine run_nx (s':=[some y'.t,some (.lst (names.map T.str)),some FR,some (.lst ((((pl.set k0 (some i)).set fr[u.toNat] (some i)).map (nmO names)).map T.str)),some (.str x),some (.int ((fr[u.toNat]:Nat):Int))]) (by simp_all? [List.length_set,i1]; rw [List.map_set (l:=pl.set k0 (some i)),List.map_set (l:=(pl.set k0 (some i)).map (nmO names)),<-hxn]) ?_
   have l1:=lc_enc (M:=[0,3]) (caps:=[none,some 5]) (fi:=dItA (dSl gSlA (dV 2) (dOs (dC (.int 1))) dOn)) (dg:=dGn 0) (ft:=dB (d2 gNe (dV 0) (dV 1))) (fe:=dV 0) (s:=[some y'.t,some (.lst (names.map T.str)),some FR,some (.lst ((((pl.set k0 (some i)).set fr[u.toNat] (some i)).map (nmO names)).map T.str)),some (.str x),some (.int ((fr[u.toNat]:Nat):Int))]) fr nT (fun (k:Nat)=>!decide ((k:Int)=((fr[u.toNat]:Nat):Int))) nT (by simp_all? [sl]) (by lia) (fun k _=>⟨[some (nT k),some (.int ((fr[u.toNat]:Nat):Int))],rfl,by simp_all? [],fun _=>rfl,rfl⟩)
   have fe:(fr.filter fun (k:Nat)=>!decide ((k:Int)=((fr[u.toNat]:Nat):Int)))=fr.erase fr[u.toNat]:=by
    rw [hnd.2.erase_eq_filter]
    refine List.filter_congr fun k _=>?_
    by_cases h:k=fr[u.toNat]
    ·simp [h]
    ·have:¬ ((k:Int)=((fr[u.toNat]:Nat):Int)):=by lia
     simp [h,this]
   rw [fe] at l1
   refine run_onto (by simp_all? [l1]<;>rfl) ⟨y',fr.erase fr[u.toNat],(pl.set k0 (some i)).set fr[u.toNat] (some i),_,_,rfl,o',?_,hnd.2.sublist (List.erase_sublist),fun k hk=>?_,?_⟩
   ·rw [List.length_erase_of_mem (List.getElem_mem hu)]; lia
   ·have hk':k∈fr:=List.mem_of_mem_erase hk
    have n0:k0≠k:=fun z=>hnd.1 (z▸hk')
    have n1:fr[u.toNat]≠k:=fun z=>by
     rw [<-z] at hk
     exact hnd.2.not_mem_erase hk
    rw [List.getElem?_set_ne n1,List.getElem?_set_ne n0]
    exact hlt k (List.mem_cons_of_mem _ hk')
   ·exact hh.next hi hk1 hk0 (Ne.symm hne)
  ·rintro s ⟨y,fr,pl,a,b,rfl,oy,hl,hnd,hlt,hh⟩
   rw [List.length_map] at hh
   obtain ⟨ps,hp,rfl⟩:=hh.done
   have hg:=goodWord_of hn rfl hd hN hp
   refine ⟨_,by simp_all? []<;>rfl,_,_,_,rfl,_,_,rfl,rfl,?_,fun x hx=>?_⟩
   ·rw [List.map_map]; exact hg
   ·rw [List.map_map] at hx
    obtain ⟨k,hk,rfl⟩:=List.mem_map.mp hx
    have hk':=hp.lt k hk
    show names.getD k Str.empty∈names
    rw [getD_at hk']
    exact List.getElem_mem hk')
 exact ⟨wd,y,e,gw⟩
end Dw
set_option maxHeartbeats 2000000
namespace Dw
open PySem L2 L3
theorem item_letter{z:Int}(h0:0<=z)(h:z < 26):gItem (.str letters) (.int z)=some (.str (Sx [97+z.toNat])):=by
 simp only [gItem,orG,gIx,letters_len,if_true,letters_at h0 h,Option.map_some]
 rfl
theorem plus_txt(l m:List Nat)(h:l.length+m.length<=1000):gPlus (.str (Sx l)) (.str (Sx m))=some (.str (Sx (l++m))):=by
 rw [vPlusS (by rw [Sx_len,Sx_len]; lia),Sx_app]
def LowC(l:List Nat):Prop:=∀ c∈l,97<=c/\c<=122
theorem lowName{l:List Nat}(h:LowC l)(h1:1<=l.length)(h8:l.length<=8):IsName (Sx l):=by
 unfold IsName
 rw [Sx_len,Sx_cps]
 exact ⟨h1,h8,h⟩
theorem cutT_over{α:Type}(xs:List α){t:Int}(h:(xs.length:Int)<=t):cutT xs none (some t)=xs:=by
 unfold cutT HT.sIx
 simp only [List.drop_zero,Nat.sub_zero]
 rw [if_neg (by lia),Nat.min_eq_right (by lia),List.take_of_length_le (Nat.le_refl _)]
structure NmOk (mk:List Str) (m:Nat):Prop where
 nd:mk.Nodup
 nm:∀ x∈mk,IsName x
 len:mk.length<=m
theorem pow18:gPow (.int 10) (.int 18)=some (.int 1000000000000000000):=by rfl
def farC(l:List Nat)(r:Int)(k:Nat):List Nat:=l.take 6++[97+k / 5,97+(((k:Int)+r)%26).toNat]
theorem farC_inj{l:List Nat}{r:Int}{j k:Nat}(h:farC l r j=farC l r k)(hj:j < 31)(hk:k < 31):j=k:=by
 unfold farC at h
 have h2:=List.append_cancel_left h
 simp only [List.cons.injEq] at h2
 lia
theorem farC_ok{l:List Nat}{r:Int}{k:Nat}(hl:LowC l)(hk:k < 31):IsName (Sx (farC l r k)):=by
 refine lowName (fun c hc=>?_) (by unfold farC; simp) (by unfold farC; rw [List.length_append,List.length_take]; simp; lia)
 unfold farC at hc
 rcases List.mem_append.mp hc with q | q
 ·exact hl c (List.mem_of_mem_take q)
 ·simp only [List.mem_cons,List.not_mem_nil,or_false] at q
  lia
theorem letters_low:LowC letters.cps.toList:=by unfold LowC; decide +kernel
theorem names2_eq(c:Int){m:Nat}(hm:m<=30):∃ names:List Str,fn_l_names [.int c,.int m]=some (.lst (names.map T.str))/\names.length<=m/\names.Nodup/\∀ x∈names,IsName x:=by
 obtain ⟨sz,hsz⟩:∃ sz:Nat,1+c%8=(sz:Int):=⟨(1+c%8).toNat,by lia⟩
 obtain ⟨sp,hsp⟩:∃ sp:Nat,c / 3%(sz:Int)=(sp:Int):=⟨(c / 3%(sz:Int)).toNat,by rw [Int.toNat_of_nonneg (Int.emod_nonneg _ (by lia))]⟩
 have hspl:sp < sz:=by have:=Int.emod_lt_of_pos (c / 3) (show (0:Int) < sz by lia); lia
 obtain ⟨t,e,wd,rfl,gw⟩:=fnP_run (n:=11) (d:=d_l_names) (ts:=[.int c,.int m]) (Q:=fun t=>∃ wd:List Str,t=.lst (wd.map T.str)/\NmOk wd m) (by
  unfold d_l_names
  show Run _ [some (.int c),some (.int m),none,none,none,none,none,none,none,none,none] _
  refine run_nx (s':=[some (.int c),some (.int m),some (.str letters),none,none,none,none,none,none,none,none]) rfl ?_
  refine run_nx (s':=[some (.int c),some (.int m),some (.str letters),some (.int sz),none,none,none,none,none,none,none]) (by simp_all? [hsz]) ?_
  refine run_nx (s':=[some (.int c),some (.int m),some (.str letters),some (.int sz),some (.int (c / 8%1000000000000000000)),none,none,none,none,none,none]) (by simp_all? [pow18]) ?_
  refine run_nx (s':=[some (.int c),some (.int m),some (.str letters),some (.int sz),some (.int (c / 8%1000000000000000000)),some (.str (Sx [])),none,none,none,none,none]) rfl ?_
  refine run_for (its:=rangeT 0 sz) (fun i s=>∃ (l:List Nat) (r:Int) (a:Option T),s=[some (.int c),some (.int m),some (.str letters),some (.int sz),some (.int r),some (.str (Sx l)),a,none,none,none,none]/\l.length=i/\LowC l)
   (by simp_all? [rgOk_of (j:=(sz:Int)) (by lia) (by lia),Int.toNat_natCast]<;>rfl) ⟨[],_,none,rfl,rfl,fun c hc=>by cases hc⟩ ?_ ?_
  ·rintro i z s hz ⟨l,r,a,rfl,hl,hlo⟩
   obtain ⟨hi,rfl⟩:=range_get hz
   have b1:0<=r%26:=Int.emod_nonneg _ (by decide)
   have b2:r%26 < 26:=Int.emod_lt_of_pos _ (by decide)
   refine ⟨_,by simp_all? []<;>rfl,?_⟩
   refine run_nx (by simp_all? [item_letter b1 b2,plus_txt l [97+(r%26).toNat] (by simp; lia)]<;>rfl) ?_
   refine run_onto (by simp_all? []<;>rfl) ⟨_,_,_,rfl,by simp [hl],fun c hc=>?_⟩
   rcases List.mem_append.mp hc with q | q
   ·exact hlo c q
   ·have:c=97+(r%26).toNat:=by simpa using q
    lia
  rintro s ⟨l,r,a,rfl,hl,hlo⟩
  rw [range_len] at hl
  have lS:l.length<=sizeLine:=small_le (by lia)
  have sl:∀ k:Nat,k<=l.length->gSlA (.str (Sx l)) none (some (k:Int))=some (.str (Sx (l.take k))):=fun k hk=>by
   have:=Sx_to l (j:=(k:Int)) (by lia) (by lia)
   simp only [gSlA,gSlS,Sx_len,lS,if_true,this,Int.toNat_natCast]
  have sf:∀ k:Nat,k<=l.length->gSlA (.str (Sx l)) (some (k:Int)) none=some (.str (Sx (l.drop k))):=fun k hk=>by
   have:=Sx_from l (j:=(k:Int)) (by lia) (by lia)
   simp only [gSlA,gSlS,Sx_len,lS,if_true,this,Int.toNat_natCast]
  have s6:gSlA (.str (Sx l)) none (some 6)=some (.str (Sx (l.take 6))):=by
   by_cases h6:6<=l.length
   ·exact sl 6 h6
   ·have h7:Txt.slice (Sx l) none (some 6)=Sx (l.take 6):=by
     have k:∀ n:Nat,n < 6->(Builtin.Str.strSliceIndices none (some 6) 1 n).length=n:=by decide +kernel
     have k:=k l.length (by lia)
     unfold Txt.slice
     rw [Sx_len,k,List.take_of_length_le (by lia),if_pos (by simp)]
    simp only [gSlA,gSlS,Sx_len,lS,if_true,h7]
  refine run_nx (s':=[some (.int c),some (.int m),some (.str letters),some (.int sz),some (.int r),some (.str (Sx l)),a,some (.int sp),none,none,none]) (by simp_all? [hsp]) ?_
  refine run_nx (s':=[some (.int c),some (.int m),some (.str letters),some (.int sz),some (.int r),some (.str (Sx l)),a,some (.int sp),some (.lst (([]:List Str).map T.str)),none,none]) (by simp_all? []<;>rfl) ?_
  refine run_mid (fun s=>∃ mk,NmOk mk m/\s=[some (.int c),some (.int m),some (.str letters),some (.int sz),some (.int r),some (.str (Sx l)),a,some (.int sp),some (.lst (mk.map T.str)),none,none]) ?_ ?_
  ·by_cases h1:c / 5%3=1
   ·have r12:rgOk 1=true/\rgOk ((sz:Int)+1)=true:=⟨rgOk_of (by decide) (by decide),rgOk_of (by lia) (by lia)⟩
    have e3:((sz:Int)+1 - 1).toNat=sz:=by lia
    have er:rangeT 1 sz=(List.range sz).map fun k=>nT (k+1):=by
     unfold rangeT
     refine List.map_congr_left fun k _=>?_
     rw [vnT]; congr 1; lia
    have l1:=lc_encm (M:=[8]) (caps:=[none,some 5]) (fi:=dRg2 (dAc (dC (.int 1)) (dAc (d2 gPlus (dV 3) (dC (.int 1))) dAn))) (dg:=dGn 0) (fe:=dSl gSlA (dV 1) dOn (dOs (dV 0))) (s:=[some (.int c),some (.int m),some (.str letters),some (.int sz),some (.int r),some (.str (Sx l)),a,some (.int sp),some (.lst (([]:List Str).map T.str)),none,none]) (List.range sz) (fun k=>nT (k+1)) (fun k=>.str (Sx (l.take (k+1)))) (by simp_all? [r12,and_self,e3,er]) (by simp; lia) (by
     intro k hk
     have hk':=List.mem_range.mp hk
     refine ⟨_,by simp_all? []<;>rfl,?_,rfl⟩
     simp_all? [sl (k+1) (by lia)])
    have l2:(List.range sz).map (fun k=>T.str (Sx (l.take (k+1))))=((List.range sz).map fun k=>Sx (l.take (k+1))).map T.str:=by rw [List.map_map]; rfl
    rw [l2] at l1
    have hmx:∀ mk:List Str,gSl (.lst (mk.map T.str)) none (some (m:Int))=some (.lst ((mk.take m).map T.str)):=fun mk=>by
     show some (T.lst (cutT (mk.map T.str) none (some (m:Int))))=_
     rw [cut_map]
     by_cases hq:m<=mk.length
     ·rw [cutT_to mk (by lia) (by lia),Int.toNat_natCast]
     ·rw [cutT_over mk (by lia),List.take_of_length_le (by lia)]
    refine run_end (r:=.nx _) (by simp_all? [decide_eq_true h1,l1,hmx]<;>rfl) ⟨_,⟨?_,fun x hx=>?_,?_⟩,rfl⟩
    ·refine List.Pairwise.sublist (List.take_sublist _ _) (List.Pairwise.map _ (R:=fun a b=>a≠b/\a < sz/\b < sz) (fun a b ⟨n,ha,hb⟩ z=>n ?_) (List.Pairwise.imp_of_mem (R:=fun a b=>a≠b) (fun {a b} ha hb n=>⟨n,List.mem_range.mp ha,List.mem_range.mp hb⟩) List.nodup_range))
     have:=congrArg List.length (Sx_inj z)
     rw [List.length_take,List.length_take] at this
     lia
    ·obtain ⟨k,hk,rfl⟩:=List.mem_map.mp (List.mem_of_mem_take hx)
     have hk':=List.mem_range.mp hk
     exact lowName (fun c hc=>hlo c (List.mem_of_mem_take hc)) (by rw [List.length_take]; lia) (by rw [List.length_take]; lia)
    ·rw [List.length_take]; lia
   ·exact run_end (r:=.nx _) (by simp_all? [decide_eq_false h1]<;>rfl) ⟨[],⟨List.nodup_nil,(fun x hx=>by cases hx),by simp⟩,rfl⟩
  rintro s ⟨mk,hmk,rfl⟩
  refine run_mid (fun s=>∃ mk,NmOk mk m/\s=[some (.int c),some (.int m),some (.str letters),some (.int sz),some (.int r),some (.str (Sx l)),a,some (.int sp),some (.lst (mk.map T.str)),none,none]) ?_ ?_
  ·have far:∀ s:Sg,s=[some (.int c),some (.int m),some (.str letters),some (.int sz),some (.int r),some (.str (Sx l)),a,some (.int sp),some (.lst (mk.map T.str)),none,none]->dLC [8] [none,some 2,some 5,some 4] (dRg1 (dAc (dV 1) dAn)) (dGn 0) dYes (d2 gPlus (d2 gPlus (dSl gSlA (dV 2) dOn (dOs (dC (.int 6)))) (d2 gItem (dV 1) (d2 gDiv (dV 0) (dC (.int 5))))) (d2 gItem (dV 1) (d2 gMod (d2 gPlus (dV 0) (dV 3)) (dC (.int 26))))) s=some (.lst (((List.range m).map fun k=>Sx (farC l r k)).map T.str),s):=by
    rintro s rfl
    have l1:=lc_encm (M:=[8]) (caps:=[none,some 2,some 5,some 4]) (fi:=dRg1 (dAc (dV 1) dAn)) (dg:=dGn 0) (fe:=d2 gPlus (d2 gPlus (dSl gSlA (dV 2) dOn (dOs (dC (.int 6)))) (d2 gItem (dV 1) (d2 gDiv (dV 0) (dC (.int 5))))) (d2 gItem (dV 1) (d2 gMod (d2 gPlus (dV 0) (dV 3)) (dC (.int 26))))) (s:=[some (.int c),some (.int m),some (.str letters),some (.int sz),some (.int r),some (.str (Sx l)),a,some (.int sp),some (.lst (mk.map T.str)),none,none]) (List.range m) nT (fun k=>.str (Sx (farC l r k))) (by simp_all? [rgN (k:=m) (by lia),Int.toNat_natCast,range_nT]) (by simp; lia) (by
     intro k hk
     have hk':=List.mem_range.mp hk
     have x1:=item_letter (z:=(k:Int) / 5) (by lia) (by lia)
     have x2:=item_letter (z:=((k:Int)+r)%26) (Int.emod_nonneg _ (by decide)) (Int.emod_lt_of_pos _ (by decide))
     have n1:((k:Int) / 5).toNat=k / 5:=by lia
     rw [n1] at x1
     have p1:=plus_txt (l.take 6) [97+k / 5] (by simp; lia)
     have p2:=plus_txt (l.take 6++[97+k / 5]) [97+(((k:Int)+r)%26).toNat] (by simp; lia)
     rw [List.append_assoc] at p2
     refine ⟨[some (nT k),some (.str letters),some (.str (Sx l)),some (.int r)],rfl,?_,rfl⟩
     simp_all? [s6,x1,p1,x2,p2]<;>rfl)
    rw [show (List.range m).map (fun k=>T.str (Sx (farC l r k)))=((List.range m).map fun k=>Sx (farC l r k)).map T.str by rw [List.map_map]; rfl] at l1
    exact l1
   have far:=far _ rfl
   by_cases h2:c / 5%3=2∨(24:Int) < m
   ·have ok:NmOk ((List.range m).map fun k=>Sx (farC l r k)) m:=by
     refine ⟨List.Pairwise.map _ (R:=fun a b=>a≠b/\a < 31/\b < 31) (fun a b ⟨n,ha,hb⟩ z=>n (farC_inj (Sx_inj z) ha hb)) (List.Pairwise.imp_of_mem (R:=fun a b=>a≠b) (fun {a b} ha hb n=>⟨n,by have:=List.mem_range.mp ha; lia,by have:=List.mem_range.mp hb; lia⟩) List.nodup_range),fun x hx=>?_,by simp⟩
     obtain ⟨k,hk,rfl⟩:=List.mem_map.mp hx
     exact farC_ok hlo (by have:=List.mem_range.mp hk; lia)
    refine run_end (r:=.nx _) ?_ ⟨_,ok,rfl⟩
    by_cases h3:c / 5%3=2
    ·simp_all? [decide_eq_true h3,far]
    ·simp_all? [decide_eq_false h3,decide_eq_true (show (24:Int) < m by lia),far]
   ·exact run_end (r:=.nx _) (by simp_all? [decide_eq_false (show ¬ c / 5%3=2 by lia),decide_eq_false (show ¬ (24:Int) < m by lia)]<;>rfl) ⟨mk,hmk,rfl⟩
  rintro s ⟨mk,hmk,rfl⟩
  refine run_for (its:=letters.cps.toList.map signT) (fun i s=>∃ (mk:List Str) (a g h:Option T),s=[some (.int c),some (.int m),some (.str letters),some (.int sz),some (.int r),some (.str (Sx l)),a,some (.int sp),some (.lst (mk.map T.str)),g,h]/\NmOk mk m)
   (by simp_all? []<;>rfl) ⟨mk,a,none,none,rfl,hmk⟩ ?_ ?_
  ·rintro i z s hz ⟨mk,a,g,h,rfl,hmk⟩
   rw [List.getElem?_map] at hz
   obtain ⟨ch,hch,rfl⟩:=Qm hz
   have lch:=letters_low ch (List.mem_of_getElem? hch)
   have es:signT ch=.str (Sx [ch]):=rfl
   rw [es]
   refine ⟨_,rfl,?_⟩
   have p1:=plus_txt (l.take sp) [ch] (by simp; lia)
   have p2:=plus_txt (l.take sp++[ch]) (l.drop (sp+1)) (by simp; lia)
   refine run_nx (s':=[some (.int c),some (.int m),some (.str letters),some (.int sz),some (.int r),some (.str (Sx l)),a,some (.int sp),some (.lst (mk.map T.str)),some (.str (Sx [ch])),some (.str (Sx (l.take sp++[ch]++l.drop (sp+1))))]) (by
    have sf1:gSlA (.str (Sx l)) (some ((sp:Int)+1)) none=some (.str (Sx (l.drop (sp+1)))):=sf (sp+1) (by lia)
    simp_all? [sl sp (by lia),p1,sf1,p2]) ?_
   have nmx:IsName (Sx (l.take sp++[ch]++l.drop (sp+1))):=by
    have hlen:(l.take sp++[ch]++l.drop (sp+1)).length=sz:=by
     simp only [List.length_append,List.length_take,List.length_drop,List.length_cons,List.length_nil]
     lia
    refine lowName (fun c hc=>?_) (by lia) (by lia)
    simp only [List.mem_append,List.mem_cons,List.not_mem_nil,or_false] at hc
    rcases hc with (q | q) | q
    ·exact hlo c (List.mem_of_mem_take q)
    ·rw [q]; exact lch
    ·exact hlo c (List.mem_of_mem_drop q)
   generalize Sx (l.take sp++[ch]++l.drop (sp+1))=nx at nmx
   have hml:=hmk.len
   by_cases hlt:(mk.length:Int) < m
   ·by_cases hin:nx∈mk
    ·exact run_onto (by simp_all? [decide_eq_true hlt,decide_eq_true hin]<;>rfl) ⟨mk,_,_,_,rfl,hmk⟩
    ·refine run_onto (by simp_all? [decide_eq_true hlt,decide_eq_false hin]<;>rfl) ⟨mk++[nx],_,_,_,rfl,⟨?_,fun x hx=>?_,by rw [List.length_append,List.length_singleton]; lia⟩⟩
     ·rw [List.nodup_append]
      exact ⟨hmk.nd,by simp,fun a ha b hb e=>hin (by rw [List.mem_singleton] at hb; subst hb; subst e; exact ha)⟩
     ·rcases List.mem_append.mp hx with q | q
      ·exact hmk.nm x q
      ·rw [List.mem_singleton.mp q]; exact nmx
   ·exact run_onto (by simp_all? [decide_eq_false hlt]<;>rfl) ⟨mk,_,_,_,rfl,hmk⟩
  rintro s ⟨mk,a,g,h,rfl,hmk⟩
  exact ⟨_,by simp_all? []<;>rfl,_,_,rfl,mk,rfl,hmk⟩)
 exact ⟨wd,e,gw.len,gw.nd,gw.nm⟩
end Dw
set_option maxHeartbeats 1000000
namespace Dw
open PySem L2 L3
def shp:List (List Nat):=[[0,0],[0,1,2,0,1,2],[0,1,2,0,3,2,1,3],[0,1,2,3,4,0,1,2,3,4],[0,1,1,0],[0,1,2,3,4,2,1,0,3,4],[0,1,2,3,1,0,3,2]]
def tL(l:List Nat):T:=.lst (l.map nT)
def shpT:T:=.lst (shp.map tL)
theorem shp_ok:∀ k,k < 7->∃ sh m,shp[k]?=some sh/\Pairing sh m/\1<=m/\m<=5/\gMaxI (tL sh)=some (.int ((m:Int) - 1))
 | 0,_=>⟨_,1,rfl,.of_dec rfl rfl rfl,by lia,by lia,rfl⟩
 | 1,_=>⟨_,3,rfl,.of_dec rfl rfl rfl,by lia,by lia,rfl⟩
 | 2,_=>⟨_,4,rfl,.of_dec rfl rfl rfl,by lia,by lia,rfl⟩
 | 3,_=>⟨_,5,rfl,.of_dec rfl rfl rfl,by lia,by lia,rfl⟩
 | 4,_=>⟨_,2,rfl,.of_dec rfl rfl rfl,by lia,by lia,rfl⟩
 | 5,_=>⟨_,5,rfl,.of_dec rfl rfl rfl,by lia,by lia,rfl⟩
 | 6,_=>⟨_,4,rfl,.of_dec rfl rfl rfl,by lia,by lia,rfl⟩
 | k+7,h=>absurd h (by lia)
def lenB4:T->Nat
 | .lst xs=>xs.length
 | _=>0
def left4(s:Sg):Nat:=lenB4 ((s[4]?).join.getD .non)
theorem built_eq{x:Bag2}(hx:x.Ok){names:List Str}(hn:names.length<=30)(hd:names.Nodup)(hN:∀ x∈names,IsName x):∃ (wd:List Str) (y:Bag2),fn_l_built_word [x.t,.lst (names.map T.str)]=some (.lst (wd.map T.str),y.t)/\GoodWord wd/\∀ x∈wd,x∈names:=by
 obtain ⟨t,u,e,wd,y,rfl,rfl,gw⟩:=fnI_run (n:=7) (d:=d_l_built_word) (ts:=[x.t,.lst (names.map T.str)]) (Q:=fun t u=>∃ (wd:List Str) (y:Bag2),t=.lst (wd.map T.str)/\u=y.t/\GoodWord wd/\∀ x∈wd,x∈names) (by
  unfold d_l_built_word
  show Run _ [some x.t,some (.lst (names.map T.str)),none,none,none,none,none] _
  refine run_nx (s':=[some x.t,some (.lst (names.map T.str)),some (.lst ((shp.take 5).map tL)),none,none,none,none]) (by rfl) ?_
  refine run_nx (s':=[some x.t,some (.lst (names.map T.str)),some shpT,none,none,none,none]) (by rfl) ?_
  refine run_nx (s':=[some x.t,some (.lst (names.map T.str)),some shpT,some (.lst ((([]:List Nat).map fun k=>names.getD k Str.empty).map T.str)),none,none,none]) (by simp_all? []<;>rfl) ?_
  refine run_nx (s':=[some x.t,some (.lst (names.map T.str)),some shpT,some (.lst ((([]:List Nat).map fun k=>names.getD k Str.empty).map T.str)),some (.lst ((names.drop 0).map T.str)),none,none]) (by simp_all? []<;>rfl) ?_
  refine run_while (fun s=>∃ (y:Bag2) (ps:List Nat) (c:Nat) (a b:Option T),s=[some y.t,some (.lst (names.map T.str)),some shpT,some (.lst ((ps.map fun k=>names.getD k Str.empty).map T.str)),some (.lst ((names.drop c).map T.str)),a,b]/\y.Ok/\Pairing ps c/\c<=names.length)
   left4 (by show ((names.drop 0).map T.str).length < 100; simp; lia) ⟨x,[],0,_,_,rfl,hx,.nil,by lia⟩ ?_ ?_
  ·rintro s ⟨y,ps,c,a,b,rfl,oy,hp,hc⟩
   refine ⟨decide (c < names.length),[some y.t,some (.lst (names.map T.str)),some shpT,some (.lst ((ps.map fun k=>names.getD k Str.empty).map T.str)),some (.lst ((names.drop c).map T.str)),a,b],?_,?_⟩
   ·simp_all? []
    congr 3
    simp
    lia
   rcases Nat.lt_or_ge c names.length with hlt | hlt
   case inr=>rw [if_neg (by simpa using hlt)]; trivial
   rw [if_pos (by simpa using hlt)]
   obtain ⟨z,y1,e1,o1,a1,b1⟩:=draw_ex oy 7 (by decide) (by decide)
   obtain ⟨k,rfl⟩:∃ k:Nat,z=(k:Int):=⟨z.toNat,by lia⟩
   obtain ⟨sh0,m0,at0,hp0,hm0,hm0',gm0⟩:=shp_ok k (by lia)
   have i0:gItem shpT (.int (k:Int))=some (tL sh0):=by
    unfold shpT
    rw [vItemL,List.getElem?_map,at0]; rfl
   have i00:gItem shpT (.int 0)=some (tL [0,0]):=rfl
   have hpl:=hp.len
   have hl4:gLen (.lst ((names.drop c).map T.str))=some (.int ((names.length - c:Nat):Int)):=by rw [vLenL,List.length_map,List.length_drop]
   refine run_nx (s':=[some y1.t,some (.lst (names.map T.str)),some shpT,some (.lst ((ps.map fun k=>names.getD k Str.empty).map T.str)),some (.lst ((names.drop c).map T.str)),some (tL sh0),b]) (by simp_all? [e1,i0]) ?_
   refine run_mid (fun s=>∃ sh m,s=[some y1.t,some (.lst (names.map T.str)),some shpT,some (.lst ((ps.map fun k=>names.getD k Str.empty).map T.str)),some (.lst ((names.drop c).map T.str)),some (tL sh),b]/\Pairing sh m/\1<=m/\m<=5/\c+m<=names.length/\gMaxI (tL sh)=some (.int ((m:Int) - 1))) ?_ ?_
   ·by_cases hg:c+m0<=names.length
    ·exact run_end (r:=.nx _) (by simp_all? [gm0,hl4,decide_eq_false (show ¬ ((names.length - c:Nat):Int)<=(m0:Int) - 1 by lia)]<;>rfl) ⟨sh0,m0,rfl,hp0,hm0,hm0',hg,gm0⟩
    ·exact run_end (r:=.nx _) (by simp_all? [gm0,hl4,i00,decide_eq_true (show ((names.length - c:Nat):Int)<=(m0:Int) - 1 by lia)]<;>rfl) ⟨[0,0],1,rfl,.of_dec rfl rfl rfl,by lia,by lia,by lia,rfl⟩
   rintro s ⟨sh,m,rfl,hps,hm1,hm2,hcm,gm⟩
   have hsl:=hps.len
   obtain ⟨z2,y2,e2,o2,a2,b2⟩:=draw_ex o1 ((ps.length:Int)+1) (by lia) (by lia)
   obtain ⟨p,rfl⟩:∃ p:Nat,z2=(p:Int):=⟨z2.toNat,by lia⟩
   refine run_nx (s':=[some y2.t,some (.lst (names.map T.str)),some shpT,some (.lst ((ps.map fun k=>names.getD k Str.empty).map T.str)),some (.lst ((names.drop c).map T.str)),some (tL sh),some (.int (p:Int))]) (by simp_all? [e2]) ?_
   have l1:=lc_encm (M:=[0]) (caps:=[none,some 4]) (fi:=dItA (dV 5)) (dg:=dGn 0) (fe:=d2 gItem (dV 1) (dV 0)) (s:=[some y2.t,some (.lst (names.map T.str)),some shpT,some (.lst ((ps.map fun k=>names.getD k Str.empty).map T.str)),some (.lst ((names.drop c).map T.str)),some (tL sh),some (.int (p:Int))]) sh nT (fun k=>T.str (names.getD (c+k) Str.empty)) (by unfold tL; simp_all? []) (by lia) (by
    intro k hk
    have hk':=hps.lt k hk
    refine ⟨[some (nT k),some (.lst ((names.drop c).map T.str))],rfl,?_,rfl⟩
    have:gItem (.lst ((names.drop c).map T.str)) (.int (k:Int))=some (.str (names.getD (c+k) Str.empty)):=by
     rw [vItemL,List.getElem?_map,List.getElem?_drop,List.getElem?_eq_getElem (by lia),getD_at (by lia)]; rfl
    simp_all? [this])
   have l2:sh.map (fun k=>T.str (names.getD (c+k) Str.empty))=((sh.map fun k=>c+k).map fun k=>names.getD k Str.empty).map T.str:=by rw [List.map_map,List.map_map]; rfl
   rw [l2] at l1
   have c1:gSlA (.lst ((ps.map fun k=>names.getD k Str.empty).map T.str)) none (some (p:Int))=some (.lst (((ps.take p).map fun k=>names.getD k Str.empty).map T.str)):=by
    show some (T.lst (cutT _ none (some (p:Int))))=_
    rw [cut_map,cut_map,cutT_to ps (by lia) (by lia),Int.toNat_natCast]
   have c2:gSlA (.lst ((ps.map fun k=>names.getD k Str.empty).map T.str)) (some (p:Int)) none=some (.lst (((ps.drop p).map fun k=>names.getD k Str.empty).map T.str)):=by
    show some (T.lst (cutT _ (some (p:Int)) none))=_
    rw [cut_map,cut_map,cutT_from ps (by lia) (by lia),Int.toNat_natCast]
   have c3:gSlA (.lst ((names.drop c).map T.str)) (some (m:Int)) none=some (.lst ((names.drop (c+m)).map T.str)):=by
    show some (T.lst (cutT _ (some (m:Int)) none))=_
    rw [cut_map,cutT_from (names.drop c) (by lia) (by rw [List.length_drop]; lia),Int.toNat_natCast,List.drop_drop]
   have c4:(m:Int) - 1+1=m:=by lia
   have p1:gPlus (.lst (((ps.take p).map fun k=>names.getD k Str.empty).map T.str)) (.lst (((sh.map fun k=>c+k).map fun k=>names.getD k Str.empty).map T.str))=some (.lst (((ps.take p++sh.map fun k=>c+k).map fun k=>names.getD k Str.empty).map T.str)):=by
    rw [vPlusL (by simp; lia),<-List.map_append,<-List.map_append]
   have p2:gPlus (.lst (((ps.take p++sh.map fun k=>c+k).map fun k=>names.getD k Str.empty).map T.str)) (.lst (((ps.drop p).map fun k=>names.getD k Str.empty).map T.str))=some (.lst (((ps.take p++(sh.map fun k=>c+k)++ps.drop p).map fun k=>names.getD k Str.empty).map T.str)):=by
    rw [vPlusL (by simp; lia),<-List.map_append,<-List.map_append]
   refine run_nx (s':=[some y2.t,some (.lst (names.map T.str)),some shpT,some (.lst (((ps.take p++(sh.map fun k=>c+k)++ps.drop p).map fun k=>names.getD k Str.empty).map T.str)),some (.lst ((names.drop c).map T.str)),some (tL sh),some (.int (p:Int))]) (by simp_all? [c1,l1,p1,c2,p2]) ?_
   refine run_onto (s':=[some y2.t,some (.lst (names.map T.str)),some shpT,some (.lst (((ps.take p++(sh.map fun k=>c+k)++ps.drop p).map fun k=>names.getD k Str.empty).map T.str)),some (.lst ((names.drop (c+m)).map T.str)),some (tL sh),some (.int (p:Int))]) (by simp_all? [gm,c4,c3]) ⟨⟨y2,_,c+m,_,_,rfl,o2,hp.put hps,hcm⟩,?_⟩
   show ((names.drop (c+m)).map T.str).length < ((names.drop c).map T.str).length
   rw [List.length_map,List.length_map,List.length_drop,List.length_drop]
   lia
  ·rintro s0 s' ⟨y,ps,c,a,b,rfl,oy,hp,hc⟩ hf
   have hcc:c=names.length:=by
    have e:(dB (d2 gGt (d1 gLen (dV 4)) (dC (.int 0)))) [some y.t,some (.lst (names.map T.str)),some shpT,some (.lst ((ps.map fun k=>names.getD k Str.empty).map T.str)),some (.lst ((names.drop c).map T.str)),a,b]=some (decide (0 < ((names.drop c).map T.str).length),[some y.t,some (.lst (names.map T.str)),some shpT,some (.lst ((ps.map fun k=>names.getD k Str.empty).map T.str)),some (.lst ((names.drop c).map T.str)),a,b]):=by
     simp_all? []
     congr 3
     simp
    rw [e] at hf
    have:=congrArg Prod.fst (Option.some.inj hf)
    have:=of_decide_eq_false this
    simp at this
    lia
   subst hcc
   have hs':s'=[some y.t,some (.lst (names.map T.str)),some shpT,some (.lst ((ps.map fun k=>names.getD k Str.empty).map T.str)),some (.lst ((names.drop names.length).map T.str)),a,b]:=by
    have e:(dB (d2 gGt (d1 gLen (dV 4)) (dC (.int 0)))) [some y.t,some (.lst (names.map T.str)),some shpT,some (.lst ((ps.map fun k=>names.getD k Str.empty).map T.str)),some (.lst ((names.drop names.length).map T.str)),a,b]=some (decide (((0:Int) < ((names.drop names.length).map T.str).length)),[some y.t,some (.lst (names.map T.str)),some shpT,some (.lst ((ps.map fun k=>names.getD k Str.empty).map T.str)),some (.lst ((names.drop names.length).map T.str)),a,b]):=by simp_all? []
    rw [e] at hf
    exact (congrArg Prod.snd (Option.some.inj hf)).symm
   subst hs'
   have hg:=goodWord_of hn rfl hd hN hp
   refine ⟨_,by simp_all? []<;>rfl,_,_,_,rfl,_,_,rfl,rfl,hg,fun x hx=>?_⟩
   obtain ⟨k,hk,rfl⟩:=List.mem_map.mp hx
   have hk':=hp.lt k hk
   rw [getD_at hk']
   exact List.getElem_mem hk')
 exact ⟨wd,y,e,gw⟩
theorem word2_eq(c:Int){names:List Str}(hn:names.length<=30)(hd:names.Nodup)(hN:∀ x∈names,IsName x):∃ wd:List Str,fn_l_word [.int c,.lst (names.map T.str)]=some (.lst (wd.map T.str))/\GoodWord wd/\∀ x∈wd,x∈names:=by
 have c8:∃ n8:List Str,gSlA (.lst (names.map T.str)) none (some 8)=some (.lst (n8.map T.str))/\n8.length<=30/\n8.Nodup/\(∀ x∈n8,x∈names):=by
  by_cases h8:8<=names.length
  ·refine ⟨names.take 8,?_,by rw [List.length_take]; lia,hd.sublist (List.take_sublist _ _),fun x hx=>List.mem_of_mem_take hx⟩
   show some (T.lst (cutT _ none (some 8)))=_
   rw [cut_map,cutT_to names (by lia) (by lia)]; rfl
  ·refine ⟨names,?_,hn,hd,fun x hx=>hx⟩
   show some (T.lst (cutT _ none (some 8)))=_
   rw [cut_map,cutT_over names (by lia)]
 obtain ⟨n8,e8,l8,d8,s8⟩:=c8
 obtain ⟨B,eb,ob⟩:=bag2_eq c
 obtain ⟨B2,eb2,ob2⟩:=bag2_eq (c / 2)
 obtain ⟨w1,y1,e1,g1,s1⟩:=any_eq ob l8 d8 (fun x hx=>hN x (s8 x hx))
 obtain ⟨w2,y2,e2,g2,s2⟩:=built_eq ob2 hn hd hN
 by_cases h:c%2=1
 ·refine ⟨w1,?_,g1,fun x hx=>s8 x (s1 x hx)⟩
  refine fnP_eq ?_
  show Run d_l_word [some (.int c),some (.lst (names.map T.str))] _
  exact run_retq (s':=[some (.int c),some (.lst (names.map T.str))]) (by simp_all? [decide_eq_true h,eb,e8,e1]) rfl
 ·refine ⟨w2,?_,g2,s2⟩
  refine fnP_eq ?_
  show Run d_l_word [some (.int c),some (.lst (names.map T.str))] _
  refine run_nx (s':=[some (.int c),some (.lst (names.map T.str))]) (by simp_all? [decide_eq_false h]) ?_
  exact run_ret (s':=[some (.int c),some (.lst (names.map T.str))]) (by simp_all? [eb2,e2]) rfl
end Dw
namespace Dw
open PySem L2 L3
theorem standings_eq{wd:List Str}(h:wd.length<=1000)(x:Str):fn_p_standings [.lst (wd.map T.str),.str x]=some (.lst ((placesOf wd x).map nT)):=by
 have e:=lc_enc (M:=[]) (caps:=[none,none,some 1]) (fi:=dEn (dAc (dV 0) dAn)) (dg:=dGt [0,1]) (ft:=dB (d2 gEq (dV 1) (dV 2))) (fe:=dV 0) (s:=[some (.lst (wd.map T.str)),some (.str x)]) wd.zipIdx (fun p=>T.tup [.int (p.2:Nat),.str p.1]) (fun p=>decide (p.1=x)) (fun p=>nT p.2) (by simp_all? [enum_map]) (by simp; lia) (by
  intro p hp
  refine ⟨_,by simp_all? []<;>rfl,by simp_all? [],fun _=>by simp_all? [],rfl⟩)
 have e2:(wd.zipIdx.filter fun p=>decide (p.1=x)).map (fun p=>nT p.2)=(placesOf wd x).map nT:=by
  rw [show (fun (p:Str × Nat)=>nT p.2)=nT∘Prod.snd from rfl,<-List.map_map]
  congr 1
  unfold placesOf
  refine (?_:_=(List.range wd.length).filter _)
  have q:∀ (l:List Str) (n:Nat) (g:Nat->Bool),(∀ j (hj:j < l.length),g (n+j)=decide (l[j]=x))->((l.zipIdx n).filter fun p=>decide (p.1=x)).map Prod.snd=((List.range l.length).map (n+·)).filter g:=by
   intro l
   induction l with
   | nil=>intro n g _; rfl
   | cons y l ih=>
    intro n g hg
    have h0:=hg 0 (by simp)
    rw [List.zipIdx_cons,List.filter_cons,List.length_cons,List.range_succ_eq_map,List.map_cons,List.filter_cons]
    have hr:=ih (n+1) g (fun j hj=>by have:=hg (j+1) (by simp; lia); rw [show n+1+j=n+(j+1) by lia]; simpa using this)
    have hm:(List.map (fun x=>n+x) (List.map Nat.succ (List.range l.length)))=(List.range l.length).map (fun x=>n+1+x):=by
     rw [List.map_map]; refine List.map_congr_left fun j _=>?_
     show n+(j+1)=n+1+j; lia
    rw [hm]
    have h0':g (n+0)=decide (y=x):=by simpa using h0
    simp only [Nat.add_zero] at h0' ⊢
    rw [h0']
    by_cases hy:y=x
    ·simp only [hy,decide_true,if_true,List.map_cons,hr]
    ·simp only [hy,decide_false,Bool.false_eq_true,if_false,hr]
  have:=q wd 0 (fun j=>decide (wd[j]?=some x)) (fun j hj=>by rw [Nat.zero_add,List.getElem?_eq_getElem hj]; simp)
  rw [this]
  congr 1
  simp
 rw [e2] at e
 refine fnP_eq ?_
 show Run d_p_standings [some (.lst (wd.map T.str)),some (.str x)] _
 unfold d_p_standings
 exact run_ret (by simp_all? [e]<;>rfl) rfl
end Dw
namespace Dw
open PySem L2 L3
def rowN(r:List Nat):T:=.lst (r.map nT)
def steps(f:Nat->Nat)(k s:Nat):List Nat:=(List.range k).map fun i=>itr f i s
theorem steps_succ(f:Nat->Nat)(k s:Nat):steps f (k+1) s=steps f k s++[itr f k s]:=by unfold steps; rw [List.range_succ,List.map_append]; rfl
theorem steps_all{f:Nat->Nat}{k s:Nat}(h:itr f k s∈steps f k s):∀ m,itr f m s∈steps f k s:=by
 obtain ⟨i,hi,e⟩:=List.mem_map.mp h
 have hi:=List.mem_range.mp hi
 intro m
 induction m using Nat.strongRecOn with
 | _ m ih=>
  by_cases hm:m < k
  ·exact List.mem_map.mpr ⟨m,List.mem_range.mpr hm,rfl⟩
  ·have e1:itr f m s=itr f (m - k+i) s:=by
    rw [itr_add,e,<-itr_add,show m - k+k=m by lia]
   rw [e1]
   exact ih _ (by lia)
def RowAt(f:Nat->Nat)(s:Nat)(r:List Nat):Prop:=∃ k,r=steps f k s/\0 < k/\(steps f k s).Nodup/\itr f k s∈steps f k s
structure RowsL (f:Nat->Nat) (rows:List (List Nat)) (L:List Nat) (s:Nat):Prop where
 len:rows.length=L.length
 lt:∀ x∈L,x < s
 srt:L.Pairwise fun x y=>x < y
 row:∀ (i x:Nat) (r:List Nat),L[i]?=some x->rows[i]?=some r->RowAt f x r
 le:∀ x,x < s->∃ t∈L,t<=x/\Orb f t x
theorem RowsL.nil(f:Nat->Nat):RowsL f [] [] 0:=⟨rfl,fun x hx=>(by cases hx),.nil,fun i x r h=>by simp at h,fun x hx=>by lia⟩
theorem RowsL.skip{f:Nat->Nat}{rows:List (List Nat)}{L:List Nat}{s:Nat}(h:RowsL f rows L s)(hs:∃ t∈L,Orb f t s):RowsL f rows L (s+1):=
 ⟨h.len,fun x hx=>Nat.lt_succ_of_lt (h.lt x hx),h.srt,h.row,fun x hx=>by
  by_cases q:x=s
  ·obtain ⟨t,ht,o⟩:=hs
   exact ⟨t,ht,by rw [q]; exact Nat.le_of_lt (h.lt t ht),by rw [q]; exact o⟩
  ·exact h.le x (by lia)⟩
theorem RowsL.snoc{f:Nat->Nat}{rows:List (List Nat)}{L:List Nat}{s:Nat}{r:List Nat}(h:RowsL f rows L s)(hr:RowAt f s r):RowsL f (rows++[r]) (L++[s]) (s+1):=by
 refine ⟨by rw [List.length_append,List.length_append,h.len]; rfl,fun x hx=>?_,?_,fun i x r' hx hr'=>?_,fun x hx=>?_⟩
 ·rcases List.mem_append.mp hx with q | q
  ·exact Nat.lt_succ_of_lt (h.lt x q)
  ·rw [List.mem_singleton.mp q]; exact Nat.lt_succ_self s
 ·rw [List.pairwise_append]
  exact ⟨h.srt,by simp,fun x hx y hy=>by rw [List.mem_singleton.mp hy]; exact h.lt x hx⟩
 ·by_cases q:i < L.length
  ·rw [List.getElem?_append_left q] at hx
   rw [List.getElem?_append_left (by rw [h.len]; exact q)] at hr'
   exact h.row i x r' hx hr'
  ·have hi:i=L.length:=by
    have:=(List.getElem?_eq_some_iff.mp hx).1
    rw [List.length_append,List.length_singleton] at this
    lia
   subst hi
   rw [List.getElem?_append_right (Nat.le_refl _),Nat.sub_self] at hx
   rw [<-h.len,List.getElem?_append_right (Nat.le_refl _),Nat.sub_self] at hr'
   obtain rfl:=Option.some.inj hx
   obtain rfl:=Option.some.inj hr'
   exact hr
 ·by_cases q:x=s
  ·exact ⟨s,by simp,by lia,by rw [q]; exact Orb.refl f s⟩
  ·obtain ⟨t,ht,o⟩:=h.le x (by lia)
   exact ⟨t,List.mem_append_left _ ht,o⟩
def Rws(n:Nat)(f:Nat->Nat)(rows:List (List Nat)):Prop:=∃ L,Trav n (Orb f) L/\RowsL f rows L n
structure Wkd (n:Nat) (f:Nat->Nat) (S:Int->Bool) (m:Nat) (Wl L:List Nat) (s:Nat):Prop where
 set:∀ x:Nat,S (x:Int)=true↔x∈Wl
 len:m=Wl.length
 nd:Wl.Nodup
 lt:∀ x∈Wl,x < n
 mem:∀ x,x∈Wl↔x < n/\∃ t∈L,Orb f t x
 ltL:∀ x∈L,x < n
 one:L.Pairwise fun x y=>¬ Orb f x y
 all:∀ x,x < s->∃ t∈L,Orb f t x
def lenB:T->Nat
 | .lst xs=>xs.length
 | _=>0
def lenR4(s:Sg):Nat:=300 - lenB ((s[4]?).join.getD .non) - 1
theorem item_f{n:Nat}{f:Nat->Nat}{x:Nat}(hx:x < n):gItem (.lst (((List.range n).map f).map nT)) (.int (x:Int))=some (.int (f x:Nat)):=by
 rw [vItemL,List.getElem?_map,List.getElem?_map,List.getElem?_range hx]; rfl
theorem rounds_eq{n:Nat}{f:Nat->Nat}(hf:Perm1 n f)(hn:n<=120):∃ rows:List (List Nat),fn_p_rounds [.lst (((List.range n).map f).map nT)]=some (.lst (rows.map rowN))/\Rws n f rows:=by
 obtain ⟨t,e,rows,rfl,hT⟩:=fnP_run (n:=6) (d:=d_p_rounds) (ts:=[.lst (((List.range n).map f).map nT)]) (Q:=fun t=>∃ rows:List (List Nat),t=.lst (rows.map rowN)/\Rws n f rows) (by
  show Run _ [some (.lst (((List.range n).map f).map nT)),none,none,none,none,none] _
  unfold d_p_rounds
  have la:(((List.range n).map f).map nT).length=n:=by simp
  generalize hA:(((List.range n).map f).map nT)=A at la
  refine run_nx (s':=[some (.lst A),some (.lst []),none,none,none,none]) (by simp_all? []<;>rfl) ?_
  refine run_nx (s':=[some (.lst A),some (.lst []),some (.set (fun _=>false) 0),none,none,none]) (by simp_all? []<;>rfl) ?_
  have r1:rgOk (n:Int)=true:=rgOk_of (by lia) (by lia)
  refine run_for (its:=rangeT 0 n) (fun s st=>∃ (rows:List (List Nat)) (L Wl:List Nat) (S:Int->Bool) (m:Nat) (a b c:Option T),st=[some (.lst A),some (.lst (rows.map rowN)),some (.set S m),a,b,c]/\Wkd n f S m Wl L s/\RowsL f rows L s/\rows.length<=s)
   (by simp_all? [la,r1,Int.toNat_natCast]<;>rfl) ⟨[],[],[],fun _=>false,0,none,none,none,rfl,⟨fun x=>by simp,rfl,List.nodup_nil,fun x hx=>by simp at hx,fun x=>by simp,fun x hx=>by simp at hx,List.Pairwise.nil,fun x hx=>by lia⟩,RowsL.nil f,Nat.le_refl _⟩ ?_ ?_
  ·rintro s z st hz ⟨rows,L,Wl,S,m,a,b,c,rfl,hW,hrl,hrs⟩
   obtain ⟨hs,rfl⟩:s < n/\z=.int (s:Int):=by
    obtain ⟨h1,h2⟩:=range_get hz
    exact ⟨h1,by rw [h2,Int.zero_add]⟩
   refine ⟨[some (.lst A),some (.lst (rows.map rowN)),some (.set S m),some (.int (s:Int)),b,c],rfl,?_⟩
   refine run_nx (s':=[some (.lst A),some (.lst (rows.map rowN)),some (.set S m),some (.int (s:Int)),some (.lst []),c]) (by simp_all? []<;>rfl) ?_
   refine run_nx (s':=[some (.lst A),some (.lst (rows.map rowN)),some (.set S m),some (.int (s:Int)),some (.lst []),some (.int (s:Int))]) (by simp_all? []<;>rfl) ?_
   refine run_while (fun st=>∃ (k:Nat) (S':Int->Bool) (m':Nat),st=[some (.lst A),some (.lst (rows.map rowN)),some (.set S' m'),some (.int (s:Int)),some (.lst ((steps f k s).map nT)),some (.int ((itr f k s:Nat):Int))]/\(∀ x:Nat,S' (x:Int)=true↔x∈Wl++steps f k s)/\m'=(Wl++steps f k s).length/\(Wl++steps f k s).Nodup) lenR4 ?_ ⟨0,S,m,rfl,by simpa [steps] using hW.set,by simpa [steps] using hW.len,by simpa [steps] using hW.nd⟩ ?_ ?_
   ·show 300 - 0 - 1 < 300
    lia
   ·rintro st ⟨k,S',m',rfl,h1,h2,h3⟩
    have hx:=hf.itr_lt k hs
    have hlen:(Wl++steps f k s).length<=n:=by
     have:=nodup_len (m:=List.range n) h3 fun x hx=>by
      refine List.mem_range.mpr ?_
      rcases List.mem_append.mp hx with q | q
      ·exact hW.lt x q
      ·obtain ⟨i,_,rfl⟩:=List.mem_map.mp q
       exact hf.itr_lt i hs
     rwa [List.length_range] at this
    refine ⟨!S' ((itr f k s:Nat):Int),[some (.lst A),some (.lst (rows.map rowN)),some (.set S' m'),some (.int (s:Int)),some (.lst ((steps f k s).map nT)),some (.int ((itr f k s:Nat):Int))],by simp_all? [show gNinS (.int ((itr f k s:Nat):Int)) (.set S' m')=some (.bl (!S' ((itr f k s:Nat):Int))) from rfl],?_⟩
    split
    ·rename_i hc
     have hc':S' ((itr f k s:Nat):Int)=false:=by simpa using hc
     have hni:itr f k s∉Wl++steps f k s:=fun z=>by rw [(h1 _).mpr z] at hc'; cases hc'
     have hsl:(steps f k s).length=k:=by unfold steps; simp
     have hkn:k<=n:=by rw [List.length_append,hsl] at hlen; lia
     refine run_nx (s':=[some (.lst A),some (.lst (rows.map rowN)),some (.set (fun j=>S' j||decide (j=((itr f k s:Nat):Int))) (if S' ((itr f k s:Nat):Int) then m' else m'+1)),some (.int (s:Int)),some (.lst ((steps f k s).map nT)),some (.int ((itr f k s:Nat):Int))]) (by
      simp_all? [show m' < 1000 by lia]) ?_
     refine run_nx (s':=[some (.lst A),some (.lst (rows.map rowN)),some (.set (fun j=>S' j||decide (j=((itr f k s:Nat):Int))) (if S' ((itr f k s:Nat):Int) then m' else m'+1)),some (.int (s:Int)),some (.lst ((steps f (k+1) s).map nT)),some (.int ((itr f k s:Nat):Int))]) (by
      simp_all? [vAppA,steps_succ,List.map_append,List.map_cons,List.map_nil]<;>rfl) ?_
     have it:=item_f (f:=f) hx
     rw [hA] at it
     refine run_onto (s':=[some (.lst A),some (.lst (rows.map rowN)),some (.set (fun j=>S' j||decide (j=((itr f k s:Nat):Int))) (if S' ((itr f k s:Nat):Int) then m' else m'+1)),some (.int (s:Int)),some (.lst ((steps f (k+1) s).map nT)),some (.int ((itr f (k+1) s:Nat):Int))]) (by simp_all? [it]<;>rfl) ⟨⟨k+1,_,_,rfl,fun x=>?_,?_,?_⟩,?_⟩
     ·rw [Bool.or_eq_true,h1,decide_eq_true_iff,steps_succ,<-List.append_assoc]
      constructor
      ·rintro (q | q)
       ·exact List.mem_append_left _ q
       ·exact List.mem_append_right _ (List.mem_singleton.mpr (by lia))
      ·intro q
       rcases List.mem_append.mp q with q | q
       ·exact .inl q
       ·exact .inr (by have:=List.mem_singleton.mp q; lia)
     ·rw [hc',if_neg (by simp),steps_succ,<-List.append_assoc,List.length_append,<-h2]; rfl
     ·rw [steps_succ,<-List.append_assoc,List.nodup_append]
      exact ⟨h3,by simp,fun x hx y hy e=>hni (by rw [List.mem_singleton] at hy; subst hy; exact e▸hx)⟩
     ·show 300 - ((steps f (k+1) s).map nT).length - 1 < 300 - ((steps f k s).map nT).length - 1
      rw [List.length_map,List.length_map,steps_succ,List.length_append,hsl]
      simp
      lia
    ·trivial
   ·rintro st0 st' ⟨k,S',m',rfl,h1,h2,h3⟩ hfalse
    have hE:dB (d2 gNinS (dV 5) (dV 2)) [some (.lst A),some (.lst (rows.map rowN)),some (.set S' m'),some (.int (s:Int)),some (.lst ((steps f k s).map nT)),some (.int ((itr f k s:Nat):Int))]=some (!S' ((itr f k s:Nat):Int),[some (.lst A),some (.lst (rows.map rowN)),some (.set S' m'),some (.int (s:Int)),some (.lst ((steps f k s).map nT)),some (.int ((itr f k s:Nat):Int))]):=by simp_all? [show gNinS (.int ((itr f k s:Nat):Int)) (.set S' m')=some (.bl (!S' ((itr f k s:Nat):Int))) from rfl]
    rw [hE] at hfalse
    injection hfalse with hfalse
    injection hfalse with hb hst
    subst hst
    have hin:itr f k s∈Wl++steps f k s:=(h1 _).mp (by simpa using hb)
    cases k with
    | zero=>
     have hsW:s∈Wl:=by simpa [steps,itr] using hin
     refine run_onto (s':=[some (.lst A),some (.lst (rows.map rowN)),some (.set S' m'),some (.int (s:Int)),some (.lst ((steps f 0 s).map nT)),some (.int ((itr f 0 s:Nat):Int))]) (by simp_all? [steps,List.range_zero,List.map_nil]<;>rfl) ⟨rows,L,Wl,S',m',_,_,_,rfl,⟨by simpa [steps] using h1,by simpa [steps] using h2,hW.nd,hW.lt,hW.mem,hW.ltL,hW.one,fun x hx=>?_⟩,hrl.skip ((hW.mem s).mp hsW).2,by lia⟩
     by_cases q:x=s
     ·rw [q]; exact ((hW.mem s).mp hsW).2
     ·exact hW.all x (by lia)
    | succ k=>
     have hs0:s∈steps f (k+1) s:=List.mem_map.mpr ⟨0,by simp,rfl⟩
     have hsn:s∉Wl:=fun z=>(List.nodup_append.mp h3).2.2 s z s hs0 rfl
     have hin2:itr f (k+1) s∈steps f (k+1) s:=by
      rcases List.mem_append.mp hin with q | q
      ·exfalso
       obtain ⟨_,t,ht,o⟩:=(hW.mem _).mp q
       have o2:Orb f (itr f (k+1) s) s:=Orb.symm hf hs ⟨k+1,rfl⟩
       exact hsn ((hW.mem s).mpr ⟨hs,t,ht,o.trans o2⟩)
      ·exact q
     have hall:=steps_all hin2
     have hro:((steps f (k+1) s).map nT).isEmpty=false:=by rw [steps_succ]; simp
     refine run_onto (s':=[some (.lst A),some (.lst ((rows++[steps f (k+1) s]).map rowN)),some (.set S' m'),some (.int (s:Int)),some (.lst ((steps f (k+1) s).map nT)),some (.int ((itr f (k+1) s:Nat):Int))]) (by simp_all? [hro,vAppA,List.map_append,List.map_cons,List.map_nil,rowN]<;>rfl) ⟨rows++[steps f (k+1) s],L++[s],Wl++steps f (k+1) s,S',m',_,_,_,rfl,⟨h1,h2,h3,fun x hx=>?_,fun x=>?_,fun x hx=>?_,?_,fun x hx=>?_⟩,hrl.snoc ⟨k+1,rfl,Nat.succ_pos k,(List.nodup_append.mp h3).2.1,hin2⟩,by rw [List.length_append,List.length_singleton]; lia⟩
     ·rcases List.mem_append.mp hx with q | q
      ·exact hW.lt x q
      ·obtain ⟨i,_,rfl⟩:=List.mem_map.mp q
       exact hf.itr_lt i hs
     ·rw [List.mem_append,hW.mem]
      constructor
      ·rintro (⟨q1,t,ht,o⟩ | q)
       ·exact ⟨q1,t,List.mem_append_left _ ht,o⟩
       ·obtain ⟨i,_,rfl⟩:=List.mem_map.mp q
        exact ⟨hf.itr_lt i hs,s,by simp,i,rfl⟩
      ·rintro ⟨q1,t,ht,o⟩
       rcases List.mem_append.mp ht with q | q
       ·exact .inl ⟨q1,t,q,o⟩
       ·rw [List.mem_singleton.mp q] at o
        obtain ⟨i,rfl⟩:=o
        exact .inr (hall i)
     ·rcases List.mem_append.mp hx with q | q
      ·exact hW.ltL x q
      ·rw [List.mem_singleton.mp q]; exact hs
     ·rw [List.pairwise_append]
      refine ⟨hW.one,by simp,fun x hx y hy o=>?_⟩
      rw [List.mem_singleton.mp hy] at o
      exact hsn ((hW.mem s).mpr ⟨hs,x,hx,o⟩)
     ·by_cases q:x=s
      ·exact ⟨s,by simp,by rw [q]; exact Orb.refl f s⟩
      ·obtain ⟨t,ht,o⟩:=hW.all x (by lia)
       exact ⟨t,List.mem_append_left _ ht,o⟩
  ·rintro st ⟨rows,L,Wl,S,m,a,b,c,rfl,hW,hrl,hrs⟩
   rw [range_len] at hW hrl
   have q:dRetI [] (dV 1) [some (.lst A),some (.lst (rows.map rowN)),some (.set S m),a,b,c]=some (.rt (.lst (rows.map rowN)) [some (.lst A),some (.lst (rows.map rowN)),some (.set S m),a,b,c]):=by simp_all? []
   exact run_end q ⟨_,_,rfl,rows,rfl,L,⟨hW.ltL,hW.one,hW.all⟩,hrl⟩)
 exact ⟨rows,e,hT⟩
end Dw
namespace Dw
open PySem L2 L3
def Ew(n w:Nat):Nat:=if w%2=1 then w - 1 else if w / 2+1=n then 1 else w+3
def Bw(n e:Nat):Nat:=if e%2=0 then e else if e=1 then 2*n - 1 else e - 2
def fl(w:Nat):Nat:=if w%2=0 then w+1 else w - 1
def ptn(wd:List Str)(p:Nat):Nat:=match placesOf wd (wd.getD p Str.empty) with
 | [i,j]=>if p=i then j else i
 | _=>p
theorem ptn_at{wd:List Str}(g:∀ x∈wd,wd.count x=2){p:Nat}(hp:p < wd.length):∃ i j,placesOf wd wd[p]=[i,j]/\i < j/\j < wd.length/\wd[i]?=some wd[p]/\wd[j]?=some wd[p]/\((p=i/\ptn wd p=j)∨(p=j/\ptn wd p=i)):=by
 obtain ⟨i,j,e⟩:=places_two (g wd[p] (List.getElem_mem hp))
 obtain ⟨h1,h2⟩:=placesOf_two e
 have hm:p∈placesOf wd wd[p]:=List.mem_filter.mpr ⟨List.mem_range.mpr hp,decide_eq_true (List.getElem?_eq_getElem hp)⟩
 have ei:=mem_places (wd:=wd) (x:=wd[p]) (k:=i) (by rw [e]; simp)
 have ej:=mem_places (wd:=wd) (x:=wd[p]) (k:=j) (by rw [e]; simp)
 refine ⟨i,j,e,h1,h2,ei,ej,?_⟩
 have eq:ptn wd p=if p=i then j else i:=by
  unfold ptn
  rw [List.getD_eq_getElem?_getD,List.getElem?_eq_getElem hp]
  show (match placesOf wd wd[p] with | [i,j]=>if p=i then j else i | _=>p)=_
  rw [e]
 rw [e] at hm
 simp at hm
 rcases hm with rfl | rfl
 ·exact .inl ⟨rfl,by rw [eq,if_pos rfl]⟩
 ·exact .inr ⟨rfl,by rw [eq,if_neg (by lia)]⟩
theorem ptn_ok{wd:List Str}(g:∀ x∈wd,wd.count x=2){p:Nat}(hp:p < wd.length):ptn wd p < wd.length/\ptn wd p≠p/\ptn wd (ptn wd p)=p/\wd.getD (ptn wd p) Str.empty=wd.getD p Str.empty:=by
 obtain ⟨i,j,e,h1,h2,ei,ej,h3⟩:=ptn_at g hp
 have gp:wd.getD p Str.empty=wd[p]:=by rw [List.getD_eq_getElem?_getD,List.getElem?_eq_getElem hp]; rfl
 have gi:wd.getD i Str.empty=wd[p]:=by rw [List.getD_eq_getElem?_getD,ei]; rfl
 have gj:wd.getD j Str.empty=wd[p]:=by rw [List.getD_eq_getElem?_getD,ej]; rfl
 have pi:ptn wd i=j:=by
  unfold ptn
  rw [gi,e]
  exact if_pos rfl
 have pj:ptn wd j=i:=by
  unfold ptn
  rw [gj,e]
  exact if_neg (by lia)
 rcases h3 with ⟨rfl,h3⟩ | ⟨rfl,h3⟩
 ·rw [h3]; exact ⟨h2,by lia,pj,by rw [gj,gp]⟩
 ·rw [h3]; exact ⟨by lia,by lia,pi,by rw [gi,gp]⟩
def Aw(wd:List Str)(hd:Str->Bool)(e:Nat):Nat:=2*ptn wd (e / 2)+(if decide (e / 2 < ptn wd (e / 2))=hd (wd.getD (e / 2) Str.empty) then 1 - e%2 else e%2)
def fw(wd:List Str)(hd:Str->Bool)(w:Nat):Nat:=Bw wd.length (Aw wd hd (Ew wd.length w))
end Dw
namespace Dw
open PySem L2 L3
theorem suc_mod{n x:Nat}(h:x < n):(x+1)%n=if x+1=n then 0 else x+1:=by
 split
 ·rename_i e; rw [e,Nat.mod_self]
 ·exact Nat.mod_eq_of_lt (by lia)
def rg(wd:List Str)(k:Nat):Nat:=ptn wd ((k+1)%wd.length)
theorem suc_perm(n:Nat):Perm1 n fun k=>(k+1)%n:=by
 refine ⟨fun x hx=>Nat.mod_lt _ (by lia),fun x y hx hy e=>?_⟩
 have e:(x+1)%n=(y+1)%n:=e
 rw [suc_mod hx,suc_mod hy] at e
 split at e<;>split at e<;>lia
theorem rg_perm{wd:List Str}(g:∀ x∈wd,wd.count x=2):Perm1 wd.length (rg wd):=by
 have m:∀ x,x < wd.length->(x+1)%wd.length < wd.length:=fun x hx=>Nat.mod_lt _ (by lia)
 refine ⟨fun x hx=>(ptn_ok g (m x hx)).1,fun x y hx hy e=>(suc_perm wd.length).inj x y hx hy ?_⟩
 have e1:=congrArg (ptn wd) e
 unfold rg at e1
 rw [(ptn_ok g (m x hx)).2.2.1,(ptn_ok g (m y hy)).2.2.1] at e1
 exact e1
theorem suc_trav{n:Nat}(hn:0 < n):Trav n (Orb fun k=>(k+1)%n) [0]:=by
 refine ⟨fun x hx=>by rw [List.mem_singleton.mp hx]; exact hn,by simp,fun x hx=>⟨0,by simp,x,?_⟩⟩
 induction x with
 | zero=>rfl
 | succ x ih=>
  show (itr (fun k=>(k+1)%n) x 0+1)%n=x+1
  rw [ih (by lia)]
  exact Nat.mod_eq_of_lt hx
def plc(wd:List Str)(x:Str):Nat × Nat:=match placesOf wd x with
 | [i,j]=>(i,j)
 | _=>(0,0)
def tra:List (Nat × Nat)->Nat->Nat
 | [],y=>y
 | p::ps,y=>tra ps (trs p.1 p.2 y)
theorem trl_tra:∀ (ps:List (Nat × Nat)) (f:Nat->Nat) (x:Nat),trl ps f x=tra ps (f x):=fun ps=>by
 induction ps with
 | nil=>intro f x; rfl
 | cons p ps ih=>intro f x; exact ih (fun x=>trs p.1 p.2 (f x)) x
theorem tra_at{wd:List Str}(g:∀ x∈wd,wd.count x=2):∀ (L:List Str),L.Nodup->(∀ x∈L,x∈wd)->∀ y,y < wd.length->tra (L.map (plc wd)) y=if wd.getD y Str.empty∈L then ptn wd y else y:=fun L=>by
 induction L with
 | nil=>intro _ _ y _; simp [tra]
 | cons a L ih=>
  intro hd hm y hy
  rw [List.nodup_cons] at hd
  obtain ⟨i,j,e⟩:=places_two (g a (hm a (by simp)))
  have pa:plc wd a=(i,j):=by unfold plc; rw [e]
  have gy:wd.getD y Str.empty=wd[y]:=by rw [List.getD_eq_getElem?_getD,List.getElem?_eq_getElem hy]; rfl
  have ih:=ih hd.2 fun x hx=>hm x (List.mem_cons_of_mem _ hx)
  show tra (L.map (plc wd)) (trs (plc wd a).1 (plc wd a).2 y)=_
  rw [pa]
  show tra (L.map (plc wd)) (trs i j y)=_
  by_cases ha:wd[y]=a
  ·obtain ⟨i',j',e',_,_,_,_,h3⟩:=ptn_at g hy
   rw [ha,e] at e'
   obtain ⟨rfl,rfl⟩:i=i'/\j=j':=by simpa using e'
   have et:trs i j y=ptn wd y:=by
    rcases h3 with ⟨q,r⟩ | ⟨q,r⟩
    ·rw [r,q,trs_a]
    ·rw [r,q,trs_b]
   have po:=ptn_ok g hy
   rw [et,ih _ po.1,po.2.2.2,gy,ha,if_neg hd.1,if_pos (by simp)]
  ·have ni:y≠i:=fun z=>ha (by
    have:=mem_places (wd:=wd) (x:=a) (k:=i) (by rw [e]; simp)
    rw [<-z,List.getElem?_eq_getElem hy] at this
    exact Option.some.inj this)
   have nj:y≠j:=fun z=>ha (by
    have:=mem_places (wd:=wd) (x:=a) (k:=j) (by rw [e]; simp)
    rw [<-z,List.getElem?_eq_getElem hy] at this
    exact Option.some.inj this)
   rw [trs_ne ni nj,ih y hy,gy]
   by_cases hL:wd[y]∈L
   ·rw [if_pos hL,if_pos (List.mem_cons_of_mem _ hL)]
   ·rw [if_neg hL,if_neg (by rw [List.mem_cons]; exact fun z=>z.elim ha hL)]
theorem rg_par{wd:List Str}(g:∀ x∈wd,wd.count x=2)(hn:0 < wd.length){M:List Nat}(hM:Trav wd.length (Orb (rg wd)) M):(M.length+wd.length / 2)%2=1:=by
 have ef:trl ((firsts wd).map (plc wd)) (fun k=>(k+1)%wd.length)=rg wd:=by
  funext x
  have hx:(x+1)%wd.length < wd.length:=Nat.mod_lt _ hn
  rw [trl_tra,tra_at g (firsts wd) (firsts_nodup wd) (fun x hx=>mem_firsts.mp hx) _ hx,if_pos]
  ·rfl
  ·rw [List.getD_eq_getElem?_getD,List.getElem?_eq_getElem hx]
   exact mem_firsts.mpr (List.getElem_mem hx)
 rw [<-ef] at hM
 have:=trl_par (n:=wd.length) ((firsts wd).map (plc wd)) (fun p hp=>by
  obtain ⟨x,hx,rfl⟩:=List.mem_map.mp hp
  obtain ⟨i,j,e⟩:=places_two (g x (mem_firsts.mp hx))
  obtain ⟨h1,h2⟩:=placesOf_two e
  unfold plc
  rw [e]
  exact ⟨Nat.lt_trans h1 h2,h2,Nat.ne_of_lt h1⟩) (suc_perm wd.length) (suc_trav hn) hM
 have tl:=two_len g
 rw [List.length_map,List.length_singleton] at this
 lia
theorem partner_eq{wd:List Str}(g:GoodWord wd){j:Nat}(hj:j < wd.length):fn_p_partner [.lst (wd.map T.str),.int j]=some (.int (ptn wd j:Nat)):=by
 have hl:=g.len
 obtain ⟨i,k,e,h1,h2,ei,ek,h3⟩:=ptn_at g.two hj
 have st:=standings_eq (wd:=wd) (by lia) wd[j]
 rw [e] at st
 have st:fn_p_standings [.lst (wd.map T.str),.str wd[j]]=some (.lst [.int (i:Nat),.int (k:Nat)]):=st
 have a1:gItem (.lst (wd.map T.str)) (.int j)=some (.str wd[j]):=by rw [vItemL,List.getElem?_map,List.getElem?_eq_getElem hj]; rfl
 refine fnP_eq ?_
 show Run d_p_partner [some (.lst (wd.map T.str)),some (.int j),none,none] _
 refine run_nx (s':=[some (.lst (wd.map T.str)),some (.int j),some (.int i),some (.int k)]) (by simp_all? [a1,st]) ?_
 rcases h3 with ⟨q,r⟩ | ⟨q,r⟩
 ·exact run_ret (s':=[some (.lst (wd.map T.str)),some (.int j),some (.int i),some (.int k)]) (by simp_all? [decide_eq_true (show (j:Int)=i by lia)]<;>rfl) (by rw [r])
 ·exact run_ret (s':=[some (.lst (wd.map T.str)),some (.int j),some (.int i),some (.int k)]) (by simp_all? [decide_eq_false (show ¬ (j:Int)=i by lia)]<;>rfl) (by rw [r])
theorem other_eq{wd:List Str}(g:GoodWord wd){j:Nat}(hj:j < wd.length):fn_l_other [.lst (wd.map T.str),.int j]=some (.int (ptn wd j:Nat)):=by
 have hl:=g.len
 have po:=ptn_ok g.two hj
 obtain ⟨i,k,e,h1,h2,ei,ek,h3⟩:=ptn_at g.two hj
 have it:∀ p:Nat,(hp:p < wd.length)->gItem (.lst (wd.map T.str)) (.int (p:Int))=some (.str wd[p]):=fun p hp=>by rw [vItemL,List.getElem?_map,List.getElem?_eq_getElem hp]; rfl
 have lw:gLen (.lst (wd.map T.str))=some (.int (wd.length:Nat)):=by rw [vLenL,List.length_map]
 have same:∀ p (hp:p < wd.length),p≠j->wd[p]=wd[j]->p=ptn wd j:=fun p hp hne hs=>by
  have:p∈placesOf wd wd[j]:=List.mem_filter.mpr ⟨List.mem_range.mpr hp,decide_eq_true (by rw [List.getElem?_eq_getElem hp,hs])⟩
  rw [e] at this
  simp at this
  rcases h3 with ⟨q,r⟩ | ⟨q,r⟩<;>rcases this with z | z<;>lia
 generalize hW:T.lst (wd.map T.str)=W at it lw
 refine fnP_eq ?_
 show Run d_l_other [some W,some (.int j),none] _
 unfold d_l_other
 refine run_forR (its:=rangeT 0 wd.length) (fun t s=>∃ a:Option T,s=[some W,some (.int j),a]/\t<=ptn wd j) (by simp_all? [lw,rgN (k:=wd.length) (by lia),Int.toNat_natCast]<;>rfl) ⟨none,rfl,Nat.zero_le _⟩ ?_ ?_
 ·rintro t z s hz ⟨a,rfl,ht⟩
  obtain ⟨hi,rfl⟩:=range_get hz
  rw [Int.zero_add]
  refine ⟨[some W,some (.int j),some (.int (t:Int))],rfl,?_⟩
  have i1:=it t hi
  have i2:=it j hj
  by_cases hq:t=ptn wd j
  ·have hs:wd[t]=wd[j]:=by
    have:=po.2.2.2
    rw [List.getD_eq_getElem?_getD,List.getD_eq_getElem?_getD,<-hq,List.getElem?_eq_getElem hi,List.getElem?_eq_getElem hj] at this
    exact this
   exact onto_ret (s':=[some W,some (.int j),some (.int (t:Int))]) (by simp_all? [i1,i2,decide_eq_false (show ¬ (t:Int)=j by lia),decide_eq_true hs]<;>rfl) (by rw [hq])
  ·by_cases hj':t=j
   ·exact onto_nx (s':=[some W,some (.int j),some (.int (t:Int))]) (by simp_all? [decide_eq_true (show (t:Int)=j by lia)]) ⟨_,rfl,by lia⟩
   ·have hs:¬ wd[t]=wd[j]:=fun z=>hq (same t hi hj' z)
    exact onto_nx (s':=[some W,some (.int j),some (.int (t:Int))]) (by simp_all? [i1,i2,decide_eq_false (show ¬ (t:Int)=j by lia),decide_eq_false hs]) ⟨_,rfl,by lia⟩
 ·rintro s ⟨a,rfl,ht⟩
  rw [range_len] at ht
  exact absurd po.1 (by lia)
theorem rings_eq{wd:List Str}(g:GoodWord wd):∃ rows:List (List Nat),fn_p_rings [.lst (wd.map T.str)]=some (.lst (rows.map rowN))/\((wd=[]/\rows=[[]])∨(wd≠[]/\Rws wd.length (rg wd) rows)):=by
 have hl:=g.len
 obtain ⟨t,e,rows,rfl,hc⟩:=fnPn_run (n:=2) (d:=d_p_rings) (ts:=[.lst (wd.map T.str)]) (Q:=fun t=>∃ rows:List (List Nat),t=.lst (rows.map rowN)/\((wd=[]/\rows=[[]])∨(wd≠[]/\Rws wd.length (rg wd) rows))) (by
  show Run d_p_rings [some (.lst (wd.map T.str)),none] _
  unfold d_p_rings
  by_cases h0:wd=[]
  ·subst h0
   exact run_rt (t:=.lst [.lst []]) (s':=[some (.lst (([]:List Str).map T.str)),none]) (by simp_all? []<;>rfl) ⟨_,_,rfl,[[]],rfl,.inl ⟨rfl,rfl⟩⟩
  ·have hp:=List.length_pos_iff.mpr h0
   have hemp:(wd.map T.str).isEmpty=false:=by
    cases wd with
    | nil=>exact absurd rfl h0
    | cons a l=>rfl
   obtain ⟨rows,er,hT⟩:=rounds_eq (rg_perm g.two) (by lia)
   refine run_nx (s':=[some (.lst (wd.map T.str)),none]) (by simp_all? [hemp]) ?_
   refine run_nx (s':=[some (.lst (wd.map T.str)),some (.int (wd.length:Nat))]) (by simp_all? []) ?_
   have e:=lc_encm (M:=[]) (caps:=[none,some 0,some 1]) (fi:=dRg1 (dAc (dV 1) dAn)) (dg:=dGn 0) (fe:=dCall fn_p_partner (dAc (dV 1) (dAc (d2 gMod (d2 gPlus (dV 0) (dC (.int 1))) (dV 2)) dAn))) (s:=[some (.lst (wd.map T.str)),some (.int (wd.length:Nat))]) (List.range wd.length) nT (fun w=>nT (rg wd w)) (by simp_all? [rgN (k:=wd.length) (by lia),Int.toNat_natCast,range_nT]) (by simp; lia) (by
    intro w hw
    have hw:=List.mem_range.mp hw
    have e1:=partner_eq g (j:=(w+1)%wd.length) (Nat.mod_lt _ hp)
    have e2:((w:Int)+1)%(wd.length:Nat)=(((w+1)%wd.length:Nat):Int):=by rw [Int.natCast_emod,Int.natCast_add]; rfl
    exact ⟨[some (.int w),some (.lst (wd.map T.str)),some (.int (wd.length:Nat))],rfl,by unfold nT; simp_all? [e2,e1]<;>rfl,rfl⟩)
   rw [show (List.range wd.length).map (fun w=>nT (rg wd w))=((List.range wd.length).map (rg wd)).map nT by rw [List.map_map]; rfl] at e
   have fl:(((List.range wd.length).map (rg wd)).map nT).all flatT=true:=by rw [List.all_map]; exact List.all_eq_true.mpr fun _ _=>rfl
   exact run_end (r:=.rt (.lst (rows.map rowN)) [some (.lst (wd.map T.str)),some (.int (wd.length:Nat))]) (by simp_all? [vdCallD,e,fl,er]) ⟨_,_,rfl,rows,rfl,.inr ⟨h0,hT⟩⟩)
 exact ⟨rows,e,hc⟩
end Dw
namespace Dw
open PySem L2 L3 PyProof.Rows
theorem RowAt.close{n:Nat}{f:Nat->Nat}(hf:Perm1 n f){s:Nat}(hs:s < n){r:List Nat}(h:RowAt f s r):∃ k,r=steps f (k+1) s/\itr f (k+1) s=s/\(steps f (k+1) s).Nodup:=by
 obtain ⟨k,rfl,hk,nd,hm⟩:=h
 obtain ⟨k,rfl⟩:∃ q,k=q+1:=⟨k - 1,by lia⟩
 refine ⟨k,rfl,?_,nd⟩
 obtain ⟨i,hi,e⟩:=List.mem_map.mp hm
 have hi:=List.mem_range.mp hi
 cases i with
 | zero=>exact e.symm
 | succ i=>
  have e:itr f (i+1) s=itr f (k+1) s:=e
  have e2:itr f i s=itr f k s:=hf.inj _ _ (hf.itr_lt i hs) (hf.itr_lt k hs) e
  have l:(steps f (k+1) s).length=k+1:=by unfold steps; simp
  have a1:(steps f (k+1) s)[i]'(by rw [l]; lia)=itr f i s:=by unfold steps; rw [List.getElem_map,List.getElem_range]
  have a2:(steps f (k+1) s)[k]'(by rw [l]; lia)=itr f k s:=by unfold steps; rw [List.getElem_map,List.getElem_range]
  have:=(List.getElem_inj (h₀:=by rw [l]; lia) (h₁:=by rw [l]; lia) nd).mp (a1.trans (e2.trans a2.symm))
  lia
theorem ints_nT:∀ (r:List Nat),intsT (r.map nT)=some (r.map fun (k:Nat)=>(k:Int)):=fun r=>by
 induction r with
 | nil=>rfl
 | cons a r ih=>
  show (intsT (r.map nT)).map ((a:Int)::·)=_
  rw [ih]; rfl
theorem intsLs_rows:∀ (rows:List (List Nat)),intsLs (rows.map rowN)=some (rows.map fun r=>r.map fun (k:Nat)=>(k:Int)):=fun rows=>by
 induction rows with
 | nil=>rfl
 | cons a rows ih=>
  show ((intsT (a.map nT)).bind fun x=>(intsLs (rows.map rowN)).map (x::·))=_
  rw [ints_nT,ih]; rfl
theorem topI_mem{ns:List Int}(h:ns≠[]):topI ns∈ns:=by
 cases ns with
 | nil=>exact absurd rfl h
 | cons x xs=>
  rcases (fold_max xs x).1 with e | e
  ·show xs.foldl (fun a b=>if a < b then b else a) x∈x::xs
   rw [e]; exact List.mem_cons_self ..
  ·exact List.mem_cons_of_mem _ e
theorem rise_of:∀ {rs:List (List Int)},rs.Pairwise (fun x y=>HT.lexLt y x=false)->riseL rs=true:=fun {rs}=>by
 induction rs with
 | nil=>intro _; rfl
 | cons x rs ih=>
  intro h
  rw [List.pairwise_cons] at h
  cases rs with
  | nil=>rfl
  | cons y r=>
   show (!HT.lexLt y x&&riseL (y::r))=true
   rw [h.1 y (by simp),ih h.2]; rfl
theorem vEqRows(xs ys:List (List Nat)):gEq (.lst (xs.map rowN)) (.lst (ys.map rowN))=some (.bl (decide (xs=ys))):=by
 have e:eqD 8 (.lst (xs.map rowN)) (.lst (ys.map rowN))=some (decide (xs=ys)):=eqD_lst (n:=7) (fun a b=>eqD_nats (n:=6) a b) xs ys
 show (eqD 8 _ _).map T.bl=_
 rw [e]; rfl
structure Rg (n:Nat) (f:Nat->Nat) (rows:List (List Nat)):Prop where
 row:∀ r∈rows,∃ s k,r=steps f (k+1) s/\itr f (k+1) s=s/\s < n/\∀ x∈r,s<=x/\x < n
 flat:rows.flatten.Perm (List.range n)
 up:rows.Pairwise fun x y=>HT.lexLt (y.map fun (k:Nat)=>(k:Int)) (x.map fun (k:Nat)=>(k:Int))=false
 few:rows.length<=n
theorem Rws.rg{n:Nat}{f:Nat->Nat}(hf:Perm1 n f){rows:List (List Nat)}(h:Rws n f rows):Rg n f rows:=by
 obtain ⟨L,hT,hR⟩:=h
 have uniq:∀ x∈L,∀ y∈L,Orb f x y->x=y:=fun x hx y hy o=>by
  apply Classical.byContradiction
  intro hne
  obtain ⟨i,hi,ei⟩:=List.getElem_of_mem hx
  obtain ⟨j,hj,ej⟩:=List.getElem_of_mem hy
  have pw:=List.pairwise_iff_getElem.mp hT.one
  rcases Nat.lt_trichotomy i j with q | q | q
  ·exact pw i j hi hj q (by rw [ei,ej]; exact o)
  ·subst q; exact hne (ei.symm.trans ej)
  ·exact pw j i hj hi q (by rw [ei,ej]; exact Orb.symm hf (hT.lt x hx) o)
 have at_:∀ (i:Nat) (hi:i < rows.length),∃ (hL:i < L.length) (k:Nat),rows[i]=steps f (k+1) L[i]/\itr f (k+1) L[i]=L[i]/\(steps f (k+1) L[i]).Nodup:=fun i hi=>by
  have hL:i < L.length:=by rw [<-hR.len]; exact hi
  obtain ⟨k,h1,h2,h3⟩:=(hR.row i L[i] rows[i] (List.getElem?_eq_getElem hL) (List.getElem?_eq_getElem hi)).close hf (hT.lt _ (List.getElem_mem hL))
  exact ⟨hL,k,h1,h2,h3⟩
 have mem_orb:∀ {s k x:Nat},x∈steps f k s->Orb f s x:=fun {s k x} h=>by
  obtain ⟨i,_,e⟩:=List.mem_map.mp h
  exact ⟨i,e⟩
 refine ⟨fun r hr=>?_,?_,?_,?_⟩
 ·obtain ⟨i,hi,rfl⟩:=List.getElem_of_mem hr
  obtain ⟨hL,k,h1,h2,h3⟩:=at_ i hi
  have hs:=hT.lt _ (List.getElem_mem hL)
  refine ⟨L[i],k,h1,h2,hs,fun x hx=>?_⟩
  rw [h1] at hx
  have o:=mem_orb hx
  have hx:x < n:=by obtain ⟨j,e⟩:=o; rw [<-e]; exact hf.itr_lt j hs
  obtain ⟨t,ht,hle,o2⟩:=hR.le x hx
  have:t=L[i]:=uniq t ht _ (List.getElem_mem hL) (o2.trans (Orb.symm hf hs o))
  exact ⟨by lia,hx⟩
 ·refine (List.perm_ext_iff_of_nodup ?_ List.nodup_range).mpr fun x=>?_
  ·show List.Pairwise (·≠·) _
   rw [List.pairwise_flatten]
   refine ⟨fun r hr=>?_,List.pairwise_iff_getElem.mpr fun i j hi hj hij=>?_⟩
   ·obtain ⟨i,hi,rfl⟩:=List.getElem_of_mem hr
    obtain ⟨hL,k,h1,h2,h3⟩:=at_ i hi
    rw [h1]; exact h3
   ·intro x hx y hy hxy
    subst hxy
    obtain ⟨hL,k,h1,h2,h3⟩:=at_ i hi
    obtain ⟨hL2,k2,h4,h5,h6⟩:=at_ j hj
    rw [h1] at hx
    rw [h4] at hy
    have o:=(mem_orb hx).trans (Orb.symm hf (hT.lt _ (List.getElem_mem hL2)) (mem_orb hy))
    have:=List.pairwise_iff_getElem.mp hT.one i j hL hL2 hij
    exact this o
  ·rw [List.mem_flatten,List.mem_range]
   constructor
   ·rintro ⟨r,hr,hx⟩
    obtain ⟨i,hi,rfl⟩:=List.getElem_of_mem hr
    obtain ⟨hL,k,h1,h2,h3⟩:=at_ i hi
    rw [h1] at hx
    obtain ⟨j,e⟩:=mem_orb hx
    rw [<-e]
    exact hf.itr_lt j (hT.lt _ (List.getElem_mem hL))
   ·intro hx
    obtain ⟨t,ht,o⟩:=hT.all x hx
    obtain ⟨i,hL,rfl⟩:=List.getElem_of_mem ht
    have hi:i < rows.length:=by rw [hR.len]; exact hL
    obtain ⟨_,k,h1,h2,h3⟩:=at_ i hi
    refine ⟨rows[i],List.getElem_mem hi,?_⟩
    rw [h1]
    obtain ⟨m,e⟩:=o
    rw [<-e]
    exact steps_all (by rw [h2]; exact List.mem_map.mpr ⟨0,List.mem_range.mpr (Nat.succ_pos k),rfl⟩) m
 ·refine List.pairwise_iff_getElem.mpr fun i j hi hj hij=>?_
  obtain ⟨hL,k,h1,h2,h3⟩:=at_ i hi
  obtain ⟨hL2,k2,h4,h5,h6⟩:=at_ j hj
  have hlt:=List.pairwise_iff_getElem.mp hR.srt i j hL hL2 hij
  rw [h1,h4]
  unfold steps
  rw [List.range_succ_eq_map,List.range_succ_eq_map]
  simp only [List.map_cons]
  show (if ((itr f 0 L[j]:Nat):Int)=((itr f 0 L[i]:Nat):Int) then _ else decide (((itr f 0 L[j]:Nat):Int) < ((itr f 0 L[i]:Nat):Int)))=false
  have e1:itr f 0 L[j]=L[j]:=rfl
  have e2:itr f 0 L[i]=L[i]:=rfl
  rw [e1,e2,if_neg (by lia)]
  exact decide_eq_false (by lia)
 ·rw [hR.len]
  have:=nodup_len (m:=List.range n) (hR.srt.imp Nat.ne_of_lt) fun x hx=>List.mem_range.mpr (hT.lt x hx)
  rwa [List.length_range] at this
theorem lists_eq(r:List Nat)(h:r.length<=1000):fn_l_lists [rowN r,.int (r.length:Nat)]=some (.bl true):=by
 have w:∀ k:Nat,fn_l_whole [.int (k:Int)]=some (.bl true):=fun k=>by
  refine fnP_eq ?_
  show Run d_l_whole [some (.int (k:Int))] _
  exact run_ret (s':=[some (.int (k:Int))]) (by unfold d_l_whole; simp_all? []<;>rfl) rfl
 refine fnP_eq ?_
 show Run d_l_lists [some (.lst (r.map nT)),some (.int (r.length:Nat))] _
 unfold d_l_lists
 have e:=lc_encm (M:=[]) (caps:=[none]) (fi:=dItA (dV 0)) (dg:=dGn 0) (fe:=dCall fn_l_whole (dAc (dV 0) dAn)) (s:=[some (.lst (r.map nT)),some (.int (r.length:Nat))]) r nT (fun _=>.bl true) (by simp_all? []) (by lia) (fun k _=>⟨[some (nT k)],rfl,by unfold nT; simp_all? [w],rfl⟩)
 rw [show r.map (fun _=>T.bl true)=(r.map fun _=>true).map T.bl by rw [List.map_map]; rfl] at e
 have a:(r.map fun _=>true).all id=true:=by simp
 exact run_ret (s':=[some (.lst (r.map nT)),some (.int (r.length:Nat))]) (by simp_all? [e,a,decide_true]<;>rfl) rfl
end Dw
namespace Dw
open PySem L2 L3
theorem item_last{xs:List T}(h:xs≠[]):gItem (.lst xs) (.int (-1))=xs[xs.length - 1]?:=by
 have hp:=List.length_pos_iff.mpr h
 have e:atI xs (-1)=xs[xs.length - 1]?:=by
  unfold atI ixN
  rw [if_neg (by decide),if_pos (by lia),Option.bind_some]
  congr 1
  lia
 show orG gIx _ (.lst xs) (.int (-1))=_
 unfold orG
 show (match atI xs (-1) with | some t=>some t | none=>_)=_
 rw [e,List.getElem?_eq_getElem (by lia)]
theorem right_eq{wd:List Str}(g:GoodWord wd){rows:List (List Nat)}(h:(wd=[]/\rows=[[]])∨(wd≠[]/\Rws wd.length (rg wd) rows)):fn_l_right [.lst (rows.map rowN),.lst (wd.map T.str)]=some (.bl true):=by
 have hl:=g.len
 have few:rows.length<=60/\∀ r∈rows,r.length<=60:=by
  rcases h with ⟨rfl,rfl⟩ | ⟨h0,hR⟩
  ·exact ⟨by decide,fun r hr=>by rw [List.mem_singleton.mp hr]; decide⟩
  ·have R:=hR.rg (rg_perm g.two)
   refine ⟨by have:=R.few; lia,fun r hr=>?_⟩
   have h1:r.Sublist rows.flatten:=List.sublist_flatten_of_mem hr
   have h2:=h1.length_le
   rw [R.flat.length_eq,List.length_range] at h2
   lia
 have lw:gLen (.lst (wd.map T.str))=some (.int (wd.length:Nat)):=by rw [vLenL,List.length_map]
 have lr:gLen (.lst (rows.map rowN))=some (.int (rows.length:Nat)):=by rw [vLenL,List.length_map]
 have lg:∀ r:List Nat,gLen (rowN r)=some (.int (r.length:Nat)):=fun r=>by unfold rowN; rw [vLenL,List.length_map]
 have e1:=lc_encm (M:=[]) (caps:=[none]) (fi:=dItA (dV 0)) (dg:=dGn 0) (fe:=dCall fn_l_lists (dAc (dV 0) (dAc (d1 gLen (dV 0)) dAn))) (s:=[some (.lst (rows.map rowN)),some (.lst (wd.map T.str)),none,none,none]) rows rowN (fun _=>.bl true) (by simp_all? []) (by lia) (fun r hr=>⟨[some (rowN r)],rfl,by simp_all? [lg,lists_eq r (by have:=few.2 r hr; lia)],rfl⟩)
 rw [show rows.map (fun _=>T.bl true)=(rows.map fun _=>true).map T.bl by rw [List.map_map]; rfl] at e1
 have a1:(rows.map fun _=>true).all id=true:=by simp
 refine fnP_eq ?_
 show Run d_l_right [some (.lst (rows.map rowN)),some (.lst (wd.map T.str)),none,none,none] _
 unfold d_l_right
 refine run_nx (s':=[some (.lst (rows.map rowN)),some (.lst (wd.map T.str)),none,none,none]) (by simp_all? [e1,a1]) ?_
 by_cases h0:wd=[]
 ·have hr:rows=[[]]:=by
   rcases h with ⟨_,e⟩ | ⟨e,_⟩
   ·exact e
   ·exact absurd h0 e
  subst h0 hr
  exact run_retq (s':=[some (.lst ([[]].map rowN)),some (.lst (([]:List Str).map T.str)),none,none,none]) (by simp_all? [lw]<;>rfl) rfl
 obtain ⟨_,hR⟩:=h.resolve_left fun z=>h0 z.1
 have R:=hR.rg (rg_perm g.two)
 have hp:=List.length_pos_iff.mpr h0
 obtain ⟨L,hT,hL⟩:=hR
 have par:=rg_par g.two hp hT
 rw [<-hL.len] at par
 have hn0:¬ (wd.length:Int)=0:=by lia
 have oth:∀ x:Nat,fn_l_other [.lst (wd.map T.str),.int (((x:Int)+1)%(wd.length:Nat))]=some (.int (rg wd x:Nat)):=fun x=>by
  have e2:((x:Int)+1)%(wd.length:Nat)=(((x+1)%wd.length:Nat):Int):=by rw [Int.natCast_emod,Int.natCast_add]; rfl
  rw [e2]
  exact other_eq g (Nat.mod_lt _ hp)
 have su:gSortU (.lst (rows.map rowN))=some (.lst (rows.map rowN)):=by
  show ((intsLs (rows.map rowN)).bind fun rs=>if rs.length < 64 then if riseL rs=true then some (T.lst (rows.map rowN)) else none else none)=_
  rw [intsLs_rows,Option.bind_some,if_pos (by rw [List.length_map]; lia),if_pos (rise_of (List.Pairwise.map _ (fun _ _ h=>h) R.up))]
 have eqr:=vEqRows rows rows
 rw [decide_eq_true rfl] at eqr
 have itR:dItA (dV 0) [some (.lst (rows.map rowN)),some (.lst (wd.map T.str)),some (.lst (([]:List Nat).map nT)),none,none]=some (rows.map rowN,[some (.lst (rows.map rowN)),some (.lst (wd.map T.str)),some (.lst (([]:List Nat).map nT)),none,none]):=rfl
 have getR:∀ (j:Nat) (z:T),(rows.map rowN)[j]?=some z->∃ r,rows[j]?=some r/\z=rowN r:=fun j z hz=>by
  rw [List.getElem?_map] at hz
  obtain ⟨r,hr,rfl⟩:=Qm hz
  exact ⟨r,hr,rfl⟩
 have lenR:(rows.map rowN).length=rows.length:=List.length_map ..
 generalize hRS:rows.map rowN=RS at itR su eqr lr getR lenR
 generalize hW:T.lst (wd.map T.str)=W at lw oth itR
 refine run_nx (s':=[some (.lst RS),some W,none,none,none]) (by simp_all? [lw,decide_eq_false hn0]) ?_
 refine run_nx (s':=[some (.lst RS),some W,some (.lst (([]:List Nat).map nT)),none,none]) (by simp_all? []<;>rfl) ?_
 refine run_forR (its:=RS) (fun j s=>∃ a b:Option T,s=[some (.lst RS),some W,some (.lst ((rows.take j).flatten.map nT)),a,b]) itR ⟨none,none,rfl⟩ ?_ ?_
 ·rintro j z s hz ⟨a,b,rfl⟩
  obtain ⟨r,hr,rfl⟩:=getR j z hz
  have hrm:=List.mem_of_getElem? hr
  have hr60:=few.2 r hrm
  obtain ⟨st,k,er,cl,hst,hx⟩:=R.row r hrm
  have rl:r.length=k+1:=by rw [er]; unfold steps; simp
  have ra:∀ i,i<=k->r[i]?=some (itr (rg wd) i st):=fun i hi=>by
   rw [er]; unfold steps
   rw [List.getElem?_map,List.getElem?_range (by lia)]; rfl
  have rI:∀ i:Nat,i<=k->gItem (rowN r) (.int (i:Int))=some (.int (itr (rg wd) i st:Nat)):=fun i hi=>by
   unfold rowN
   rw [vItemL,List.getElem?_map,ra i hi]; rfl
  have rL:gItem (rowN r) (.int (-1))=some (.int (itr (rg wd) k st:Nat)):=by
   unfold rowN
   rw [item_last (by intro z; rw [List.map_eq_nil_iff] at z; rw [z] at rl; simp at rl),List.length_map,rl,List.getElem?_map,show k+1 - 1=k by lia,ra k (Nat.le_refl _)]; rfl
  have hst':st∈r:=List.mem_of_getElem? (ra 0 (Nat.zero_le _))
  have mn:gMinI (rowN r)=some (.int (st:Nat)):=by
   show ((intsT (r.map nT)).bind fun ns=>if 0 < ns.length then some (T.int (lowI ns)) else none)=_
   rw [ints_nT,Option.bind_some,if_pos (by rw [List.length_map]; lia),lowI_eq (m:=(st:Int)) (List.mem_map.mpr ⟨st,hst',rfl⟩) fun x hx'=>by
    obtain ⟨y,hy,rfl⟩:=List.mem_map.mp hx'
    have:=(hx y hy).1
    lia]
  obtain ⟨m,hm,mx⟩:∃ m:Nat,m < wd.length/\gMaxI (rowN r)=some (.int (m:Nat)):=by
   have ne:(r.map fun (k:Nat)=>(k:Int))≠[]:=by intro z; rw [List.map_eq_nil_iff] at z; rw [z] at rl; simp at rl
   obtain ⟨m,hm,e⟩:=List.mem_map.mp (topI_mem ne)
   refine ⟨m,(hx m hm).2,?_⟩
   show ((intsT (r.map nT)).bind fun ns=>if 0 < ns.length then some (T.int (topI ns)) else none)=_
   rw [ints_nT,Option.bind_some,if_pos (by rw [List.length_map]; lia),e]
  have eq0:gEq (rowN r) (.lst [])=some (.bl false):=by
   have:=vEqNs r []
   rw [decide_eq_false (by intro z; rw [z] at rl; simp at rl)] at this
   exact this
  have lgr:=lg r
  rw [rl] at lgr
  have fl:(rows.take j).flatten.length<=60:=by
   have h2:=R.flat.length_eq
   rw [<-List.take_append_drop j rows,List.flatten_append,List.length_append,List.length_range] at h2
   lia
  have ex:mExt (.lst ((rows.take j).flatten.map nT)) [rowN r]=some (.lst ((rows.take (j+1)).flatten.map nT),.non):=by
   show (if ((rows.take j).flatten.map nT).length+(r.map nT).length<=sizeLine then some (T.lst ((rows.take j).flatten.map nT++r.map nT),T.non) else none)=_
   rw [if_pos (small_le (by rw [List.length_map,List.length_map]; lia)),List.take_succ,hr,Option.toList_some,List.flatten_append,List.map_append]
   simp
  have i0:gItem (rowN r) (.int 0)=some (.int (st:Nat)):=rI 0 (Nat.zero_le _)
  generalize rowN r=RR at rI rL mn mx eq0 lgr ex i0
  refine ⟨[some (.lst RS),some W,some (.lst ((rows.take j).flatten.map nT)),some RR,b],rfl,?_⟩
  refine run_nx (s':=[some (.lst RS),some W,some (.lst ((rows.take j).flatten.map nT)),some RR,b]) (by simp_all? [eq0,mn,i0,mx,lw,decide_eq_false (show ¬ (st:Int) < 0 by lia),decide_eq_false (show ¬ (wd.length:Int)<=(m:Nat) by lia)]) ?_
  refine run_forR (its:=rangeT 0 (k+1)) (fun i s=>∃ b:Option T,s=[some (.lst RS),some W,some (.lst ((rows.take j).flatten.map nT)),some RR,b]) (by simp_all? [lgr,rgN (k:=k+1) (by lia),Int.toNat_natCast]<;>rfl) ⟨b,rfl⟩ ?_ ?_
  ·rintro i z s hz ⟨b,rfl⟩
   obtain ⟨hi,rfl⟩:=range_get hz
   rw [Int.zero_add]
   refine ⟨[some (.lst RS),some W,some (.lst ((rows.take j).flatten.map nT)),some RR,some (.int (i:Int))],rfl,?_⟩
   have r1:=rI i (by lia)
   obtain ⟨p,hp1,hp2⟩:∃ p:Nat,gItem RR (.int ((i:Int) - 1))=some (.int (p:Nat))/\rg wd p=itr (rg wd) i st:=by
    cases i with
    | zero=>exact ⟨itr (rg wd) k st,rL,cl⟩
    | succ i=>
     refine ⟨itr (rg wd) i st,?_,rfl⟩
     rw [show (((i+1:Nat):Int) - 1)=(i:Int) by lia]
     exact rI i (by lia)
   have o:=oth p
   rw [hp2] at o
   exact onto_nx (s':=[some (.lst RS),some W,some (.lst ((rows.take j).flatten.map nT)),some RR,some (.int (i:Int))]) (by simp_all? [r1,hp1,lw,o]) ⟨_,rfl⟩
  ·rintro s ⟨b,rfl⟩
   exact onto_nx (s':=[some (.lst RS),some W,some (.lst ((rows.take (j+1)).flatten.map nT)),some RR,b]) (by simp_all? [ex]) ⟨_,_,rfl⟩
 ·rintro s ⟨a,b,rfl⟩
  rw [lenR,List.take_length]
  have srt:gSorted (.lst (rows.flatten.map nT))=some (.lst ((List.range wd.length).map nT)):=by
   have ne:rows.flatten≠[]:=by
    intro z
    have:=R.flat.length_eq
    rw [z,List.length_range] at this
    simp at this
    lia
   have ns:strsT (rows.flatten.map nT)=none:=by
    cases hh:rows.flatten with
    | nil=>exact absurd hh ne
    | cons y ys=>rfl
   have si:sortI (rows.flatten.map fun (k:Nat)=>(k:Int))=(List.range wd.length).map fun (k:Nat)=>(k:Int):=by
    refine (sortI_unique ((R.flat.symm).map _) ?_).symm
    refine List.Pairwise.map _ (R:=fun a b=>a < b) (fun a b h=>by lia) List.pairwise_lt_range
   show (match strsT (rows.flatten.map nT) with
    | some ss=>if ss.length < 64 then some (T.lst ((sortS ss).map T.str)) else none
    | none=>(intsT (rows.flatten.map nT)).bind fun ns=>if ns.length < 64 then some (T.lst ((sortI ns).map T.int)) else none)=_
   rw [ns]
   dsimp only
   rw [ints_nT,Option.bind_some,if_pos (by rw [List.length_map,R.flat.length_eq,List.length_range]; lia),si,List.map_map]
   rfl
  have eqn:=vEqNs (List.range wd.length) (List.range wd.length)
  rw [decide_eq_true rfl] at eqn
  have e9:(((rows.length:Nat):Int)+(wd.length:Nat) / 2)%2=1:=by lia
  exact run_ret (s':=[some (.lst RS),some W,some (.lst (rows.flatten.map nT)),a,b]) (by simp_all? [srt,rgN (k:=wd.length) (by lia),Int.toNat_natCast,range_nT,eqn,su,eqr,lr,lw,e9,decide_true]<;>rfl) rfl
end Dw
namespace Dw
open PySem L2 L3
theorem ifD_f{M:List Nat}{ft:DT}{d d':DS}{s:Sg}(h:ft s=some (false,s))(hf:FlatM M s):dIfD M ft d d' s=d' s:=by
 unfold dIfD
 rw [h,Option.bind_some]
 rw [if_pos ⟨rfl,hf⟩]
 rfl
theorem seq_ok{d d':DS}{s s1:Sg}{r:Option Fl}(h:d s=some (.nx s1))(h':d' s1=r):dSeq d d' s=r:=by
 unfold dSeq
 rw [h]
 exact h'
theorem deep2_nx{fn:List T->Option T}{fa:DA}{x:Nat}{d:DS}{s s1 s2 s3:Sg}{ts:List T}{t:T}(h1:fa s=some (ts,s1))(h2:fn ts=some t)(h3:x < s1.length)(h4:d (s1.set x (some t))=some (.nx s2))(h5:s2.set x none=s3):dDeep2 fn fa x d s=some (.nx s3):=by
 unfold dDeep2
 rw [h1,Option.bind_some]
 dsimp only
 rw [h2,Option.bind_some,if_pos h3,h4,<-h5]
 rfl
theorem forA_ok{M:List Nat}{x y:Nat}{s s':Sg}{ts:List T}(h:s[x]?=some (some (.lst ts)))(K:ForA M x y s ts)(e:(s.set y none).set x (some (.lst (ts.map fun _=>T.any)))=s'):dForA M x y s=some (.nx s'):=by
 unfold dForA
 rw [h]
 show @ite _ (ForA M x y s ts) (Classical.propDecidable _) (some (Fl.nx ((s.set y none).set x (some (.lst (ts.map fun _=>T.any)))))) none=_
 rw [if_pos K,e]
theorem cut_len38(ns:List Int):(cutT ns (some 3) (some 8)).length<=8:=by
 unfold cutT
 rw [List.length_take]
 have:HT.sIx ns.length ns.length (some ((8:Nat):Int))=min 8 ns.length:=HT.sIx_nat _ _ 8
 have:HT.sIx ns.length ns.length (some 8)=min 8 ns.length:=this
 lia
theorem law_eq(ns:List Int):fn_law [.scr ns]=some (.bl true):=by
 refine fnP_eq ?_
 show Run d_law [some (.scr ns),none,none,none,none,none,none] _
 unfold d_law
 have c0:fn_l_cell [.scr ns,.int 0]=some (.int (ns.getD 0 0)):=cell_eq ns 0
 have c1:fn_l_cell [.scr ns,.int 1]=some (.int (ns.getD 1 0)):=cell_eq ns 1
 have c2:fn_l_cell [.scr ns,.int 2]=some (.int (ns.getD 2 0)):=cell_eq ns 2
 generalize ns.getD 0 0=v0 at c0
 generalize ns.getD 1 0=v1 at c1
 generalize ns.getD 2 0=v2 at c2
 obtain ⟨m,hm⟩:∃ m:Nat,v1%31=(m:Int):=⟨(v1%31).toNat,by rw [Int.toNat_of_nonneg (Int.emod_nonneg _ (by decide))]⟩
 have hm30:m<=30:=by have:=Int.emod_lt_of_pos v1 (show (0:Int) < 31 by decide); lia
 obtain ⟨names,en,nl,nd,nN⟩:=names2_eq v0 hm30
 refine run_nx (s':=[some (.scr ns),some (.lst (names.map T.str)),none,none,none,none,none]) (by simp_all? [c0,c1,hm,en]) ?_
 have sl:gSlA (.scr ns) (some 3) (some 8)=some (.lst ((cutT ns (some 3) (some 8)).map T.int)):=rfl
 have hcl:=cut_len38 ns
 generalize cutT ns (some 3) (some 8)=cs at sl hcl
 have pl:gPlus (.lst [.int v2]) (.lst (cs.map T.int))=some (.lst ((v2::cs).map T.int)):=by rw [vPlusL (by rw [List.length_map,List.length_singleton]; lia)]; rfl
 refine run_for (its:=(v2::cs).map T.int) (fun j s=>∃ a b c d e:Option T,s=[some (.scr ns),some (.lst (names.map T.str)),a,b,c,d,e]) (by simp_all? [c2,sl,pl]<;>rfl) ⟨none,none,none,none,none,rfl⟩ ?_ ?_
 ·rintro j z s hz ⟨a,b,c,d,e,rfl⟩
  rw [List.getElem?_map] at hz
  obtain ⟨cc,hcc,rfl⟩:=Qm hz
  obtain ⟨wd,ew,gw,_⟩:=word2_eq cc (by lia) nd nN
  obtain ⟨rows,er,hr⟩:=rings_eq gw
  have ri:=right_eq gw hr
  have hlen:=gw.len
  have nw:=vNeSs wd wd
  rw [decide_eq_true rfl] at nw
  have fm:∀ s:Sg,FlatM [] s:=fun s i hi=>by cases hi
  have ll:gListA (.lst (wd.map T.str))=some (.lst (wd.map T.str)):=rfl
  have hRt:∀ t∈rows.map rowN,∃ l,t=.lst l/\l.all flatT=true/\l.length<=10000:=fun t ht=>by
   obtain ⟨r,hr',rfl⟩:=List.mem_map.mp ht
   refine ⟨r.map nT,rfl,by rw [List.all_map]; exact List.all_eq_true.mpr fun _ _=>rfl,?_⟩
   rw [List.length_map]
   rcases hr with ⟨_,rfl⟩ | ⟨_,hR⟩
   ·rw [List.mem_singleton.mp hr']; decide
   ·have h1:r.Sublist rows.flatten:=List.sublist_flatten_of_mem hr'
    have h2:=h1.length_le
    rw [(hR.rg (rg_perm gw.two)).flat.length_eq,List.length_range] at h2
    lia
  have hRl:(rows.map rowN).length<=10000:=by
   rw [List.length_map]
   rcases hr with ⟨_,rfl⟩ | ⟨_,hR⟩
   ·decide
   ·have:=(hR.rg (rg_perm gw.two)).few; lia
  generalize rows.map rowN=RS at er ri hRt hRl
  generalize T.lst (wd.map T.str)=W at ew er ri nw ll
  generalize T.lst (names.map T.str)=N at ew
  refine ⟨[some (.scr ns),some N,some (.int cc),b,c,d,e],rfl,?_⟩
  refine run_nx (s':=[some (.scr ns),some N,some (.int cc),some W,c,d,e]) (by simp_all? [ew]) ?_
  refine run_nx (s':=[some (.scr ns),some N,some (.int cc),some W,some W,d,e]) (by simp_all? [ll]) ?_
  refine run_onto (deep2_nx (s1:=[some (.scr ns),some N,some (.int cc),some W,some W,d,e]) (ts:=[W]) (t:=.lst RS) (s2:=[some (.scr ns),some N,some (.int cc),some W,some W,some (.lst []),none]) (by simp_all? []) er (show 5 < 7 by decide) ?_ rfl) ⟨_,_,_,_,_,rfl⟩
  refine seq_ok (s1:=[some (.scr ns),some N,some (.int cc),some W,some W,some (.lst RS),e]) ((ifD_f (by simp_all? [ri,nw]<;>rfl) (fm _)).trans rfl) ?_
  refine seq_ok (s1:=[some (.scr ns),some N,some (.int cc),some W,some W,some (.lst (RS.map fun _=>T.any)),none]) (forA_ok (ts:=RS) rfl ⟨by decide,by simp,(show 6 < 7 by decide),hRt,hRl⟩ rfl) ?_
  refine seq_ok (s1:=[some (.scr ns),some N,some (.int cc),some W,some W,some (.lst []),none]) rfl ?_
  exact (ifD_f (by simp_all? [er,ri]<;>rfl) (fm _)).trans rfl
 ·rintro s ⟨a,b,c,d,e,rfl⟩
  exact run_ret (s':=[some (.scr ns),some (.lst (names.map T.str)),a,b,c,d,e]) (by simp_all? []<;>rfl) rfl
end Dw
namespace Dw
open PySem PySem.Spec PyProof.Rows L2 L3
set_option maxHeartbeats 1000000 in
theorem all_mk{l:PySem.W.OpenLaw}{w:World}{K:PySem.W.Frag}{h:Heap}{mg:Str->Option Value}{fa:Addr}(X:K.In h)(G:h.Ns mainGlobals mg)(hfa:mg "law"=some (.ref fa))
  (a1:Fd K "_law_names" s_l_names)
  (a2:Fd K "_law_cell" s_l_cell)
  (a3:Fd K "_law_draw" s_l_draw)
  (a4:Fd K "_law_built_word" s_l_built_word)
  (a5:Fd K "_law_any_word" s_l_any_word)
  (a6:Fd K "_law_bag" s_l_bag)
  (a7:Fd K "_law_word" s_l_word)
  (a8:Fd K "rounds" s_p_rounds)
  (a9:Fd K "standings" s_p_standings)
  (a10:Fd K "partner" s_p_partner)
  (a11:Fd K "rings" s_p_rings)
  (a12:Fd K "_law_other" s_l_other)
  (a13:Fd K "_law_whole" s_l_whole)
  (a14:Fd K "_law_lists" s_l_lists)
  (a15:Fd K "_law_right" s_l_right)
  (a16:Fd K "law" s_law)
  (z1:PySem.W.nsIn K mainGlobals "range"=some none)
  (z2:PySem.W.nsIn K mainGlobals "len"=some none)
  (z3:PySem.W.nsIn K mainGlobals "list"=some none)
  (z4:PySem.W.nsIn K mainGlobals "max"=some none)
  (z5:PySem.W.nsIn K mainGlobals "set"=some none)
  (z6:PySem.W.nsIn K mainGlobals "enumerate"=some none)
  (z7:PySem.W.nsIn K mainGlobals "isinstance"=some none)
  (z8:PySem.W.nsIn K mainGlobals "bool"=some none)
  (z9:PySem.W.nsIn K mainGlobals "int"=some none)
  (z10:PySem.W.nsIn K mainGlobals "all"=some none)
  (z11:PySem.W.nsIn K mainGlobals "min"=some none)
  (z12:PySem.W.nsIn K mainGlobals "sorted"=some none)
  : ∃ fd:FuncData,(∀ (s:Shared) (v:Value),BindsTo s fd ⟨[v],[]⟩ [("_law_script",v)])/\∀ base:Heap,K.In base->base.Ns mainGlobals mg->FnOk l.prog w K mg base CX0 4 fa fd ["_law_script"] (L3.spLaw K):=by
 have m_range:=PySem.W.mg_none_of X G z1
 have m_len:=PySem.W.mg_none_of X G z2
 have m_list:=PySem.W.mg_none_of X G z3
 have m_max:=PySem.W.mg_none_of X G z4
 have m_set:=PySem.W.mg_none_of X G z5
 have m_enumerate:=PySem.W.mg_none_of X G z6
 have m_isinstance:=PySem.W.mg_none_of X G z7
 have m_bool:=PySem.W.mg_none_of X G z8
 have m_int:=PySem.W.mg_none_of X G z9
 have m_all:=PySem.W.mg_none_of X G z10
 have m_min:=PySem.W.mg_none_of X G z11
 have m_sorted:=PySem.W.mg_none_of X G z12
 refine law_top (M':=[]) (Mb:=[]) X G hfa a16 sc_law (fun _ _ _ _ _ _ _=>rfl) (by decide) law_eq fun base=>?_
 letI:TheK:=⟨K⟩
 let v:Ev:=⟨l.prog,w,mg,base⟩
 have c_l_names:U_l_names v 1:=ok_l_names (a1.here X G (bd2 fun _ _ _ _ _ _ _ _=>rfl)) m_range m_len
 have c_l_cell:U_l_cell v 1:=ok_l_cell (a2.here X G (bd2 fun _ _ _ _ _ _ _ _=>rfl)) m_len
 have c_l_draw:U_l_draw v 1:=ok_l_draw (a3.here X G (bd2 fun _ _ _ _ _ _ _ _=>rfl))
 have c_l_built_word:U_l_built_word v 2:=ok_l_built_word (a4.here X G (bd2 fun _ _ _ _ _ _ _ _=>rfl)) c_l_draw.up m_list m_len m_max
 have c_l_any_word:U_l_any_word v 2:=ok_l_any_word (a5.here X G (bd2 fun _ _ _ _ _ _ _ _=>rfl)) c_l_draw.up m_list m_range m_len
 have c_l_bag:U_l_bag v 1:=ok_l_bag (a6.here X G (bd1 fun _ _ _ _ _ _ _=>rfl))
 have c_l_word:U_l_word v 3:=ok_l_word (a7.here X G (bd2 fun _ _ _ _ _ _ _ _=>rfl)) c_l_any_word.up c_l_bag.up c_l_built_word.up
 have c_p_rounds:U_p_rounds v 1:=ok_p_rounds (a8.here X G (bd1 fun _ _ _ _ _ _ _=>rfl)) m_set m_range m_len
 have c_p_standings:U_p_standings v 1:=ok_p_standings (a9.here X G (bd2 fun _ _ _ _ _ _ _ _=>rfl)) m_enumerate
 have c_p_partner:U_p_partner v 2:=ok_p_partner (a10.here X G (bd2 fun _ _ _ _ _ _ _ _=>rfl)) c_p_standings.up
 have c_p_rings:U_p_rings v 3:=ok_p_rings (a11.here X G (bd1 fun _ _ _ _ _ _ _=>rfl)) c_p_rounds.up c_p_partner.up m_len m_range
 have c_l_other:U_l_other v 1:=ok_l_other (a12.here X G (bd2 fun _ _ _ _ _ _ _ _=>rfl)) m_range m_len
 have c_l_whole:U_l_whole v 1:=ok_l_whole (a13.here X G (bd1 fun _ _ _ _ _ _ _=>rfl)) m_isinstance m_bool m_int
 have c_l_lists:U_l_lists v 2:=ok_l_lists (a14.here X G (bd2 fun _ _ _ _ _ _ _ _=>rfl)) c_l_whole.up m_all m_len m_isinstance m_list
 have c_l_right:U_l_right v 3:=ok_l_right (a15.here X G (bd2 fun _ _ _ _ _ _ _ _=>rfl)) c_l_lists.up c_l_other.up m_all m_len m_isinstance m_list m_max m_min m_range m_sorted
 exact b_law (v:=v) c_l_names.up c_l_cell.up c_l_word.up c_p_rings.up c_l_right.up m_list
end Dw
open PySem PySem.W PyProof.Rows
set_option maxRecDepth 100000 in
set_option maxHeartbeats 0 in
theorem PySem.Challenge.cw_drawnword_k27_rings_holds : PySem.Challenge.rw_drawnword_k27_rings.Holds := by
 w_on; o_law; k_head; (case hw=>w_witness2)
 k_fill
 refine L3.walkT (l:=PySem.Challenge.rw_drawnword_k27_rings) (x:="_law_script") (k:=4) rfl rfl (by decide) (fun w h Y=>PySem.W.kIn_of Y) ?F
 case F=>
  intro w mg fa h KX G hmg
  refine' Dw.all_mk KX G hmg (.mk ?_ ?_ ?_ ?_) (.mk ?_ ?_ ?_ ?_) (.mk ?_ ?_ ?_ ?_) (.mk ?_ ?_ ?_ ?_) (.mk ?_ ?_ ?_ ?_) (.mk ?_ ?_ ?_ ?_) (.mk ?_ ?_ ?_ ?_) (.mk ?_ ?_ ?_ ?_) (.mk ?_ ?_ ?_ ?_) (.mk ?_ ?_ ?_ ?_) (.mk ?_ ?_ ?_ ?_) (.mk ?_ ?_ ?_ ?_) (.mk ?_ ?_ ?_ ?_) (.mk ?_ ?_ ?_ ?_) (.mk ?_ ?_ ?_ ?_) (.mk ?_ ?_ ?_ ?_) ?_ ?_ ?_ ?_ ?_ ?_ ?_ ?_ ?_ ?_ ?_ ?_
  all_goals try k_is
