import PyProof.Rows.All
import Wide.All
import OpenK.AllK
import Wide.FinOn
import Lean
import PyProof.EqAt
import PyProof.EqKinds
import PyProof.TupleCall
import PyProof.EnumMake
import PyProof.EnumFor
import PyProof.NeKinds
import PyProof.EnumStmt
import PyProof.DictCompW
import KE.KDictList
import KE.KRevSl
import PyProof.ListRange
import PyProof.ConsumeWalk
import PyProof.SumWalk
import PyProof.MinMaxWalk
import PyProof.DictWalks
import PyProof.StrWalks
import PyProof.Rows.SortStr
import PyProof.Rows.SortShell
import PyProof.Rows.SortWalk
import PyProof.StrBlockG
import PyProof.StrLawsTight
import PyProof.Rows.RuleB_and
import PyProof.Rows.RuleB_or
import PyProof.Rows.SetFrom
import PyProof.SetRoads
import PyProof.Rows.SumAny
import KE.KRevIter
import PyProof.Rows.Range3
import KE.KDictLaws
import PyProof.ConsumeS
import PyProof.ZipIter
import PyProof.ListNew
import PyProof.Draws
import PyProof.SeqI3
import OpenK.KRaise
import PyProof.ExcBaseAll.ValueError
import PyProof.RulesAs
import OpenK.KDescr
import KE.KIsAll
import PyProof.ExcArgs
import PyProof.AutoSeq1
import PyProof.CallStr
import OpenK.KOwn
import PyProof.StrLawsChain
import PySem.Challenge.RW_drawnword_k35_curls
set_option Elab.async false
set_option linter.all false
set_option maxRecDepth 100000
theorem Qb{α β:Type _}{x:Option α}{f:α->Option β}{b:β}(h:x.bind f=some b):∃ a,x=some a/\f a=some b:=Option.bind_eq_some_iff.mp h
theorem Qm{α β:Type _}{x:Option α}{f:α->β}{b:β}(h:x.map f=some b):∃ a,x=some a/\f a=b:=Option.map_eq_some_iff.mp h
namespace L2
open PySem PySem.Spec PyProof.Rows
abbrev Key:=Sum Int Str
def keyIs:Key->Value->Bool
 | .inl k,v=>Value.isInt k v
 | .inr x,v=>Value.isStrOf x v
def keyH(w:World):Key->Int
 | .inl k=>hashInt k
 | .inr x=>hashStr w x
theorem keyIs_shape:∀ {k:Key} {v:Value},keyIs k v=true->(∃ i t,k=Sum.inl i/\v=Value.int i t)∨(∃ x t,k=Sum.inr x/\v=Value.str x t)
 | .inl i,v,h=>by
  obtain ⟨t,e⟩:=Value.isInt_shape (k:=i) (v:=v) h
  exact .inl ⟨i,t,rfl,e⟩
 | .inr x,v,h=>by
  obtain ⟨t,e⟩:=Value.isStrOf_shape (x:=x) (v:=v) h
  exact .inr ⟨x,t,rfl,e⟩
theorem keyIs_int(i:Int)(t:Tok):keyIs (.inl i) (.int i t)=true:=by simp [keyIs,Value.isInt]
theorem keyIs_str(x:Str)(t:Tok):keyIs (.inr x) (.str x t)=true:=by simp [keyIs,Value.isStrOf]
theorem key_ll(a b:Int):decide ((Sum.inl a:Key)=Sum.inl b)=(a == b):=by
 by_cases e:a=b
 ·subst e; simp
 ·have h:¬ (Sum.inl a:Key)=Sum.inl b:=fun q=>e (Sum.inl.inj q)
  rw [decide_eq_false h]
  exact (beq_eq_false_iff_ne.mpr e).symm
theorem key_rr(a b:Str):decide ((Sum.inr a:Key)=Sum.inr b)=decide (a=b):=by
 by_cases e:a=b
 ·subst e; simp
 ·have h:¬ (Sum.inr a:Key)=Sum.inr b:=fun q=>e (Sum.inr.inj q)
  rw [decide_eq_false h,decide_eq_false e]
theorem key_lr(a:Int)(b:Str):decide ((Sum.inl a:Key)=Sum.inr b)=false:=decide_eq_false (fun q=>nomatch q)
theorem key_rl(a:Str)(b:Int):decide ((Sum.inr a:Key)=Sum.inl b)=false:=decide_eq_false (fun q=>nomatch q)
def mixKind(prog:Program)(w:World):PySem.KeyKind prog w Key where
 is:=keyIs
 hash:=keyH w
 inj:=fun v a b ha hb=>by
  rcases keyIs_shape ha with ⟨i,t,rfl,rfl⟩ | ⟨x,t,rfl,rfl⟩
  ·rcases keyIs_shape hb with ⟨j,u,rfl,e⟩ | ⟨y,u,rfl,e⟩
   ·injection e with e1 _; rw [e1]
   ·exact nomatch e
  ·rcases keyIs_shape hb with ⟨j,u,rfl,e⟩ | ⟨y,u,rfl,e⟩
   ·exact nomatch e
   ·injection e with e1 _; rw [e1]
 byValue:=fun k v h=>by
  rcases keyIs_shape h with ⟨i,t,rfl,rfl⟩ | ⟨x,t,rfl,rfl⟩<;>rfl
 pyHash:=fun hv h=>by
  rcases keyIs_shape hv with ⟨i,t,rfl,rfl⟩ | ⟨x,t,rfl,rfl⟩
  ·exact wpAny_pyHash_int h
  ·exact wpAny_pyHash_str h
 eqBool:=fun hu hv h=>by
  rcases keyIs_shape hu with ⟨i,t,rfl,rfl⟩ | ⟨x,t,rfl,rfl⟩
  ·rcases keyIs_shape hv with ⟨j,u,rfl,rfl⟩ | ⟨y,u,rfl,rfl⟩
   ·rw [key_ll] at h; exact wpAny_eqBool_int h
   ·rw [key_lr] at h; exact SeqAt.EqAt.int_str i t y u _ _ _ _ h
  ·rcases keyIs_shape hv with ⟨j,u,rfl,rfl⟩ | ⟨y,u,rfl,rfl⟩
   ·rw [key_rl] at h; exact SeqAt.EqAt.str_int x t j u _ _ _ _ h
   ·rw [key_rr] at h; exact wpAny_eqBool_str h
 «strs»:=fun k x t v h=>by
  rcases keyIs_shape h with ⟨i,u,rfl,e⟩ | ⟨y,u,rfl,e⟩
  ·exact nomatch e
  ·injection e with e1 _
   subst e1
   cases v<;>rfl
theorem mixKind_int(prog:Program)(w:World)(i:Int)(t:Tok):(mixKind prog w).is (.inl i) (.int i t)=true:=keyIs_int i t
theorem mixKind_str(prog:Program)(w:World)(x:Str)(t:Tok):(mixKind prog w).is (.inr x) (.str x t)=true:=keyIs_str x t
end L2
namespace L2
open PySem PySem.Spec PyProof.Rows
inductive V where
 | non | bl (b:Bool) | int (i:Int) | str (x:Str) | byt (b:Array UInt8) | flt (b:UInt64) | ref (a:Addr) | ty (n:String)
 deriving DecidableEq
def RelV:V->Value->Prop
 | .non,u=>u=Value.none
 | .bl b,u=>u=Value.bool b
 | .int i,u=>∃ t,u=Value.int i t
 | .str x,u=>∃ t,u=Value.str x t
 | .byt b,u=>∃ t,u=Value.bytes b t
 | .flt b,u=>∃ t,u=Value.float b t
 | .ref a,u=>u=Value.ref a
 | .ty n,u=>u=Value.type n
abbrev Vals:List V->List Value->Prop:=Paired RelV
theorem Vals.length{xs:List V}{us:List Value}(r:Vals xs us):xs.length=us.length:=Paired.length r
theorem Vals.get:∀ {xs:List V} {us:List Value} {i:Nat} {x:V},Vals xs us->xs[i]?=some x->∃ u,us[i]?=some u/\RelV x u
 | _,_,_,_,.nil,e=>by simp at e
 | _,_,0,_,.cons r _,e=>by simp at e; subst e; exact ⟨_,rfl,r⟩
 | _,_,i+1,x,.cons _ t,e=>by
  obtain ⟨u,h1,h2⟩:=Vals.get (i:=i) (x:=x) t (by simpa using e)
  exact ⟨u,by simpa using h1,h2⟩
theorem Vals.set{x:V}{u:Value}(r:RelV x u):∀ {xs:List V} {us:List Value} (i:Nat),Vals xs us->Vals (xs.set i x) (us.set i u)
 | _,_,_,.nil=>.nil
 | _,_,0,.cons _ t=>.cons r t
 | _,_,i+1,.cons q t=>.cons q (Vals.set r i t)
theorem Vals.append:∀ {xs ys:List V} {us ws:List Value},Vals xs us->Vals ys ws->Vals (xs++ys) (us++ws)
 | _,_,_,_,.nil,s=>s
 | _,_,_,_,.cons r t,s=>.cons r (Vals.append t s)
theorem Vals.take:∀ {xs:List V} {us:List Value} (n:Nat),Vals xs us->Vals (xs.take n) (us.take n)
 | _,_,0,_=>.nil
 | _,_,_+1,.nil=>.nil
 | _,_,n+1,.cons r t=>.cons r (Vals.take n t)
theorem Vals.drop:∀ {xs:List V} {us:List Value} (n:Nat),Vals xs us->Vals (xs.drop n) (us.drop n)
 | _,_,0,r=>r
 | _,_,_+1,.nil=>.nil
 | _,_,n+1,.cons _ t=>Vals.drop n t
def RelO:Option V->Option Value->Prop
 | some v,some u=>RelV v u
 | none,none=>True
 | _,_=>False
def KV{κ:Type}:List (κ × V)->List (κ × Value)->Prop:=Paired fun (p:κ × V) (q:κ × Value)=>p.1=q.1/\RelV p.2 q.2
def kV:Key->V
 | .inl i=>.int i
 | .inr x=>.str x
inductive HO where
 /-- a list -/
 | lst (xs:List V)
 /-- a tuple (never changes) -/
 | tup (xs:List V)
 /-- a dict whose keys are ints and texts; one whose keys are tuples of ints and texts (the empty one is both) -/
 | dK (kvs:List (Key × V)) | dT (kvs:List (List Key × V))
 /-- a set of ints: its members,its size -/
 | set (S:Int->Bool) (n:Nat)
 /-- an instance of the class at C,its dict at dx,its attributes -/
 | ins (C dx:Addr) (fs:List (Str × V))
 /-- the dict of the instance at x -/
 | own (x:Addr)
 /-- the dict of an exception -/
 | xd (fs:List (Str × V))
 /-- a bound method,f of x -/
 | met (f x:Addr)
 /-- a range object lo,lo+1,.. below hi -/
 | rng (lo hi:Int)
 /-- a thing that is known to the object (the script; a dict while a loop walks it): read,never written while it is so -/
 | frz (o:Obj) (u:HO)
 /-- a code object's table -/
 | tbl (ps:Array Value)
 /-- any other thing,by what is true of its one object (a def of one's own: SetO a S n:=HO.ext fun h=>..) -/
 | ext (φ:Heap->Prop)
abbrev Hp:=Addr->Option HO
def upd(H:Hp)(a:Addr)(o:HO):Hp:=fun b=>if b=a then some o else H b
theorem upd_same{H:Hp}{a:Addr}{o:HO}:upd H a o a=some o:=by unfold upd; rw [if_pos rfl]
theorem upd_ne{H:Hp}{a b:Addr}{o:HO}(h:b≠a):upd H a o b=H b:=by unfold upd; rw [if_neg h]
theorem ne_of{H:Hp}{a b:Addr}{o u:HO}(h:H a=some o)(h':H b=some u)(d:o≠u):a≠b:=by
 intro e; subst e; rw [h] at h'; exact d (Option.some.inj h')
theorem ne_of_none{H:Hp}{a b:Addr}{o:HO}(h:H a=some o)(h':H b=none):a≠b:=by
 intro e; subst e; rw [h] at h'; cases h'
section
variable (P:Program)(w:World)
def ObjOk(H:Hp)(h:Heap)(a:Addr):HO->Prop
 | .lst xs=>xs.length<=sizeLine/\∃ (its:List Value) (n:Nat),Vals xs its/\h.get? a=some { cls:=.type "list",data:=.seq its.toArray n }
 | .tup xs=>xs.length<=sizeLine/\∃ its:List Value,Vals xs its/\IsTup h a its.toArray
 | .dK kvs=>kvs.length<=sizeLine/\(a == sysModules)=false/\∃ vs,KV kvs vs/\h.DictOf (mixKind P w) a vs
 | .dT kvs=>kvs.length<=sizeLine/\(a == sysModules)=false/\∃ xs:List (List Key × Addr × Value),
   Paired (fun (p:List Key × V) (q:List Key × Addr × Value)=>p.1=q.1/\H q.2.1=some (.tup (p.1.map kV))/\RelV p.2 q.2.2) kvs xs /\
   ∃ o es ep,h.get? a=some o/\o.ExactDict/\o.data=.dict es ep/\es.toList=xs.map (entryOfKey (tupleKind (mixKind P w)))/\(xs.map (·.1)).Nodup
 | .set S n=>h.SetOf (intKind P w) a S n
 | .ins C dx fs=>H dx=some (.own a)/\fs.length<=1000/\dx≠a/\h.get? a=some (PySem.W.instObj C dx) /\
   ∃ mA,h.Ns1 dx mA/\(∀ f,RelO (fs.lookup f) (mA f))/\PySem.Within mA (fs.map (·.1))
 | .own _=>∃ o,h.get? a=some o
 | .xd fs=>∃ mA,h.Ns1 a mA/\∀ f,RelO (fs.lookup f) (mA f)
 | .rng lo hi=>∃ t u v,h.get? a=some { cls:=.type "range",data:=.fields #[.int lo t,.int hi u,.int 1 v] }
 | .frz o u=>h.get? a=some o/\ObjOk H h a u
 | .tbl ps=>h.get? a=some { cls:=.none,data:=.fields ps }
 | .met f x=>h.get? a=some (PySem.W.methodObj (.ref f) (.ref x))
 | .ext φ=>φ h/\(∃ o,h.get? a=some o)/\∀ h1 h2:Heap,φ h1->(∀ o,h1.get? a=some o->h2.get? a=some o)->φ h2
def HOk(H:Hp)(h:Heap):Prop:=∀ a o,H a=some o->ObjOk P w H h a o
end
section
variable {P:Program}{w:World}{H H':Hp}{h h':Heap}{a:Addr}{o:HO}
theorem ObjOk.lt(x:ObjOk P w H h a o):a < h.objs.size:=by
 cases o with
 | lst xs=>obtain ⟨_,_,_,_,e⟩:=x; exact Heap.lt_size e
 | tup xs=>obtain ⟨_,_,_,p⟩:=x; exact p.lt
 | dK kvs=>obtain ⟨_,_,_,_,o,_,_,e,_⟩:=x; exact Heap.lt_size e
 | dT kvs=>obtain ⟨_,_,_,_,o,_,_,e,_⟩:=x; exact Heap.lt_size e
 | set S n=>obtain ⟨o,_,_,_,e,_⟩:=x; exact Heap.lt_size e
 | ins C dx fs=>obtain ⟨_,_,_,e,_⟩:=x; exact Heap.lt_size e
 | own y=>obtain ⟨_,e⟩:=x; exact Heap.lt_size e
 | xd fs=>obtain ⟨_,⟨_,_,_,e,_⟩,_⟩:=x; exact Heap.lt_size e
 | rng lo hi=>obtain ⟨_,_,_,e⟩:=x; exact Heap.lt_size e
 | frz ob u=>obtain ⟨e,_⟩:=x; exact Heap.lt_size e
 | tbl ps=>exact Heap.lt_size (show h.get? a=some _ from x)
 | met f y=>exact Heap.lt_size (show h.get? a=some _ from x)
 | ext φ=>obtain ⟨_,⟨_,e⟩,_⟩:=x; exact Heap.lt_size e
theorem Paired.mapP{α β:Type}{F G:α->β->Prop}:∀ {l₁:List α} {l₂:List β},Paired F l₁ l₂->(∀ a b,F a b->G a b)->Paired G l₁ l₂
 | _,_,.nil,_=>.nil
 | _,_,.cons r t,f=>.cons (f _ _ r) (Paired.mapP t f)
theorem ObjOk.stay(x:ObjOk P w H h a o)(k:∀ b u,(b=a∨H b=some (.own a))->h.get? b=some u->h'.get? b=some u)
  (ho:∀ b,H b=some (.own a)->H' b=some (.own a)) (ht:∀ b xs,H b=some (.tup xs)->H' b=some (.tup xs)):ObjOk P w H' h' a o:=by
 induction o with
 | lst xs=>obtain ⟨z,its,n,r,e⟩:=x; exact ⟨z,its,n,r,k _ _ (.inl rfl) e⟩
 | tup xs=>obtain ⟨z,its,r,ob,e,c⟩:=x; exact ⟨z,its,r,ob,k _ _ (.inl rfl) e,c⟩
 | dK kvs=>obtain ⟨z,y,vs,r,ob,es,ep,e,c⟩:=x; exact ⟨z,y,vs,r,ob,es,ep,k _ _ (.inl rfl) e,c⟩
 | dT kvs=>
  obtain ⟨z,y,xs,r,ob,es,ep,e,c⟩:=x
  exact ⟨z,y,xs,Paired.mapP r fun p q z=>⟨z.1,ht _ _ z.2.1,z.2.2⟩,ob,es,ep,k _ _ (.inl rfl) e,c⟩
 | set S n=>obtain ⟨ob,es,ep,t,e,c⟩:=x; exact ⟨ob,es,ep,t,k _ _ (.inl rfl) e,c⟩
 | ins C dx fs=>
  obtain ⟨d,z,ne,e,mA,⟨od,es,ep,e2,c⟩,r⟩:=x
  exact ⟨ho _ d,z,ne,k _ _ (.inl rfl) e,mA,⟨od,es,ep,k _ _ (.inr d) e2,c⟩,r⟩
 | own y=>obtain ⟨ob,e⟩:=x; exact ⟨ob,k _ _ (.inl rfl) e⟩
 | xd fs=>obtain ⟨mA,⟨od,es,ep,e,c⟩,r⟩:=x; exact ⟨mA,⟨od,es,ep,k _ _ (.inl rfl) e,c⟩,r⟩
 | rng lo hi=>obtain ⟨t,u,v,e⟩:=x; exact ⟨t,u,v,k _ _ (.inl rfl) e⟩
 | frz ob u ih=>obtain ⟨e,q⟩:=x; exact ⟨k _ _ (.inl rfl) e,ih q⟩
 | tbl ps=>
  have e:h.get? a=some { cls:=.none,data:=.fields ps }:=x
  show h'.get? a=some { cls:=.none,data:=.fields ps }
  exact k a _ (.inl rfl) e
 | met f y=>
  have e:h.get? a=some (PySem.W.methodObj (.ref f) (.ref y)):=x
  show h'.get? a=some (PySem.W.methodObj (.ref f) (.ref y))
  exact k a _ (.inl rfl) e
 | ext φ=>obtain ⟨p,⟨o,e⟩,st⟩:=x; exact ⟨st _ _ p fun o q=>k _ _ (.inl rfl) q,⟨o,k _ _ (.inl rfl) e⟩,st⟩
theorem HOk.lt(x:HOk P w H h)(e:H a=some o):a < h.objs.size:=(x a o e).lt
theorem HOk.fresh(x:HOk P w H h)(e:h.objs.size<=a):H a=none:=by
 cases q:H a with
 | none=>rfl
 | some u=>exact absurd (Nat.lt_of_lt_of_le (x.lt q) e) (Nat.lt_irrefl _)
theorem HOk.kept(x:HOk P w H h)(k:∀ b u,h.get? b=some u->h'.get? b=some u):HOk P w H h':=fun a o e=>
 (x a o e).stay (fun b u _ q=>k b u q) (fun _ q=>q) fun _ _ q=>q
theorem HOk.laid(x:HOk P w H h)(k:∀ b u,h.get? b=some u->h'.get? b=some u)(hp:h.objs.size<=a)(new:ObjOk P w (upd H a o) h' a o):HOk P w (upd H a o) h':=fun b u e=>by
 have hn:=x.fresh hp
 by_cases hb:b=a
 ·subst hb; rw [upd_same] at e; cases e; exact new
 ·rw [upd_ne hb] at e
  exact (x b u e).stay (fun c v _ q=>k c v q) (fun c q=>by rw [upd_ne (ne_of_none q hn)]; exact q) fun c xs q=>by rw [upd_ne (ne_of_none q hn)]; exact q
end
def Rd(H:Hp)(a:Addr)(u:HO):Prop:=H a=some u∨∃ o,H a=some (.frz o u)
theorem Rd.ok{P:Program}{w:World}{H:Hp}{h:Heap}{a:Addr}{u:HO}(r:Rd H a u)(x:HOk P w H h):ObjOk P w H h a u:=by
 rcases r with r | ⟨o,r⟩
 ·exact x a u r
 ·obtain ⟨_,q⟩:=x a _ r
  exact q
def Mut:Option HO->Prop
 | some (.lst _)=>True
 | some (.dK _)=>True
 | some (.dT _)=>True
 | some (.set _ _)=>True
 | some (.ins _ _ _)=>True
 | some (.ext _)=>True
 | _=>False
section
variable {P:Program}{w:World}{H:Hp}{h h':Heap}{x e:Addr}{o':HO}
theorem HOk.write(ok:HOk P w H h)(mu:Mut (H x))(he:e=x∨H e=some (.own x))(k:∀ b u,b≠e->h.get? b=some u->h'.get? b=some u)(heo:∃ u,h'.get? e=some u)
  (new:ObjOk P w (upd H x o') h' x o'):HOk P w (upd H x o') h':=fun b u q=>by
 have nown:∀ c y,H c=some (.own y)->c≠x:=fun c y r z=>by subst z; rw [r] at mu; exact mu
 have ntup:∀ c xs,H c=some (.tup xs)->c≠x:=fun c xs r z=>by subst z; rw [r] at mu; exact mu
 by_cases hb:b=x
 ·subst hb; rw [upd_same] at q; cases q; exact new
 ·rw [upd_ne hb] at q
  by_cases hbe:b=e
  ·have q':H b=some (.own x):=by
    rcases he with z | z
    ·exact absurd (hbe.trans z) hb
    ·rw [hbe]; exact z
   rw [q] at q'; cases q'
   obtain ⟨v,hv⟩:=heo
   exact ⟨v,by rw [hbe]; exact hv⟩
  ·refine (ok b u q).stay (fun c v hc r=>k c v ?_ r) (fun c r=>by rw [upd_ne (nown c b r)]; exact r) fun c xs r=>by rw [upd_ne (ntup c xs r)]; exact r
   rcases hc with rfl | hc
   ·exact hbe
   ·rintro rfl
    rcases he with z | z
    ·exact nown c b hc z
    ·rw [hc] at z; cases z; exact hb rfl
end
structure Un (fs ex:List Addr) (H H':Hp) (h h':Heap):Prop where
 keep:∀ b o,h.get? b=some o->H b=none->b∉fs->b∉ex->h'.get? b=some o
 slot:∀ b o,h.get? b=some o->H b=none->b∈fs->b∉ex->∃ sl,h'.get? b=some { o with slots:=sl }
 free:∀ b o,h.get? b=some o->H b=none->b∉ex->H' b=none
 there:∀ b o,h.get? b=some o->b∉ex->∃ o',h'.get? b=some o'
 tups:∀ b xs,H b=some (.tup xs)->H' b=some (.tup xs)
 frzs:∀ b o u,H b=some (.frz o u)->H' b=some (.frz o u)
 tbls:∀ b ps,H b=some (.tbl ps)->∃ more,H' b=some (.tbl (ps++more))
section
variable {fs fs' ex ex':List Addr}{H H1 H2:Hp}{h h1 h2 h':Heap}{a x e:Addr}{o:HO}
theorem Un.any(u:Un fs ex H H1 h h1){b:Addr}{ob:Obj}(q:h.get? b=some ob)(n:H b=none)(hx:b∉ex):∃ sl,h1.get? b=some { ob with slots:=sl }:=by
 by_cases hb:b∈fs
 ·exact u.slot b ob q n hb hx
 ·exact ⟨ob.slots,u.keep b ob q n hb hx⟩
theorem Un.kept(k:∀ b u,h.get? b=some u->h'.get? b=some u):Un fs ex H H h h':=
 ⟨fun b ob q _ _ _=>k b ob q,fun b ob q _ _ _=>⟨ob.slots,k b ob q⟩,fun _ _ _ n _=>n,fun b ob q _=>⟨ob,k b ob q⟩,fun _ _ q=>q,fun _ _ _ q=>q,fun _ ps q=>⟨#[],by rw [q]; simp⟩⟩
theorem Un.refl:Un fs ex H H h h:=Un.kept fun _ _ q=>q
theorem Un.laid(k:∀ b u,h.get? b=some u->h'.get? b=some u)(hp:h.objs.size<=a)(hn:H a=none):Un fs ex H (upd H a o) h h' where
 keep:=fun b u q _ _ _=>k b u q
 slot:=fun b u q _ _ _=>⟨u.slots,k b u q⟩
 free:=fun b u q n _=>by rw [upd_ne (Nat.ne_of_lt (Nat.lt_of_lt_of_le (Heap.lt_size q) hp))]; exact n
 there:=fun b u q _=>⟨u,k b u q⟩
 tups:=fun b xs q=>by rw [upd_ne (ne_of_none q hn)]; exact q
 frzs:=fun b u xs q=>by rw [upd_ne (ne_of_none q hn)]; exact q
 tbls:=fun b ps q=>⟨#[],by rw [upd_ne (ne_of_none q hn),q]; simp⟩
theorem Un.write(mu:Mut (H x))(he:e=x∨H e=some (.own x))(k:∀ b u,b≠e->h.get? b=some u->h'.get? b=some u)(heo:∃ u,h'.get? e=some u):Un fs ex H (upd H x o) h h':=by
 have hx:∀ b,H b=none->b≠x:=fun b n z=>by subst z; rw [n] at mu; exact mu
 have hb:∀ b,H b=none->b≠e:=fun b n z=>by
  subst z
  rcases he with r | r
  ·exact hx b n r
  ·rw [n] at r; cases r
 have hm:∀ b u,H b=some u->¬ Mut (some u)->b≠x:=fun b u q nm z=>by subst z; rw [q] at mu; exact nm mu
 refine ⟨fun b u q n _ _=>k b u (hb b n) q,fun b u q n _ _=>⟨u.slots,k b u (hb b n) q⟩,fun b u q n _=>by rw [upd_ne (hx b n)]; exact n,fun b u q _=>?_,
  fun b xs q=>by rw [upd_ne (hm b _ q fun z=>z)]; exact q,fun b u xs q=>by rw [upd_ne (hm b _ q fun z=>z)]; exact q,fun b ps q=>⟨#[],by rw [upd_ne (hm b _ q fun z=>z),q]; simp⟩⟩
 by_cases hbe:b=e
 ·subst hbe; exact heo
 ·exact ⟨u,k b u hbe q⟩
end
def trk(h:Heap)(H:Hp):List Addr:=(List.range h.objs.size).filter fun a=>(H a).isSome
def hidT(h:Heap)(H:Hp):Heap:=PySem.W.hideAll h (trk h H)
theorem hidT_size(h:Heap)(H:Hp):(hidT h H).objs.size=h.objs.size:=PySem.W.hideAll_size _ _
theorem hidT_get{h:Heap}{H:Hp}{b:Addr}{o:Obj}(e:h.get? b=some o)(n:H b=none):(hidT h H).get? b=some o:=
 PySem.W.hideAll_get _ e fun hm=>by
  have q:(H b).isSome=true:=(List.mem_filter.mp hm).2
  rw [n] at q; simp at q
theorem of_hidT{h:Heap}{H:Hp}{b:Addr}{o:Obj}(e:(hidT h H).get? b=some o):h.get? b=some o/\H b=none:=by
 have e':h.get? b=some o:=PySem.W.of_hideAll (trk h H) e
 refine ⟨e',?_⟩
 cases q:H b with
 | none=>rfl
 | some x=>
  have hm:b∈trk h H:=List.mem_filter.mpr ⟨List.mem_range.mpr (Heap.lt_size e'),by simp [q]⟩
  have z:(hidT h H).get? b=none:=PySem.W.hideAll_none (trk h H) hm
  rw [z] at e; cases e
def allNews(g h:Heap)(L:Addr):List (Addr × Obj):=(List.range h.objs.size).filterMap fun a=>if a=L∨(g.get? a).isSome=true then none else (h.get? a).map fun o=>(a,o)
def rest(g h:Heap)(L d:Addr):List (Addr × Obj):=(allNews g h L).filter fun p=>decide (p.1≠d)
end L2
namespace L2
open PySem PySem.Spec PyProof.Rows
structure Mod (K:PySem.W.Frag) (mg:Str->Option Value) (base:Heap):Prop where
 kin:K.In base
 glob:base.Ns mainGlobals mg
 blt:∃ mb,base.Ns builtinsNs mb/\∀ x:Str,x≠"__name__"->mb x=bootBuiltins x
 nolimit:base.NoLimit
structure Cx where
 prog:Program
 w:World
 K:PySem.W.Frag
 mg:Str->Option Value
 base:Heap
 A:Around
 N:List Str
 s₀:Shared
 H₀:Hp
 env:Env
 outer:List Env
 stack:List Env
 ex:List Addr
 fn:Str->Bool
 calm:Bool
 pn:List (Addr × Obj)
 xe:Value->Shared->Prop
def frs(l:List Env):List Addr:=l.filterMap (·.frame)
abbrev Cx.fs(X:Cx):List Addr:=frs X.outer
def Vis(sc:Scope)(x:Str):Prop:=sc.names.lookup x=some .local∨sc.names.lookup x=some .cell∨sc.names.lookup x=some .free
def Loc(sc:Scope)(x:Str):Prop:=sc.names.lookup x=some .local∨sc.names.lookup x=some .cell
def Look(env:Env)(h:Heap)(m:Str->Option Value)(x:Str)(u:Value):Prop:=
 (env.kindOf x=some .local/\m x=some u)∨((env.kindOf x=some .cell∨env.kindOf x=some .free)/\∃ c,env.cells.lookup x=some c/\h.IsCell c (some u))
structure Cx.Ok (X:Cx):Prop where
 mod:Mod X.K X.mg X.base
 kind:X.env.scope.kind=.function
 glob:X.env.globals=mainGlobals
 blt:X.env.builtins=builtinsNs
 above:X.s₀.heap.objs.size<=X.env.locals
 inj:∀ x y c,X.env.cells.lookup x=some c->X.env.cells.lookup y=some c->x=y
 has:∀ x,(X.env.kindOf x=some .cell∨X.env.kindOf x=some .free)->∃ c,X.env.cells.lookup x=some c
 cab:∀ x c,X.fn x=true->X.env.cells.lookup x=some c->X.s₀.heap.objs.size<=c
 hd:X.calm=true->X.A.handled=none
 frames:X.A.frames=some X.stack
 stk:X.stack=X.outer∨(X.stack=X.env::X.outer/\X.env.frame=some X.env.locals)
 exf:∀ b∈X.ex,b≠X.env.locals/\∀ x c,X.env.cells.lookup x=some c->c≠b
 bs:∀ b o,X.base.get? b=some o->X.s₀.heap.get? b=some o/\X.H₀ b=none
 bsz:X.base.objs.size<=X.s₀.heap.objs.size
 noex:∀ b o,X.base.get? b=some o->b∉X.ex
 exfs:∀ b∈X.ex,b∉X.fs
 funs:X.s₀.heap.FunFrames X.base X.outer
 frf:∀ b∈X.fs,X.H₀ b=none
structure Inv (X:Cx) (pins:List (Addr × Obj)) (σ:List (Option V)) (H:Hp) (s:Shared):Prop where
 ok:X.Ok
 os:s.os=X.s₀.os
 bare:AllBare s.gens
 base:Un X.fs X.ex X.H₀ H X.s₀.heap s.heap
 loc:∃ m,s.heap.Ns X.env.locals m/\∀ (i:Nat) (x:Str) (v:V),X.N[i]?=some x->σ[i]?=some (some v)->Vis X.env.scope x->∃ u,RelV v u/\Look X.env s.heap m x u
 cell:∀ x c,X.env.cells.lookup x=some c->∃ v,s.heap.IsCell c v
 free:H X.env.locals=none
 freeC:∀ x c,X.env.cells.lookup x=some c->H c=none
 pin:∀ p∈X.pn++pins,s.heap.get? p.1=some p.2/\H p.1=none/\p.1≠X.env.locals/\p.1∉X.fs/\∀ v,p.2.data≠.cell v
 hok:HOk X.prog X.w H s.heap
 len:σ.length=X.N.length
section
variable {X:Cx}{pins:List (Addr × Obj)}{σ:List (Option V)}{H H':Hp}{s:Shared}{h':Heap}
theorem Cx.Ok.nofr(ok:X.Ok){b:Addr}{o:Obj}(e:X.base.get? b=some o):b∉X.fs:=fun hb=>by
 have:=(ok.funs.mem hb).1
 rw [e] at this; cases this
theorem Inv.bs(I:Inv X pins σ H s):∀ b o,X.base.get? b=some o->s.heap.get? b=some o/\H b=none:=fun b o e=>
 ⟨I.base.keep b o (I.ok.bs b o e).1 (I.ok.bs b o e).2 (I.ok.nofr e) (I.ok.noex b o e),I.base.free b o (I.ok.bs b o e).1 (I.ok.bs b o e).2 (I.ok.noex b o e)⟩
theorem Inv.bk(I:Inv X pins σ H s):∀ b o,X.base.get? b=some o->s.heap.get? b=some o:=fun b o e=>(I.bs b o e).1
theorem Inv.mod(I:Inv X pins σ H s):Mod X.K X.mg X.base:=I.ok.mod
theorem Inv.kIn(I:Inv X pins σ H s):X.K.In s.heap:=I.ok.mod.kin.keeps I.bk
theorem Inv.lt(I:Inv X pins σ H s):X.env.locals < s.heap.objs.size:=let ⟨_,hn,_⟩:=I.loc; hn.lt
theorem Inv.sz(I:Inv X pins σ H s):X.s₀.heap.objs.size<=s.heap.objs.size:=Nat.le_trans I.ok.above (Nat.le_of_lt I.lt)
theorem Inv.nofs(I:Inv X pins σ H s){a:Addr}(h:s.heap.objs.size<=a):a∉X.fs:=fun hb=>by
 obtain ⟨_,o,ho,_⟩:=I.ok.funs.mem hb
 exact absurd (Nat.lt_of_lt_of_le (Heap.lt_size ho) (Nat.le_trans I.sz h)) (Nat.lt_irrefl _)
theorem Inv.cne(I:Inv X pins σ H s):∀ x c,X.env.cells.lookup x=some c->c≠X.env.locals:=fun x c e z=>by
 obtain ⟨v,o,ho,hd⟩:=I.cell x c e
 obtain ⟨m,⟨o',es,ep,ho',hd',_⟩,_⟩:=I.loc
 rw [z,ho'] at ho; cases ho; rw [hd'] at hd; cases hd
theorem Inv.funs(I:Inv X pins σ H s):s.heap.FunFrames X.base X.outer:=by
 have all:∀ (l:List Env),(∀ b∈frs l,b∈X.fs)->X.s₀.heap.FunFrames X.base l->s.heap.FunFrames X.base l:=by
  intro l
  induction l with
  | nil=>intro _ _; trivial
  | cons env r ih=>
   intro hs hl
   obtain ⟨hk,⟨L,o,hf,hn,ho,hd⟩,hr⟩:=hl
   have hL:L∈X.fs:=hs L (by unfold frs; rw [List.filterMap_cons,hf]; exact List.mem_cons_self)
   obtain ⟨sl,e⟩:=I.base.slot L o ho (I.ok.frf L hL) hL fun z=>I.ok.exfs L z hL
   exact ⟨hk,⟨L,_,hf,hn,e,hd⟩,ih (fun b hb=>hs b (by unfold frs; rw [List.filterMap_cons,hf]; exact List.mem_cons_of_mem _ hb)) hr⟩
 exact all X.outer (fun _ hb=>hb) I.ok.funs
theorem Inv.stack(I:Inv X pins σ H s):s.heap.FunFrames X.base X.stack:=by
 rcases I.ok.stk with e | ⟨e,hf⟩
 ·rw [e]; exact I.funs
 ·rw [e]
  obtain ⟨m,hn,_⟩:=I.loc
  refine .cons (by rw [I.ok.kind]; decide) hf hn ?_ I.funs
  exact Heap.get?_none_of_le (Nat.le_trans I.ok.bsz I.ok.above)
theorem Inv.stkSub(I:Inv X pins σ H s):∀ b∈frs X.stack,b∈X.env.locals::X.fs:=fun b hb=>by
 rcases I.ok.stk with e | ⟨e,hf⟩
 ·rw [e] at hb; exact List.mem_cons_of_mem _ hb
 ·rw [e] at hb
  unfold frs at hb
  rw [List.filterMap_cons,hf] at hb
  exact hb
theorem Inv.stkFree(I:Inv X pins σ H s):∀ b∈frs X.stack,H b=none:=fun b hb=>by
 rcases List.mem_cons.mp (I.stkSub b hb) with e | hb
 ·rw [e]; exact I.free
 ·obtain ⟨_,o,ho,_⟩:=I.ok.funs.mem hb
  exact I.base.free b o ho (I.ok.frf b hb) fun z=>I.ok.exfs b z hb
theorem Inv.step{g':Array GenState}{t':Nat}{d':Drawn}{ch:List Addr}(I:Inv X pins σ H s)
  (hch:∀ b∈ch,(b∈X.ex∨X.s₀.heap.objs.size<=b)/\b≠X.env.locals/\(∀ x c,X.env.cells.lookup x=some c->c≠b)/\∀ p∈X.pn++pins,p.1≠b)
  (keep:∀ b o,b≠X.env.locals->b∉X.fs->b∉ch->s.heap.get? b=some o->H b=none->h'.get? b=some o)
  (slot:∀ b o,b≠X.env.locals->b∈X.fs->b∉ch->s.heap.get? b=some o->H b=none->∃ sl,h'.get? b=some { o with slots:=sl }) (free:∀ b o,b∉ch->s.heap.get? b=some o->H b=none->H' b=none)
  (there:∀ b o,b∉ch->s.heap.get? b=some o->∃ o',h'.get? b=some o')
  (tups:∀ b xs,H b=some (.tup xs)->H' b=some (.tup xs)) (frzs:∀ b o u,H b=some (.frz o u)->H' b=some (.frz o u)) (tbls:∀ b ps,H b=some (.tbl ps)->∃ more,H' b=some (.tbl (ps++more)))
  (ns:∀ m,s.heap.Ns X.env.locals m->h'.Ns X.env.locals m) (hok:HOk X.prog X.w H' h') (hg:AllBare g') :
  Inv X pins σ H' { s with heap:=h',gens:=g',drawn:=d',toks:=t' }:=by
 have neL:∀ b o,X.s₀.heap.get? b=some o->b≠X.env.locals:=fun b o e=>Nat.ne_of_lt (Nat.lt_of_lt_of_le (Heap.lt_size e) I.ok.above)
 have neC:∀ b o,X.s₀.heap.get? b=some o->b∉X.ex->b∉ch:=fun b o e hx hb=>by
  rcases (hch b hb).1 with z | z
  ·exact hx z
  ·exact absurd (Nat.lt_of_lt_of_le (Heap.lt_size e) z) (Nat.lt_irrefl _)
 have cellK:∀ x c,X.env.cells.lookup x=some c->∀ v,s.heap.IsCell c v->h'.IsCell c v:=fun x c e v ⟨o,ho,hd⟩=>by
  have nch:c∉ch:=fun z=>(hch c z).2.2.1 x c e rfl
  by_cases hc:c∈X.fs
  ·obtain ⟨sl,q⟩:=slot c o (I.cne x c e) hc nch ho (I.freeC x c e)
   exact ⟨_,q,hd⟩
  ·exact ⟨o,keep c o (I.cne x c e) hc nch ho (I.freeC x c e),hd⟩
 refine ⟨I.ok,I.os,hg,⟨fun b o e n hb hx=>?_,fun b o e n hb hx=>?_,fun b o e n hx=>?_,fun b o e hx=>?_,fun b xs e=>tups b xs (I.base.tups b xs e),fun b o xs e=>frzs b o xs (I.base.frzs b o xs e),fun b ps e=>?_⟩,?_,fun x c e=>?_,?_,fun x c e=>?_,fun p hp=>?_,hok,I.len⟩
 ·exact keep b o (neL b o e) hb (neC b o e hx) (I.base.keep b o e n hb hx) (I.base.free b o e n hx)
 ·obtain ⟨sl,e1⟩:=I.base.slot b o e n hb hx
  obtain ⟨sl',e2⟩:=slot b _ (neL b o e) hb (neC b o e hx) e1 (I.base.free b o e n hx)
  exact ⟨sl',e2⟩
 ·obtain ⟨o',e1⟩:=I.base.there b o e hx
  exact free b o' (neC b o e hx) e1 (I.base.free b o e n hx)
 ·obtain ⟨o',e1⟩:=I.base.there b o e hx
  exact there b o' (neC b o e hx) e1
 ·obtain ⟨m1,e1⟩:=I.base.tbls b ps e
  obtain ⟨m2,e2⟩:=tbls b _ e1
  exact ⟨m1++m2,by rw [e2,Array.append_assoc]⟩
 ·obtain ⟨m,hn,hl⟩:=I.loc
  refine ⟨m,ns m hn,fun i x v e1 e2 e3=>?_⟩
  obtain ⟨u,r,l⟩:=hl i x v e1 e2 e3
  refine ⟨u,r,?_⟩
  rcases l with l | ⟨k,c,e,z⟩
  ·exact .inl l
  ·exact .inr ⟨k,c,e,cellK x c e _ z⟩
 ·obtain ⟨v,z⟩:=I.cell x c e
  exact ⟨v,cellK x c e v z⟩
 ·obtain ⟨m,⟨o,_,_,ho,_⟩,_⟩:=I.loc
  exact free _ o (fun z=>(hch _ z).2.1 rfl) ho I.free
 ·obtain ⟨v,o,ho,hd⟩:=I.cell x c e
  exact free c o (fun z=>(hch c z).2.2.1 x c e rfl) ho (I.freeC x c e)
 ·obtain ⟨e,n,ne,nf,d⟩:=I.pin p hp
  have nch:p.1∉ch:=fun z=>(hch p.1 z).2.2.2 p hp rfl
  exact ⟨keep p.1 p.2 ne nf nch e n,free p.1 p.2 nch e n,ne,nf,d⟩
theorem Inv.un{t':Nat}(I:Inv X pins σ H s)(u:Un X.fs [] H H' s.heap h')(hok:HOk X.prog X.w H' h'):Inv X pins σ H' { s with heap:=h',toks:=t' }:=by
 obtain ⟨m,⟨o,es,ep,ho,r⟩,_⟩:=id I.loc
 obtain ⟨sl,hL⟩:=u.any ho I.free (by simp)
 exact I.step (g':=s.gens) (d':=s.drawn) (ch:=[]) (fun _ z=>nomatch z) (fun b o _ hb _ e n=>u.keep b o e n hb (by simp)) (fun b o _ hb _ e n=>u.slot b o e n hb (by simp)) (fun b o _ e n=>u.free b o e n (by simp)) (fun b o _ e=>u.there b o e (by simp)) u.tups u.frzs u.tbls (fun m' hm=>by
  obtain ⟨o',es',ep',ho',r'⟩:=hm
  rw [ho] at ho'; cases ho'
  exact ⟨_,es',ep',hL,r'⟩) hok I.bare
theorem Inv.call{g':Array GenState}{t':Nat}{d':Drawn}{ch:List Addr}(I:Inv X pins σ H s)(u:Un (frs X.stack) ch H H' s.heap h')(hok:HOk X.prog X.w H' h')(hg:AllBare g')
  (hch:∀ b∈ch,(b∈X.ex∨X.s₀.heap.objs.size<=b)/\b≠X.env.locals/\(∀ x c,X.env.cells.lookup x=some c->c≠b)/\∀ p∈X.pn++pins,p.1≠b) :
  Inv X pins σ H' { s with heap:=h',gens:=g',drawn:=d',toks:=t' }:=by
 obtain ⟨m,⟨o,es,ep,ho,r⟩,_⟩:=id I.loc
 obtain ⟨sl,hL⟩:=u.any ho I.free fun z=>(hch _ z).2.1 rfl
 exact I.step (ch:=ch) hch (fun b o hL hb hc e n=>u.keep b o e n (fun z=>(List.mem_cons.mp (I.stkSub b z)).elim hL hb) hc) (fun b o _ _ hc e n=>u.any e n hc) (fun b o hc e n=>u.free b o e n hc) (fun b o hc e=>u.there b o e hc) u.tups u.frzs u.tbls (fun m' hm=>by
  obtain ⟨o',es',ep',ho',r'⟩:=hm
  rw [ho] at ho'; cases ho'
  exact ⟨_,es',ep',hL,r'⟩) hok hg
theorem Inv.turned{t':Nat}{it:Addr}(I:Inv X pins σ H s)(k:∀ b o,b≠it->s.heap.get? b=some o->h'.get? b=some o)(hn:H it=none)(hL:it≠X.env.locals)
  (h1:it∈X.ex∨X.s₀.heap.objs.size<=it) (h2:∀ x c,X.env.cells.lookup x=some c->c≠it) (h3:∀ p∈X.pn++pins,p.1≠it):Inv X pins σ H { s with heap:=h',toks:=t' }:=by
 have nit:∀ b u,H b=some u->b≠it:=fun b u e z=>by rw [z,hn] at e; cases e
 refine I.step (g':=s.gens) (d':=s.drawn) (ch:=[it]) (fun b hb=>?_) (fun b o _ _ hc e _=>k b o (fun z=>hc (by simp [z])) e) (fun b o _ _ hc e _=>⟨o.slots,k b o (fun z=>hc (by simp [z])) e⟩) (fun _ _ _ _ n=>n)
  (fun b o hc e=>⟨o,k b o (fun z=>hc (by simp [z])) e⟩) (fun _ _ e=>e) (fun _ _ _ e=>e) (fun b ps e=>⟨#[],by rw [e]; simp⟩) (fun m hm=>?_) (fun b u e=>?_) I.bare
 ·have e:b=it:=by simpa using hb
  subst e
  exact ⟨h1,hL,h2,h3⟩
 ·obtain ⟨o,es,ep,ho,r⟩:=hm
  exact ⟨o,es,ep,k _ o (Ne.symm hL) ho,r⟩
 ·refine (I.hok b u e).stay (fun c v hc q=>k c v ?_ q) (fun _ q=>q) fun _ _ q=>q
  rcases hc with z | z
  ·rw [z]; exact nit b u e
  ·exact nit c _ z
theorem Inv.tok(I:Inv X pins σ H s)(t:Nat):Inv X pins σ H { s with toks:=t }:=I.un (h':=s.heap) (t':=t) Un.refl I.hok
theorem Inv.kept{t':Nat}(I:Inv X pins σ H s)(k:∀ b u,s.heap.get? b=some u->h'.get? b=some u):Inv X pins σ H { s with heap:=h',toks:=t' }:=I.un (Un.kept k) (I.hok.kept k)
theorem Inv.laid{a:Addr}{o:HO}{t':Nat}(I:Inv X pins σ H s)(k:∀ b u,s.heap.get? b=some u->h'.get? b=some u)(hp:s.heap.objs.size<=a)(new:ObjOk X.prog X.w (upd H a o) h' a o) :
  Inv X pins σ (upd H a o) { s with heap:=h',toks:=t' }:=I.un (Un.laid k hp (I.hok.fresh hp)) (I.hok.laid k hp new)
theorem Inv.write{x e:Addr}{o:HO}{t':Nat}(I:Inv X pins σ H s)(mu:Mut (H x))(he:e=x∨H e=some (.own x))(k:∀ b u,b≠e->s.heap.get? b=some u->h'.get? b=some u)(heo:∃ u,h'.get? e=some u)
  (new:ObjOk X.prog X.w (upd H x o) h' x o):Inv X pins σ (upd H x o) { s with heap:=h',toks:=t' }:=I.un (Un.write mu he k heo) (I.hok.write mu he k heo new)
theorem Inv.pins_of{pins':List (Addr × Obj)}(I:Inv X pins σ H s)(h:∀ p∈pins',s.heap.get? p.1=some p.2/\H p.1=none/\p.1≠X.env.locals/\p.1∉X.fs/\∀ v,p.2.data≠.cell v):Inv X pins' σ H s:=
 ⟨I.ok,I.os,I.bare,I.base,I.loc,I.cell,I.free,I.freeC,fun p hp=>(List.mem_append.mp hp).elim (fun z=>I.pin p (List.mem_append_left _ z)) (h p),I.hok,I.len⟩
theorem nodup_ix{N:List Str}(hN:N.Nodup){i j:Nat}{x:Str}(a:N[i]?=some x)(b:N[j]?=some x):i=j:=by
 obtain ⟨h1,e1⟩:=List.getElem?_eq_some_iff.mp a
 obtain ⟨h2,e2⟩:=List.getElem?_eq_some_iff.mp b
 exact (List.getElem_inj hN).mp (e1.trans e2.symm)
theorem store_ok2{M:Model}{A:Around}{E:Value->Shared->Prop}{i:Nat}{x:Str}{v:V}{u:Value}{Q:Unit->Shared->Prop}(I:Inv X pins σ H s)(hN:X.N.Nodup)(hi:X.N[i]?=some x)(hx:Loc X.env.scope x)(r:RelV v u)
  (h:∀ s',Inv X pins (σ.set i (some v)) H s'->(∃ a,Heap.SameBut a s.heap s'.heap/\(a=X.env.locals∨X.env.cells.lookup x=some a))->Q () s') (hf:X.fn x=true∨X.env.scope.names.lookup x=some .local:=by first | exact .inl rfl | exact .inr rfl | assumption):wpAny M A (storeName X.env x u) Q E s:=by
 obtain ⟨m,hn,hl⟩:=id I.loc
 have hcls:(X.env.scope.kind == .class||(X.env.scope.kind == .module&&X.env.locals != X.env.globals))=false:=by rw [I.ok.kind]; rfl
 have hiσ:i < σ.length:=by rw [I.len]; exact (List.getElem?_eq_some_iff.mp hi).1
 have cne:=I.cne
 have tracked:∀ {a:Addr} {h':Heap},(∃ o,s.heap.get? a=some o/\H a=none)->Heap.SameBut a s.heap h'->HOk X.prog X.w H h':=fun {a h'} ha hs b ob e=>by
  obtain ⟨_,_,hfree⟩:=ha
  refine (I.hok b ob e).stay (fun c w' hc q=>(hs.2 c ?_).trans q) (fun _ q=>q) fun _ _ q=>q
  rintro rfl
  rcases hc with rfl | hc
  ·rw [hfree] at e; cases e
  ·rw [hfree] at hc; cases hc
 rcases hx with hk | hk
 ·refine wpAny_storeName_local hk hn (fun h' hn' hs=>?_) hcls
  obtain ⟨oL,_,_,hoL,_⟩:=id hn
  refine h _ ⟨I.ok,I.os,I.bare,⟨fun b o e n hb hx=>?_,fun b o e n hb hx=>?_,I.base.free,fun b o e hx=>?_,I.base.tups,I.base.frzs,I.base.tbls⟩,⟨_,hn',fun j y v' e1 e2 e3=>?_⟩,fun y c e=>?_,I.free,I.freeC,fun p hp=>?_,tracked ⟨oL,hoL,I.free⟩ hs,by simpa using I.len⟩ ⟨_,hs,.inl rfl⟩
  ·exact (hs.2 b (Nat.ne_of_lt (Nat.lt_of_lt_of_le (Heap.lt_size e) I.ok.above))).trans (I.base.keep b o e n hb hx)
  ·obtain ⟨sl,e1⟩:=I.base.slot b o e n hb hx
   exact ⟨sl,(hs.2 b (Nat.ne_of_lt (Nat.lt_of_lt_of_le (Heap.lt_size e) I.ok.above))).trans e1⟩
  ·obtain ⟨o',e1⟩:=I.base.there b o e hx
   exact ⟨o',(hs.2 b (Nat.ne_of_lt (Nat.lt_of_lt_of_le (Heap.lt_size e) I.ok.above))).trans e1⟩
  ·by_cases hj:j=i
   ·subst hj
    rw [hi] at e1; cases e1
    rw [List.getElem?_set_self hiσ] at e2
    cases e2
    exact ⟨u,r,.inl ⟨hk,by simp⟩⟩
   ·rw [List.getElem?_set_ne (Ne.symm hj)] at e2
    obtain ⟨u',r',q⟩:=hl j y v' e1 e2 e3
    refine ⟨u',r',?_⟩
    rcases q with ⟨k,e⟩ | ⟨k,c,e,z⟩
    ·refine .inl ⟨k,?_⟩
     have:y≠x:=fun e=>hj (nodup_ix hN e1 (e▸hi))
     simp [this,e]
    ·exact .inr ⟨k,c,e,z.sameBut hs (cne y c e)⟩
  ·obtain ⟨w',z⟩:=I.cell y c e
   exact ⟨w',z.sameBut hs (cne y c e)⟩
  ·obtain ⟨e,n,ne,nf,d⟩:=I.pin p hp
   exact ⟨(hs.2 p.1 ne).trans e,n,ne,nf,d⟩
 ·have hfn:X.fn x=true:=by
   rcases hf with z | z
   ·exact z
   ·rw [z] at hk; cases hk
  obtain ⟨c,hc⟩:=I.ok.has x (.inl hk)
  obtain ⟨w',z⟩:=I.cell x c hc
  refine wpAny_storeName_cell I.ok.kind hk hc z (fun h' hc' hs=>?_)
  obtain ⟨oc,hoc,hocd⟩:=id z
  refine h { s with heap:=h' } ⟨I.ok,I.os,I.bare,⟨fun b o e n hb hx=>?_,fun b o e n hb hx=>?_,I.base.free,fun b o e hx=>?_,I.base.tups,I.base.frzs,I.base.tbls⟩,⟨m,hn.sameBut hs (Ne.symm (cne x c hc)),fun j y v' e1 e2 e3=>?_⟩,fun y c' e=>?_,I.free,I.freeC,fun p hp=>?_,tracked ⟨oc,hoc,I.freeC x c hc⟩ hs,by simpa using I.len⟩ ⟨c,hs,.inr hc⟩
  ·exact (hs.2 b (Nat.ne_of_lt (Nat.lt_of_lt_of_le (Heap.lt_size e) (I.ok.cab x c hfn hc)))).trans (I.base.keep b o e n hb hx)
  ·obtain ⟨sl,e1⟩:=I.base.slot b o e n hb hx
   exact ⟨sl,(hs.2 b (Nat.ne_of_lt (Nat.lt_of_lt_of_le (Heap.lt_size e) (I.ok.cab x c hfn hc)))).trans e1⟩
  ·obtain ⟨o',e1⟩:=I.base.there b o e hx
   exact ⟨o',(hs.2 b (Nat.ne_of_lt (Nat.lt_of_lt_of_le (Heap.lt_size e) (I.ok.cab x c hfn hc)))).trans e1⟩
  ·by_cases hj:j=i
   ·subst hj
    rw [hi] at e1; cases e1
    rw [List.getElem?_set_self hiσ] at e2
    cases e2
    exact ⟨u,r,.inr ⟨.inl hk,c,hc,hc'⟩⟩
   ·rw [List.getElem?_set_ne (Ne.symm hj)] at e2
    obtain ⟨u',r',q⟩:=hl j y v' e1 e2 e3
    refine ⟨u',r',?_⟩
    rcases q with q | ⟨k,c',e,z'⟩
    ·exact .inl q
    ·refine .inr ⟨k,c',e,z'.sameBut hs ?_⟩
     rintro rfl
     exact hj (nodup_ix hN e1 (I.ok.inj _ _ _ e hc▸hi))
  ·by_cases hcc:c'=c
   ·subst hcc; exact ⟨_,hc'⟩
   ·obtain ⟨w2,z2⟩:=I.cell y c' e
    exact ⟨w2,z2.sameBut hs hcc⟩
  ·obtain ⟨e,n,ne,nf,d⟩:=I.pin p hp
   refine ⟨(hs.2 p.1 ?_).trans e,n,ne,nf,d⟩
   intro q
   rw [q,hoc] at e
   have q':oc=p.2:=Option.some.inj e
   exact d w' (by rw [<-q']; exact hocd)
theorem store_ok{M:Model}{A:Around}{E:Value->Shared->Prop}{i:Nat}{x:Str}{v:V}{u:Value}{Q:Unit->Shared->Prop}(I:Inv X pins σ H s)(hN:X.N.Nodup)(hi:X.N[i]?=some x)(hx:Loc X.env.scope x)(r:RelV v u)
  (h:∀ s',Inv X pins (σ.set i (some v)) H s'->Q () s') (hf:X.fn x=true∨X.env.scope.names.lookup x=some .local:=by first | exact .inl rfl | exact .inr rfl | assumption):wpAny M A (storeName X.env x u) Q E s:=
 store_ok2 I hN hi hx r (fun s' I' _=>h s' I') hf
theorem Inv.call'{s':Shared}{ch:List Addr}(I:Inv X pins σ H s)(ho:s'.os=s.os)(u:Un (frs X.stack) ch H H' s.heap s'.heap)(hok:HOk X.prog X.w H' s'.heap)(hg:AllBare s'.gens)
  (hch:∀ b∈ch,(b∈X.ex∨X.s₀.heap.objs.size<=b)/\b≠X.env.locals/\(∀ x c,X.env.cells.lookup x=some c->c≠b)/\∀ p∈X.pn++pins,p.1≠b):Inv X pins σ H' s':=by
 obtain ⟨h',g',d',t',o'⟩:=s'
 have e:o'=s.os:=ho
 subst e
 exact I.call (g':=g') (t':=t') (d':=d') u hok hg hch
end
abbrev XK:=Value->Option Addr->Hp->Prop
abbrev St:=List (Option V)
abbrev VK:=V->Hp->Prop
abbrev TE:=St->Hp->VK->Prop
abbrev TT:=St->Hp->(Bool->Hp->Prop)->Prop
abbrev TA:=St->Hp->(List V->Hp->Prop)->Prop
structure Ends where
 nx:St->Hp->Prop
 rt:VK
 bk:St->Hp->Prop:=fun _ _=>False
 ct:St->Hp->Prop:=fun _ _=>False
abbrev TS:=Ends->St->Hp->Prop
def EP(X:Cx)(pins:List (Addr × Obj))(σ:St)(Q:VK)(u:Value)(s':Shared):Prop:=∃ v H',Inv X pins σ H' s'/\RelV v u/\Q v H'
def TP(X:Cx)(pins:List (Addr × Obj))(σ:St)(Q:Bool->Hp->Prop)(b:Bool)(s':Shared):Prop:=∃ H',Inv X pins σ H' s'/\Q b H'
def AP(X:Cx)(pins:List (Addr × Obj))(σ:St)(Q:List V->Hp->Prop)(us:List Value)(s':Shared):Prop:=∃ vs H',Inv X pins σ H' s'/\Vals vs us/\Q vs H'
def SP(X:Cx)(pins:List (Addr × Obj))(D:Ends)(f:Flow)(s':Shared):Prop:=
 match f with
 | .next=>∃ σ' H',Inv X pins σ' H' s'/\D.nx σ' H'
 | .brk=>∃ σ' H',Inv X pins σ' H' s'/\D.bk σ' H'
 | .cont=>∃ σ' H',Inv X pins σ' H' s'/\D.ct σ' H'
 | .ret u=>∃ v σ' H',Inv X pins σ' H' s'/\RelV v u/\D.rt v H'
def PE(X:Cx)(e:Expr)(t:TE):Prop:=
 ∀ (pins:List (Addr × Obj)) (s:Shared) (σ:St) (H:Hp) (Q:VK),Inv X pins σ H s->t σ H Q->wpAny (model X.prog X.w) X.A (eval e X.env) (EP X pins σ Q) X.xe s
def PT(X:Cx)(e:Expr)(t:TT):Prop:=
 ∀ (pins:List (Addr × Obj)) (s:Shared) (σ:St) (H:Hp) (Q:Bool->Hp->Prop),Inv X pins σ H s->t σ H Q->wpAny (model X.prog X.w) X.A (isTrue e X.env (eval e X.env)) (TP X pins σ Q) X.xe s
def PW(X:Cx)(e:Expr)(t:TT):Prop:=
 ∀ (whole:Sem Value) (pins:List (Addr × Obj)) (s:Shared) (σ:St) (H:Hp) (Q:Bool->Hp->Prop),Inv X pins σ H s->t σ H Q->wpAny (model X.prog X.w) X.A (isTrue e X.env whole) (TP X pins σ Q) X.xe s
theorem PW.pt{X:Cx}{e:Expr}{t:TT}(h:PW X e t):PT X e t:=h _
def PA(X:Cx)(es:List Expr)(t:TA):Prop:=
 ∀ (pos:Pos) (pins:List (Addr × Obj)) (s:Shared) (σ:St) (H:Hp) (Q:List V->Hp->Prop),Inv X pins σ H s->t σ H Q->wpAny (model X.prog X.w) X.A (spliced (backTo pos (starEach es X.env))) (AP X pins σ Q) X.xe s
def PS(X:Cx)(st:Stmt)(t:TS):Prop:=
 ∀ (pins:List (Addr × Obj)) (s:Shared) (σ:St) (H:Hp) (D:Ends),Inv X pins σ H s->t D σ H->wpAny (model X.prog X.w) X.A (exec st X.env) (SP X pins D) X.xe s
def PSs(X:Cx)(st:List Stmt)(t:TS):Prop:=
 ∀ (pins:List (Addr × Obj)) (s:Shared) (σ:St) (H:Hp) (D:Ends),Inv X pins σ H s->t D σ H->wpAny (model X.prog X.w) X.A (execs st X.env) (SP X pins D) X.xe s
theorem thn{α:Type}{t:Sem α}{Q Q':α->Shared->Prop}{M:Model}{A:Around}{E:Value->Shared->Prop}{s:Shared}(h:wpAny M A t Q E s)(hQ:∀ a s,Q a s->Q' a s):wpAny M A t Q' E s:=wpAny_mono h hQ fun _ _ x=>x
end L2
namespace L2
open PySem PySem.Spec PyProof.Rows
section
variable {X:Cx}
theorem bin{a b:Expr}{ta tb:TE}(ha:PE X a ta)(hb:PE X b tb){pins:List (Addr × Obj)}{s:Shared}{σ:St}{H:Hp}{R:V->V->Hp->Prop}(I:Inv X pins σ H s)(h:ta σ H fun x H1=>tb σ H1 fun y H2=>R x y H2)
  {α:Type} {Q:α->Shared->Prop} {f:Value->Value->Sem α}
  (hf:∀ v u s2 x y H2,Inv X pins σ H2 s2->RelV x v->RelV y u->R x y H2->wpAny (model X.prog X.w) X.A (f v u) Q X.xe s2) :
  wpAny (model X.prog X.w) X.A (eval a X.env) (fun v s₁=>wpAny (model X.prog X.w) X.A (eval b X.env) (fun u s₂=>wpAny (model X.prog X.w) X.A (f v u) Q X.xe s₂) X.xe s₁) X.xe s:=by
 refine thn (ha pins s σ H _ I h) fun v s1 h_=>?_; obtain ⟨x,H1,I1,r1,q1⟩:=h_
 refine thn (hb pins s1 σ H1 _ I1 q1) fun u s2 h_=>?_; obtain ⟨y,H2,I2,r2,q2⟩:=h_
 exact hf v u s2 x y H2 I2 r1 r2 q2
def tVar(i:Nat):TE:=fun σ H Q=>∃ v,σ[i]?=some (some v)/\Q v H
def tC(v:V):TE:=fun _ H Q=>Q v H
theorem pe_var{i:Nat}{x:Str}{pos:Pos}(hN:X.N[i]?=some x)(hv:Vis X.env.scope x)(hd:(x == ("__debug__":Str))=false:=by decide)(hcd:(x == ("__classdict__":Str))=false:=by decide):PE X (.Name x pos) (tVar i):=by
 intro pins s σ H Q I h
 obtain ⟨v,e,h⟩:=h
 obtain ⟨m,hn,hl⟩:=I.loc
 obtain ⟨u,r,l⟩:=hl i x v hN e hv
 have fin:EP X pins σ Q u s:=⟨v,H,I,r,h⟩
 rcases l with ⟨hk,hm⟩ | ⟨hk,c,hc,hcell⟩
 ·exact wpAny_Name (wpAny_loadName_local I.ok.kind hk hn hm fin) hd
 ·rcases hk with hk | hk
  ·exact wpAny_Name (wpAny_loadName_cell I.ok.kind hk hc hcell fin) hd
  ·exact wpAny_Name (wpAny_loadName_free I.ok.kind hk hc hcell fin hcd) hd
theorem pe_int{i j pos}:PE X (.Constant (.int i) j pos) (tC (.int i)):=fun _ _ _ H _ I h=>wpAny_Constant_int ⟨.int i,H,I.tok _,⟨_,rfl⟩,h⟩
theorem pe_bl{b j pos}:PE X (.Constant (.bool b) j pos) (tC (.bl b)):=fun _ _ _ H _ I h=>Constant_bool ⟨.bl b,H,I,rfl,h⟩
theorem pe_str{x j pos}:PE X (.Constant (.str x) j pos) (tC (.str x)):=fun _ _ _ H _ I h=>Calls.Constant_str ⟨.str x,H,I.tok _,⟨_,rfl⟩,h⟩
def Gl(X:Cx)(x:Str):Prop:=X.env.kindOf x=some .globalImplicit
theorem ld_glob{E:Value->Shared->Prop}{pins:List (Addr × Obj)}{s:Shared}{σ:St}{H:Hp}{x:Str}{u:Value}{pos:Pos}{Q:Value->Shared->Prop}(I:Inv X pins σ H s)(hg:Gl X x)(hm:X.mg x=some u)(h:Q u s)
  (hd:(x == ("__debug__":Str))=false:=by decide):wpAny (model X.prog X.w) X.A (eval (.Name x pos) X.env) Q E s:=
 Calls.Name_function_global I.ok.kind hg (Calls.loadGlobal_global (by rw [I.ok.glob]; exact I.mod.glob.keeps I.bk) hm h) hd
theorem ld_blt{E:Value->Shared->Prop}{pins:List (Addr × Obj)}{s:Shared}{σ:St}{H:Hp}{x:Str}{u:Value}{pos:Pos}{Q:Value->Shared->Prop}(I:Inv X pins σ H s)(hg:Gl X x)(hm:X.mg x=none)(hv:bootBuiltins x=some u)(h:Q u s)
  (hn:x≠"__name__":=by decide) (hd:(x == ("__debug__":Str))=false:=by decide):wpAny (model X.prog X.w) X.A (eval (.Name x pos) X.env) Q E s:=by
 obtain ⟨mb,h1,h2⟩:=I.mod.blt
 exact Calls.Name_function_global I.ok.kind hg (Calls.loadGlobal_builtin (by rw [I.ok.glob]; exact I.mod.glob.keeps I.bk) hm (by rw [I.ok.blt]; exact h1.keeps I.bk) ((h2 x hn).trans hv) h) hd
theorem pe_glob{x:Str}{v:V}{u:Value}{pos:Pos}(hg:Gl X x)(hm:X.mg x=some u)(r:RelV v u)(hd:(x == ("__debug__":Str))=false:=by decide):PE X (.Name x pos) (tC v):=
 fun _ _ _ H _ I h=>ld_glob I hg hm ⟨v,H,I,r,h⟩ hd
theorem pe_bltn{x:Str}{v:V}{u:Value}{pos:Pos}(hg:Gl X x)(hm:X.mg x=none)(hv:bootBuiltins x=some u)(r:RelV v u)(hn:x≠"__name__":=by decide)(hd:(x == ("__debug__":Str))=false:=by decide):PE X (.Name x pos) (tC v):=
 fun _ _ _ H _ I h=>ld_blt I hg hm hv ⟨v,H,I,r,h⟩ hn hd
variable {a b:Expr}{ta tb:TE}{pos:Pos}
def PC(X:Cx)(op:CmpOp)(a b:Expr)(t:TE):Prop:=
 ∀ (pins:List (Addr × Obj)) (s:Shared) (σ:St) (H:Hp) (Q:VK),Inv X pins σ H s->t σ H Q->
  wpAny (model X.prog X.w) X.A (eval a X.env) (fun v s₁=>wpAny (model X.prog X.w) X.A (eval b X.env) (fun u s₂=>wpAny (model X.prog X.w) X.A (compareOp op v u) (EP X pins σ Q) X.xe s₂) X.xe s₁) X.xe s
theorem nobehind(b:Expr){op:CmpOp}(h:op≠.In)(h2:op≠.NotIn):behindInMarks op b=false:=by
 have e1:(op == CmpOp.In)=false:=by cases op<;>first | rfl | exact absurd rfl h
 have e2:(op == CmpOp.NotIn)=false:=by cases op<;>first | rfl | exact absurd rfl h2
 cases b<;>simp [behindInMarks,e1,e2]
def tB(t:TE):TT:=fun σ H Q=>t σ H fun x H1=>∃ c,x=.bl c/\Q c H1
theorem pe_cmp{op:CmpOp}{t:TE}(h:PC X op a b t)(h1:behindInMarks op b=false:=by first | exact nobehind _ (by decide) (by decide) | rfl):PE X (.Compare a [op] [b] pos) t:=fun pins s σ H Q I hw=>wpAny_Compare1 (h pins s σ H Q I hw) h1
theorem pt_cmp{op:CmpOp}{t:TE}(h:PC X op a b t)(h1:behindInMarks op b=false:=by first | exact nobehind _ (by decide) (by decide) | rfl):PT X (.Compare a [op] [b] pos) (tB t):=by
 intro pins s σ H Q I hw
 refine wpAny_isTrue_Compare1 (thn (h pins s σ H _ I hw) fun v s1 h1=>thn h1 fun u s2 h2=>thn h2 fun c s3 ⟨x,H1,I1,r1,q1⟩=>?_) h1
 obtain ⟨d,rfl,q⟩:=q1
 cases r1
 exact wpAny_truthy_bool ⟨H1,I1,q⟩
theorem pt_val{e:Expr}{t:TE}(h:PE X e t)(he:∀ whole,isTrue e X.env whole=(do let v <-whole; standAt e.pos; holding [v] (truthy v)):=by intro _; rfl):PT X e (tB t):=by
 intro pins s σ H Q I hw
 refine isTrue_plain (thn (h pins s σ H _ I hw) fun v s1 ⟨x,H1,I1,r1,q1⟩=>?_) (he _)
 obtain ⟨d,rfl,q⟩:=q1
 cases r1
 exact wpAny_truthy_bool ⟨H1,I1,q⟩
variable {tA tB':TT}{rest:List Expr}
def tAnd(t u:TT):TT:=fun σ H Q=>t σ H fun c H1=>if c=true then u σ H1 Q else Q false H1
def tOr(t u:TT):TT:=fun σ H Q=>t σ H fun c H1=>if c=true then Q true H1 else u σ H1 Q
def tNot(t:TT):TT:=fun σ H Q=>t σ H fun c H1=>Q (!c) H1
theorem pw_and1(ha:PT X a tA):PW X (.BoolOp .And [a] pos) tA:=by
 intro wh pins s σ H Q I h
 refine isTrue_and (thn (ha pins s σ H Q I h) fun c s1 e=>?_)
 cases c with
 | true=>exact isTrue_and_nil e
 | false=>exact e
theorem pw_or1(ha:PT X a tA):PW X (.BoolOp .Or [a] pos) tA:=by
 intro wh pins s σ H Q I h
 refine isTrue_or (thn (ha pins s σ H Q I h) fun c s1 e=>?_)
 cases c with
 | false=>exact isTrue_or_nil e
 | true=>exact e
theorem pw_and(ha:PT X a tA)(hb:PW X (.BoolOp .And (b::rest) pos) tB'):PW X (.BoolOp .And (a::b::rest) pos) (tAnd tA tB'):=by
 intro wh pins s σ H Q I h
 refine isTrue_and (thn (ha pins s σ H _ I h) fun c s1 h_=>?_); obtain ⟨H1,I1,q1⟩:=h_
 cases c with
 | true=>exact hb wh pins s1 σ H1 Q I1 q1
 | false=>exact ⟨H1,I1,q1⟩
theorem pw_or(ha:PT X a tA)(hb:PW X (.BoolOp .Or (b::rest) pos) tB'):PW X (.BoolOp .Or (a::b::rest) pos) (tOr tA tB'):=by
 intro wh pins s σ H Q I h
 refine isTrue_or (thn (ha pins s σ H _ I h) fun c s1 h_=>?_); obtain ⟨H1,I1,q1⟩:=h_
 cases c with
 | true=>exact ⟨H1,I1,q1⟩
 | false=>exact hb wh pins s1 σ H1 Q I1 q1
theorem pt_not(ha:PT X a tA):PT X (.UnaryOp .Not a pos) (tNot tA):=by
 intro pins s σ H Q I h
 exact isTrue_not (ha pins s σ H (fun c H1=>Q (!c) H1) I h)
def tAndV(ta tb:TE):TE:=fun σ H Q=>ta σ H fun x H1=>∃ c,x=.bl c/\if c=true then tb σ H1 Q else Q (.bl false) H1
def tNotV(ta:TE):TE:=fun σ H Q=>ta σ H fun x H1=>∃ c,x=.bl c/\Q (.bl (!c)) H1
theorem pe_one{op}{t:TE}(h:PE X a t):PE X (.BoolOp op [a] pos) t:=fun pins s σ H Q I hw=>BoolOp_one (h pins s σ H Q I hw)
theorem pe_and(ha:PE X a ta)(hb:PE X (.BoolOp .And (b::rest) pos) tb):PE X (.BoolOp .And (a::b::rest) pos) (tAndV ta tb):=by
 intro pins s σ H Q I h
 refine BoolOp_and (thn (ha pins s σ H _ I h) fun v s1 h_=>?_); obtain ⟨x,H1,I1,r1,q1⟩:=h_
 obtain ⟨c,rfl,q1⟩:=q1
 cases r1
 refine wpAny_truthy_bool ?_
 cases c with
 | true=>exact hb pins s1 σ H1 Q I1 q1
 | false=>exact ⟨.bl false,H1,I1,rfl,q1⟩
theorem pe_not(ha:PE X a ta):PE X (.UnaryOp .Not a pos) (tNotV ta):=by
 intro pins s σ H Q I h
 refine UnaryOp_ (thn (ha pins s σ H _ I h) fun v s1 h_=>?_); obtain ⟨x,H1,I1,r1,q1⟩:=h_
 obtain ⟨c,rfl,q1⟩:=q1
 cases r1
 exact not_of (wpAny_truthy_bool ⟨.bl (!c),H1,I1,rfl,q1⟩)
end
end L2
namespace L2
open PySem PySem.Spec PyProof.Rows
def SqL(K:PySem.W.Frag)(H:Hp)(a:Addr)(xs:List V):Prop:=
 Rd H a (.lst xs) ∨
  ∃ (o:Obj) (its:Array Value) (n:Nat),K.lookup a=some o/\o.cls=.type "list"/\o.dict=none/\o.data=.seq its n/\its.size<=sizeLine/\Vals xs its.toList
def SqT(K:PySem.W.Frag)(H:Hp)(a:Addr)(xs:List V):Prop:=
 Rd H a (.tup xs) ∨
  ∃ (o:Obj) (its:Array Value) (n:Nat),K.lookup a=some o/\o.cls=.type "tuple"/\o.data=.seq its n/\its.size<=sizeLine/\Vals xs its.toList
def absV:Value->Option V
 | .none=>some .non
 | .bool b=>some (.bl b)
 | .int i _=>some (.int i)
 | .str x _=>some (.str x)
 | .bytes b _=>some (.byt b)
 | .float b _=>some (.flt b)
 | .ref a=>some (.ref a)
 | .type n=>some (.ty n)
 | _=>none
theorem RelV.abs{x:V}{u:Value}(r:RelV x u):absV u=some x:=by
 cases x with
 | non=>cases r; rfl
 | bl _=>cases r; rfl
 | int _=>obtain ⟨t,rfl⟩:=r; rfl
 | str _=>obtain ⟨t,rfl⟩:=r; rfl
 | byt _=>obtain ⟨t,rfl⟩:=r; rfl
 | flt _=>obtain ⟨t,rfl⟩:=r; rfl
 | ref _=>cases r; rfl
 | ty _=>cases r; rfl
theorem RelV.inj{x y:V}{u:Value}(r:RelV x u)(q:RelV y u):x=y:=Option.some.inj (r.abs.symm.trans q.abs)
theorem Vals.inj:∀ {xs ys:List V} {us:List Value},Vals xs us->Vals ys us->xs=ys
 | _,_,_,.nil,.nil=>rfl
 | _,_,_,.cons r t,.cons r' t'=>by rw [r.inj r',Vals.inj t t']
section
variable {X:Cx}{pins:List (Addr × Obj)}{σ:St}{H:Hp}{s:Shared}{a:Addr}{xs ys:List V}
theorem SqL.of{K:PySem.W.Frag}(h:H a=some (.lst xs)):SqL K H a xs:=.inl (.inl h)
theorem SqT.of{K:PySem.W.Frag}(h:H a=some (.tup xs)):SqT K H a xs:=.inl (.inl h)
theorem Inv.list(I:Inv X pins σ H s)(h:SqL X.K H a xs):∃ its:List Value,Vals xs its/\PlainL s.heap a its.toArray/\xs.length<=sizeLine:=by
 rcases h with h | ⟨o,its,n,hk,hc,hd,hs,hz,r⟩
 ·obtain ⟨z,its,n,r,e⟩:=h.ok I.hok
  exact ⟨its,r,⟨_,n,e,rfl,rfl,rfl⟩,z⟩
 ·refine ⟨its.toList,r,⟨o,n,I.kIn a o hk,hc,hd,by simpa using hs⟩,?_⟩
  have e:=r.length
  simp only [Array.length_toList] at e
  lia
theorem Inv.tuple(I:Inv X pins σ H s)(h:SqT X.K H a xs):∃ its:List Value,Vals xs its/\IsTup s.heap a its.toArray/\xs.length<=sizeLine:=by
 rcases h with h | ⟨o,its,n,hk,hc,hs,hz,r⟩
 ·obtain ⟨z,its,r,p⟩:=h.ok I.hok
  exact ⟨its,r,p,z⟩
 ·refine ⟨its.toList,r,⟨o,I.kIn a o hk,hc,n,by simpa using hs⟩,?_⟩
  have e:=r.length
  simp only [Array.length_toList] at e
  lia
theorem Inv.list_inj(I:Inv X pins σ H s)(h:SqL X.K H a xs)(h':SqL X.K H a ys):xs=ys:=by
 obtain ⟨its,r,⟨o,n,e,_,_,d⟩,_⟩:=I.list h
 obtain ⟨its',r',⟨o',n',e',_,_,d'⟩,_⟩:=I.list h'
 rw [e] at e'; cases e'
 rw [d] at d'
 injection d' with d1 _
 have:its=its':=by simpa using congrArg Array.toList d1
 subst this
 exact r.inj r'
theorem Inv.tuple_inj(I:Inv X pins σ H s)(h:SqT X.K H a xs)(h':SqT X.K H a ys):xs=ys:=by
 obtain ⟨its,r,⟨o,e,_,n,d⟩,_⟩:=I.tuple h
 obtain ⟨its',r',⟨o',e',_,n',d'⟩,_⟩:=I.tuple h'
 rw [e] at e'; cases e'
 rw [d] at d'
 injection d' with d1 _
 have:its=its':=by simpa using congrArg Array.toList d1
 subst this
 exact r.inj r'
end
abbrev Cx.wish(X:Cx)(E:Value->Shared->Prop):Cx:={ X with xe:=E }
abbrev Cx.nox(X:Cx):Cx:=X.wish fun _ _=>False
theorem Cx.Ok.wish{X:Cx}(ok:X.Ok)(E:Value->Shared->Prop):(X.wish E).Ok:=
 ⟨ok.mod,ok.kind,ok.glob,ok.blt,ok.above,ok.inj,ok.has,ok.cab,ok.hd,ok.frames,ok.stk,ok.exf,ok.bs,ok.bsz,ok.noex,ok.exfs,ok.funs,ok.frf⟩
theorem Cx.Ok.unwish{X:Cx}{E:Value->Shared->Prop}(ok:(X.wish E).Ok):X.Ok:=
 ⟨ok.mod,ok.kind,ok.glob,ok.blt,ok.above,ok.inj,ok.has,ok.cab,ok.hd,ok.frames,ok.stk,ok.exf,ok.bs,ok.bsz,ok.noex,ok.exfs,ok.funs,ok.frf⟩
section
variable {X:Cx}{pins:List (Addr × Obj)}{σ:St}{H:Hp}{s:Shared}{E:Value->Shared->Prop}
theorem Inv.wish(I:Inv X pins σ H s)(E:Value->Shared->Prop):Inv (X.wish E) pins σ H s:=⟨I.ok.wish E,I.os,I.bare,I.base,I.loc,I.cell,I.free,I.freeC,I.pin,I.hok,I.len⟩
theorem Inv.unwish(I:Inv (X.wish E) pins σ H s):Inv X pins σ H s:=⟨I.ok.unwish,I.os,I.bare,I.base,I.loc,I.cell,I.free,I.freeC,I.pin,I.hok,I.len⟩
theorem SP.unwish{D:Ends}{f:Flow}{s':Shared}(h:SP (X.wish E) pins D f s'):SP X pins D f s':=by
 cases f with
 | next=>obtain ⟨σ',H',I,q⟩:=h; exact ⟨σ',H',I.unwish,q⟩
 | brk=>obtain ⟨σ',H',I,q⟩:=h; exact ⟨σ',H',I.unwish,q⟩
 | cont=>obtain ⟨σ',H',I,q⟩:=h; exact ⟨σ',H',I.unwish,q⟩
 | ret u=>obtain ⟨v,σ',H',I,r,q⟩:=h; exact ⟨v,σ',H',I.unwish,r,q⟩
theorem PSs.nox{st:List Stmt}{t:TS}(h:PSs X.nox st t):PSs X st t:=fun pins s σ H D I hw=>
 wpAny_mono (h pins s σ H D (I.wish _) hw) (fun _ _ q=>q.unwish) fun _ _ z=>False.elim z
end
section
variable {X:Cx}{st:Stmt}{rest:List Stmt}{t u:TS}{e:Expr}{te:TE}{pos:Pos}
def tNext:TS:=fun D σ H=>D.nx σ H
def tSeq(t u:TS):TS:=fun D σ H=>t { D with nx:=u D } σ H
theorem pss_nil:PSs X [] tNext:=fun _ _ σ H _ I h=>wpAny_execs_nil ⟨σ,H,I,h⟩
theorem pss_cons(h1:PS X st t)(h2:PSs X rest u):PSs X (st::rest) (tSeq t u):=by
 intro pins s σ H D I h
 refine wpAny_execs_cons (thn (h1 pins s σ H { D with nx:=u D } I h) fun f s1 q=>?_)
 cases f with
 | next=>
  obtain ⟨σ',H',I',q⟩:=q
  exact h2 pins s1 σ' H' D I' q
 | ret v=>exact q
 | brk=>exact q
 | cont=>exact q
theorem pss_one(h1:PS X st t):PSs X [st] t:=by
 intro pins s σ H D I h
 refine wpAny_execs_cons (thn (h1 pins s σ H D I h) fun f s1 q=>?_)
 cases f with
 | next=>exact wpAny_execs_nil q
 | ret v=>exact q
 | brk=>exact q
 | cont=>exact q
theorem Inv.quiet{pins:List (Addr × Obj)}{σ:St}{H:Hp}{s:Shared}(I:Inv X pins σ H s):interactive X.env=false:=by simp [interactive,I.ok.kind]
def tDrop(te:TE):TS:=fun D σ H=>te σ H fun _ H1=>D.nx σ H1
theorem ps_expr(he:PE X e te)(hs:swapsWith e none pos.line X.env=pure false:=by rfl):PS X (.Expr e pos) (tDrop te):=by
 intro pins s σ H D I h
 exact wpAny_Expr_any (thn (he pins s σ H _ I h) fun v s1 ⟨x,H1,I1,r1,q1⟩=>⟨σ,H1,I1,q1⟩) I.quiet hs
def tRet(te:TE):TS:=fun D σ H=>te σ H D.rt
theorem ps_ret(he:PE X e te):PS X (.Return (some e) pos) (tRet te):=by
 intro pins s σ H D I h
 exact wpAny_Return_some (thn (he pins s σ H _ I h) fun v s1 ⟨x,H1,I1,r1,q1⟩=>⟨x,σ,H1,I1,r1,q1⟩)
def tIfS(c:TT)(t u:TS):TS:=fun D σ H=>c σ H fun b H1=>if b=true then t D σ H1 else u D σ H1
theorem ps_if{c:Expr}{a b:List Stmt}{tc:TT}(hc:PT X c tc)(ha:PSs X a t)(hb:PSs X b u):PS X (.If c a b pos) (tIfS tc t u):=by
 intro pins s σ H D I h
 refine wpAny_If (thn (hc pins s σ H _ I h) fun d s1 h_=>?_); obtain ⟨H1,I1,q1⟩:=h_
 cases d with
 | true=>exact ha pins s1 σ H1 D I1 q1
 | false=>exact hb pins s1 σ H1 D I1 q1
end
abbrev TG:=V->St->Hp->(St->Hp->Prop)->Prop
abbrev TGs:=List V->St->Hp->(St->Hp->Prop)->Prop
def PG(X:Cx)(target:Expr)(t:TG):Prop:=
 ∀ (pins:List (Addr × Obj)) (s:Shared) (σ:St) (H:Hp) (v:V) (u:Value) (Q:St->Hp->Prop),Inv X pins σ H s->RelV v u->t v σ H Q->
  wpAny (model X.prog X.w) X.A (assign target X.env u) (fun _ s'=>∃ σ' H',Inv X pins σ' H' s'/\Q σ' H') X.xe s
def PGs(X:Cx)(ts:List Expr)(t:TGs):Prop:=
 ∀ (pins:List (Addr × Obj)) (s:Shared) (σ:St) (H:Hp) (vs:List V) (us:List Value) (Q:St->Hp->Prop),Inv X pins σ H s->Vals vs us->t vs σ H Q->
  wpAny (model X.prog X.w) X.A (assignInOrder ((assignEach ts X.env).map (·.2)) us) (fun _ s'=>∃ σ' H',Inv X pins σ' H' s'/\Q σ' H') X.xe s
abbrev TSet:=V->V->V->Hp->(Hp->Prop)->Prop
def PSet(X:Cx)(t:TSet):Prop:=
 ∀ (pins:List (Addr × Obj)) (s:Shared) (σ:St) (H:Hp) (o i v:V) (ov iv u:Value) (Q:Hp->Prop),Inv X pins σ H s->RelV o ov->RelV i iv->RelV v u->t o i v H Q->
  wpAny (model X.prog X.w) X.A (setItem ov iv u) (fun _ s'=>∃ H',Inv X pins σ H' s'/\Q H') X.xe s
section
variable {X:Cx}{pos:Pos}
def gName(i:Nat):TG:=fun v σ H Q=>Q (σ.set i (some v)) H
theorem pg_name{i:Nat}{x:Str}(hN:X.N.Nodup)(hi:X.N[i]?=some x)(hx:Loc X.env.scope x)(hf:X.fn x=true∨X.env.scope.names.lookup x=some .local:=by first | exact .inl rfl | exact .inr rfl | assumption):PG X (.Name x pos) (gName i):=by
 intro pins s σ H v u Q I r h
 exact wpAny_assign_Name (store_ok I hN hi hx r (fun s' I'=>⟨_,H,I',h⟩) hf)
def gNil:TGs:=fun vs σ H Q=>vs=[]/\Q σ H
def gCons(t:TG)(u:TGs):TGs:=fun vs σ H Q=>∃ v r,vs=v::r/\t v σ H fun σ' H'=>u r σ' H' Q
theorem pgs_nil:PGs X [] gNil:=by
 intro pins s σ H vs us Q I r h
 obtain ⟨e,h⟩:=h
 subst e
 cases r
 exact assignInOrder_nil ⟨σ,H,I,h⟩
theorem pgs_cons{e:Expr}{es:List Expr}{t:TG}{u:TGs}(h1:PG X e t)(h2:PGs X es u)
  (hs:(assignEach (e::es) X.env).map (·.2)=assign e X.env::(assignEach es X.env).map (·.2):=by rfl):PGs X (e::es) (gCons t u):=by
 intro pins s σ H vs us Q I r h
 obtain ⟨v,vr,e1,h⟩:=h
 subst e1
 cases r with
 | cons r rr=>
  rw [hs]
  refine assignInOrder_cons (thn (h1 pins s σ H _ _ _ I r h) fun _ s1 h_=>?_); obtain ⟨σ1,H1,I1,q1⟩:=h_
  exact h2 pins s1 σ1 H1 _ _ Q I1 rr q1
def gTup(K:PySem.W.Frag)(n:Nat)(t:TGs):TG:=fun v σ H Q=>∃ a xs,v=.ref a/\SqT K H a xs/\xs.length=n/\t xs σ H Q
theorem pg_tup{es:List Expr}{k:Nat}{t:TGs}{n:Nat}(hc:X.calm=true)(h:PGs X es t)
  (hn:(assignEach es X.env).length=n:=by rfl) (hst:(assignEach es X.env).findIdx? (·.1)=none:=by rfl):PG X (.Tuple es k pos) (gTup X.K n t):=by
 intro pins s σ H v u Q I r hw
 obtain ⟨a,xs,e1,hq,hl,hw⟩:=hw
 subst e1
 cases r
 obtain ⟨its,rv,ht,hz⟩:=I.tuple hq
 refine assign_Tuple_tuple (I.ok.hd hc) ht (by simp [hn,<-hl,rv.length]) hst fun h' hx=>?_
 have I1:Inv X pins σ H { s with heap:=h' }:=I.kept (t':=s.toks) fun b o e=>hx b o (Nat.ne_of_lt (Heap.lt_size e)) e
 exact h pins _ σ H xs _ Q I1 (by simpa using rv) hw
def gSub(to ti:TE)(t:TSet):TG:=fun v σ H Q=>to σ H fun o H1=>ti σ H1 fun i H2=>t o i v H2 fun H3=>Q σ H3
theorem pg_sub{o i:Expr}{to ti:TE}{t:TSet}(ho:PE X o to)(hi:PE X i ti)(hs:PSet X t)
  (ha:∀ v,assign (.Subscript o i pos) X.env v=(do
   let ov <-holding [v] (eval o X.env)
   let iv <-holding [v,ov] (eval i X.env)
   standAt pos
   holding [v,ov,iv] (setItem ov iv v)
   release [v,ov,iv] []):=by intro _; rfl):PG X (.Subscript o i pos) (gSub to ti t):=by
 intro pins s σ H v u Q I r h
 rw [ha]
 refine wpAny_bind (wpAny_holding (thn (ho pins s σ H _ I h) fun ov s1 h_=>?_)); obtain ⟨x,H1,I1,r1,q1⟩:=h_
 refine wpAny_bind (wpAny_holding (thn (hi pins s1 σ H1 _ I1 q1) fun iv s2 h_=>?_)); obtain ⟨y,H2,I2,r2,q2⟩:=h_
 refine wpAny_bind (wpAny_standAt (wpAny_bind (wpAny_holding (thn (hs pins s2 σ H2 x y v ov iv u _ I2 r1 r2 r q2) fun _ s3 h_=>?_)))); obtain ⟨H3,I3,q3⟩:=h_
 exact wpAny_release ⟨σ,H3,I3,q3⟩
def tAsg(te:TE)(g:TG):TS:=fun D σ H=>te σ H fun x H1=>g x σ H1 D.nx
theorem ps_asg{tg e:Expr}{te:TE}{g:TG}(he:PE X e te)(hg:PG X tg g)(hs:swapsWithSole [tg] e pos.line X.env=pure false:=by rfl)(hw:swappedStores [tg] e X.env=pure none:=by rfl)
  (h1:(assignEach [tg] X.env).map (·.2)=[assign tg X.env]:=by rfl):PS X (.Assign [tg] e pos) (tAsg te g):=by
 intro pins s σ H D I h
 refine wpAny_Assign_stores (thn (he pins s σ H _ I h) fun v s1 ⟨x,H1,I1,r1,q1⟩=>?_) hs hw
 rw [h1]
 exact thn (hg pins s1 σ H1 x v _ I1 r1 q1) fun _ s2 q=>q
theorem ps_set{i:Nat}{x:Str}{e:Expr}{te:TE}{pos':Pos}(hN:X.N.Nodup)(hi:X.N[i]?=some x)(hx:Loc X.env.scope x)(he:PE X e te)(hs:swapsWith e (some (.Name x pos')) pos.line X.env=pure false:=by rfl)(hf:X.fn x=true∨X.env.scope.names.lookup x=some .local:=by first | exact .inl rfl | exact .inr rfl | assumption) :
  PS X (.Assign [.Name x pos'] e pos) (tAsg te (gName i)):=by
 intro pins s σ H D I h
 refine wpAny_Assign_Name (thn (he pins s σ H _ I h) fun v s1 ⟨y,H1,I1,r1,q1⟩=>?_) hs
 exact store_ok I1 hN hi hx r1 (fun s2 I2=>⟨_,H1,I2,q1⟩) hf
end
section
variable {X:Cx}{pos:Pos}
def tWhile(c:TT)(tb:TS):TS:=fun D σ H=>∃ W:Nat->St->Hp->Prop,(∃ m,W m σ H)/\∀ m σ H,W m σ H->
 c σ H fun b H1=>if b=true then ∃ N:St->Hp->Prop,(∀ σ' H',N σ' H'->∃ m',m' < m/\W m' σ' H')/\tb { D with nx:=N,ct:=N,bk:=D.nx } σ H1 else D.nx σ H1
theorem ps_while{c:Expr}{body:List Stmt}{tc:TT}{tb:TS}(hp:PassesOwn (model X.prog X.w) X.A X.env X.xe)(hc:PT X c tc)(hb:PSs X body tb):PS X (.While c body [] pos) (tWhile tc tb):=by
 intro pins s σ H D I h
 obtain ⟨W,⟨m0,w0⟩,turn⟩:=h
 refine wpAny_While (codeAny_whileLoop (fun n s'=>∃ σ' H',Inv X pins σ' H' s'/\W n σ' H') ?_ m0 ⟨σ,H,I,w0⟩)
 rintro n s1 ⟨σ1,H1,I1,w1⟩
 refine wpAny_passesOwn hp (thn (hc pins s1 σ1 H1 _ I1 (turn n σ1 H1 w1)) fun b s2 h_=>?_); obtain ⟨H2,I2,q2⟩:=h_
 cases b with
 | true=>
  obtain ⟨N,hN,q2⟩:=q2
  rw [if_pos rfl]
  refine wpAny_passesOwn hp (thn (hb pins s2 σ1 H2 _ I2 q2) fun f s3 q3=>?_)
  cases f with
  | next=>
   obtain ⟨σ3,H3,I3,n3⟩:=q3
   obtain ⟨m',hm,w3⟩:=hN σ3 H3 n3
   exact ⟨m',hm,σ3,H3,I3,w3⟩
  | cont=>
   obtain ⟨σ3,H3,I3,n3⟩:=q3
   obtain ⟨m',hm,w3⟩:=hN σ3 H3 n3
   exact ⟨m',hm,σ3,H3,I3,w3⟩
  | brk=>exact q3
  | ret v=>exact q3
 | false=>
  rw [if_neg Bool.false_ne_true]
  exact wpAny_execs_nil ⟨σ1,H2,I2,q2⟩
end
structure It where
 go:Nat->Hp->Prop
 yld:Nat->Hp->V->Hp->Prop
 stop:Nat->Hp->Prop
def FpOk(X:Cx)(pins:List (Addr × Obj))(H:Hp)(b:Addr):Prop:=
 H b=none/\b≠X.env.locals/\b∉X.fs/\(b∈X.ex∨X.s₀.heap.objs.size<=b)/\(∀ x c,X.env.cells.lookup x=some c->c≠b)/\∀ p∈X.pn++pins,p.1≠b
theorem Inv.fpOk{X:Cx}{pins:List (Addr × Obj)}{σ:St}{H H':Hp}{s:Shared}{b:Addr}(I:Inv X pins σ H s)(hb:s.heap.objs.size<=b)(hn:H' b=none):FpOk X pins H' b:=by
 refine ⟨hn,Nat.ne_of_gt (Nat.lt_of_lt_of_le I.lt hb),I.nofs hb,.inr (Nat.le_trans I.sz hb),fun x c e z=>?_,fun p hp z=>?_⟩
 ·obtain ⟨v,q⟩:=I.cell x c e
  exact absurd (Nat.lt_of_lt_of_le q.lt (by rw [z]; exact hb)) (Nat.lt_irrefl _)
 ·exact absurd (Nat.lt_of_lt_of_le (Heap.lt_size (I.pin p hp).1) (by rw [z]; exact hb)) (Nat.lt_irrefl _)
structure Turn (P:Program) (w:World) (K:PySem.W.Frag) (tg:Expr) (J:It) (fp:List Addr) (it:Addr) (tn:Nat->Heap->Prop):Prop where
 mem:it∈fp
 obj:∀ i h,tn i h->∀ b∈fp,∃ o,h.get? b=some o/\∀ v,o.data≠.cell v
 keep:∀ i h h',tn i h->(∀ b∈fp,∀ o,h.get? b=some o->h'.get? b=some o)->tn i h'
 item:∀ (X:Cx),X.prog=P->X.w=w->X.K=K->X.calm=true->∀ (i:Nat) (pins:List (Addr × Obj)) (s:Shared) (σ:St) (H:Hp) (E:Value->Shared->Prop),Inv X pins σ H s->(∀ b∈fp,FpOk X pins H b)->tn i s.heap->J.go i H->
  wpAny (model P w) X.A (pyNext (.ref it)) (fun r s1=>∃ u,r=some u /\
   wpAny (model P w) X.A (letOwnedTupleGo tg (.ref it) u) (fun _ s2=>∃ x H',Inv X pins σ H' s2/\RelV x u/\J.yld i H x H'/\tn (i+1) s2.heap/\∀ b∈fp,H' b=none) E s1) E s
 done:∀ (X:Cx),X.prog=P->X.w=w->X.K=K->X.calm=true->∀ (i:Nat) (pins:List (Addr × Obj)) (s:Shared) (σ:St) (H:Hp) (E:Value->Shared->Prop),Inv X pins σ H s->(∀ b∈fp,FpOk X pins H b)->tn i s.heap->J.stop i H->
  wpAny (model P w) X.A (pyNext (.ref it)) (fun r s1=>r=none/\Inv X pins σ H s1) E s
 self:∀ (A:Around) (i:Nat) (s:Shared) (Q:Value->Shared->Prop) (E:Value->Shared->Prop),tn i s.heap->Q (.ref it) s->wpAny (model P w) A (pyIter (.ref it)) Q E s
abbrev TI:=St->Hp->(It->Hp->Prop)->Prop
def PIE(X:Cx)(pins:List (Addr × Obj))(σ:St)(tg:Expr)(R:It->Hp->Prop)(itv:Value)(s2:Shared):Prop:=
 ∃ (it:Addr) (fp:List Addr) (tn:Nat->Heap->Prop) (J:It) (H':Hp),itv=.ref it/\Inv X pins σ H' s2/\Turn X.prog X.w X.K tg J fp it tn/\tn 0 s2.heap/\(∀ b∈fp,FpOk X pins H' b)/\R J H'
def PI(X:Cx)(tg iter:Expr)(wi:TI):Prop:=
 ∀ (pins:List (Addr × Obj)) (s:Shared) (σ:St) (H:Hp) (R:It->Hp->Prop),Inv X pins σ H s->wi σ H R->
  wpAny (model X.prog X.w) X.A (eval iter X.env) (fun v s1=>wpAny (model X.prog X.w) X.A (pyIter v) (PIE X pins σ tg R) X.xe s1) X.xe s
theorem go_of{M:Model}{A:Around}{E:Value->Shared->Prop}{s:Shared}{tg:Expr}{it:Addr}{u:Value}{o:Obj}{n:String}{vs:Array Value}{Q:Unit->Shared->Prop}(ho:s.heap.get? it=some o)(hc:o.cls=.type n)(hd:o.data=.fields vs)
    (hn:["enumerate","zip","dict_itemiterator","dict_reverseitemiterator","odict_iterator","itertools.zip_longest","itertools.pairwise"].contains n=false) (hQ:Q () s):wpAny M A (letOwnedTupleGo tg (.ref it) u) Q E s:=by
  unfold letOwnedTupleGo
  cases tg<;>first
    | exact wpAny_pure hQ
    | (cases u<;>first
        | exact wpAny_pure hQ
        | (refine wpAny_bind (wpAny_load ho ?_)
           rw [hc,hd]
           show wpAny M A (if (["enumerate","zip","dict_itemiterator","dict_reverseitemiterator","odict_iterator","itertools.zip_longest","itertools.pairwise"].contains n&&vs[0]? == some (rawInt _))=true then _ else _) Q E s
           rw [if_neg (by intro h; rw [hn,Bool.false_and] at h; cases h)]
           exact wpAny_pure hQ))
def Itl(K:PySem.W.Frag)(a:Addr):It:=
 ⟨fun i H=>∃ xs x,SqL K H a xs/\xs[i]?=some x,fun i H x H'=>H'=H/\∀ xs,SqL K H a xs->xs[i]?=some x,fun i H=>∃ xs,SqL K H a xs/\xs.length<=i⟩
def Itt(K:PySem.W.Frag)(a:Addr):It:=
 ⟨fun i H=>∃ xs x,SqT K H a xs/\xs[i]?=some x,fun i H x H'=>H'=H/\∀ xs,SqT K H a xs->xs[i]?=some x,fun i H=>∃ xs,SqT K H a xs/\xs.length<=i⟩
def Itr(lo:Int)(n:Nat):It:=⟨fun i _=>i < n,fun i H x H'=>H'=H/\x=.int (lo+i),fun i _=>n<=i⟩
theorem turn_list{P:Program}{w:World}{K:PySem.W.Frag}{tg:Expr}(a it:Addr):Turn P w K tg (Itl K a) [it] it (fun i h=>h.IsListIter it a i) where
 mem:=by simp
 obj:=fun i h st b hb=>by
  have e:b=it:=by simpa using hb
  subst e
  obtain ⟨o,e,c,d⟩:=st
  exact ⟨o,e,fun v z=>by rw [d] at z; cases z⟩
 keep:=fun i h h' st k=>st.at fun o e=>k it (by simp) o e
 item:=by
  intro X hP hw hK hc i pins s σ H E I hf st hg
  subst hP hw hK
  obtain ⟨xs,x,hq,hx⟩:=hg
  obtain ⟨its,rv,p,hz⟩:=I.list hq
  obtain ⟨u,hu,ru⟩:=rv.get hx
  obtain ⟨f0,f1,f2,f3,f4,f5⟩:=hf it (by simp)
  refine wpAny_pyNext_list_item st p.isList (x:=u) (by simpa using hu) fun h' st' sb=>?_
  have I1:Inv X pins σ H { s with heap:=h' }:=I.turned (t':=s.toks) (fun b o hb e=>(sb.2 b hb).trans e) f0 f1 f3 f4 f5
  obtain ⟨o,e,c,d⟩:=id st'
  exact ⟨u,rfl,go_of (s:={ s with heap:=h' }) e c d (by decide) ⟨x,H,I1,ru,⟨rfl,fun ys hy=>by rw [I.list_inj hy hq]; exact hx⟩,st',fun b hb=>(hf b hb).1⟩⟩
 done:=by
  intro X hP hw hK hc i pins s σ H E I hf st hg
  subst hP hw hK
  obtain ⟨xs,hq,hx⟩:=hg
  obtain ⟨its,rv,p,hz⟩:=I.list hq
  obtain ⟨f0,f1,f2,f3,f4,f5⟩:=hf it (by simp)
  have hl:=rv.length
  exact wpAny_pyNext_list_end (I.ok.hd hc) st p.isList (by simp; lia) fun h' eb=>⟨rfl,I.turned (t':=s.toks) (fun b o hb e=>eb b o hb e) f0 f1 f3 f4 f5⟩
 self:=fun _ _ _ _ _ st h=>wpAny_pyIter_listiter st h
theorem turn_tuple{P:Program}{w:World}{K:PySem.W.Frag}{tg:Expr}(a it:Addr):Turn P w K tg (Itt K a) [it] it (fun i h=>h.IsTupleIter it a i) where
 mem:=by simp
 obj:=fun i h st b hb=>by
  have e:b=it:=by simpa using hb
  subst e
  obtain ⟨o,e,c,d⟩:=st
  exact ⟨o,e,fun v z=>by rw [d] at z; cases z⟩
 keep:=fun i h h' st k=>st.at fun o e=>k it (by simp) o e
 item:=by
  intro X hP hw hK hc i pins s σ H E I hf st hg
  subst hP hw hK
  obtain ⟨xs,x,hq,hx⟩:=hg
  obtain ⟨its,rv,p,hz⟩:=I.tuple hq
  obtain ⟨u,hu,ru⟩:=rv.get hx
  obtain ⟨f0,f1,f2,f3,f4,f5⟩:=hf it (by simp)
  refine wpAny_pyNext_tuple_item st (show s.heap.IsTuple a its.toArray from p) (x:=u) (by simpa using hu) fun h' st' sb=>?_
  have I1:Inv X pins σ H { s with heap:=h' }:=I.turned (t':=s.toks) (fun b o hb e=>(sb.2 b hb).trans e) f0 f1 f3 f4 f5
  obtain ⟨o,e,c,d⟩:=id st'
  exact ⟨u,rfl,go_of (s:={ s with heap:=h' }) e c d (by decide) ⟨x,H,I1,ru,⟨rfl,fun ys hy=>by rw [I.tuple_inj hy hq]; exact hx⟩,st',fun b hb=>(hf b hb).1⟩⟩
 done:=by
  intro X hP hw hK hc i pins s σ H E I hf st hg
  subst hP hw hK
  obtain ⟨xs,hq,hx⟩:=hg
  obtain ⟨its,rv,p,hz⟩:=I.tuple hq
  obtain ⟨f0,f1,f2,f3,f4,f5⟩:=hf it (by simp)
  have hl:=rv.length
  exact wpAny_pyNext_tuple_end (I.ok.hd hc) st (show s.heap.IsTuple a its.toArray from p) (by simp; lia) fun h' eb=>⟨rfl,I.turned (t':=s.toks) (fun b o hb e=>eb b o hb e) f0 f1 f3 f4 f5⟩
 self:=fun _ _ _ _ _ st h=>wpAny_pyIter_tupleiter st h
theorem turn_range{P:Program}{w:World}{K:PySem.W.Frag}{tg:Expr}(it:Addr)(lo:Int)(n:Nat):Turn P w K tg (Itr lo n) [it] it (fun i h=>IsRangeIter h it (lo+(i:Nat)*1) ((n:Int) - (i:Nat)) 1) where
 mem:=by simp
 obj:=fun i h st b hb=>by
  have e:b=it:=by simpa using hb
  subst e
  exact ⟨_,st,fun v z=>by
   have z':Data.fields _=Data.cell v:=z
   cases z'⟩
 keep:=fun i h h' st k=>k it (by simp) _ st
 item:=by
  intro X hP hw hK hc i pins s σ H E I hf st hg
  subst hP hw hK
  obtain ⟨f0,f1,f2,f3,f4,f5⟩:=hf it (by simp)
  have W:=Walks.range (prog:=X.prog) (w:=X.w) (I.ok.hd hc) it lo 1 n
  refine W.item i s _ _ hg st fun v h' tk hv st' kk=>?_
  obtain ⟨t,rfl⟩:=hv
  have I1:Inv X pins σ H { s with heap:=h',toks:=tk }:=I.turned (fun b o hb e=>kk b o (by simpa using hb) e) f0 f1 f3 f4 f5
  refine ⟨_,rfl,go_of (s:={ s with heap:=h',toks:=tk }) (n:="range_iterator") st' rfl rfl (by decide) ⟨.int (lo+i),H,I1,⟨t,?_⟩,⟨rfl,rfl⟩,st',fun b hb=>(hf b hb).1⟩⟩
  rw [Int.mul_one]
 done:=by
  intro X hP hw hK hc i pins s σ H E I hf st hg
  subst hP hw hK
  obtain ⟨f0,f1,f2,f3,f4,f5⟩:=hf it (by simp)
  exact wpAny_pyNext_range_end (I.ok.hd hc) st (by have:n<=i:=hg; lia) fun h' eb=>⟨rfl,I.turned (t':=s.toks) (fun b o hb e=>eb b o hb e) f0 f1 f3 f4 f5⟩
 self:=fun _ _ _ _ _ st h=>wpAny_pyIter_rangeiter st h
end L2
namespace L2
open PySem PySem.Spec PyProof.Rows
section
variable {X:Cx}{tg:Expr}
def iList(K:PySem.W.Frag)(tl:TE):TI:=fun σ H R=>tl σ H fun x H1=>∃ a,x=.ref a/\(∃ xs,SqL K H1 a xs)/\R (Itl K a) H1
def iTup(K:PySem.W.Frag)(tl:TE):TI:=fun σ H R=>tl σ H fun x H1=>∃ a,x=.ref a/\(∃ xs,SqT K H1 a xs)/\R (Itt K a) H1
theorem pi_list{l:Expr}{tl:TE}(hl:PE X l tl):PI X tg l (iList X.K tl):=by
 intro pins s σ H R I h
 refine thn (hl pins s σ H _ I h) fun v s1 h_=>?_; obtain ⟨x,H1,I1,r1,q1⟩:=h_
 obtain ⟨a,e,⟨xs,hq⟩,q⟩:=q1
 subst e
 cases r1
 obtain ⟨its,rv,p,hz⟩:=I1.list hq
 refine wpAny_pyIter_list p.isList ?_
 refine ⟨s1.heap.objs.size,[s1.heap.objs.size],_,_,H1,rfl,I1.kept (t':=s1.toks) fun b o e=>Heap.get?_push_of_some _ e,turn_list a _,⟨_,Heap.get?_push_size _ rfl,rfl,rfl⟩,fun b hb=>?_,q⟩
 have e:b=s1.heap.objs.size:=by simpa using hb
 subst e
 exact I1.fpOk (Nat.le_refl _) (I1.hok.fresh (Nat.le_refl _))
theorem pi_tup{l:Expr}{tl:TE}(hl:PE X l tl):PI X tg l (iTup X.K tl):=by
 intro pins s σ H R I h
 refine thn (hl pins s σ H _ I h) fun v s1 h_=>?_; obtain ⟨x,H1,I1,r1,q1⟩:=h_
 obtain ⟨a,e,⟨xs,hq⟩,q⟩:=q1
 subst e
 cases r1
 obtain ⟨its,rv,p,hz⟩:=I1.tuple hq
 refine wpAny_pyIter_tuple (show s1.heap.IsTuple a its.toArray from p) ?_
 refine ⟨s1.heap.objs.size,[s1.heap.objs.size],_,_,H1,rfl,I1.kept (t':=s1.toks) fun b o e=>Heap.get?_push_of_some _ e,turn_tuple a _,⟨_,Heap.get?_push_size _ rfl,rfl,rfl⟩,fun b hb=>?_,q⟩
 have e:b=s1.heap.objs.size:=by simpa using hb
 subst e
 exact I1.fpOk (Nat.le_refl _) (I1.hok.fresh (Nat.le_refl _))
theorem range_it{pins:List (Addr × Obj)}{σ:St}{H:Hp}{s:Shared}{R:It->Hp->Prop}{E:Value->Shared->Prop}{lo hi:Int}{t u v:Tok}{tk:Nat}(I:Inv X pins σ H s)(h1:-(2 ^ 62)<=lo)(h2:lo < 2 ^ 62)(h3:-(2 ^ 62)<=hi)(h4:hi < 2 ^ 62)
  (q:R (Itr lo (hi - lo).toNat) H):wpAny (model X.prog X.w) X.A (pyIter (.ref s.heap.objs.size)) (PIE X pins σ tg R) E { s with heap:=s.heap.push { cls:=.type "range",data:=.fields #[.int lo t,.int hi u,.int 1 v] },toks:=tk }:=by
 refine wpAny_pyIter_range (IsRange.new ..) (small_one h1 h2 h3 h4) ?_
 have I1:Inv X pins σ H { s with heap:=s.heap.push { cls:=.type "range",data:=.fields #[.int lo t,.int hi u,.int 1 v] },toks:=tk }:=I.kept fun b o e=>Heap.get?_push_of_some _ e
 refine ⟨(s.heap.push { cls:=.type "range",data:=.fields #[.int lo t,.int hi u,.int 1 v] }).objs.size,[(s.heap.push { cls:=.type "range",data:=.fields #[.int lo t,.int hi u,.int 1 v] }).objs.size],_,_,H,rfl,
  I1.kept (t':=tk) fun b o e=>Heap.get?_push_of_some _ e,turn_range _ lo (hi - lo).toNat,?_,fun b hb=>?_,q⟩
 ·have e1:lo+((0:Nat):Int)*1=lo:=by simp
  have e2:(((hi - lo).toNat:Nat):Int) - ((0:Nat):Int)=Builtin.Range.rangeSize lo hi 1:=by rw [rangeSize_one]; split<;>lia
  show IsRangeIter _ _ (lo+((0:Nat):Int)*1) ((((hi - lo).toNat:Nat):Int) - ((0:Nat):Int)) 1
  rw [e1,e2]
  exact Heap.get?_push_size _ rfl
 ·have e:b=(s.heap.push { cls:=.type "range",data:=.fields #[.int lo t,.int hi u,.int 1 v] }).objs.size:=by simpa using hb
  subst e
  exact I1.fpOk (Nat.le_refl _) (I1.hok.fresh (Nat.le_refl _))
def iRng1(ta:TA):TI:=fun σ H R=>ta σ H fun vs H1=>∃ j:Int,vs=[.int j]/\-(2 ^ 62)<=j/\j < 2 ^ 62/\R (Itr 0 j.toNat) H1
def iRng2(ta:TA):TI:=fun σ H R=>ta σ H fun vs H1=>∃ i j:Int,vs=[.int i,.int j]/\(-(2 ^ 62)<=i/\i < 2 ^ 62/\-(2 ^ 62)<=j/\j < 2 ^ 62)/\R (Itr i (j - i).toNat) H1
theorem pi_range1{a:Expr}{ta:TA}{p pos:Pos}(hg:Gl X "range")(hm:X.mg "range"=none)(ha:PA X [a] ta)(hs:starEach [a] X.env=[(false,eval a X.env)]:=by rfl):PI X tg (.Call (.Name "range" p) [a] [] pos) (iRng1 ta):=by
 intro pins s σ H R I h
 refine Call_ (ld_blt I hg hm boot_range (PyProof.Rows.callWith_type1 (thn (ha pos pins s σ H _ I h) fun us s1 ⟨vs,H1,I1,r1,q1⟩=>?_) hs rfl))
 obtain ⟨j,e,q1,q2,q⟩:=q1
 subst e
 cases r1 with
 | cons r rr=>
  cases rr
  obtain ⟨t,rfl⟩:=r
  exact call_range_1 (range_it I1 (by lia) (by lia) q1 q2 (by simpa using q))
theorem pi_range2{a b:Expr}{ta:TA}{p pos:Pos}(hg:Gl X "range")(hm:X.mg "range"=none)(ha:PA X [a,b] ta)(hs:starEach [a,b] X.env=[(false,eval a X.env),(false,eval b X.env)]:=by rfl)(hs2:starEach [b] X.env=[(false,eval b X.env)]:=by rfl) :
  PI X tg (.Call (.Name "range" p) [a,b] [] pos) (iRng2 ta):=by
 intro pins s σ H R I h
 refine Call_ (ld_blt I hg hm boot_range (PyProof.Rows.callWith_type1 (thn (ha pos pins s σ H _ I h) fun us s1 ⟨vs,H1,I1,r1,q1⟩=>?_) (by rw [hs,hs2]) (by rw [hs2]; rfl)))
 obtain ⟨i,j,e,⟨q1,q2,q3,q4⟩,q⟩:=q1
 subst e
 cases r1 with
 | cons r rr=>
  cases rr with
  | cons r' rr=>
   cases rr
   obtain ⟨t,rfl⟩:=r
   obtain ⟨t',rfl⟩:=r'
   exact call_range_2 (range_it I1 q1 q2 q3 q4 q)
def tFor(wi:TI)(g:TG)(tb:TS):TS:=fun D σ H=>wi σ H fun J H1=>∃ W:Nat->Nat->St->Hp->Prop,(∃ m,W 0 m σ H1)/\∀ i m σ H,W i m σ H->
 (J.stop i H/\D.nx σ H)∨(J.go i H/\∃ N:St->Hp->Prop,(∀ σ' H',N σ' H'->∃ m',m' < m/\W (i+1) m' σ' H')/\∀ x H',J.yld i H x H'->g x σ H' fun σ2 H2=>tb { D with nx:=N,ct:=N,bk:=D.nx } σ2 H2)
def pinsAt(fp:List Addr)(h:Heap):List (Addr × Obj):=fp.filterMap fun b=>(h.get? b).map fun o=>(b,o)
theorem mem_pinsAt{fp:List Addr}{h:Heap}{b:Addr}{o:Obj}(hb:b∈fp)(e:h.get? b=some o):(b,o)∈pinsAt fp h:=List.mem_filterMap.mpr ⟨b,hb,by rw [e]; rfl⟩
theorem of_pinsAt{fp:List Addr}{h:Heap}{p:Addr × Obj}(hp:p∈pinsAt fp h):p.1∈fp/\h.get? p.1=some p.2:=by
 obtain ⟨b,hb,e⟩:=List.mem_filterMap.mp hp
 cases q:h.get? b with
 | none=>rw [q] at e; cases e
 | some o=>
  rw [q] at e
  have e':(b,o)=p:=Option.some.inj e
  subst e'
  exact ⟨hb,q⟩
theorem Inv.pinned{pins:List (Addr × Obj)}{σ:St}{H:Hp}{s:Shared}{fp:List Addr}(I:Inv X pins σ H s)(hf:∀ b∈fp,FpOk X pins H b)(ho:∀ b∈fp,∃ o,s.heap.get? b=some o/\∀ v,o.data≠.cell v):Inv X (pins++pinsAt fp s.heap) σ H s:=
 I.pins_of fun p hp=>(List.mem_append.mp hp).elim (fun z=>I.pin p (List.mem_append_right _ z)) fun z=>by
  obtain ⟨hb,e⟩:=of_pinsAt z
  obtain ⟨f0,f1,f2,_⟩:=hf p.1 hb
  obtain ⟨o,e',d⟩:=ho p.1 hb
  rw [e] at e'; cases e'
  exact ⟨e,f0,f1,f2,d⟩
theorem Inv.unpinned{pins pl:List (Addr × Obj)}{σ:St}{H:Hp}{s:Shared}(I:Inv X (pins++pl) σ H s):Inv X pins σ H s:=I.pins_of fun p hp=>I.pin p (List.mem_append_right _ (List.mem_append_left _ hp))
theorem ps_for{iter:Expr}{body:List Stmt}{wi:TI}{g:TG}{tb:TS}{pos:Pos}(hp:PassesOwn (model X.prog X.w) X.A X.env X.xe)(hc:X.calm=true)(hi:PI X tg iter wi)(hg:PG X tg g)(hb:PSs X body tb)
  (hs:∀ x,foldedSetIterable iter X.env x=pure x:=by intro _; rfl):PS X (.For tg iter body [] pos) (tFor wi g tb):=by
 intro pins s σ H D I h
 refine wpAny_For (thn (hi pins s σ H _ I h) fun v s1 h1=>thn h1 fun itv s2 h2=>?_) hs
 obtain ⟨it,fp,tn,J,H2,e,I2,T,st2,f2,W,⟨m0,w0⟩,turn⟩:=h2
 subst e
 -- what stays true of the iterator's objects through the loop
 have stat:∀ {H':Hp},(∀ b∈fp,H' b=none)->∀ b∈fp,FpOk X pins H' b:=fun hn b hb=>⟨hn b hb,(f2 b hb).2⟩
 refine codeAny_forLoop_any (fun n s'=>∃ i σ' H',Inv X pins σ' H' s'/\tn i s'.heap/\(∀ b∈fp,H' b=none)/\W i n σ' H') ?_ m0 ⟨0,σ,H2,I2,st2,fun b hb=>(f2 b hb).1,w0⟩
 rintro n s3 ⟨i,σ3,H3,I3,st3,fr3,w3⟩
 rcases turn i n σ3 H3 w3 with ⟨stop,qn⟩ | ⟨go,N,hN,step⟩
 ·refine wpAny_passesOwn hp (thn (T.done X rfl rfl rfl hc i pins s3 σ3 H3 X.xe I3 (stat fr3) st3 stop) fun r s4 h_=>?_); obtain ⟨hr,I4⟩:=h_
  subst hr
  exact wpAny_execs_nil ⟨σ3,H3,I4,qn⟩
 ·refine wpAny_passesOwn hp (thn (T.item X rfl rfl rfl hc i pins s3 σ3 H3 X.xe I3 (stat fr3) st3 go) fun r s4 h_=>?_); obtain ⟨u,hr,h4⟩:=h_
  subst hr
  refine wpAny_passesOwn hp (thn h4 fun _ s5 h_=>?_); obtain ⟨x,H5,I5,r5,y5,st5,fr5⟩:=h_
  have I5':=I5.pinned (stat fr5) (T.obj _ _ st5)
  refine wpAny_passesOwn hp (thn (hg _ s5 σ3 H5 x u _ I5' r5 (step x H5 y5)) fun _ s6 h_=>?_); obtain ⟨σ6,H6,I6,q6⟩:=h_
  refine wpAny_passesOwn hp (thn (hb _ s6 σ6 H6 _ I6 q6) fun f s7 q7=>?_)
  have again:∀ {σ7:St} {H7:Hp},Inv X (pins++pinsAt fp s5.heap) σ7 H7 s7->N σ7 H7->∃ m,m < n/\∃ i σ' H',Inv X pins σ' H' s7/\tn i s7.heap/\(∀ b∈fp,H' b=none)/\W i m σ' H':=fun {σ7 H7} I7 n7=>by
   obtain ⟨m',hm,w7⟩:=hN σ7 H7 n7
   refine ⟨m',hm,i+1,σ7,H7,I7.unpinned,T.keep _ _ _ st5 fun b hb o e=>(I7.pin (b,o) (List.mem_append_right _ (List.mem_append_right _ (mem_pinsAt hb e)))).1,fun b hb=>?_,w7⟩
   obtain ⟨o,e,d⟩:=T.obj _ _ st5 b hb
   exact (I7.pin (b,o) (List.mem_append_right _ (List.mem_append_right _ (mem_pinsAt hb e)))).2.1
  cases f with
  | next=>obtain ⟨σ7,H7,I7,n7⟩:=q7; exact again I7 n7
  | cont=>obtain ⟨σ7,H7,I7,n7⟩:=q7; exact again I7 n7
  | brk=>obtain ⟨σ7,H7,I7,q7⟩:=q7; exact ⟨σ7,H7,I7.unpinned,q7⟩
  | ret v=>obtain ⟨x7,σ7,H7,I7,r7,q7⟩:=q7; exact ⟨x7,σ7,H7,I7.unpinned,r7,q7⟩
end
end L2
namespace L2
open PySem PySem.Spec PyProof.Rows
abbrev R2:=V->V->Hp->VK->Prop
def OpR(X:Cx)(f:Value->Value->Sem Value)(r:R2):Prop:=
 ∀ (pins:List (Addr × Obj)) (s:Shared) (σ:St) (H:Hp) (x y:V) (v u:Value) (Q:VK),Inv X pins σ H s->RelV x v->RelV y u->r x y H Q->
  wpAny (model X.prog X.w) X.A (f v u) (EP X pins σ Q) X.xe s
def CallR(X:Cx)(f:Value)(r:List V->Hp->VK->Prop):Prop:=
 ∀ (pins:List (Addr × Obj)) (s:Shared) (σ:St) (H:Hp) (xs:List V) (us:List Value) (Q:VK),Inv X pins σ H s->Vals xs us->r xs H Q->
  wpAny (model X.prog X.w) X.A (call f us) (EP X pins σ Q) X.xe s
def TruR(X:Cx)(r:V->Hp->(Bool->Hp->Prop)->Prop):Prop:=
 ∀ (pins:List (Addr × Obj)) (s:Shared) (σ:St) (H:Hp) (x:V) (v:Value) (Q:Bool->Hp->Prop),Inv X pins σ H s->RelV x v->r x H Q->
  wpAny (model X.prog X.w) X.A (truthy v) (TP X pins σ Q) X.xe s
def tOp(r:R2)(ta tb:TE):TE:=fun σ H Q=>ta σ H fun x H1=>tb σ H1 fun y H2=>r x y H2 Q
def rI(C:Int->Int->Prop)(g:Int->Int->V):R2:=fun x y H Q=>∃ i j,x=.int i/\y=.int j/\C i j/\Q (g i j) H
def rI0(g:Int->Int->V):R2:=fun x y H Q=>∃ i j,x=.int i/\y=.int j/\Q (g i j) H
section
variable {X:Cx}{a b c:Expr}{ta tb tc:TE}{pos:Pos}
theorem binT(ha:PE X a ta)(hb:PE X b tb){pins:List (Addr × Obj)}{s:Shared}{σ:St}{H:Hp}{R:V->V->Hp->Prop}(I:Inv X pins σ H s)
  (h:ta σ H fun x H1=>tb σ H1 fun y H2=>R x y H2) {Q:Value->Shared->Prop} {f:Value->Value->Sem Value}
  (hf:∀ v u s2 x y H2,Inv X pins σ H2 s2->RelV x v->RelV y u->R x y H2->wpAny (model X.prog X.w) X.A (f v u) Q X.xe s2) :
  wpAny (model X.prog X.w) X.A (eval a X.env) (fun v s₁=>wpAny (model X.prog X.w) X.A (eval b X.env) (fun u s₂=>wpAny (model X.prog X.w) X.A (f v u) Q X.xe s₂) X.xe s₁) X.xe s:=by
 refine thn (ha pins s σ H _ I h) fun v s1 h_=>?_; obtain ⟨x,H1,I1,r1,q1⟩:=h_
 refine thn (hb pins s1 σ H1 _ I1 q1) fun u s2 h_=>?_; obtain ⟨y,H2,I2,r2,q2⟩:=h_
 exact hf v u s2 x y H2 I2 r1 r2 q2
theorem pe_op{op:Operator}{r:R2}(ho:OpR X (binaryOp op) r)(ha:PE X a ta)(hb:PE X b tb):PE X (.BinOp a op b pos) (tOp r ta tb):=by
 intro pins s σ H Q I h
 exact wpAny_BinOp (binT ha hb I h fun v u s2 x y H2 I2 rx ry q=>ho pins s2 σ H2 x y v u Q I2 rx ry q)
theorem opI{f:Value->Value->Sem Value}{C:Int->Int->Prop}{g:Int->Int->Int}
  (rule:∀ (i j:Int) (t u:Tok) (s:Shared) (Q:Value->Shared->Prop) (E:Value->Shared->Prop),C i j->Q (.int (g i j) s.toks) { s with toks:=s.toks+1 }->wpAny (model X.prog X.w) X.A (f (.int i t) (.int j u)) Q E s) :
  OpR X f (rI C fun i j=>.int (g i j)):=by
 intro pins s σ H x y v u Q I rx ry h
 obtain ⟨i,j,rfl,rfl,hc,q⟩:=h
 obtain ⟨t,rfl⟩:=rx
 obtain ⟨t',rfl⟩:=ry
 exact rule i j t t' s _ _ hc ⟨.int (g i j),H,I.tok _,⟨_,rfl⟩,q⟩
theorem opI0{f:Value->Value->Sem Value}{g:Int->Int->Int}
  (rule:∀ (i j:Int) (t u:Tok) (s:Shared) (Q:Value->Shared->Prop) (E:Value->Shared->Prop),Q (.int (g i j) s.toks) { s with toks:=s.toks+1 }->wpAny (model X.prog X.w) X.A (f (.int i t) (.int j u)) Q E s) :
  OpR X f (rI0 fun i j=>.int (g i j)):=by
 intro pins s σ H x y v u Q I rx ry h
 obtain ⟨i,j,rfl,rfl,q⟩:=h
 obtain ⟨t,rfl⟩:=rx
 obtain ⟨t',rfl⟩:=ry
 exact rule i j t t' s _ _ ⟨.int (g i j),H,I.tok _,⟨_,rfl⟩,q⟩
theorem opB0{f:Value->Value->Sem Value}{g:Int->Int->Bool}
  (rule:∀ (i j:Int) (t u:Tok) (s:Shared) (Q:Value->Shared->Prop) (E:Value->Shared->Prop),Q (.bool (g i j)) s->wpAny (model X.prog X.w) X.A (f (.int i t) (.int j u)) Q E s) :
  OpR X f (rI0 fun i j=>.bl (g i j)):=by
 intro pins s σ H x y v u Q I rx ry h
 obtain ⟨i,j,rfl,rfl,q⟩:=h
 obtain ⟨t,rfl⟩:=rx
 obtain ⟨t',rfl⟩:=ry
 exact rule i j t t' s _ _ ⟨.bl (g i j),H,I,rfl,q⟩
def CDiv(i j:Int):Prop:=0 < j/\j < 1073741824
def CPow(i j:Int):Prop:=0<=j/\j<=1000000/\i.natAbs < 2 ^ 64
def CMul(i j:Int):Prop:=(-(2 ^ 64) < i/\i < 2 ^ 64)∨(-(2 ^ 64) < j/\j < 2 ^ 64)
theorem CMul.ok{i j:Int}(h:CMul i j):IntMulOk i j:=by
 rcases h with ⟨h1,h2⟩ | ⟨h1,h2⟩
 ·exact .of_left (intBits_le_64 h1 h2)
 ·exact .of_right (intBits_le_64 h1 h2)
theorem op_add:OpR X (binaryOp .Add) (rI0 fun i j=>.int (i+j)):=opI0 fun _ _ _ _ _ _ _ q=>add_int q
theorem op_sub:OpR X (binaryOp .Sub) (rI0 fun i j=>.int (i - j)):=opI0 fun _ _ _ _ _ _ _ q=>sub_int q
theorem op_mul:OpR X (binaryOp .Mult) (rI CMul fun i j=>.int (i*j)):=opI fun _ _ _ _ _ _ _ hc q=>mul_int q hc.ok
theorem op_fdiv:OpR X (binaryOp .FloorDiv) (rI CDiv fun i j=>.int (i / j)):=opI fun i j _ _ _ _ _ hc q=>by
 have h1:(0:Int) < j:=hc.1
 have h2:j < 1073741824:=hc.2
 exact floordiv_int (by lia) (by rw [Int.fdiv_eq_ediv_of_nonneg i (by lia)]; exact q) (.inl (PyProof.noPylong_small (by lia)))
theorem op_mod:OpR X (binaryOp .Mod) (rI (fun _ j=>0 < j) fun i j=>.int (i%j)):=opI fun i j _ _ _ _ _ hc q=>by
 have h1:(0:Int) < j:=hc
 exact mod_int' (by lia) (by rw [Int.fmod_eq_emod_of_nonneg i (by lia)]; exact q)
theorem op_pow:OpR X (binaryOp .Pow) (rI CPow fun i j=>.int (i ^ j.toNat)):=opI fun _ _ _ _ _ _ _ hc q=>pow_int_small hc.1 hc.2.1 hc.2.2 q
end
section
variable {X:Cx}{a b c:Expr}{ta tb tc:TE}{pos:Pos}
theorem fin_bl{pins:List (Addr × Obj)}{σ:St}{H:Hp}{s:Shared}{Q:VK}{k k':Bool}(I:Inv X pins σ H s)(q:Q (.bl k) H)(e:k=k'):EP X pins σ Q (.bool k') s:=by
 subst e
 exact ⟨.bl k,H,I,rfl,q⟩
theorem op_lt:OpR X (compareOp .Lt) (rI0 fun i j=>.bl (decide (i < j))):=opB0 fun _ _ _ _ _ _ _ q=>lt_int q
theorem op_le:OpR X (compareOp .LtE) (rI0 fun i j=>.bl (decide (i<=j))):=opB0 fun _ _ _ _ _ _ _ q=>le_int q
theorem op_gt:OpR X (compareOp .Gt) (rI0 fun i j=>.bl (decide (j < i))):=opB0 fun _ _ _ _ _ _ _ q=>gt_int q
theorem op_ge:OpR X (compareOp .GtE) (rI0 fun i j=>.bl (decide (j<=i))):=opB0 fun _ _ _ _ _ _ _ q=>ge_int q
theorem op_lt_str:OpR X (compareOp .Lt) (fun x y H Q=>∃ i j,x=.str i/\y=.str j/\Q (.bl (decide (i.cps.toList < j.cps.toList))) H):=by
 intro pins s σ H x y v u Q I rx ry h
 obtain ⟨i,j,rfl,rfl,q⟩:=h
 obtain ⟨t,rfl⟩:=rx
 obtain ⟨t',rfl⟩:=ry
 exact lt_str (fin_bl I q rfl)
theorem OpR.or{f:Value->Value->Sem Value}{r r':R2}(h:OpR X f r)(h':OpR X f r'):OpR X f (fun x y H Q=>r x y H Q∨r' x y H Q):=by
 intro pins s σ H x y v u Q I rx ry q
 rcases q with q | q
 ·exact h pins s σ H x y v u Q I rx ry q
 ·exact h' pins s σ H x y v u Q I rx ry q
theorem nomark(b:Expr){op:CmpOp}(h:op≠.In:=by decide)(h2:op≠.NotIn:=by decide):behindInMarks op b=false:=by
 have e1:(op == CmpOp.In)=false:=by cases op<;>first | rfl | exact absurd rfl h
 have e2:(op == CmpOp.NotIn)=false:=by cases op<;>first | rfl | exact absurd rfl h2
 cases b<;>simp [behindInMarks,e1,e2]
theorem pe_cmpR{op:CmpOp}{r:R2}(ho:OpR X (compareOp op) r)(ha:PE X a ta)(hb:PE X b tb)(hm:behindInMarks op b=false):PE X (.Compare a [op] [b] pos) (tOp r ta tb):=by
 intro pins s σ H Q I h
 exact wpAny_Compare1 (binT ha hb I h fun v u s2 x y H2 I2 rx ry q=>ho pins s2 σ H2 x y v u Q I2 rx ry q) hm
def tTest(t:TE):TT:=fun σ H Q=>t σ H fun x H'=>∃ k,x=.bl k/\Q k H'
theorem pt_cmpR{op:CmpOp}{r:R2}(ho:OpR X (compareOp op) r)(ha:PE X a ta)(hb:PE X b tb)(hm:behindInMarks op b=false):PT X (.Compare a [op] [b] pos) (tTest (tOp r ta tb)):=by
 intro pins s σ H Q I h
 refine wpAny_isTrue_Compare1 (thn (ha pins s σ H _ I h) fun v s1 ⟨x,H1,I1,r1,q1⟩=>thn (hb pins s1 σ H1 _ I1 q1) fun u s2 ⟨y,H2,I2,r2,q2⟩=>
  thn (ho pins s2 σ H2 x y v u _ I2 r1 r2 q2) fun c s3 ⟨z,H3,I3,r3,k,e,q3⟩=>?_) hm
 subst e
 cases r3
 exact wpAny_truthy_bool ⟨H3,I3,q3⟩
def tChain(r r':R2)(ta tb tc:TE):TE:=fun σ H Q=>ta σ H fun x H1=>tb σ H1 fun y H2=>r x y H2 fun z H3=>∃ k,z=.bl k /\
 (if k=true then tc σ H3 fun w' H4=>r' y w' H4 Q else Q (.bl false) H3)
theorem pe_chain{op op':CmpOp}{r r':R2}(ho:OpR X (compareOp op) r)(ho':OpR X (compareOp op') r')(ha:PE X a ta)(hb:PE X b tb)(hc:PE X c tc)
  (hm:lastMarks [op,op'] [b,c]=false:=by with_unfolding_all rfl):PE X (.Compare a [op,op'] [b,c] pos) (tChain r r' ta tb tc):=by
 intro pins s σ H Q I h
 refine Compare_chain (thn (ha pins s σ H _ I h) fun v s1 ⟨x,H1,I1,r1,q1⟩=>chain_link (thn (hb pins s1 σ H1 _ I1 q1) fun u s2 ⟨y,H2,I2,r2,q2⟩=>
  thn (ho pins s2 σ H2 x y v u _ I2 r1 r2 q2) fun d s3 ⟨z,H3,I3,r3,k,e,q3⟩=>?_)) hm
 subst e
 cases r3
 refine wpAny_truthy_bool ?_
 cases k with
 | false=>exact ite_ff ⟨.bl false,H3,I3,rfl,q3⟩
 | true=>exact ite_tt (chain_last (thn (hc pins s3 σ H3 _ I3 q3) fun w' s4 ⟨z',H4,I4,r4,q4⟩=>ho' pins s4 σ H4 y z' u w' Q I4 r2 r4 q4))
theorem pt_chain{op op':CmpOp}{r r':R2}(ho:OpR X (compareOp op) r)(ho':OpR X (compareOp op') r')(ha:PE X a ta)(hb:PE X b tb)(hc:PE X c tc)
  (hm:lastMarks [op,op'] [b,c]=false:=by with_unfolding_all rfl):PT X (.Compare a [op,op'] [b,c] pos) (tTest (tChain r r' ta tb tc)):=by
 intro pins s σ H Q I h
 refine isTrue_chain (thn (ha pins s σ H _ I h) fun v s1 ⟨x,H1,I1,r1,q1⟩=>test_link (thn (hb pins s1 σ H1 _ I1 q1) fun u s2 ⟨y,H2,I2,r2,q2⟩=>
  thn (ho pins s2 σ H2 x y v u _ I2 r1 r2 q2) fun d s3 ⟨z,H3,I3,r3,k,e,q3⟩=>?_)) hm
 subst e
 cases r3
 refine wpAny_truthy_bool ?_
 cases k with
 | false=>
  obtain ⟨k',e',q'⟩:=q3
  cases e'
  exact ite_ff ⟨H3,I3,q'⟩
 | true=>
  refine ite_tt (test_last (thn (hc pins s3 σ H3 _ I3 q3) fun w' s4 ⟨z',H4,I4,r4,q4⟩=>thn (ho' pins s4 σ H4 y z' u w' _ I4 r2 r4 q4) fun d' s5 h_=>?_)); obtain ⟨z2,H5,I5,r5,k2,e2,q5⟩:=h_
  subst e2
  cases r5
  exact wpAny_truthy_bool ⟨H5,I5,q5⟩
def TruV(K:PySem.W.Frag)(x:V)(H:Hp)(k:Bool):Prop:=
 match x with
 | .non=>k=false
 | .bl b=>k=b
 | .int i=>k=(i != 0)
 | .str y=>y.length<=sizeLine/\k=((y.length:Int) != 0)
 | .byt y=>y.size<=sizeLine/\k=((y.size:Int) != 0)
 | .ref p=>(∃ xs,SqL K H p xs/\k=!xs.isEmpty)∨(∃ xs,SqT K H p xs/\k=!xs.isEmpty)∨∃ kvs,H p=some (.dK kvs)/\k=!kvs.isEmpty
 | _=>False
theorem isEmpty_kv{κ:Type}{kvs:List (κ × V)}{vs:List (κ × Value)}(r:KV kvs vs):(!vs.isEmpty)=!kvs.isEmpty:=by
 cases r<;>rfl
theorem isEmpty_of{xs:List V}{its:List Value}(r:Vals xs its):(!its.toArray.isEmpty)=!xs.isEmpty:=by
 cases r<;>simp
theorem line63:(sizeLine:Nat) < 2 ^ 63:=by rw [sizeLine_eq]; decide
theorem tru_ok:TruR X (fun x H Q=>∃ k,TruV X.K x H k/\Q k H):=by
 intro pins s σ H x v Q I rx h
 obtain ⟨k,e,q⟩:=h
 have hl:=line63
 have hs:sizeLine=16777216:=sizeLine_eq
 cases x with
 | non=>
  cases rx
  have e':k=false:=e
  subst e'
  exact truthy_none ⟨H,I,q⟩
 | bl b=>
  cases rx
  have e':k=b:=e
  subst e'
  exact wpAny_truthy_bool ⟨H,I,q⟩
 | int i=>
  obtain ⟨t,rfl⟩:=rx
  have e':k=(i != 0):=e
  subst e'
  exact PySem.P.truthy_int ⟨H,I,q⟩
 | str y=>
  obtain ⟨t,rfl⟩:=rx
  obtain ⟨hy,e'⟩:y.length<=sizeLine/\k=((y.length:Int) != 0):=e
  subst e'
  exact PySem.P.truthy_str (by lia) ⟨H,I.tok _,q⟩
 | byt y=>
  obtain ⟨t,rfl⟩:=rx
  obtain ⟨hy,e'⟩:y.size<=sizeLine/\k=((y.size:Int) != 0):=e
  subst e'
  exact PySem.W.truthy_bytes (by lia) ⟨H,I.tok _,q⟩
 | ref p=>
  cases rx
  have e':(∃ xs,SqL X.K H p xs/\k=!xs.isEmpty)∨(∃ xs,SqT X.K H p xs/\k=!xs.isEmpty)∨∃ kvs,H p=some (.dK kvs)/\k=!kvs.isEmpty:=e
  rcases e' with ⟨xs,hx,e'⟩ | ⟨xs,hx,e'⟩ | ⟨kvs,hx,e'⟩
  ·subst e'
   obtain ⟨its,r,pl,hz⟩:=I.list hx
   have hlen:=r.length
   exact wpAny_truthy_list pl.isList (by simp only [List.size_toArray]; lia) ⟨H,I.tok _,by rw [isEmpty_of r]; exact q⟩
  ·subst e'
   obtain ⟨its,r,pl,hz⟩:=I.tuple hx
   have hlen:=r.length
   exact truthy_tuple pl (by simp only [List.size_toArray]; lia) ⟨H,I.tok _,by rw [isEmpty_of r]; exact q⟩
  ·subst e'
   obtain ⟨hz,hS,vs,r,m⟩:kvs.length<=sizeLine/\(p == sysModules)=false/\∃ vs,KV kvs vs/\s.heap.DictOf (mixKind X.prog X.w) p vs:=I.hok p _ hx
   have hlen:kvs.length=vs.length:=Paired.length r
   exact wpAny_truthy_dict hS m (by lia) ⟨H,I.tok _,by rw [isEmpty_kv r]; exact q⟩
 | _=>exact (show False from e).elim
theorem pt_truth(ha:PE X a ta)(he:∀ whole,isTrue a X.env whole=(do let v <-whole; standAt a.pos; holding [v] (truthy v))) :
  PT X a (fun σ H Q=>ta σ H fun x H'=>∃ k,TruV X.K x H' k/\Q k H'):=by
 intro pins s σ H Q I h
 exact isTrue_plain (thn (ha pins s σ H _ I h) fun v s1 ⟨x,H1,I1,r1,q1⟩=>tru_ok pins s1 σ H1 x v Q I1 r1 q1) (he _)
theorem op_add_str:OpR X (binaryOp .Add) (fun x y H Q=>∃ i j,x=.str i/\y=.str j/\i.length+j.length<=sizeLine/\Q (.str (i++j)) H):=by
 intro pins s σ H x y v u Q I rx ry h
 obtain ⟨i,j,rfl,rfl,hz,q⟩:=h
 obtain ⟨t,rfl⟩:=rx
 obtain ⟨t',rfl⟩:=ry
 exact add_str (fun t' tk=>⟨.str (i++j),H,I.tok _,⟨_,rfl⟩,q⟩) hz
theorem vals1{x:V}{us:List Value}(r:Vals [x] us):∃ u,us=[u]/\RelV x u:=by
 cases r with
 | cons r1 r2=>cases r2; exact ⟨_,rfl,r1⟩
theorem vals2{x y:V}{us:List Value}(r:Vals [x,y] us):∃ u w',us=[u,w']/\RelV x u/\RelV y w':=by
 cases r with
 | cons r1 r2=>
  cases r2 with
  | cons r3 r4=>cases r4; exact ⟨_,_,rfl,r1,r3⟩
end
end L2
namespace L2
open PySem PySem.Spec PyProof.Rows
structure ObjM (h:Heap) (x dx C:Addr) (mA:Str->Option Value):Prop where
 obj:h.get? x=some (PySem.W.instObj C dx)
 ns:h.Ns1 dx mA
 ne:dx≠x
theorem lookIn_ns{h:Heap}{dx:Addr}{mA:Str->Option Value}(n:h.Ns1 dx mA):∃ od,h.get? dx=some od/\∀ name,PySem.W.lookIn name od=some (mA name):=by
 obtain ⟨o,es,ep,ho,hd,hk,_,hm⟩:=n
 refine ⟨o,ho,fun name=>?_⟩
 have e:=hm name
 unfold nsFind findBy at e
 rw [<-Array.find?_toList] at e
 unfold PySem.W.lookIn
 rw [hd]
 dsimp only
 split
 ·rename_i y q
  rw [q] at e
  exact congrArg some e
 ·rename_i q
  rw [q] at e
  have a:es.toList.any (·.refKey)=false:=by
   rw [List.any_eq_false]
   intro y hy
   obtain ⟨z,t,hkey⟩:=hk y (Array.mem_toList_iff.mp hy)
   simp [DictEntry.refKey,hkey]
  have a':¬ es.toList.any (·.refKey)=true:=by rw [a]; exact Bool.false_ne_true
  rw [if_neg a']
  exact congrArg some e
theorem ObjM.look{h:Heap}{x dx C:Addr}{mA:Str->Option Value}(I:ObjM h x dx C mA):∃ od,PySem.W.InstAt h x (PySem.W.instObj C dx) C (some od)/\∀ name,PySem.W.lookIn name od=some (mA name):=
 let ⟨od,ho,hl⟩:=lookIn_ns I.ns
 ⟨od,⟨I.obj,rfl,rfl,ho⟩,hl⟩
theorem RelO.some_of{v:V}{o:Option Value}(r:RelO (some v) o):∃ u,o=some u/\RelV v u:=by
 cases o with
 | none=>exact (show False from r).elim
 | some u=>exact ⟨u,rfl,r⟩
section
variable {P:Program}{w:World}{H H':Hp}{h h':Heap}{a C dx:Addr}{fs fs':List (Str × V)}
theorem ins_get(hok:HOk P w H h)(e:H a=some (.ins C dx fs)):∃ mA,ObjM h a dx C mA/\(∀ f,RelO (fs.lookup f) (mA f))/\PySem.Within mA (fs.map (·.1))/\fs.length<=1000/\H dx=some (.own a):=by
 obtain ⟨d,z,ne,ob,mA,n,r,q⟩:=(show ObjOk P w H h a (.ins C dx fs) from hok a _ e)
 exact ⟨mA,⟨ob,n,ne⟩,r,q,z,d⟩
end
structure Cls (K:PySem.W.Frag) (C:Addr):Prop where
 pg:PySem.W.plainGet K C Str.empty=true
 hd:PySem.W.hasDictIn K C=true
 po:PySem.W.plainOver K C=true
 sa:PySem.W.findIn K (.ref C) "__setattr__"=some (some (.builtin "object.__setattr__"))
theorem Cls.get{K:PySem.W.Frag}{C:Addr}(c:Cls K C)(f:Str):PySem.W.plainGet K C f=true:=c.pg
section
variable {X:Cx}{pins:List (Addr × Obj)}{σ:St}{H:Hp}{s:Shared}{A:Around}{E:Value->Shared->Prop}{Q:Value->Shared->Prop}{c:Value}{b:Bool}
inductive TyOf (K:PySem.W.Frag) (H:Hp):V->Value->Prop where
 | non:TyOf K H .non (.type "NoneType")
 | bl (x:Bool):TyOf K H (.bl x) (.type "bool")
 | int (i:Int):TyOf K H (.int i) (.type "int")
 | str (x:Str):TyOf K H (.str x) (.type "str")
 | flt (x:UInt64):TyOf K H (.flt x) (.type "float")
 | lst {a:Addr} {xs:List V} (e:H a=some (.lst xs)):TyOf K H (.ref a) (.type "list")
 | frz {a:Addr} {o:Obj} {xs:List V} (e:H a=some (.frz o (.lst xs))):TyOf K H (.ref a) (.type "list")
 | tup {a:Addr} {xs:List V} (e:H a=some (.tup xs)):TyOf K H (.ref a) (.type "tuple")
 | dK {a:Addr} {kvs:List (Key × V)} (e:H a=some (.dK kvs)):TyOf K H (.ref a) (.type "dict")
 | dT {a:Addr} {kvs:List (List Key × V)} (e:H a=some (.dT kvs)):TyOf K H (.ref a) (.type "dict")
 | ins {a C dx:Addr} {fs:List (Str × V)} (e:H a=some (.ins C dx fs)) (cl:Cls K C) (ha:PySem.W.findIn K (.ref C) "__class__"=some (some (.builtin "object.__class__")))
   (hn:PySem.W.specialIn K (.builtin "object.__class__") "__get__"=some (some (.builtin "getset_descriptor.__get__"))) (htk:PySem.W.takesIn K (.builtin "object.__class__")=some true)
   (hm:PySem.W.mroIn K C (.type "object")=some true):TyOf K H (.ref a) (.ref C)
theorem isinst_ok{x:V}{u t:Value}(I:Inv X pins σ H s)(rx:RelV x u)(ty:TyOf X.K H x t)(e:PySem.W.kitOne X.K t c=some b)(h:∀ tk,Q (.bool b) { s with toks:=tk }) :
  wpAny (model X.prog X.w) A (call (.builtin "isinstance") [u,c]) Q E s:=by
 cases ty with
 | non=>cases (show u=Value.none from rx); exact PySem.W.kia_one PySem.W.kitx_none I.kIn True.intro e (fun z=>nomatch z) h
 | bl y=>cases (show u=Value.bool y from rx); exact PySem.W.kia_one PySem.W.kitx_bool I.kIn True.intro e (fun z=>nomatch z) h
 | int i=>obtain ⟨t,q⟩:=(show ∃ t,u=Value.int i t from rx); cases q; exact PySem.W.kia_one PySem.W.kitx_int I.kIn True.intro e (fun z=>nomatch z) h
 | str y=>obtain ⟨t,q⟩:=(show ∃ t,u=Value.str y t from rx); cases q; exact PySem.W.kia_one PySem.W.kitx_str I.kIn True.intro e (fun z=>nomatch z) h
 | flt y=>obtain ⟨t,q⟩:=(show ∃ t,u=Value.float y t from rx); cases q; exact PySem.W.kia_one PySem.W.kitx_float I.kIn True.intro e (fun z=>nomatch z) h
 | @lst a xs ea=>
  cases (show u=Value.ref a from rx)
  obtain ⟨_,_,n,_,h1⟩:=(show ObjOk X.prog X.w H s.heap a (.lst xs) from I.hok a _ ea)
  exact PySem.W.kia_one PySem.W.kitx_list I.kIn ⟨_,h1,rfl⟩ e (fun z=>nomatch z) h
 | @frz a ob xs ea=>
  cases (show u=Value.ref a from rx)
  obtain ⟨_,_,_,n,_,h1⟩:=(show ObjOk X.prog X.w H s.heap a (.frz ob (.lst xs)) from I.hok a _ ea)
  exact PySem.W.kia_one PySem.W.kitx_list I.kIn ⟨_,h1,rfl⟩ e (fun z=>nomatch z) h
 | @tup a xs ea=>
  cases (show u=Value.ref a from rx)
  obtain ⟨_,_,_,p⟩:=(show ObjOk X.prog X.w H s.heap a (.tup xs) from I.hok a _ ea)
  obtain ⟨o,h1,h2,_⟩:=p
  exact PySem.W.kia_one PySem.W.kitx_tuple I.kIn ⟨o,h1,h2⟩ e (fun z=>nomatch z) h
 | @dK a kvs ea=>
  cases (show u=Value.ref a from rx)
  obtain ⟨_,_,vs,_,p⟩:=(show ObjOk X.prog X.w H s.heap a (.dK kvs) from I.hok a _ ea)
  obtain ⟨o,es,ep,h1,h2,_⟩:=p
  exact PySem.W.kia_one PySem.W.kitx_dict I.kIn ⟨o,h1,h2.1⟩ e (fun z=>nomatch z) h
 | @dT a kvs ea=>
  cases (show u=Value.ref a from rx)
  obtain ⟨_,_,xs,_,o,es,ep,h1,h2,_⟩:=(show ObjOk X.prog X.w H s.heap a (.dT kvs) from I.hok a _ ea)
  exact PySem.W.kia_one PySem.W.kitx_dict I.kIn ⟨o,h1,h2.1⟩ e (fun z=>nomatch z) h
 | @ins a C dx fs ea cl ha hn htk hm=>
  cases (show u=Value.ref a from rx)
  obtain ⟨mA,O,_⟩:=ins_get I.hok ea
  obtain ⟨od,J,_⟩:=O.look
  exact PySem.W.kia_one (PySem.W.kitx_own (cl.get _) cl.hd ha hn htk hm) I.kIn J e (fun z=>nomatch z) h
end
end L2
namespace L2
open PySem PySem.Spec PyProof.Rows
structure Room (k:Nat) (A:Around):Prop where
 hd:A.handled=none
 dp:A.depth+3*k+5 < recursionLimit
 un:A.units+16*k+200 < cLine
theorem Room.mono{j k:Nat}{A:Around}(r:Room k A)(h:j<=k):Room j A:=⟨r.hd,by have:=r.dp; lia,by have:=r.un; lia⟩
theorem Room.deeper{k:Nat}{A:Around}(r:Room (k+1) A)(env:Env):Room k (A.deeper env):=
 ⟨r.hd,by have:=r.dp; show A.depth+1+3*k+5 < _; lia,by have:=r.un; show A.units+3+16*k+200 < _; lia⟩
theorem Room.depth{k:Nat}{A:Around}(r:Room k A):A.depth < recursionLimit:=by have:=r.dp; lia
theorem Room.units{k:Nat}{A:Around}(r:Room k A):A.units+64 < cLine:=by have:=r.un; lia
def tNil:TA:=fun _ H Q=>Q [] H
def tCons(ta:TE)(tr:TA):TA:=fun σ H Q=>ta σ H fun x H1=>tr σ H1 fun xs H2=>Q (x::xs) H2
section
variable {X:Cx}{e:Expr}{es:List Expr}{te:TE}{t:TA}{pos:Pos}
theorem pa_nil:PA X [] tNil:=fun _ _ _ _ H Q I h=>Calls.spliced_nil ⟨[],H,I,.nil,h⟩
theorem pa_cons(ha:PE X e te)(hr:PA X es t)(hs:starEach (e::es) X.env=(false,eval e X.env)::starEach es X.env:=by rfl):PA X (e::es) (tCons te t):=by
 intro pos pins s σ H Q I h
 rw [hs]
 show wpAny _ _ (spliced ((false,eval e X.env)::backTo pos (starEach es X.env))) _ _ s
 refine Calls.spliced_cons (thn (ha pins s σ H _ I h) fun u s1 h_=>?_); obtain ⟨x,H1,I1,r1,q1⟩:=h_
 exact thn (hr pos pins s1 σ H1 _ I1 q1) fun us s2 ⟨xs,H2,I2,r2,q2⟩=>⟨x::xs,H2,I2,.cons r1 r2,q2⟩
def tTup(t:TA):TE:=fun σ H Q=>t σ H fun xs H1=>xs.length<=sizeLine/\∀ p,H1 p=none->Q (.ref p) (upd H1 p (.tup xs))
def tLst(t:TA):TE:=fun σ H Q=>t σ H fun xs H1=>xs.length<=sizeLine/\∀ p,H1 p=none->Q (.ref p) (upd H1 p (.lst xs))
theorem pe_tup{x1}(h:PA X es t):PE X (.Tuple es x1 pos) (tTup t):=by
 intro pins s σ H Q I hq
 refine wpAny_Tuple_spliced (thn (h pos pins s σ H _ I hq) fun us s1 ⟨xs,H1,I1,r,z,q⟩=>⟨by rw [<-r.length]; exact z,?_⟩)
 have hf:H1 s1.heap.objs.size=none:=I1.hok.fresh (Nat.le_refl _)
 refine ⟨.ref s1.heap.objs.size,upd H1 s1.heap.objs.size (.tup xs),I1.laid (t':=s1.toks) (fun b u e=>Heap.get?_push_of_some _ e) (Nat.le_refl _) ?_,rfl,q _ hf⟩
 exact ⟨z,us,r,⟨_,Heap.get?_push_size _ rfl,rfl,_,rfl⟩⟩
theorem pe_lst(h:PA X es t):PE X (.List es pos) (tLst t):=by
 intro pins s σ H Q I hq
 refine wpAny_List_spliced (thn (h pos pins s σ H _ I hq) fun us s1 ⟨xs,H1,I1,r,z,q⟩=>⟨by rw [<-r.length]; exact z,?_⟩)
 have hf:H1 s1.heap.objs.size=none:=I1.hok.fresh (Nat.le_refl _)
 refine ⟨.ref s1.heap.objs.size,upd H1 s1.heap.objs.size (.lst xs),I1.laid (t':=s1.toks) (fun b u e=>Heap.get?_push_of_some _ e) (Nat.le_refl _) ?_,rfl,q _ hf⟩
 exact ⟨z,us,0,r,Heap.get?_push_size _ rfl⟩
end
abbrev Sp:=List V->Hp->VK->XK->Prop
abbrev CXT:=List Env->Hp->Shared->XK->Value->Shared->Prop
structure Env0 (P:Program) (w:World) (K:PySem.W.Frag) (mg:Str->Option Value) (base:Heap) (A:Around) (outer:List Env) (s:Shared) (H:Hp):Prop where
 frames:A.frames=some outer
 mod:Mod K mg base
 bs:∀ b o,base.get? b=some o->s.heap.get? b=some o/\H b=none
 bsz:base.objs.size<=s.heap.objs.size
 funs:s.heap.FunFrames base outer
 frf:∀ b∈frs outer,H b=none
 hok:HOk P w H s.heap
 bare:AllBare s.gens
def CE(outer:List Env)(P:Program)(w:World)(H:Hp)(s:Shared)(Q:VK)(u:Value)(s':Shared):Prop:=
 ∃ v H',s'.os=s.os/\AllBare s'.gens/\Un (frs outer) [] H H' s.heap s'.heap/\HOk P w H' s'.heap/\RelV v u/\Q v H'
def CR(CX:CXT)(outer:List Env)(P:Program)(w:World)(H:Hp)(s:Shared)(Q:VK)(E:XK)(r:Result)(s':Shared):Prop:=
 match r with
 | .ok (.ret u)=>CE outer P w H s Q u s'
 | .ok _=>False
 | .error e=>CX outer H s E e s'
structure FnOk (P:Program) (w:World) (K:PySem.W.Frag) (mg:Str->Option Value) (base:Heap) (CX:CXT) (k:Nat) (f:Addr) (fd:FuncData) (ps:List Str) (sp:Sp):Prop where
 len:∀ vs H Q E,sp vs H Q E->vs.length=ps.length
 run:∀ (A:Around) (outer:List Env) (s:Shared) (H:Hp) (args:Args) (us:List Value) (vs:List V) (Q:VK) (E:XK),Room k A->Env0 P w K mg base A outer s H->BindsTo s fd args (ps.zip us)->Vals vs us->sp vs H Q E->
  codeAny (model P w) A (.call (.ref f) args) (CR CX outer P w H s Q E) s
theorem FnOk.mono{P:Program}{w:World}{K:PySem.W.Frag}{mg:Str->Option Value}{base:Heap}{CX:CXT}{j k:Nat}{f:Addr}{fd:FuncData}{ps:List Str}{sp:Sp}(F:FnOk P w K mg base CX j f fd ps sp)(h:j<=k) :
  FnOk P w K mg base CX k f fd ps sp:=⟨F.len,fun A outer s H args us vs Q E hr=>F.run A outer s H args us vs Q E (hr.mono h)⟩
theorem FnOk.imp{P:Program}{w:World}{K:PySem.W.Frag}{mg:Str->Option Value}{base:Heap}{CX:CXT}{k:Nat}{f:Addr}{fd:FuncData}{ps:List Str}{sp sp':Sp}(F:FnOk P w K mg base CX k f fd ps sp)
  (h:∀ vs H Q E,sp' vs H Q E->sp vs H Q E):FnOk P w K mg base CX k f fd ps sp':=
 ⟨fun vs H Q E q=>F.len vs H Q E (h _ _ _ _ q),fun A outer s H args us vs Q E hr he hb hv hs=>F.run A outer s H args us vs Q E hr he hb hv (h _ _ _ _ hs)⟩
section
variable {X:Cx}{pins:List (Addr × Obj)}{σ:St}{H:Hp}{s s':Shared}
theorem Inv.env0(I:Inv X pins σ H s):Env0 X.prog X.w X.K X.mg X.base X.A X.stack s H:=
 ⟨I.ok.frames,I.ok.mod,I.bs,Nat.le_trans I.ok.bsz I.sz,I.stack,I.stkFree,I.hok,I.bare⟩
theorem Inv.after{Q:VK}{u:Value}(I:Inv X pins σ H s)(h:CE X.stack X.prog X.w H s Q u s'):EP X pins σ Q u s':=by
 obtain ⟨v,H',os,bare,un,hok,r,q⟩:=h
 obtain ⟨hh,g,d,t,os'⟩:=s'
 obtain rfl:os'=s.os:=os
 exact ⟨v,H',I.call (h':=hh) (g':=g) (d':=d) (t':=t) (ch:=[]) un hok bare (fun b z=>absurd z (by simp)),r,q⟩
end
def tCall(sp:Sp)(dvs:List V)(E:XK)(t:TA):TE:=fun σ H Q=>t σ H fun vs H1=>sp (vs++dvs) H1 Q E
def Binds(K:PySem.W.Frag)(fd:FuncData)(ps:List Str)(ds:List Value):Prop:=
 ∀ (s:Shared) (us:List Value),K.In s.heap->(us++ds).length=ps.length->BindsTo s fd ⟨us,[]⟩ (ps.zip (us++ds))
theorem Binds.all{K:PySem.W.Frag}{fd:FuncData}{ps:List Str}(h:∀ us:List Value,us.length=ps.length->bindArgs fd ⟨us,[]⟩=pure (ps.zip us)):Binds K fd ps []:=fun s us _ hl=>by
 rw [List.append_nil] at hl ⊢
 exact .of_eq (h us hl)
def Passes(CX:CXT)(X:Cx)(E:XK):Prop:=∀ (pins:List (Addr × Obj)) (σ:St) (H:Hp) (s:Shared) (e:Value) (s':Shared),Inv X pins σ H s->CX X.stack H s E e s'->X.xe e s'
section
variable {X:Cx}{CX:CXT}{k:Nat}{f C:Addr}{fd:FuncData}{ps:List Str}{sp:Sp}{dvs:List V}{ds:List Value}{E:XK}{x m:Str}{p pos apos:Pos}{e o:Expr}{es:List Expr}{ta:TE}{t:TA}
theorem run_fn{pins:List (Addr × Obj)}{σ:St}{H:Hp}{s:Shared}{Q:VK}{us:List Value}{vs:List V}(F:FnOk X.prog X.w X.K X.mg X.base CX k f fd ps sp)(hr:Room k X.A)(hb:Binds X.K fd ps ds)(hd:Vals dvs ds)(hx:Passes CX X E)
  (I:Inv X pins σ H s) (r:Vals vs us) (h:sp (vs++dvs) H Q E):wpAny (model X.prog X.w) X.A (call (.ref f) us) (EP X pins σ Q) X.xe s:=by
 have r2:Vals (vs++dvs) (us++ds):=r.append hd
 have hl:(us++ds).length=ps.length:=by rw [<-r2.length]; exact F.len _ _ _ _ h
 refine wpAny_call (codeAny_mono (F.run X.A X.stack s H ⟨us,[]⟩ (us++ds) (vs++dvs) Q E hr I.env0 (hb s us I.kIn hl) r2 h) fun r s' hq=>?_)
 cases r with
 | error e=>exact hx pins σ H s e s' I hq
 | ok fl=>
  cases fl with
  | ret u=>exact I.after hq
  | next=>exact False.elim hq
  | brk=>exact False.elim hq
  | cont=>exact False.elim hq
theorem pe_call(F:FnOk X.prog X.w X.K X.mg X.base CX k f fd ps sp)(hr:Room k X.A)(hg:Gl X x)(hm:X.mg x=some (.ref f))(hk:PySem.W.keepIn X.K (.ref f)=true)(hb:Binds X.K fd ps ds)(hd:Vals dvs ds)(hx:Passes CX X E)
  (ha:PA X (e::es) t) (hdb:(x == ("__debug__":Str))=false:=by decide) (he:starEach (e::es) X.env=(false,eval e X.env)::starEach es X.env:=by rfl) (hpl:(backTo pos (starEach es X.env)).any (·.1)=false:=by rfl) :
  PE X (.Call (.Name x p) (e::es) [] pos) (tCall sp dvs E t):=by
 intro pins s σ H Q I h
 refine wpAny_Call_Name_kw (ld_glob I hg hm ?_ hdb)
 refine PySem.W.callWith_K (h₀:=X.base) I.ok.mod.kin hk (thn (ha pos pins s σ H _ I h) fun us s1 ⟨vs,H1,I1,r,q⟩=>⟨I1.kIn,?_⟩) he hpl
 exact run_fn F hr hb hd hx I1 r q
end
structure FnScope (N P:List Str) (sc:Scope):Prop where
 kind:sc.kind=.function
 co:sc.isCoroutine=false
 gen:sc.isGenerator=false
 nd:N.Nodup
 pre:N.take P.length=P
 par:∀ x∈P,sc.names.lookup x=some .local∨sc.names.lookup x=some .cell
 nofree:∀ y∈sc.names,y.2≠.free
theorem bindL_out{kindOf:Str->Option NameKind}{x:Str}:∀ {binds:List (Str × Value)} {m:Str->Option Value},(∀ v,(x,v)∉binds)->bindL kindOf binds m x=m x
 | [],_,_=>rfl
 | (n,v)::r,m,h=>by
  unfold bindL
  rw [bindL_out fun w hw=>h w (List.mem_cons_of_mem _ hw)]
  split
  ·have:x≠n:=by rintro rfl; exact h v List.mem_cons_self
   simp [this]
  ·rfl
theorem bindC_out{kindOf:Str->Option NameKind}{x:Str}:∀ {binds:List (Str × Value)} {m:Str->Option Value},(∀ v,(x,v)∉binds)->bindC kindOf binds m x=m x
 | [],_,_=>rfl
 | (n,v)::r,m,h=>by
  unfold bindC
  rw [bindC_out fun w hw=>h w (List.mem_cons_of_mem _ hw)]
  split
  ·rfl
  ·have:x≠n:=by rintro rfl; exact h v List.mem_cons_self
   simp [this]
theorem bindL_get{kindOf:Str->Option NameKind}{x:Str}{v:Value}:∀ {P:List Str} {vs:List Value} {i:Nat} {m:Str->Option Value},P.Nodup->P[i]?=some x->vs[i]?=some v->kindOf x=some .local->
  bindL kindOf (P.zip vs) m x=some v
 | [],_,_,_,_,h,_,_=>by simp at h
 | _::_,[],_,_,_,_,h,_=>by simp at h
 | p::P,w::vs,0,m,nd,h1,h2,hk=>by
  simp at h1 h2; subst h1; subst h2
  show bindL kindOf ((p,w)::P.zip vs) m p=_
  unfold bindL
  rw [bindL_out fun v hv=>(List.nodup_cons.mp nd).1 (List.of_mem_zip hv).1,if_pos hk]
  simp
 | p::P,w::vs,i+1,m,nd,h1,h2,hk=>by
  show bindL kindOf ((p,w)::P.zip vs) m x=_
  unfold bindL
  exact bindL_get (i:=i) (List.nodup_cons.mp nd).2 (by simpa using h1) (by simpa using h2) hk
theorem bindC_get{kindOf:Str->Option NameKind}{x:Str}{v:Value}:∀ {P:List Str} {vs:List Value} {i:Nat} {m:Str->Option Value},P.Nodup->P[i]?=some x->vs[i]?=some v->kindOf x≠some .local->
  bindC kindOf (P.zip vs) m x=some v
 | [],_,_,_,_,h,_,_=>by simp at h
 | _::_,[],_,_,_,_,h,_=>by simp at h
 | p::P,w::vs,0,m,nd,h1,h2,hk=>by
  simp at h1 h2; subst h1; subst h2
  show bindC kindOf ((p,w)::P.zip vs) m p=_
  unfold bindC
  rw [bindC_out fun v hv=>(List.nodup_cons.mp nd).1 (List.of_mem_zip hv).1,if_neg hk]
  simp
 | p::P,w::vs,i+1,m,nd,h1,h2,hk=>by
  show bindC kindOf ((p,w)::P.zip vs) m x=_
  unfold bindC
  exact bindC_get (i:=i) (List.nodup_cons.mp nd).2 (by simpa using h1) (by simpa using h2) hk
def start(N:List Str)(vs:List V):St:=vs.map some++List.replicate (N.length - vs.length) none
def cxOf(CX:CXT)(P:Program)(w:World)(K:PySem.W.Frag)(mg:Str->Option Value)(base:Heap)(N:List Str)(qual:Str)(scope:Scope)(f:Addr)(cd:Value)(A:Around)(outer:List Env)(s:Shared)(H:Hp)(E:XK):Cx where
 prog:=P
 w:=w
 K:=K
 mg:=mg
 base:=base
 A:=A.deeper (envOfC qual scope s.heap.objs.size f cd)
 N:=N
 s₀:=s
 H₀:=H
 env:=envOfC qual scope s.heap.objs.size f cd
 outer:=outer
 stack:=envOfC qual scope s.heap.objs.size f cd::outer
 ex:=[]
 calm:=true
 fn:=fun _=>true
 pn:=[]
 xe:=fun e s'=>wpAny (model P w) (A.deeper (envOfC qual scope s.heap.objs.size f cd)) (leaving (envOfC qual scope s.heap.objs.size f cd) e) (fun _ s''=>CX outer H s E e s'') (fun e' s''=>CX outer H s E e' s'') s'
theorem cell_has{sc:Scope}{n:Nat}{x:Str}(h:sc.names.lookup x=some .cell):∃ c,(cellsFrom n sc.names []).lookup x=some c:=by
 have q:=PySem.W.cellsFrom_some sc.names n [] (.inl h)
 exact Option.isSome_iff_exists.mp q
theorem inv_start{CX:CXT}{P:Program}{w:World}{K:PySem.W.Frag}{mg:Str->Option Value}{base:Heap}{N ps:List Str}{qual:Str}{scope:Scope}{f:Addr}{cd:Value}{A:Around}{outer:List Env}{s s1:Shared}{H:Hp}{E:XK}{us:List Value}{vs:List V}
  (S:FnScope N ps scope) (hd:A.handled=none) (e0:Env0 P w K mg base A outer s H) (hl:vs.length=ps.length) (r:Vals vs us)
  (x:InCallC s s.heap.objs.size (bindL (envOfC qual scope s.heap.objs.size f cd).kindOf (ps.zip us) fun _=>none) (cellsFrom (s.heap.objs.size+1) scope.names []) (bindC (envOfC qual scope s.heap.objs.size f cd).kindOf (ps.zip us) fun _=>none) s1) :
  Inv (cxOf CX P w K mg base N qual scope f cd A outer s H E) [] (start N vs) H s1:=by
 have hpl:ps.length<=N.length:=by have:=congrArg List.length S.pre; rw [List.length_take] at this; lia
 obtain ⟨h1,tk,rfl,hk⟩:=x.done
 have noA:∀ b:Addr,b∉(cxOf CX P w K mg base N qual scope f cd A outer s H E).ex:=fun b z=>absurd (show b∈([]:List Addr) from z) (by simp)
 refine ⟨⟨e0.mod,S.kind,rfl,rfl,Nat.le_refl _,fun y z c h1 h2=>?_,fun y hy=>?_,fun y c _ h=>?_,fun _=>hd,Around.frames_deeper e0.frames,.inr ⟨rfl,rfl⟩,fun b z=>absurd z (noA b),e0.bs,e0.bsz,fun b _ _=>noA b,fun b z=>absurd z (noA b),e0.funs,e0.frf⟩,
  rfl,e0.bare,Un.kept hk,⟨_,x.toInCall.ns,fun i y v h1 h2 h3=>?_⟩,fun y c h=>⟨_,x.cell y c h⟩,e0.hok.fresh (Nat.le_refl _),fun y c h=>?_,fun p hp=>absurd (show p∈([]:List (Addr × Obj)) from hp) (by simp),e0.hok.kept hk,?_⟩
 ·exact name_of_addr x.apart (PySem.mem_of_lookup h1) (PySem.mem_of_lookup h2)
 ·have hy:scope.names.lookup y=some .cell∨scope.names.lookup y=some .free:=hy
  rcases hy with hy | hy
  ·exact cell_has hy
  ·exact absurd rfl (S.nofree _ (PySem.mem_of_lookup hy))
 ·exact Nat.le_of_lt (x.above y c (PySem.mem_of_lookup h))
 ·have hi:i < vs.length:=by
   unfold start at h2
   by_cases hi:i < vs.length
   ·exact hi
   ·rw [List.getElem?_append_right (by simpa using hi)] at h2
    rw [List.getElem?_replicate] at h2
    split at h2<;>cases h2
  have ha:vs[i]?=some v:=by
   unfold start at h2
   rw [List.getElem?_append_left (by simpa using hi),List.getElem?_map] at h2
   cases e:vs[i]? with
   | none=>rw [e] at h2; cases h2
   | some a=>rw [e] at h2; cases h2; rfl
  obtain ⟨u,hu,rv⟩:=r.get ha
  have hp:ps[i]?=some y:=by
   rw [<-S.pre,List.getElem?_take_of_lt (by lia)]; exact h1
  have ndP:ps.Nodup:=by rw [<-S.pre]; exact S.nd.sublist (List.take_sublist _ _)
  refine ⟨u,rv,?_⟩
  rcases S.par y (List.mem_of_getElem? hp) with k | k
  ·exact .inl ⟨k,bindL_get ndP hp hu k⟩
  ·obtain ⟨c,e⟩:=cell_has (n:=s.heap.objs.size+1) k
   refine .inr ⟨.inl k,c,e,?_⟩
   have q:=x.cell y c e
   rw [bindC_get ndP hp hu (by show scope.names.lookup y≠_; rw [k]; decide)] at q
   exact q
 ·exact e0.hok.fresh (Nat.le_of_lt (x.above y c (PySem.mem_of_lookup h)))
 ·unfold start
  show _=N.length
  rw [List.length_append,List.length_map,List.length_replicate]
  lia
theorem fn_of{CX:CXT}{P:Program}{w:World}{K:PySem.W.Frag}{mg:Str->Option Value}{base:Heap}{k:Nat}{f:Addr}{name qual:Str}{params:Arguments}{body:List Stmt}{scope:Scope}{dV kV doc pm cdv ct oc:Value}{an od:Option Addr}
  {osl:Array (Option Value)} {N ps:List Str} {sp:Sp} (lk:K.lookup f=some ⟨oc,od,.func (PySem.W.fnOf name qual params body scope dV kV doc pm an cdv ct),osl⟩) (hcd:PySem.W.codeIn K cdv qual=true) (S:FnScope N ps scope)
  (len:∀ vs H Q E,sp vs H Q E->vs.length=ps.length)
  (hbody:∀ (A:Around) (outer:List Env) (s:Shared) (H:Hp) (vs:List V) (Q:VK) (E:XK),Room k (A.deeper (envOfC qual scope s.heap.objs.size f cdv))->sp vs H Q E->
   ∃ t,PSs (cxOf CX P w K mg base N qual scope f cdv A outer s H E) body t/\t { nx:=fun _ H'=>Q .non H',rt:=Q } (start N vs) H) :
  FnOk P w K mg base CX (k+1) f (PySem.W.fnOf name qual params body scope dV kV doc pm an cdv ct) ps sp:=by
 refine ⟨len,fun A outer s H args us vs Q E hr e0 hb r hsp=>?_⟩
 have hl:=len _ _ _ _ hsp
 have KX:K.In s.heap:=e0.mod.kin.keeps fun b o e=>(e0.bs b o e).1
 have lim:s.heap.NoLimit:=e0.mod.nolimit.keeps fun b o e=>(e0.bs b o e).1
 have hkind:∀ y∈ps.zip us,scope.names.lookup y.1=some .local∨(scope.names.lookup y.1=some .cell/\((cellsFrom (s.heap.objs.size+1) scope.names []).lookup y.1).isSome=true):=fun ⟨n,v⟩ hy=>by
  rcases S.par n (List.of_mem_zip hy).1 with q | q
  ·exact .inl q
  ·exact .inr ⟨q,PySem.W.cellsFrom_some _ _ _ (.inl q)⟩
 refine codeAny_call_function hr.depth (KX _ _ lk) rfl S.co S.gen rfl (PySem.W.codeRec_of KX hcd) (hb _ _ _ _ ?_)
 refine wpAny_newFunctionEnv_cells S.kind hkind fun env he s1 x=>?_
 subst he
 refine ⟨lim.keeps x.toInCall.keep,codeAny_func ?_⟩
 obtain ⟨t,ht,hq⟩:=hbody A outer s H vs Q E (hr.deeper _) hsp
 have I:Inv (cxOf CX P w K mg base N qual scope f cdv A outer s H E) [] (start N vs) H s1:=inv_start S hr.hd e0 hl r x
 refine wpAny_mono (ht [] s1 (start N vs) H _ I hq) (fun fl s' hs=>?_) fun e s' hs=>hs
 have fin:∀ {σ':St} {H':Hp} {v:V} {u:Value},Inv (cxOf CX P w K mg base N qual scope f cdv A outer s H E) [] σ' H' s'->RelV v u->Q v H'->CE outer P w H s Q u s':=
  fun {σ' H' v u} J rv q=>⟨v,H',J.os,J.bare,J.base,J.hok,rv,q⟩
 cases fl with
 | ret u=>
  obtain ⟨v,σ',H',J,rv,q⟩:=hs
  exact fin J rv q
 | next=>
  obtain ⟨σ',H',J,q⟩:=hs
  exact fin (v:=V.non) (u:=Value.none) J rfl q
 | brk=>
  obtain ⟨_,_,_,q⟩:=hs
  exact False.elim q
 | cont=>
  obtain ⟨_,_,_,q⟩:=hs
  exact False.elim q
end L2
namespace L2
open PySem PySem.Spec PyProof.Rows
section
variable {X:Cx}{x:Str}{p pos:Pos}{e:Expr}{es:List Expr}{t:TA}{id T:String}{r:List V->Hp->VK->Prop}
def tCB(r:List V->Hp->VK->Prop)(t:TA):TE:=fun σ H Q=>t σ H fun vs H1=>r vs H1 Q
theorem pe_callB(hc:CallR X (.builtin id) r)(hg:Gl X x)(hm:X.mg x=none)(hv:bootBuiltins x=some (.builtin id))(ha:PA X (e::es) t)(hn:x≠"__name__":=by decide)(hdb:(x == ("__debug__":Str))=false:=by decide)
  (he:starEach (e::es) X.env=(false,eval e X.env)::starEach es X.env:=by rfl) (hpl:(backTo pos (starEach es X.env)).any (·.1)=false:=by rfl):PE X (.Call (.Name x p) (e::es) [] pos) (tCB r t):=by
 intro pins s σ H Q I h
 refine wpAny_Call_Name_kw (ld_blt I hg hm hv ?_ hn hdb)
 exact PyProof.Rows.callWith_builtin1 (thn (ha pos pins s σ H _ I h) fun us s1 ⟨vs,H1,I1,r1,q1⟩=>hc pins s1 σ H1 vs us Q I1 r1 q1) he hpl
theorem pe_callTy(hc:CallR X (.type T) r)(hg:Gl X x)(hm:X.mg x=none)(hv:bootBuiltins x=some (.type T))(ha:PA X (e::es) t)(hn:x≠"__name__":=by decide)(hdb:(x == ("__debug__":Str))=false:=by decide)
  (he:starEach (e::es) X.env=(false,eval e X.env)::starEach es X.env:=by rfl) (hpl:(backTo pos (starEach es X.env)).any (·.1)=false:=by rfl):PE X (.Call (.Name x p) (e::es) [] pos) (tCB r t):=by
 intro pins s σ H Q I h
 refine wpAny_Call_Name_kw (ld_blt I hg hm hv ?_ hn hdb)
 exact PyProof.Rows.callWith_type1 (thn (ha pos pins s σ H _ I h) fun us s1 ⟨vs,H1,I1,r1,q1⟩=>hc pins s1 σ H1 vs us Q I1 r1 q1) he hpl
end
end L2
namespace HT
open PySem PyProof.Rows
def lexLt:List Int->List Int->Bool
 | [],[]=>false
 | [],_::_=>true
 | _::_,[]=>false
 | x::xs,y::ys=>if x=y then lexLt xs ys else decide (x < y)
section
variable {prog:Program}{w:World}{A:Around}{E:Value->Shared->Prop}{s:Shared}
def sIx(n d:Nat):Option Int->Nat
 | none=>d
 | some v=>if v < 0 then (v+(n:Int)).toNat else min v.toNat n
theorem sIx_nat(n d k:Nat):sIx n d (some (k:Int))=min k n:=by
 show (if (k:Int) < 0 then ((k:Int)+(n:Int)).toNat else min (k:Int).toNat n)=min k n
 rw [if_neg (by lia),Int.toNat_natCast]
end
end HT
namespace L2
open PySem PySem.Spec PyProof.Rows
abbrev TO:=St->Hp->(Option Int->Hp->Prop)->Prop
def PO(X:Cx)(e:Option Expr)(t:TO):Prop:=
 ∀ (pins:List (Addr × Obj)) (s:Shared) (σ:St) (H:Hp) (Q:Option Int->Hp->Prop),Inv X pins σ H s->t σ H Q->
  wpAny (model X.prog X.w) X.A (evalPart e X.env) (fun u s'=>∃ o H',Inv X pins σ H' s'/\IsPart u o/\Q o H') X.xe s
def tNoPart:TO:=fun _ H Q=>Q none H
def tPart(t:TE):TO:=fun σ H Q=>t σ H fun x H1=>∃ i,x=.int i/\Q (some i) H1
section
variable {X:Cx}{e:Expr}{te:TE}{lo hi:Option Expr}{tl th:TO}{pos p2:Pos}
theorem po_none:PO X none tNoPart:=by
 intro pins s σ H Q I h
 rw [evalPart_none]
 exact wpAny_pure ⟨none,H,I,.none,h⟩
theorem po_some(h:PE X e te):PO X (some e) (tPart te):=by
 intro pins s σ H Q I hw
 rw [evalPart_some]
 refine thn (h pins s σ H _ I hw) fun u s1 h_=>?_; obtain ⟨x,H1,I1,r1,q1⟩:=h_
 obtain ⟨i,rfl,q⟩:=q1
 obtain ⟨t,rfl⟩:=r1
 exact ⟨some i,H1,I1,.int i t,q⟩
def SlR(X:Cx)(r:V->Option Int->Option Int->Hp->VK->Prop):Prop:=
 ∀ (pins:List (Addr × Obj)) (s:Shared) (σ:St) (H:Hp) (x:V) (v vl vu:Value) (lo hi:Option Int) (sl:Addr) (Q:VK),Inv X pins σ H s->RelV x v->s.heap.IsSliceOf sl vl vu .none->IsPart vl lo->IsPart vu hi->r x lo hi H Q->
  ∃ T id,typeLookup (.type T) "__getitem__"=pure (some (.builtin id))/\s.TypeIs v T/\wpAny (model X.prog X.w) X.A (getItem v (.ref sl)) (EP X pins σ Q) X.xe s
def tSl(r:V->Option Int->Option Int->Hp->VK->Prop)(te:TE)(tl th:TO):TE:=fun σ H Q=>te σ H fun x H1=>tl σ H1 fun l H2=>th σ H2 fun u H3=>r x l u H3 Q
theorem pe_slice{r:V->Option Int->Option Int->Hp->VK->Prop}(hr:SlR X r)(he:PE X e te)(hl:PO X lo tl)(hu:PO X hi th):PE X (.Subscript e (.Slice lo hi none p2) pos) (tSl r te tl th):=by
 intro pins s σ H Q I h
 refine Subscript_ (thn (he pins s σ H _ I h) fun v s1 h_=>?_); obtain ⟨x,H1,I1,r1,q1⟩:=h_
 refine wpAny_Slice (thn (hl pins s1 σ H1 _ I1 q1) fun vl s2 h_=>?_); obtain ⟨l,H2,I2,pl,q2⟩:=h_; refine thn (hu pins s2 σ H2 _ I2 q2) fun vu s3 h_=>?_; obtain ⟨u,H3,I3,pu,q3⟩:=h_
 rw [evalPart_none]
 refine wpAny_pure ?_
 have I4:Inv X pins σ H3 { s3 with heap:=s3.heap.push { cls:=.type "slice",data:=.fields #[vl,vu,.none] } }:=I3.kept (t':=s3.toks) fun b ob q=>Heap.get?_push_of_some _ q
 obtain ⟨T,id,hT,ht,hg⟩:=hr pins { s3 with heap:=s3.heap.push { cls:=.type "slice",data:=.fields #[vl,vu,.none] } } σ H3 x v vl vu l u s3.heap.objs.size Q I4 r1 (Heap.IsSliceOf.new ..) pl pu q3
 show wpAny (model X.prog X.w) X.A (subscriptTail e (.Slice lo hi none p2) v (.ref s3.heap.objs.size)) (EP X pins σ Q) X.xe { s3 with heap:=s3.heap.push { cls:=.type "slice",data:=.fields #[vl,vu,.none] } }
 exact tail_any (ops:=[.ref s3.heap.objs.size,v]) ht hT hg (by with_unfolding_all rfl)
def cutV(xs:List V)(lo hi:Option Int):List V:=(xs.drop (HT.sIx xs.length 0 lo)).take (HT.sIx xs.length xs.length hi - HT.sIx xs.length 0 lo)
theorem cutV_length(xs:List V)(lo hi:Option Int):(cutV xs lo hi).length<=xs.length:=by
 unfold cutV
 rw [List.length_take,List.length_drop]
 lia
end
end L2
namespace L2
open PySem PySem.Spec PyProof.Rows
def ixN(n:Nat)(i:Int):Option Nat:=if 0<=i then (if i < n then some i.toNat else none) else if -(n:Int)<=i then some (i+n).toNat else none
def atI{α:Type}(xs:List α)(i:Int):Option α:=(ixN xs.length i).bind fun j=>xs[j]?
theorem ixN_seq{n:Nat}{i:Int}{j:Nat}(h:ixN n i=some j):seqIndex? i n=some j/\j < n/\-(n:Int)<=i/\i < n:=by
 unfold ixN at h
 by_cases h0:0<=i
 ·rw [if_pos h0] at h
  by_cases h1:i < n
  ·rw [if_pos h1] at h
   have e:i.toNat=j:=Option.some.inj h
   exact ⟨by rw [seqIndex_of h0 h1,e],by lia,by lia,h1⟩
  ·rw [if_neg h1] at h; cases h
 ·rw [if_neg h0] at h
  by_cases h1:-(n:Int)<=i
  ·rw [if_pos h1] at h
   have e:(i+n).toNat=j:=Option.some.inj h
   exact ⟨by rw [seqIndex_neg (by lia) h1,e],by lia,h1,by lia⟩
  ·rw [if_neg h1] at h; cases h
theorem atI_get{α:Type}{xs:List α}{i:Int}{v:α}(h:atI xs i=some v):∃ j,seqIndex? i xs.length=some j/\xs[j]?=some v/\j < xs.length/\-(xs.length:Int)<=i/\i < xs.length:=by
 unfold atI at h
 cases e:ixN xs.length i with
 | none=>rw [e] at h; cases h
 | some j=>
  rw [e] at h
  obtain ⟨h1,h2,h3,h4⟩:=ixN_seq e
  exact ⟨j,h1,h,h2,h3,h4⟩
theorem atI_nat{α:Type}{xs:List α}{j:Nat}{v:α}(h:xs[j]?=some v):atI xs (j:Int)=some v:=by
 have hj:j < xs.length:=(List.getElem?_eq_some_iff.mp h).1
 have e:ixN xs.length (j:Int)=some j:=by
  unfold ixN
  rw [if_pos (by lia),if_pos (by lia)]; simp
 unfold atI; rw [e]; exact h
def PlainIx(b:Expr):Prop:=∀ o i,subscripted b false o i=operate [o,i] (getItem o i)
def IxR(X:Cx)(r:R2):Prop:=
 ∀ (value slice:Expr) (pins:List (Addr × Obj)) (s:Shared) (σ:St) (H:Hp) (x y:V) (v u:Value) (Q:VK),Inv X pins σ H s->RelV x v->RelV y u->r x y H Q->
  subscripted slice false v u=operate [v,u] (getItem v u)->wpAny (model X.prog X.w) X.A (subscriptTail value slice v u) (EP X pins σ Q) X.xe s
def MtR(X:Cx)(id:String)(r:V->List V->Hp->VK->Prop):Prop:=
 ∀ (pins:List (Addr × Obj)) (s:Shared) (σ:St) (H:Hp) (x:V) (xs:List V) (v:Value) (us:List Value) (Q:VK),Inv X pins σ H s->RelV x v->Vals xs us->r x xs H Q->
  wpAny (model X.prog X.w) X.A (call (.builtin id) (v::us)) (EP X pins σ Q) X.xe s
section
variable {X:Cx}{a b:Expr}{ta tb:TE}{pos:Pos}
theorem IxR.or{r r':R2}(h:IxR X r)(h':IxR X r'):IxR X (fun x y H Q=>r x y H Q∨r' x y H Q):=by
 intro value slice pins s σ H x y v u Q I rx ry q hs
 rcases q with q | q
 ·exact h value slice pins s σ H x y v u Q I rx ry q hs
 ·exact h' value slice pins s σ H x y v u Q I rx ry q hs
theorem pe_ix{r:R2}(hr:IxR X r)(ha:PE X a ta)(hb:PE X b tb)(hs:PlainIx b):PE X (.Subscript a b pos) (tOp r ta tb):=by
 intro pins s σ H Q I h
 exact Subscript_ (binT ha hb I h fun v u s2 x y H2 I2 rx ry q=>hr a b pins s2 σ H2 x y v u Q I2 rx ry q (hs _ _))
def rIxL(K:PySem.W.Frag):R2:=fun x y H Q=>∃ p xs i v,x=.ref p/\y=.int i/\SqL K H p xs/\atI xs i=some v/\Q v H
def rIxT(K:PySem.W.Frag):R2:=fun x y H Q=>∃ p xs i v,x=.ref p/\y=.int i/\SqT K H p xs/\atI xs i=some v/\Q v H
def rIxS:R2:=fun x y H Q=>∃ z i c,x=.str z/\y=.int i/\z.length<=sizeLine/\atI z.cps.toList i=some c/\Q (.str ⟨#[c]⟩) H
theorem ix_list:IxR X (rIxL X.K):=by
 intro value slice pins s σ H x y v u Q I rx ry h hs
 obtain ⟨p,xs,i,z,rfl,rfl,hq,he,q⟩:=h
 cases rx
 obtain ⟨t,rfl⟩:=ry
 obtain ⟨its,r,pl,hz⟩:=I.list hq
 obtain ⟨j,h1,h2,h3,h4,h5⟩:=atI_get he
 obtain ⟨w,ew,rw'⟩:=r.get h2
 have hl:=r.length
 have hn:=line63
 have fin:EP X pins σ Q w s:=⟨z,H,I,rw',q⟩
 by_cases h0:0<=i
 ·have hj:i.toNat=j:=by
   rw [seqIndex_of h0 h5] at h1
   exact Option.some.inj h1
  exact item_listR pl.isList h0 (by lia) (by rw [hj]; simpa using ew) fin hs
 ·have hj:(i+(its.toArray.size:Int)).toNat=j:=by
   rw [seqIndex_neg (by lia) h4] at h1
   rw [List.size_toArray,<-hl]
   exact Option.some.inj h1
  exact subscriptTail_builtinR (x:=w) pl.isList.typeIs slot_list_getitem.lookup
   (wpAny_getItem_list_neg (Q:=fun r s'=>r=w/\EP X pins σ Q r s') pl.isList (by lia) (by rw [List.size_toArray]<;>lia) (by lia) (by rw [hj]; simpa using ew) ⟨rfl,fin⟩) hs
theorem ix_tup:IxR X (rIxT X.K):=by
 intro value slice pins s σ H x y v u Q I rx ry h hs
 obtain ⟨p,xs,i,z,rfl,rfl,hq,he,q⟩:=h
 cases rx
 obtain ⟨t,rfl⟩:=ry
 obtain ⟨its,r,pl,hz⟩:=I.tuple hq
 obtain ⟨j,h1,h2,h3,h4,h5⟩:=atI_get he
 obtain ⟨w,ew,rw'⟩:=r.get h2
 have hl:=r.length
 have hn:=line63
 have fin:EP X pins σ Q w s:=⟨z,H,I,rw',q⟩
 exact subscriptTail_builtinR (x:=w) pl.typeIs slot_tuple_getitem.lookup
  (getItem_tuple (j:=j) (Q:=fun r s'=>r=w/\EP X pins σ Q r s') pl (by lia) (by lia) (by rw [List.size_toArray,<-hl]; exact h1) (by simpa using ew) ⟨rfl,fin⟩) hs
theorem ix_str:IxR X rIxS:=by
 intro value slice pins s σ H x y v u Q I rx ry h hs
 obtain ⟨z,i,c,rfl,rfl,hz,he,q⟩:=h
 obtain ⟨t,rfl⟩:=rx
 obtain ⟨t',rfl⟩:=ry
 obtain ⟨j,h1,h2,h3,h4,h5⟩:=atI_get he
 have hl:z.cps.toList.length=z.length:=by simp [Str.length]
 rw [hl] at h1 h4 h5
 have hn:=line63
 exact tail_any (typeIs_str s z t) slot_str_getitem.lookup (getItem_str (c:=c) (by
  have e1:decide (i < -(2 ^ 63:Int))=false:=decide_eq_false (by lia)
  have e2:decide (i≥2 ^ 63)=false:=decide_eq_false (by lia)
  rw [e1,e2,Bool.or_false]) (by rw [h1]; simpa using h2) ⟨.str ⟨#[c]⟩,H,I.tok _,⟨_,rfl⟩,q⟩) hs
def rIx(K:PySem.W.Frag):R2:=fun x y H Q=>rIxL K x y H Q∨rIxT K x y H Q∨rIxS x y H Q
theorem ix_seq:IxR X (rIx X.K):=ix_list.or (ix_tup.or ix_str)
theorem mapSeq_set(its:List Value)(n j:Nat)(u:Value):Obj.mapSeq (·.setIfInBounds j u) { cls:=.type "list",data:=.seq its.toArray n }={ cls:=.type "list",data:=.seq (its.set j u).toArray n }:=by
 simp [Obj.mapSeq]
theorem Inv.lst{pins:List (Addr × Obj)}{σ:St}{H:Hp}{s:Shared}{p:Addr}{xs:List V}(I:Inv X pins σ H s)(h:H p=some (.lst xs)) :
  ∃ (its:List Value) (n:Nat),Vals xs its/\s.heap.get? p=some { cls:=.type "list",data:=.seq its.toArray n }/\xs.length<=sizeLine:=by
 obtain ⟨z,its,n,r,e⟩:=I.hok p _ h
 exact ⟨its,n,r,e,z⟩
theorem Inv.lstUpd{pins:List (Addr × Obj)}{σ:St}{H:Hp}{s:Shared}{p:Addr}{xs ys:List V}{its its':List Value}{n n':Nat}{f:Obj->Obj}(I:Inv X pins σ H s)(h:H p=some (.lst xs))
  (ho:s.heap.get? p=some { cls:=.type "list",data:=.seq its.toArray n }) (hf:f { cls:=.type "list",data:=.seq its.toArray n }={ cls:=.type "list",data:=.seq its'.toArray n' }) (r:Vals ys its') (hz:ys.length<=sizeLine) (t:Nat) :
  Inv X pins σ (upd H p (.lst ys)) { s with heap:=s.heap.update p f,toks:=t }:=by
 have e:(s.heap.update p f).get? p=some { cls:=.type "list",data:=.seq its'.toArray n' }:=by
  rw [Heap.get?_update_self f ho (by rw [hf]<;>rfl),hf]
 refine I.write (x:=p) (e:=p) (by rw [h]; trivial) (.inl rfl) (fun b u hb q=>(Heap.get?_update_other _ _ (Ne.symm hb)).trans q) ⟨_,e⟩ ?_
 exact ⟨hz,its',n',r,e⟩
def rSetL:V->V->V->Hp->(Hp->Prop)->Prop:=fun o i v H Q=>∃ p xs k j,o=.ref p/\i=.int k/\H p=some (.lst xs)/\ixN xs.length k=some j/\Q (upd H p (.lst (xs.set j v)))
theorem set_list:PSet X rSetL:=by
 intro pins s σ H o i v ov iv u Q I ro ri rv h
 obtain ⟨p,xs,k,j,rfl,rfl,hp,hj,q⟩:=h
 cases ro
 obtain ⟨t,rfl⟩:=ri
 obtain ⟨its,n,r,ho,hz⟩:=I.lst hp
 obtain ⟨h1,h2,h3,h4⟩:=ixN_seq hj
 have hl:=r.length
 have hn:=line63
 have I':Inv X pins σ (upd H p (.lst (xs.set j v))) { s with heap:=s.heap.update p (Obj.mapSeq (·.setIfInBounds j u)) }:=
  I.lstUpd hp ho (mapSeq_set its n j u) (r.set rv j) (by rw [List.length_set]; exact hz) s.toks
 by_cases h0:0<=k
 ·have hk:k.toNat=j:=by
   rw [seqIndex_of h0 h4] at h1
   exact Option.some.inj h1
  exact PySem.W.ki_setAt ho h0 (by lia) (by rw [List.size_toArray,<-hl]; exact h4) (by rw [hk]; exact ⟨_,I',q⟩)
 ·have hk:(k+(its.toArray.size:Int)).toNat=j:=by
   rw [seqIndex_neg (by lia) h3] at h1
   rw [List.size_toArray,<-hl]
   exact Option.some.inj h1
  exact PySem.W.ki_setBack ho (by lia) (by rw [List.size_toArray,<-hl]; exact h3) (by lia) (by rw [hk]; exact ⟨_,I',q⟩)
theorem slice_bounds(lo hi:Option Int)(n:Nat):(sliceBounds lo hi none n).1=((HT.sIx n 0 lo:Nat):Int)/\(sliceBounds lo hi none n).2.1=((HT.sIx n n hi:Nat):Int)/\(sliceBounds lo hi none n).2.2=1:=by
 refine ⟨?_,?_,rfl⟩
 ·cases lo with
  | none=>simp [sliceBounds,HT.sIx]
  | some i=>
   simp only [sliceBounds,HT.sIx,Option.getD_none,show (1:Int) > 0 by decide,if_true]
   by_cases h:i < 0
   ·simp only [h,if_true]<;>lia
   ·simp only [h,if_false]<;>lia
 ·cases hi with
  | none=>simp [sliceBounds,HT.sIx]
  | some i=>
   simp only [sliceBounds,HT.sIx,Option.getD_none,show (1:Int) > 0 by decide,if_true]
   by_cases h:i < 0
   ·simp only [h,if_true]<;>lia
   ·simp only [h,if_false]<;>lia
theorem slicePick_cut(its:List Value)(lo hi:Option Int):slicePick its.toArray lo hi none=((its.drop (HT.sIx its.length 0 lo)).take (HT.sIx its.length its.length hi - HT.sIx its.length 0 lo)).toArray:=by
 obtain ⟨h1,h2,h3⟩:=slice_bounds lo hi its.toArray.size
 unfold slicePick
 rw [h1,h2,h3]
 simp only [sliceRange_one,pick_run,List.size_toArray]<;>rfl
def rSlL(K:PySem.W.Frag):V->Option Int->Option Int->Hp->VK->Prop:=fun x lo hi H Q=>∃ a xs,x=.ref a/\SqL K H a xs/\∀ p,H p=none->Q (.ref p) (upd H p (.lst (cutV xs lo hi)))
theorem sl_list:SlR X (rSlL X.K):=by
 intro pins s σ H x v vl vu lo hi sl Q I rx hs pl pu h
 obtain ⟨a,xs,rfl,hx,q⟩:=h
 cases rx
 obtain ⟨its,r,ht,hz⟩:=I.list hx
 have hlen:=r.length
 refine ⟨"list",_,slot_list_getitem.lookup,ht.isList.typeIs,?_⟩
 refine wpAny_getItem_list_slice ht.isList hs pl pu .none (by simp) ?_ (by rw [List.size_toArray]<;>lia)
 rw [slicePick_cut,<-hlen]
 refine ⟨.ref s.heap.objs.size,_,I.laid (t':=s.toks) (o:=.lst (cutV xs lo hi)) (fun b ob q=>Heap.get?_push_of_some _ q) (Nat.le_refl _) ?_,rfl,q _ (I.hok.fresh (Nat.le_refl _))⟩
 exact ⟨Nat.le_trans (cutV_length xs lo hi) hz,_,0,(r.drop (HT.sIx xs.length 0 lo)).take (HT.sIx xs.length xs.length hi - HT.sIx xs.length 0 lo),Heap.get?_push_size _ rfl⟩
def flatV:V->Bool
 | .non=>true
 | .bl _=>true
 | .int _=>true
 | .str _=>true
 | _=>false
def eqV:V->V->Bool
 | .non,.non=>true
 | .bl a,.bl b=>a == b
 | .bl a,.int b=>(if a then 1 else 0) == b
 | .int a,.bl b=>a == (if b then 1 else 0)
 | .int a,.int b=>a == b
 | .str a,.str b=>a == b
 | _,_=>false
theorem eqAt_V{A:Around}{s:Shared}{y x:V}{u v:Value}(ry:RelV y u)(rx:RelV x v)(fy:flatV y=true)(fx:flatV x=true):SeqAt.EqAt A s u v (eqV y x):=by
 cases y with
 | non=>
  cases ry
  cases x with
  | non=>cases rx; exact SeqAt.EqAt.same _
  | bl b=>cases rx; exact SeqAt.EqAt.none_bool b
  | int b=>obtain ⟨t,rfl⟩:=rx; exact SeqAt.EqAt.none_int b t
  | str b=>obtain ⟨t,rfl⟩:=rx; exact SeqAt.EqAt.none_str b t
  | _=>exact absurd (show false=true from fx) Bool.false_ne_true
 | bl a=>
  cases ry
  cases x with
  | non=>cases rx; exact SeqAt.EqAt.bool_none a
  | bl b=>cases rx; exact SeqAt.EqAt.bool_bool a b
  | int b=>obtain ⟨t,rfl⟩:=rx; exact SeqAt.EqAt.bool_int a b t
  | str b=>obtain ⟨t,rfl⟩:=rx; exact SeqAt.EqAt.bool_str a b t
  | _=>exact absurd (show false=true from fx) Bool.false_ne_true
 | int a=>
  obtain ⟨t',rfl⟩:=ry
  cases x with
  | non=>cases rx; exact SeqAt.EqAt.int_none a t'
  | bl b=>cases rx; exact SeqAt.EqAt.int_bool a t' b
  | int b=>obtain ⟨t,rfl⟩:=rx; exact SeqAt.EqAt.int_int a t' b t
  | str b=>obtain ⟨t,rfl⟩:=rx; exact SeqAt.EqAt.int_str a t' b t
  | _=>exact absurd (show false=true from fx) Bool.false_ne_true
 | str a=>
  obtain ⟨t',rfl⟩:=ry
  cases x with
  | non=>cases rx; exact SeqAt.EqAt.str_none a t'
  | bl b=>cases rx; exact SeqAt.EqAt.str_bool a t' b
  | int b=>obtain ⟨t,rfl⟩:=rx; exact SeqAt.EqAt.str_int a t' b t
  | str b=>obtain ⟨t,rfl⟩:=rx; exact SeqAt.EqAt.str_str a t' b t
  | _=>exact absurd (show false=true from fx) Bool.false_ne_true
 | _=>exact absurd (show false=true from fy) Bool.false_ne_true
def eqU(x:V)(u:Value):Bool:=match u with
 | .none=>eqV .non x
 | .bool b=>eqV (.bl b) x
 | .int i _=>eqV (.int i) x
 | .str z _=>eqV (.str z) x
 | _=>false
theorem eqU_of{x y:V}{u:Value}(r:RelV y u)(f:flatV y=true):eqU x u=eqV y x:=by
 cases y with
 | non=>cases r; rfl
 | bl b=>cases r; rfl
 | int i=>obtain ⟨t,rfl⟩:=r; rfl
 | str z=>obtain ⟨t,rfl⟩:=r; rfl
 | _=>exact absurd (show false=true from f) Bool.false_ne_true
theorem any_eqU{x:V}:∀ {xs:List V} {us:List Value},Vals xs us->xs.all flatV=true->us.any (eqU x)=xs.any fun y=>eqV y x
 | _,_,.nil,_=>rfl
 | y::xs,u::us,.cons r t,f=>by
  rw [List.all_cons,Bool.and_eq_true] at f
  rw [List.any_cons,List.any_cons,eqU_of r f.1,any_eqU t f.2]
theorem mem_eqAt{A:Around}{s:Shared}{x:V}{v:Value}(rx:RelV x v)(fx:flatV x=true):∀ {xs:List V} {us:List Value},Vals xs us->xs.all flatV=true->∀ u∈us,SeqAt.EqAt A s u v (eqU x u)
 | _,_,.nil,_=>fun u hu=>by cases hu
 | y::xs,u::us,.cons r t,f=>fun u' hu=>by
  rw [List.all_cons,Bool.and_eq_true] at f
  rcases List.mem_cons.mp hu with rfl | hu
  ·rw [eqU_of r f.1]; exact eqAt_V r rx f.1 fx
  ·exact mem_eqAt rx fx t f.2 u' hu
def inV(x:V)(xs:List V):Bool:=xs.any fun y=>eqV y x
def rIn(K:PySem.W.Frag)(neg:Bool):R2:=fun x y H Q=>∃ p xs,y=.ref p/\(SqL K H p xs∨SqT K H p xs)/\flatV x=true/\xs.all flatV=true/\Q (.bl (if neg then !inV x xs else inV x xs)) H
theorem op_in_seq:OpR X (compareOp .In) (rIn X.K false):=by
 intro pins s σ H x y v u Q I rx ry h
 obtain ⟨p,xs,rfl,hq,fx,fs,q⟩:=h
 cases ry
 rcases hq with hq | hq
 ·obtain ⟨its,r,pl,hz⟩:=I.list hq
  refine SeqAt.in_listAt (eqU x) pl.isList (fun w hw=>mem_eqAt rx fx r fs w (by simpa using hw)) ⟨.bl _,H,I,rfl,?_⟩
  rw [show its.toArray.any (eqU x)=its.any (eqU x) by simp,any_eqU r fs]
  exact q
 ·obtain ⟨its,r,pl,hz⟩:=I.tuple hq
  refine SeqAt.in_tupleAt (eqU x) pl (fun w hw=>mem_eqAt rx fx r fs w (by simpa using hw)) ⟨.bl _,H,I,rfl,?_⟩
  rw [show its.toArray.any (eqU x)=its.any (eqU x) by simp,any_eqU r fs]
  exact q
theorem op_notIn_seq:OpR X (compareOp .NotIn) (rIn X.K true):=by
 intro pins s σ H x y v u Q I rx ry h
 obtain ⟨p,xs,rfl,hq,fx,fs,q⟩:=h
 cases ry
 rcases hq with hq | hq
 ·obtain ⟨its,r,pl,hz⟩:=I.list hq
  refine SeqAt.notIn_listAt (eqU x) pl.isList (fun w hw=>mem_eqAt rx fx r fs w (by simpa using hw)) ⟨.bl _,H,I,rfl,?_⟩
  rw [show its.toArray.any (eqU x)=its.any (eqU x) by simp,any_eqU r fs]
  exact q
 ·obtain ⟨its,r,pl,hz⟩:=I.tuple hq
  refine SeqAt.notIn_tupleAt (eqU x) pl (fun w hw=>mem_eqAt rx fx r fs w (by simpa using hw)) ⟨.bl _,H,I,rfl,?_⟩
  rw [show its.toArray.any (eqU x)=its.any (eqU x) by simp,any_eqU r fs]
  exact q
theorem call_len_seq:CallR X (.builtin "len") (fun xs H Q=>∃ p ys,xs=[.ref p]/\(SqL X.K H p ys∨SqT X.K H p ys)/\Q (.int ys.length) H):=by
 intro pins s σ H xs us Q I r h
 obtain ⟨p,ys,rfl,hq,q⟩:=h
 obtain ⟨u,rfl,rx⟩:=vals1 r
 cases rx
 have hn:=line63
 rcases hq with hq | hq
 ·obtain ⟨its,r',pl,hz⟩:=I.list hq
  have hlen:=r'.length
  exact Calls.call_len_list pl.isList (by simp only [List.size_toArray]<;>lia) ⟨.int ys.length,H,I.tok _,⟨s.toks+1,by rw [List.size_toArray,hlen]⟩,q⟩
 ·obtain ⟨its,r',pl,hz⟩:=I.tuple hq
  have hlen:=r'.length
  exact len_tuple pl (by simp only [List.size_toArray]<;>lia) ⟨.int ys.length,H,I.tok _,⟨s.toks+1,by rw [List.size_toArray,hlen]⟩,q⟩
theorem call_len_str:CallR X (.builtin "len") (fun xs H Q=>∃ z,xs=[.str z]/\z.length<=sizeLine/\Q (.int z.length) H):=by
 intro pins s σ H xs us Q I r h
 obtain ⟨z,rfl,hz,q⟩:=h
 obtain ⟨u,rfl,t,rfl⟩:=vals1 r
 have hn:=line63
 exact len_str (by lia) ⟨.int z.length,H,I.tok _,⟨_,rfl⟩,q⟩
theorem CallR.or{f:Value}{r r':List V->Hp->VK->Prop}(h:CallR X f r)(h':CallR X f r'):CallR X f (fun xs H Q=>r xs H Q∨r' xs H Q):=by
 intro pins s σ H xs us Q I rs q
 rcases q with q | q
 ·exact h pins s σ H xs us Q I rs q
 ·exact h' pins s σ H xs us Q I rs q
theorem call_list_of:CallR X (.type "list") (fun xs H Q=>∃ p ys,xs=[.ref p]/\(SqL X.K H p ys∨SqT X.K H p ys)/\∀ l,H l=none->Q (.ref l) (upd H l (.lst ys))):=by
 intro pins s σ H xs us Q I r h
 obtain ⟨p,ys,rfl,hq,q⟩:=h
 obtain ⟨u,rfl,rx⟩:=vals1 r
 cases rx
 have fin:∀ (its:List Value),Vals ys its->ys.length<=sizeLine->∀ (h':Heap) (c':Nat),(∀ b o',s.heap.get? b=some o'->h'.get? b=some o')->
   h'.get? s.heap.objs.size=some { cls:=.type "list",dict:=none,data:=.seq its.toArray c',slots:=#[] }->EP X pins σ Q (.ref s.heap.objs.size) { s with heap:=h' }:=fun its r' hz h' c' kp e=>
  ⟨.ref s.heap.objs.size,_,I.laid (t':=s.toks) kp (Nat.le_refl _) (show ObjOk X.prog X.w _ h' _ (.lst ys) from ⟨hz,its,c',r',e⟩),rfl,q _ (I.hok.fresh (Nat.le_refl _))⟩
 rcases hq with hq | hq
 ·obtain ⟨its,r',pl,hz⟩:=I.list hq
  have hlen:=r'.length
  obtain ⟨o,ho,hc,n,hd⟩:=pl.isList
  exact call_list_seq p (.inl rfl) ho hc hd (fun h' c' kp e=>fin its r' hz h' c' kp e) (by simp only [List.size_toArray]<;>lia)
 ·obtain ⟨its,r',pl,hz⟩:=I.tuple hq
  have hlen:=r'.length
  obtain ⟨o,ho,hc,n,hd⟩:=pl
  exact call_list_seq p (.inr rfl) ho hc hd (fun h' c' kp e=>fin its r' hz h' c' kp e) (by simp only [List.size_toArray]<;>lia)
def tyV(K:PySem.W.Frag)(T:String)(x:V)(H:Hp):Prop:=match x with
 | .str _=>T="str"
 | .int _=>T="int"
 | .ref p=>(T="list"/\∃ xs,SqL K H p xs)∨(T="tuple"/\∃ o,K.lookup p=some o/\o.cls=.type "tuple"/\o.dict=none) ∨
   (T="dict"/\((∃ kvs,H p=some (.dK kvs))∨∃ kvs,H p=some (.dT kvs)))∨(T="set"/\∃ S n,H p=some (.set S n))
 | _=>False
theorem tyV_is{pins:List (Addr × Obj)}{σ:St}{H:Hp}{s:Shared}{T:String}{x:V}{v:Value}(I:Inv X pins σ H s)(r:RelV x v)(ty:tyV X.K T x H) :
  s.TypeIs v T/\∀ a,v=.ref a->∃ ob,s.heap.get? a=some ob/\ob.dict=none:=by
 cases x with
 | str z=>
  obtain ⟨t,rfl⟩:=r
  cases (show T="str" from ty)
  exact ⟨typeIs_str s z t,fun _ e=>nomatch e⟩
 | int i=>
  obtain ⟨t,rfl⟩:=r
  cases (show T="int" from ty)
  exact ⟨typeIs_int s i t,fun _ e=>nomatch e⟩
 | ref p=>
  cases r
  rcases ty with ⟨rfl,xs,hq⟩ | ⟨rfl,o,hk,hc,hd⟩ | ⟨rfl,hk⟩ | ⟨rfl,S,n,hk⟩
  ·obtain ⟨its,_,pl,_⟩:=I.list hq
   refine ⟨pl.isList.typeIs,fun a e=>?_⟩
   cases e
   obtain ⟨o,n,e,c,hd,_⟩:=pl
   exact ⟨o,e,hd⟩
  ·refine ⟨⟨o,I.kIn p o hk,hc⟩,fun a e=>?_⟩
   cases e
   exact ⟨o,I.kIn _ o hk,hd⟩
  ·have z:∃ o,s.heap.get? p=some o/\o.ExactDict:=by
    rcases hk with ⟨kvs,hk⟩ | ⟨kvs,hk⟩
    ·obtain ⟨_,_,_,_,o,_,_,e,ex,_⟩:=I.hok p _ hk
     exact ⟨o,e,ex⟩
    ·obtain ⟨_,_,_,_,o,_,_,e,ex,_⟩:=I.hok p _ hk
     exact ⟨o,e,ex⟩
   obtain ⟨o,e,ex⟩:=z
   refine ⟨⟨o,e,ex.1⟩,fun a e2=>?_⟩
   cases e2
   exact ⟨o,e,ex.2.1⟩
  ·obtain ⟨o,_,_,_,e,ex,_⟩:=I.hok p _ hk
   refine ⟨⟨o,e,ex.1⟩,fun a e2=>?_⟩
   cases e2
   exact ⟨o,e,ex.2.1⟩
 | _=>exact False.elim ty
def tBM0(K:PySem.W.Frag)(T:String)(r:V->List V->Hp->VK->Prop)(to:TE):TE:=fun σ H Q=>to σ H fun x H1=>tyV K T x H1/\r x [] H1 Q
def tBM(K:PySem.W.Frag)(T:String)(r:V->List V->Hp->VK->Prop)(to:TE)(t:TA):TE:=fun σ H Q=>to σ H fun x H1=>tyV K T x H1/\t σ H1 fun xs H2=>r x xs H2 Q
variable {o e:Expr}{es:List Expr}{to:TE}{t:TA}{name:Str}{apos cpos:Pos}{T id:String}{r:V->List V->Hp->VK->Prop}
theorem pe_bm0(pa:PlainAttrs T)(slot:Slot T name id)(hty:typeOf (.builtin id)=pure (.type "method_descriptor"))(hm:MtR X id r)(ho:PE X o to)
  (hbase:attributeBase o name X.env (eval o X.env)=eval o X.env:=by rfl) (hline:(apos.endLine == cpos.line)=true:=by rfl):PE X (.Call (.Attribute o name apos) [] [] cpos) (tBM0 X.K T r to):=by
 intro pins s σ H Q I h
 refine wpAny_Call_method0_late hbase hline (thn (ho pins s σ H _ I h) fun v s1 h_=>?_); obtain ⟨x,H1,I1,r1,ty,q1⟩:=h_
 obtain ⟨h1,h2⟩:=tyV_is I1 r1 ty
 exact ⟨T,id,pa,slot,hty,h1,h2,Calls.callWith_builtin rfl (PySem.evalArgs_none (hm pins s1 σ H1 x [] v [] Q I1 r1 .nil q1))⟩
theorem pe_bm(pa:PlainAttrs T)(slot:Slot T name id)(hty:typeOf (.builtin id)=pure (.type "method_descriptor"))(hm:MtR X id r)(ho:PE X o to)(ha:PA X (e::es) t)
  (hbase:attributeBase o name X.env (eval o X.env)=eval o X.env:=by rfl)
  (hfew:((backTo cpos (starEach (e::es) X.env)).all (fun x=>!x.1)&&(backToKw cpos (keywordEach [] X.env)).all (fun x=>x.1.isSome)
   && decide ((e::es).length+([]:List Keyword).length+(if ([]:List Keyword).isEmpty then 0 else 1) < 30))=true:=by rfl)
  (hline:(apos.endLine == cpos.line)=true:=by rfl) (hs:starEach (e::es) X.env=(false,eval e X.env)::starEach es X.env:=by rfl) (hplain:(backTo cpos (starEach es X.env)).any (·.1)=false:=by rfl) :
  PE X (.Call (.Attribute o name apos) (e::es) [] cpos) (tBM X.K T r to t):=by
 intro pins s σ H Q I h
 refine wpAny_Call_method_late hbase hfew hline rfl (thn (ho pins s σ H _ I h) fun v s1 h_=>?_); obtain ⟨x,H1,I1,r1,ty,q1⟩:=h_
 obtain ⟨h1,h2⟩:=tyV_is I1 r1 ty
 refine ⟨T,id,pa,slot,hty,h1,h2,?_⟩
 have hA:=ha cpos pins s1 σ H1 _ I1 q1
 rw [hs] at hA ⊢
 refine Calls.callWith_builtin (by show (false||(backTo cpos (starEach es X.env)).any (·.1))=false; rw [hplain]<;>rfl) (Calls.evalArgs_plain ?_)
 exact thn hA fun us s2 ⟨vs,H2,I2,r2,q2⟩=>hm pins s2 σ H2 x vs v us Q I2 r1 r2 q2
end
end L2
namespace L2
open PySem PySem.Spec PyProof.Rows
def MtM(X:Cx)(id:String)(r:V->List V->Hp->VK->Prop):Prop:=
 ∀ (pins:List (Addr × Obj)) (s:Shared) (σ:St) (H:Hp) (x:V) (xs:List V) (v:Value) (us:List Value) (Q:VK),Inv X pins σ H s->RelV x v->Vals xs us->r x xs H Q->
  wpAny (model X.prog X.w) X.A (call (.builtin id) (v::us)) (EP X pins σ Q) X.xe s
theorem Vals.one{x:V}{us:List Value}(h:Vals [x] us):∃ u,us=[u]/\RelV x u:=by
 cases h with
 | cons r t=>cases t; exact ⟨_,rfl,r⟩
theorem Vals.zero:∀ {us:List Value},Vals [] us->us=[]
 | _,.nil=>rfl
section
variable {X:Cx}{pins:List (Addr × Obj)}{σ:St}{H:Hp}{s:Shared}{l b:Addr}{xs ys zs:List V}
theorem Inv.lset{its its':List Value}{n:Nat}{f:Array Value->Array Value}{t':Nat}(I:Inv X pins σ H s)(hH:H l=some (.lst xs))
  (e:s.heap.get? l=some { cls:=.type "list",data:=.seq its.toArray n }) (hf:f its.toArray=its'.toArray) (hv:Vals ys its') (hz:ys.length<=sizeLine) :
  Inv X pins σ (upd H l (.lst ys)) { s with heap:=s.heap.update l (Obj.mapSeq f),toks:=t' }:=by
 have q:=PySem.IsL.update e f
 rw [hf] at q
 refine I.write (x:=l) (e:=l) (by rw [hH]; exact trivial) (.inl rfl) (fun b' u hb hu=>(Heap.get?_update_other s.heap (Obj.mapSeq f) (Ne.symm hb)).trans hu) ⟨_,q⟩ ?_
 exact ⟨hz,its',_,hv,q⟩
theorem Inv.lnew{its:List Value}{t':Nat}(I:Inv X pins σ H s)(hv:Vals ys its)(hz:ys.length<=sizeLine) :
  Inv X pins σ (upd H s.heap.objs.size (.lst ys)) { s with heap:=s.heap.push { cls:=.type "list",data:=.seq its.toArray },toks:=t' }:=
 I.laid (fun _ _ q=>Heap.get?_push_of_some _ q) (Nat.le_refl _) ⟨hz,its,0,hv,Heap.get?_push_size _ rfl⟩
theorem Inv.fresh(I:Inv X pins σ H s):H s.heap.objs.size=none:=I.hok.fresh (Nat.le_refl _)
theorem Inv.lstM(I:Inv X pins σ H s)(hH:H l=some (.lst xs)):xs.length<=sizeLine/\∃ (its:List Value) (n:Nat),Vals xs its/\xs.length=its.length/\s.heap.get? l=some { cls:=.type "list",data:=.seq its.toArray n }:=by
 obtain ⟨z,its,n,r,e⟩:=I.hok l _ hH
 exact ⟨z,its,n,r,r.length,e⟩
end
section
variable {X:Cx}
def rAppend:V->List V->Hp->VK->Prop:=fun x vs H Q=>∃ l xs y,x=.ref l/\vs=[y]/\H l=some (.lst xs)/\xs.length < sizeLine/\Q .non (upd H l (.lst (xs++[y])))
theorem mt_append:MtM X "list.append" rAppend:=by
 intro pins s σ H x vs v us Q I rx rv h
 obtain ⟨l,xs,y,rfl,rfl,hH,hz,q⟩:=h
 cases rx
 obtain ⟨u,rfl,ru⟩:=rv.one
 obtain ⟨z,its,n,r,hl,e⟩:=I.lstM hH
 refine call_meets F.slot_list_append ⟨_,e,rfl⟩ F.entry_list_append (F.args_list_append_2 _ _) (PySem.list_append l its.toArray n u (by rw [List.size_toArray]; lia)) ⟨e,?_⟩
 refine ⟨.non,_,I.lset (its':=its++[u]) hH e (by simp) (r.append (.cons ru .nil)) ?_,rfl,q⟩
 rw [List.length_append,List.length_singleton]
 lia
def rClear:V->List V->Hp->VK->Prop:=fun x vs H Q=>∃ l xs,x=.ref l/\vs=[]/\H l=some (.lst xs)/\Q .non (upd H l (.lst []))
theorem mt_clear:MtM X "list.clear" rClear:=by
 intro pins s σ H x vs v us Q I rx rv h
 obtain ⟨l,xs,rfl,rfl,hH,q⟩:=h
 cases rx
 have hus:=rv.zero
 subst hus
 obtain ⟨z,its,n,r,hl,e⟩:=I.lstM hH
 refine call_meets F.slot_list_clear ⟨_,e,rfl⟩ F.entry_list_clear (F.args_list_clear_1 _) (AutoSeq1.list_clear_list_0 l its.toArray n (by rw [List.size_toArray]; lia)) ⟨e,?_⟩
 exact ⟨.non,_,I.lset (its':=[]) (ys:=[]) hH e rfl .nil (Nat.zero_le _),rfl,q⟩
def rCat:R2:=fun x y H Q=>∃ l b xs zs,x=.ref l/\y=.ref b/\H l=some (.lst xs)/\H b=some (.lst zs)/\xs.length+zs.length<=sizeLine/\∀ p,H p=none->Q (.ref p) (upd H p (.lst (xs++zs)))
theorem op_cat:OpR X (binaryOp .Add) rCat:=by
 intro pins s σ H x y v u Q I rx ry h
 obtain ⟨l,b,xs,zs,rfl,rfl,hH,hB,hz,q⟩:=h
 cases rx
 cases ry
 obtain ⟨z,its,n,r,hl,e⟩:=I.lstM hH
 obtain ⟨z2,its2,n2,r2,hl2,e2⟩:=I.lstM hB
 refine PySem.P.add_list e e2 ?_ (by rw [List.size_toArray,List.size_toArray]; lia)
 have ea:its.toArray++its2.toArray=(its++its2).toArray:=by simp
 rw [ea]
 exact ⟨.ref _,_,I.lnew (t':=s.toks) (r.append r2) (by rw [List.length_append]; lia),rfl,q _ I.fresh⟩
end
end L2
namespace L2
open PySem PySem.Spec PyProof.Rows
section
variable {κ:Type}[DecidableEq κ]
def valV(kvs:List (κ × V))(k:κ):Option V:=(kvs.find? fun kv=>decide (kv.1=k)).map (·.2)
def putK(kvs:List (κ × V))(k:κ)(v:V):List (κ × V):=
 if (kvs.any fun kv=>decide (kv.1=k))=true then kvs.map (fun kv=>if kv.1=k then (kv.1,v) else kv) else kvs++[(k,v)]
theorem valV_pos{p:κ × V}{r:List (κ × V)}{k:κ}(e:p.1=k):valV (p::r) k=some p.2:=by simp [valV,List.find?_cons,e]
theorem valV_neg{p:κ × V}{r:List (κ × V)}{k:κ}(e:¬ p.1=k):valV (p::r) k=valV r k:=by simp [valV,List.find?_cons,e]
theorem valV_any(k:κ):∀ kvs:List (κ × V),(kvs.any fun kv=>decide (kv.1=k))=(valV kvs k).isSome
 | []=>rfl
 | p::r=>by
  rw [List.any_cons]
  by_cases e:p.1=k
  ·simp only [valV_pos e,decide_eq_true e,Bool.true_or,Option.isSome_some]
  ·rw [valV_neg e,decide_eq_false e,Bool.false_or]; exact valV_any k r
theorem length_putK(kvs:List (κ × V))(k:κ)(v:V):(putK kvs k v).length<=kvs.length+1:=by
 unfold putK
 split
 ·rw [List.length_map]; lia
 ·rw [List.length_append,List.length_cons,List.length_nil]; lia
theorem RelO.isSome_eq{o:Option V}{u:Option Value}(r:RelO o u):o.isSome=u.isSome:=by
 cases o with
 | none=>cases u with
  | none=>rfl
  | some _=>exact (show False from r).elim
 | some _=>cases u with
  | none=>exact (show False from r).elim
  | some _=>rfl
theorem RelO.getD{o:Option V}{u:Option Value}{d:V}{d':Value}(r:RelO o u)(rd:RelV d d'):RelV (o.getD d) (u.getD d'):=by
 cases o with
 | none=>cases u with
  | none=>exact rd
  | some _=>exact (show False from r).elim
 | some _=>cases u with
  | none=>exact (show False from r).elim
  | some _=>exact r
theorem KV.val{kvs:List (κ × V)}{vs:List (κ × Value)}(r:KV kvs vs)(k:κ):RelO (valV kvs k) (valueAt vs k):=by
 unfold KV at r
 induction r with
 | nil=>exact True.intro
 | @cons p q ps qs h t ih=>
  obtain ⟨h1,h2⟩:=h
  by_cases e:p.1=k
  ·have e':q.1=k:=h1.symm.trans e
   have b:valueAt (q::qs) k=some q.2:=by simp [valueAt,List.find?_cons,e']
   rw [valV_pos e,b]; exact h2
  ·have e':¬ q.1=k:=fun z=>e (h1.trans z)
   have b:valueAt (q::qs) k=valueAt qs k:=by simp [valueAt,List.find?_cons,e']
   rw [valV_neg e,b]; exact ih
theorem KV.any{kvs:List (κ × V)}{vs:List (κ × Value)}(r:KV kvs vs)(k:κ):(kvs.any fun kv=>decide (kv.1=k))=vs.any fun kv=>decide (kv.1=k):=by
 unfold KV at r
 induction r with
 | nil=>rfl
 | cons h t ih=>rw [List.any_cons,List.any_cons,ih,h.1]
theorem KV.repl{kvs:List (κ × V)}{vs:List (κ × Value)}(r:KV kvs vs)(k:κ){y:V}{u:Value}(ry:RelV y u) :
  KV (kvs.map fun kv=>if kv.1=k then (kv.1,y) else kv) (vs.map fun kv=>if kv.1=k then (kv.1,u) else kv):=by
 unfold KV at r ⊢
 induction r with
 | nil=>exact .nil
 | @cons p q ps qs h t ih=>
  rw [List.map_cons,List.map_cons]
  refine .cons ?_ ih
  obtain ⟨h1,h2⟩:=h
  by_cases e:p.1=k
  ·rw [if_pos e,if_pos (h1.symm.trans e)]; exact ⟨h1,ry⟩
  ·rw [if_neg e,if_neg (fun z=>e (h1.trans z))]; exact ⟨h1,h2⟩
theorem KV.put{kvs:List (κ × V)}{vs:List (κ × Value)}(r:KV kvs vs)(k:κ){y:V}{u:Value}(ry:RelV y u):KV (putK kvs k y) (stored vs k u):=by
 unfold putK stored
 rw [r.any k]
 by_cases e:(vs.any fun kv=>decide (kv.1=k))=true
 ·rw [if_pos e,if_pos e]; exact r.repl k ry
 ·rw [if_neg e,if_neg e]; exact Paired.snoc r ⟨rfl,ry⟩
theorem KV.length{kvs:List (κ × V)}{vs:List (κ × Value)}(r:KV kvs vs):kvs.length=vs.length:=Paired.length r
end
theorem kV_is{P:Program}{w:World}{k:Key}{u:Value}(r:RelV (kV k) u):(mixKind P w).is k u=true:=by
 cases k with
 | inl i=>obtain ⟨t,e⟩:=(show ∃ t,u=Value.int i t from r); subst e; exact mixKind_int P w i t
 | inr x=>obtain ⟨t,e⟩:=(show ∃ t,u=Value.str x t from r); subst e; exact mixKind_str P w x t
theorem items_are{P:Program}{w:World}:∀ {ks:List Key} {us:List Value},Vals (ks.map kV) us->ItemsAre (mixKind P w) ks us
 | [],_,r=>by rw [List.map_nil] at r; cases r; exact .nil
 | k::ks,_,r=>by
  rw [List.map_cons] at r
  cases r with
  | cons h t=>exact .cons (kV_is h) (items_are t)
abbrev KT(H:Hp):List (List Key × V)->List (List Key × Addr × Value)->Prop:=Paired fun p q=>p.1=q.1/\H q.2.1=some (.tup (p.1.map kV))/\RelV p.2 q.2.2
theorem KT.val{H:Hp}{kvs:List (List Key × V)}{xs:List (List Key × Addr × Value)}(r:KT H kvs xs)(k:List Key):RelO (valV kvs k) ((atKey xs k).map (·.2)):=by
 induction r with
 | nil=>exact True.intro
 | @cons p q ps qs h t ih=>
  obtain ⟨h1,_,h2⟩:=h
  by_cases e:p.1=k
  ·have e':q.1=k:=h1.symm.trans e
   have b:atKey (q::qs) k=some q.2:=by simp [atKey,List.find?_cons,e']
   rw [valV_pos e,b]; exact h2
  ·have e':¬ q.1=k:=fun z=>e (h1.trans z)
   have b:atKey (q::qs) k=atKey qs k:=by simp [atKey,List.find?_cons,e']
   rw [valV_neg e,b]; exact ih
theorem KT.repl{H:Hp}{kvs:List (List Key × V)}{xs:List (List Key × Addr × Value)}(r:KT H kvs xs)(k:List Key){y:V}{u:Value}(ry:RelV y u) :
  KT H (kvs.map fun kv=>if kv.1=k then (kv.1,y) else kv) (xs.map (putAt k u)):=by
 induction r with
 | nil=>exact .nil
 | @cons p q ps qs h t ih=>
  rw [List.map_cons,List.map_cons]
  refine .cons ?_ ih
  obtain ⟨h1,h2,h3⟩:=h
  unfold putAt
  by_cases e:p.1=k
  ·rw [if_pos e,if_pos (h1.symm.trans e)]; exact ⟨h1,h2,ry⟩
  ·rw [if_neg e,if_neg (fun z=>e (h1.trans z))]; exact ⟨h1,h2,h3⟩
theorem KT.put{H:Hp}{kvs:List (List Key × V)}{xs:List (List Key × Addr × Value)}(r:KT H kvs xs)(k:List Key){b:Addr}{y:V}{u:Value}(hb:H b=some (.tup (k.map kV)))(ry:RelV y u) :
  KT H (putK kvs k y) (storedH xs k b u):=by
 have e:(kvs.any fun kv=>decide (kv.1=k))=(atKey xs k).isSome:=by
  rw [valV_any,(r.val k).isSome_eq,Option.isSome_map]
 unfold putK storedH
 rw [e]
 by_cases q:(atKey xs k).isSome=true
 ·rw [if_pos q,if_pos q]; exact r.repl k ry
 ·rw [if_neg q,if_neg q]; exact Paired.snoc r ⟨rfl,hb,ry⟩
theorem KT.keeps{H H':Hp}{kvs:List (List Key × V)}{xs:List (List Key × Addr × Value)}(r:KT H kvs xs)(ht:∀ b ys,H b=some (.tup ys)->H' b=some (.tup ys)):KT H' kvs xs:=
 Paired.mapP r fun _ _ z=>⟨z.1,ht _ _ z.2.1,z.2.2⟩
section
variable {P:Program}{w:World}{H:Hp}{h:Heap}{a:Addr}
theorem rd_of{u:HO}(ok:HOk P w H h)(e:Rd H a u):ObjOk P w H h a u:=e.ok ok
theorem dk_rd{kvs:List (Key × V)}(ok:HOk P w H h)(e:Rd H a (.dK kvs)):kvs.length<=sizeLine/\(a == sysModules)=false/\∃ vs,KV kvs vs/\h.DictOf (mixKind P w) a vs:=
 show ObjOk P w H h a (.dK kvs) from rd_of ok e
theorem dk_of{kvs:List (Key × V)}(ok:HOk P w H h)(e:H a=some (.dK kvs)):kvs.length<=sizeLine/\(a == sysModules)=false/\∃ vs,KV kvs vs/\h.DictOf (mixKind P w) a vs:=dk_rd ok (.inl e)
theorem key_of{ks:List Key}(ok:HOk P w H h)(e:H a=some (.tup (ks.map kV))):(tupleKind (mixKind P w)).is h ks a:=by
 obtain ⟨_,its,r,o,h1,h2,n,h3⟩:=(show ObjOk P w H h a (.tup (ks.map kV)) from ok a _ e)
 exact ⟨o,its.toArray,n,h1,h2,h3,by simpa using items_are r⟩
theorem dt_rd{kvs:List (List Key × V)}(ok:HOk P w H h)(e:Rd H a (.dT kvs)):kvs.length<=sizeLine/\(a == sysModules)=false /\
  ∃ xs,KT H kvs xs/\h.DictOfH (tupleKind (mixKind P w)) a xs:=by
 obtain ⟨z,y,xs,r,o,es,ep,h1,h2,h3,h4,h5⟩:=(show ObjOk P w H h a (.dT kvs) from rd_of ok e)
 refine ⟨z,y,xs,r,o,es,ep,h1,h2,h3,h4,fun x hx=>?_,h5⟩
 have all:∀ {l:List (List Key × V)} {m:List (List Key × Addr × Value)},KT H l m->∀ x∈m,(tupleKind (mixKind P w)).is h x.1 x.2.1:=by
  intro l m q
  induction q with
  | nil=>intro x hx; exact nomatch hx
  | @cons p q ps qs hq t ih=>
   intro x hx
   rcases List.mem_cons.mp hx with e | hx
   ·subst e
    exact key_of ok (by rw [<-hq.1]; exact hq.2.1)
   ·exact ih x hx
 exact all r x hx
theorem dt_of{kvs:List (List Key × V)}(ok:HOk P w H h)(e:H a=some (.dT kvs)):kvs.length<=sizeLine/\(a == sysModules)=false /\
  ∃ xs,KT H kvs xs/\h.DictOfH (tupleKind (mixKind P w)) a xs:=dt_rd ok (.inl e)
end
def DGet(H:Hp)(a:Addr)(y:V)(r:Option V):Prop:=
 (∃ kvs k,Rd H a (.dK kvs)/\y=kV k/\r=valV kvs k)∨∃ kvs k b,Rd H a (.dT kvs)/\y=.ref b/\H b=some (.tup (k.map kV))/\r=valV kvs k
def DPut(H:Hp)(a:Addr)(y v:V)(H':Hp):Prop:=
 (∃ kvs k,H a=some (.dK kvs)/\y=kV k/\kvs.length < sizeLine/\H'=upd H a (.dK (putK kvs k v))) ∨
 ∃ kvs k b,H a=some (.dT kvs)/\y=.ref b/\H b=some (.tup (k.map kV))/\kvs.length < sizeLine/\H'=upd H a (.dT (putK kvs k v))
theorem DGet.k{H:Hp}{a:Addr}{kvs:List (Key × V)}{k:Key}(e:H a=some (.dK kvs)):DGet H a (kV k) (valV kvs k):=.inl ⟨kvs,k,.inl e,rfl,rfl⟩
theorem DPut.k{H:Hp}{a:Addr}{kvs:List (Key × V)}{k:Key}{v:V}(e:H a=some (.dK kvs))(hl:kvs.length < sizeLine):DPut H a (kV k) v (upd H a (.dK (putK kvs k v))):=.inl ⟨kvs,k,e,rfl,hl,rfl⟩
section
variable {X:Cx}{pins:List (Addr × Obj)}{σ:St}{H:Hp}{s:Shared}{a:Addr}{y v:V}{u r:Value}{o:Option V}{A:Around}{E:Value->Shared->Prop}
theorem Inv.big(I:Inv X pins σ H s):sysModules < s.heap.objs.size:=by
 have h:mainGlobals < s.heap.objs.size:=(I.mod.glob.keeps I.bk).lt
 exact Nat.lt_trans (by decide) h
theorem d_getItem{Q:Value->Shared->Prop}(hu:A.units+1 < cLine)(I:Inv X pins σ H s)(g:DGet H a y (some v))(ry:RelV y u)(h:∀ w' s',Inv X pins σ H s'->RelV v w'->Q w' s') :
  wpAny (model X.prog X.w) A (getItem (.ref a) u) Q E s:=by
 rcases g with ⟨kvs,k,e,ey,l⟩ | ⟨kvs,k,b,e,ey,eb,l⟩
 ·subst ey
  obtain ⟨z,hd,vs,rel,dd⟩:=dk_rd I.hok e
  obtain ⟨w',hw,rw'⟩:=RelO.some_of (v:=v) (o:=valueAt vs k) (by rw [l]; exact rel.val k)
  exact wpAny_getItem_of (kV_is ry) dd.mapOf hw (h w' _ (I.tok _) rw')
 ·subst ey
  cases (show u=Value.ref b from ry)
  obtain ⟨z,hd,xs,rel,dd⟩:=dt_rd I.hok e
  obtain ⟨w',hw,rw'⟩:=RelO.some_of (v:=v) (o:=(atKey xs k).map (·.2)) (by rw [l]; exact rel.val k)
  obtain ⟨p,hp,hp2⟩:=Qm hw
  refine wpAny_getItem_heap (tupleKind_room_in1 hu) (key_of I.hok eb) dd hp ?_
  rw [hp2]
  exact h w' _ (I.tok _) rw'
theorem d_in{Q:Value->Shared->Prop}(hu:A.units+1 < cLine)(I:Inv X pins σ H s)(g:DGet H a y o)(ry:RelV y u)(h:∀ s',Inv X pins σ H s'->Q (.bool o.isSome) s') :
  wpAny (model X.prog X.w) A (compareOp .In u (.ref a)) Q E s:=by
 rcases g with ⟨kvs,k,e,ey,l⟩ | ⟨kvs,k,b,e,ey,eb,l⟩
 ·subst ey
  obtain ⟨z,hd,vs,rel,dd⟩:=dk_rd I.hok e
  refine wpAny_in_of (kV_is ry) hd dd.mapOf ?_
  rw [<-(rel.val k).isSome_eq,<-l]
  exact h _ (I.tok _)
 ·subst ey
  cases (show u=Value.ref b from ry)
  obtain ⟨z,hd,xs,rel,dd⟩:=dt_rd I.hok e
  refine wpAny_in_heap (tupleKind_room_in1 hu) (key_of I.hok eb) hd dd ?_
  have q:=(rel.val k).isSome_eq
  rw [Option.isSome_map] at q
  rw [<-q,<-l]
  exact h _ (I.tok _)
theorem d_notIn{Q:Value->Shared->Prop}(hu:A.units+1 < cLine)(I:Inv X pins σ H s)(g:DGet H a y o)(ry:RelV y u)(h:∀ s',Inv X pins σ H s'->Q (.bool (!o.isSome)) s') :
  wpAny (model X.prog X.w) A (compareOp .NotIn u (.ref a)) Q E s:=by
 rcases g with ⟨kvs,k,e,ey,l⟩ | ⟨kvs,k,b,e,ey,eb,l⟩
 ·subst ey
  obtain ⟨z,hd,vs,rel,dd⟩:=dk_rd I.hok e
  refine wpAny_notIn_of (kV_is ry) hd dd.mapOf ?_
  rw [<-(rel.val k).isSome_eq,<-l]
  exact h _ (I.tok _)
 ·subst ey
  cases (show u=Value.ref b from ry)
  obtain ⟨z,hd,xs,rel,dd⟩:=dt_rd I.hok e
  refine wpAny_notIn_heap (tupleKind_room_in1 hu) (key_of I.hok eb) hd dd ?_
  have q:=(rel.val k).isSome_eq
  rw [Option.isSome_map] at q
  rw [<-q,<-l]
  exact h _ (I.tok _)
theorem d_write{h':Heap}{t':Nat}{ob:HO}(I:Inv X pins σ H s)(mu:Mut (H a))(hs:Heap.SameBut a s.heap h')(he:∃ q,h'.get? a=some q)(new:ObjOk X.prog X.w (upd H a ob) h' a ob) :
  Inv X pins σ (upd H a ob) { s with heap:=h',toks:=t' }:=
 I.write (x:=a) (e:=a) mu (.inl rfl) (fun b q hb z=>(hs.2 b hb).trans z) he new
theorem dk_new{P:Program}{w:World}{H':Hp}{h':Heap}{kvs:List (Key × V)}{vs:List (Key × Value)}(z:kvs.length<=sizeLine)(hd:(a == sysModules)=false)(rel:KV kvs vs)(dd:h'.DictOf (mixKind P w) a vs) :
  ObjOk P w H' h' a (.dK kvs):=⟨z,hd,vs,rel,dd⟩
theorem d_setItem{H':Hp}{Q:Unit->Shared->Prop}(hu:A.units+1 < cLine)(I:Inv X pins σ H s)(g:DPut H a y v H')(ry:RelV y u)(rv:RelV v r)(h:∀ s',Inv X pins σ H' s'->Q () s') :
  wpAny (model X.prog X.w) A (setItem (.ref a) u r) Q E s:=by
 rcases g with ⟨kvs,k,e,ey,l,eH⟩ | ⟨kvs,k,b,e,ey,eb,l,eH⟩
 ·subst ey eH
  obtain ⟨z,hd,vs,rel,dd⟩:=dk_of I.hok e
  have hz:vs.length<=sizeLine:=by rw [<-rel.length]; exact z
  have hl:(putK kvs k v).length<=sizeLine:=by have:=length_putK kvs k v; lia
  refine wpAny_setItem_pairs (hsz:=hz) (kV_is ry) dd fun h' dd' hs=>h _ ?_
  have he:∃ q,h'.get? a=some q:=let ⟨q,_,_,hq,_⟩:=dd'; ⟨q,hq⟩
  exact d_write I (by rw [e]; exact True.intro) hs he (dk_new hl hd (rel.put k rv) dd')
 ·subst ey eH
  cases (show u=Value.ref b from ry)
  obtain ⟨z,hd,xs,rel,dd⟩:=dt_of I.hok e
  have hz:xs.length<=sizeLine:=by rw [<-Paired.length rel]; exact z
  have hl:(putK kvs k v).length<=sizeLine:=by have:=length_putK kvs k v; lia
  refine wpAny_setItem_heap (hsz:=hz) (tupleKind_room_in1 hu) (key_of I.hok eb) dd fun h' dd' hs=>h _ ?_
  obtain ⟨q,es,ep,hq,h2,h3,h4,_,h5⟩:=dd'
  refine d_write I (by rw [e]; exact True.intro) hs ⟨q,hq⟩ ⟨hl,hd,_,(rel.put k eb rv).keeps fun c ys ec=>?_,q,es,ep,hq,h2,h3,h4,h5⟩
  rw [upd_ne (ne_of ec e (fun z=>nomatch z))]
  exact ec
end
section
variable {X:Cx}{pins:List (Addr × Obj)}{σ:St}{H:Hp}{s:Shared}{a:Addr}{kvs:List (Key × V)}{k:Key}{u:Value}{A:Around}{E:Value->Shared->Prop}
theorem d_len{Q:Value->Shared->Prop}(I:Inv X pins σ H s)(e:Rd H a (.dK kvs))(h:∀ t s',Inv X pins σ H s'->Q (.int kvs.length t) s'):wpAny (model X.prog X.w) A (call (.builtin "len") [.ref a]) Q E s:=by
 obtain ⟨z,hd,vs,rel,dd⟩:=dk_rd I.hok e
 refine call_len_dict hd dd (by rw [<-rel.length]; rw [sizeLine_eq] at z; lia) ?_
 rw [<-rel.length]
 exact h _ _ (I.tok _)
end
def NoSl(i:Expr):Prop:=∀ ov iv,subscripted i false ov iv=operate [ov,iv] (getItem ov iv)
theorem subD_of{prog:Program}{w:World}{A:Around}{E:Value->Shared->Prop}{s:Shared}{env:Env}{value slice:Expr}{pos:Pos}{T id:String}{Q:Value->Shared->Prop}
  (hl:typeLookup (.type T) "__getitem__"=pure (some (.builtin id))) (hs:NoSl slice)
  (h:wpAny (model prog w) A (eval value env) (fun o s₁=>wpAny (model prog w) A (eval slice env) (fun i s₂=>s₂.TypeIs o T/\wpAny (model prog w) A (getItem o i) Q E s₂) E s₁) E s) :
  wpAny (model prog w) A (eval (.Subscript value slice pos) env) Q E s:=by
 refine Subscript_ (wpAny_mono h (fun o s₁ h₁=>wpAny_mono h₁ (fun i s₂ h₂=>?_) fun _ _ x=>x) fun _ _ x=>x)
 obtain ⟨hT,h₂⟩:=h₂
 unfold subscriptTail
 refine wpAny_bind ?_
 rw [getitemInPython_of_ne hT.not_modules]
 refine wpAny_bind (wpAny_specialOf hT hl ?_)
 have fin:wpAny (model prog w) A (subscripted slice false o i) (fun r s₃=>wpAny (model prog w) A (letTemporaryGo value o r >>= fun _=>pure r) Q E s₃) E s₂:=by
  rw [hs o i]
  exact wpAny_operating (wpAny_mono h₂ (fun r s₃ h₃=>wpAny_bind (wpAny_letTemporaryGo (wpAny_pure h₃))) fun _ _ x=>x)
 first
  | exact wpAny_pure (wpAny_bind fin)
  | exact wpAny_bind (wpAny_pure (wpAny_bind fin))
  | exact wpAny_bind fin
theorem dict_typeIs{X:Cx}{pins:List (Addr × Obj)}{σ:St}{H:Hp}{s:Shared}{a:Addr}{y:V}{o:Option V}(I:Inv X pins σ H s)(g:DGet H a y o):s.TypeIs (.ref a) "dict":=by
 rcases g with ⟨kvs,k,e,_,_⟩ | ⟨kvs,k,b,e,_,_,_⟩
 ·obtain ⟨_,_,vs,_,dd⟩:=dk_rd I.hok e
  exact dd.typeIs
 ·obtain ⟨_,_,xs,_,dd⟩:=dt_rd I.hok e
  exact dd.typeIs
def tDGet(td ty:TE):TE:=fun σ H Q=>td σ H fun x H1=>ty σ H1 fun y H2=>∃ a v,x=.ref a/\DGet H2 a y (some v)/\Q v H2
def tDIn(ty td:TE):TE:=fun σ H Q=>ty σ H fun y H1=>td σ H1 fun x H2=>∃ a o,x=.ref a/\DGet H2 a y o/\Q (.bl o.isSome) H2
def tDNotIn(ty td:TE):TE:=fun σ H Q=>ty σ H fun y H1=>td σ H1 fun x H2=>∃ a o,x=.ref a/\DGet H2 a y o/\Q (.bl (!o.isSome)) H2
def sDPut(td ty tv:TE):TS:=fun D σ H=>tv σ H fun v H1=>td σ H1 fun x H2=>ty σ H2 fun y H3=>∃ a H4,x=.ref a/\DPut H3 a y v H4/\D.nx σ H4
section
variable {X:Cx}{o i e value:Expr}{pos pos' tpos:Pos}{td ty tv:TE}
theorem pe_dget(hu:X.A.units+1 < cLine)(ho:PE X o td)(hi:PE X i ty)(hs:NoSl i):PE X (.Subscript o i pos) (tDGet td ty):=by
 intro pins s σ H Q I h
 refine subD_of PySem.F.slot_dict_getitem.lookup hs (thn (ho pins s σ H _ I h) fun u s1 h_=>?_); obtain ⟨x,H1,I1,rx,q1⟩:=h_; refine thn (hi pins s1 σ H1 _ I1 q1) fun iv s2 h_=>?_; obtain ⟨y,H2,I2,ry,a,v,ex,g,q2⟩:=h_
 subst ex
 obtain rfl:u=Value.ref a:=rx
 exact ⟨dict_typeIs I2 g,d_getItem hu I2 g ry fun w' s3 I3 rw'=>⟨v,H2,I3,rw',q2⟩⟩
theorem pc_din(hu:X.A.units+1 < cLine)(hi:PE X i ty)(ho:PE X o td):PC X .In i o (tDIn ty td):=by
 intro pins s σ H Q I h
 refine thn (hi pins s σ H _ I h) fun iv s1 h_=>?_; obtain ⟨y,H1,I1,ry,q1⟩:=h_; refine thn (ho pins s1 σ H1 _ I1 q1) fun u s2 h_=>?_; obtain ⟨x,H2,I2,rx,a,ov,ex,g,q2⟩:=h_
 subst ex
 obtain rfl:u=Value.ref a:=rx
 exact d_in hu I2 g ry fun s3 I3=>⟨.bl ov.isSome,H2,I3,rfl,q2⟩
theorem pc_dnotin(hu:X.A.units+1 < cLine)(hi:PE X i ty)(ho:PE X o td):PC X .NotIn i o (tDNotIn ty td):=by
 intro pins s σ H Q I h
 refine thn (hi pins s σ H _ I h) fun iv s1 h_=>?_; obtain ⟨y,H1,I1,ry,q1⟩:=h_; refine thn (ho pins s1 σ H1 _ I1 q1) fun u s2 h_=>?_; obtain ⟨x,H2,I2,rx,a,ov,ex,g,q2⟩:=h_
 subst ex
 obtain rfl:u=Value.ref a:=rx
 exact d_notIn hu I2 g ry fun s3 I3=>⟨.bl (!ov.isSome),H2,I3,rfl,q2⟩
theorem ps_dput(hu:X.A.units+1 < cLine)(ho:PE X o td)(hi:PE X i ty)(hv:PE X value tv)(hs:swapsWith value (some (.Subscript o i pos')) pos.line X.env=pure false) :
  PS X (.Assign [.Subscript o i pos'] value pos) (sDPut td ty tv):=by
 intro pins s σ H D I h
 refine wpAny_Assign_Subscript (thn (hv pins s σ H _ I h) fun r s1 ⟨v,H1,I1,rv,q1⟩=>thn (ho pins s1 σ H1 _ I1 q1) fun u s2 ⟨x,H2,I2,rx,q2⟩=>thn (hi pins s2 σ H2 _ I2 q2) fun iv s3 ⟨y,H3,I3,ry,a,H4,ex,g,q3⟩=>?_) hs
 subst ex
 obtain rfl:u=Value.ref a:=rx
 exact d_setItem hu I3 g ry rv fun s4 I4=>⟨σ,H4,I4,q3⟩
end
theorem dk_empty{P:Program}{w:World}{H:Hp}(h:Heap)(hb:sysModules < h.objs.size):ObjOk P w H (h.push { cls:=.type "dict",data:=.dict #[] }) h.objs.size (.dK []):=
 ⟨Nat.zero_le _,beq_eq_false_iff_ne.mpr (Ne.symm (Nat.ne_of_lt hb)),[],.nil,Heap.DictOf.new h⟩
def tDNewK:TE:=fun _ H Q=>∀ p,H p=none->Q (.ref p) (upd H p (.dK []))
section
variable {X:Cx}{pos:Pos}
theorem pe_dnewK:PE X (.Dict [] [] pos) tDNewK:=fun pins s σ H Q I h=>
 wpAny_Dict_empty ⟨.ref s.heap.objs.size,_,I.laid (a:=s.heap.objs.size) (o:=.dK []) (t':=s.toks) (fun _ _ q=>Heap.get?_push_of_some _ q) (Nat.le_refl _) (dk_empty s.heap I.big),rfl,h _ (I.hok.fresh (Nat.le_refl _))⟩
end
structure M2 (X:Cx) (o:Expr) (m:Str) (apos:Pos) (e f:Expr) (cpos:Pos):Prop where
 base:attributeBase o m X.env (eval o X.env)=eval o X.env
 few:((backTo cpos (starEach [e,f] X.env)).all (fun x=>!x.1)&&(backToKw cpos (keywordEach [] X.env)).all (fun x=>x.1.isSome)
  && decide (([e,f]:List Expr).length+([]:List Keyword).length+(if ([]:List Keyword).isEmpty then 0 else 1) < 30))=true
 line:(apos.endLine == cpos.line)=true
 trees:backTo cpos (starEach [e,f] X.env)=[(false,eval e X.env),(false,eval f X.env)]
def IsD(H:Hp)(a:Addr):Prop:=(∃ kvs,Rd H a (.dK kvs))∨∃ kvs,Rd H a (.dT kvs)
theorem isD_at{X:Cx}{pins:List (Addr × Obj)}{σ:St}{H:Hp}{s:Shared}{a:Addr}(I:Inv X pins σ H s)(d:IsD H a) :
  s.TypeIs (.ref a) "dict"/\(∀ b,Value.ref a=.ref b->∃ ob,s.heap.get? b=some ob/\ob.dict=none)/\(a == sysModules)=false:=by
 rcases d with ⟨kvs,e⟩ | ⟨kvs,e⟩
 ·obtain ⟨_,hd,vs,_,dd⟩:=dk_rd I.hok e
  refine ⟨dd.typeIs,fun b q=>?_,hd⟩
  cases q
  obtain ⟨ob,_,_,h1,h2,_⟩:=dd
  exact ⟨ob,h1,h2.2.1⟩
 ·obtain ⟨_,hd,xs,_,dd⟩:=dt_rd I.hok e
  refine ⟨dd.typeIs,fun b q=>?_,hd⟩
  cases q
  obtain ⟨ob,_,_,h1,h2,_⟩:=dd
  exact ⟨ob,h1,h2.2.1⟩
section
variable {X:Cx}{pins:List (Addr × Obj)}{σ:St}{H:Hp}{s:Shared}{a:Addr}{y d:V}{u r:Value}{o:Option V}{A:Around}{E:Value->Shared->Prop}
theorem d_get2{Q:Value->Shared->Prop}(hu:A.units+1 < cLine)(I:Inv X pins σ H s)(g:DGet H a y o)(ry:RelV y u)(rd:RelV d r)(h:∀ w' s',Inv X pins σ H s'->RelV (o.getD d) w'->Q w' s') :
  wpAny (model X.prog X.w) A (call (.builtin "dict.get") [.ref a,u,r]) Q E s:=by
 rcases g with ⟨kvs,k,e,ey,l⟩ | ⟨kvs,k,b,e,ey,eb,l⟩
 ·subst ey
  obtain ⟨z,hd,vs,rel,dd⟩:=dk_rd I.hok e
  refine call_meetsIn PySem.F.slot_dict_get dd.typeIs PySem.F.entry_dict_get (PySem.F.args_dict_get_3 _ _ _) (meets_dict_get_default (mixKind X.prog X.w) a (kV_is ry) hd r) ⟨_,dd.mapOf,h _ _ (I.tok _) ?_⟩
  rw [l]
  exact (rel.val k).getD rd
 ·subst ey
  cases (show u=Value.ref b from ry)
  obtain ⟨z,hd,xs,rel,dd⟩:=dt_rd I.hok e
  refine call_meetsIn PySem.F.slot_dict_get dd.typeIs PySem.F.entry_dict_get (PySem.F.args_dict_get_3 _ _ _) (meetsH_dict_get_default (tupleKind (mixKind X.prog X.w)) a b hd r) ⟨tupleKind_room_in1 hu,k,xs,key_of I.hok eb,dd,h _ _ (I.tok _) ?_⟩
  rw [l]
  exact (rel.val k).getD rd
end
def tDGet2(td ty tx:TE):TE:=fun σ H Q=>td σ H fun x H1=>∃ a,x=.ref a/\IsD H1 a/\ty σ H1 fun y H2=>tx σ H2 fun z H3=>∃ o,DGet H3 a y o/\Q (o.getD z) H3
section
variable {X:Cx}{o e f:Expr}{apos cpos:Pos}{td ty tx:TE}
theorem pe_dget2(hu:X.A.units+1 < cLine)(ho:PE X o td)(he:PE X e ty)(hf:PE X f tx)(m:M2 X o "get" apos e f cpos):PE X (.Call (.Attribute o "get" apos) [e,f] [] cpos) (tDGet2 td ty tx):=by
 intro pins s σ H Q I h
 refine wpAny_Call_method m.base m.few m.line PySem.F.plainAttrs_dict PySem.F.slot_dict_get PySem.F.type_dict_get (thn (ho pins s σ H _ I h) fun u s1 h_=>?_); obtain ⟨x,H1,I1,rx,a,ex,d,q1⟩:=h_
 subst ex
 obtain rfl:u=Value.ref a:=rx
 obtain ⟨t1,t2,_⟩:=isD_at I1 d
 refine ⟨t1,t2,?_⟩
 rw [m.trees]
 refine Calls.callWith_builtin rfl (Calls.evalArgs_plain (Calls.spliced_cons (thn (he pins s1 σ H1 _ I1 q1) fun iv s2 ⟨y,H2,I2,ry,q2⟩=>
  Calls.spliced_cons (thn (hf pins s2 σ H2 _ I2 q2) fun fv s3 ⟨z,H3,I3,rz,ov,g,q3⟩=>Calls.spliced_nil ?_))))
 exact d_get2 hu I3 g ry rz fun w' s4 I4 rw'=>⟨_,H3,I4,rw',q3⟩
end
end L2
namespace Att
open PySem PySem.W PySem.Calls PyProof.Rows
theorem ints_of_wellAll{P:Params}{h:Heap}:∀ (ns:List Int) (vs:List Value),WellAll P h vs (ns.map WData.int)->IntsAre vs ns:=by
 intro ns
 induction ns with
 | nil=>
  intro vs w
  rw [List.map_nil] at w
  cases w
  exact .nil
 | cons n ns ih=>
  intro vs w
  rw [List.map_cons] at w
  cases w with
  | cons a b=>
   cases a
   exact .cons _ _ (ih _ b)
theorem script_of{l:OpenLaw}{n:Nat}(hn:l.most=some n){P:Params}{h:Heap}{args:List WData}{vals:List Value}
  (hpre:l.row.toRowW.claim.pre args=true) (hwl:WellAll P h vals args) :
  ∃ a vs ns,vals=[Value.ref a]/\args=[WData.list (ns.map WData.int)]/\h.get? a=some { cls:=.type "list",data:=.seq vs.toArray }/\IntsAre vs ns/\ns.length<=n:=by
 have hsh:WShape.hasAll [] args [.list .int]=true:=(pre_splitW hpre).1
 have hc:l.pre.holds [] { args:=args }=true:=(pre_splitW hpre).2
 obtain ⟨d,r,rfl,h1,h2⟩:=hasAllW_cons hsh
 obtain rfl:=hasAllW_nil h2
 obtain ⟨xs,rfl,h3⟩:=hasW_list h1
 obtain ⟨ns,rfl⟩:=items_int h3
 have hlen:ns.length<=n:=by
  unfold OpenLaw.pre at hc
  have h4:(WTm.not (.lt (.lit (.int (n:Int))) (.len (.arg 0)))).holds [] { args:=[.list (ns.map .int)] }=true:=by
   have h4:=(holds_andW hc).1
   rw [hn] at h4
   exact h4
  have h5:=condW_of h4 (w_not (w_lt w_lit (w_len_list (w_arg rfl))))
  rw [List.length_map] at h5
  refine Nat.le_of_not_lt fun q=>?_
  have q':(n:Int) < ((ns.length:Nat):Int):=by lia
  first
   | (rw [decide_eq_true q'] at h5; exact absurd h5 (by decide))
   | (simp at h5; lia)
 cases hwl with
 | cons w1 w2=>
  cases w2
  cases w1 with
  | list ho hall=>exact ⟨_,_,ns,rfl,rfl,ho,ints_of_wellAll ns _ hall,hlen⟩
theorem post_true(l:OpenLaw)(args:List WData):l.row.toRowW.claim.post args (.bool true) args=true:=
 postW_of (r:=l.row.toRowW) (X:=(true == true))
  (show WShape.has [] (.bool true) .bool=true by first | rfl | decide | simp [WShape.has,WShape.arms,WShape.armsAll])
  (show (WTm.eq .res (.lit (.bool true))).value [] { args:=args,res:=some (.bool true),after:=args }=some (.bool (true == true)) from w_eq_bool (w_res rfl) w_lit) rfl
theorem attach{l:OpenLaw}{n:Nat}{q:Program}{loose:List Str}{XP:(Str->Option Value)->Heap->Prop}{YP:World->Heap->Prop}{d:DefRec}{x:Str}
  (hn:l.most=some n) (hdf:d.params.defaults=[])
  (hbind:∀ pm cd doc v:Value,bindArgs (docDef d.name d.params d.body d.scope pm cd doc) ⟨[v],[]⟩=pure [(x,v)])
  (hx:d.scope.names.lookup x=some .local∨d.scope.names.lookup x=some .cell)
  (hk:d.scope.kind=.function) (hco:d.scope.isCoroutine=false) (hgen:d.scope.isGenerator=false)
  (body:∀ (w:World) (s₀ s₁ s:Shared) (mg mb:Str->Option Value) (fa:Addr) (o:Obj) (pm cd doc:Value) (a:Addr) (vs:List Value) (ns:List Int),
   Ground q loose [] XP w s₀ mg mb s₁.heap->YP w s₁.heap->
   s₁.heap.get? fa=some o->o.data=.func (docDef d.name d.params d.body d.scope pm cd doc)->s₁.heap.CodeRec cd d.name->mg d.name=some (.ref fa)->
   s₁.heap.get? a=some { cls:=.type "list",data:=.seq vs.toArray }->IntsAre vs ns->ns.length<=n->
   s.gens=#[]->s.os=s₁.os->
   Fr s₁.heap s₁.heap.objs.size s.heap (bindL (envOfC d.name d.scope s₁.heap.objs.size fa cd).kindOf [(x,.ref a)] fun _=>none)->
   Cl s₁.heap.objs.size (cellsFrom (s₁.heap.objs.size+1) d.scope.names []) s.heap (bindC (envOfC d.name d.scope s₁.heap.objs.size fa cd).kindOf [(x,.ref a)] fun _=>none)->
   wpAny (model l.prog w) (callerA.deeper (envOfC d.name d.scope s₁.heap.objs.size fa cd)) (execs d.body (envOfC d.name d.scope s₁.heap.objs.size fa cd))
    (fun f s'=>f=.ret (.bool true)/\OldK s₁.heap s'.heap/\s'.os=s₁.os/\AllBare s'.gens) (fun _ _=>False) s) :
  WalkO q loose XP YP l.row.toRowW d [] (fun f vs=>PySem.call f vs):=by
 intro w s₀ s₁ mg mb G Y fa o pm cd doc dV kV ho hd hcd hD hmg hg args vals as hpre hlay hrd hwl hlo
 obtain rfl:dV=.none:=Dflts.none hD hdf
 obtain rfl:kV=.none:=Dflts.noKw hD
 obtain ⟨a,vs,ns,rfl,rfl,hobj,hints,hlen⟩:=script_of hn hpre hwl
 refine enter_call ?_
 refine call_cells_ret (o:=o) (by rw [depth_caller]; decide) ho (fd_plain hd) G.T.nolimit hcd (hbind pm cd doc (.ref a)) (fun y hy=>?_) (fun h₁ tk F X=>?_) hco hgen hk
 ·obtain rfl:y=(x,Value.ref a):=List.mem_singleton.mp hy
  rcases hx with e | e
  ·exact .inl e
  ·exact .inr ⟨e,cellsFrom_some _ _ _ (.inl e)⟩
 ·refine wpAny_mono (body w s₀ s₁ { s₁ with heap:=h₁,toks:=tk } mg mb fa o pm cd doc a vs ns G Y ho (fd_plain hd) hcd hmg hobj hints hlen hg rfl F X) (fun f s' hq=>?_) (fun _ _ hq=>hq)
  obtain ⟨rfl,h2,h3,h4⟩:=hq
  exact ⟨.inl ⟨.bool true,.bool true,[],rfl,fun _=>rfl,.bool true,post_true l _,fun _=>⟨List.Pairwise.nil,fun _ hm=>(nomatch hm)⟩⟩,h2,h3,h4⟩
theorem attach_call{l:OpenLaw}{n:Nat}{q:Program}{loose:List Str}{XP:(Str->Option Value)->Heap->Prop}{YP:World->Heap->Prop}{d:DefRec}
  (hn:l.most=some n) (hdf:d.params.defaults=[])
  (call:∀ (w:World) (s₀ s₁:Shared) (mg mb:Str->Option Value) (fa:Addr) (o:Obj) (pm cd doc:Value) (a:Addr) (vs:List Value) (ns:List Int),
   Ground q loose [] XP w s₀ mg mb s₁.heap->YP w s₁.heap->
   s₁.heap.get? fa=some o->o.data=.func (docDef d.name d.params d.body d.scope pm cd doc)->s₁.heap.CodeRec cd d.name->mg d.name=some (.ref fa)->
   s₁.heap.get? a=some { cls:=.type "list",data:=.seq vs.toArray }->IntsAre vs ns->ns.length<=n->s₁.gens=#[]->
   codeAny (model l.prog w) callerA (.call (.ref fa) ⟨[.ref a],[]⟩) (fun r s'=>r=.ok (.ret (.bool true))/\OldK s₁.heap s'.heap/\s'.os=s₁.os/\AllBare s'.gens) s₁) :
  WalkO q loose XP YP l.row.toRowW d [] (fun f vs=>PySem.call f vs):=by
 intro w s₀ s₁ mg mb G Y fa o pm cd doc dV kV ho hd hcd hD hmg hg args vals as hpre hlay hrd hwl hlo
 obtain rfl:dV=.none:=Dflts.none hD hdf
 obtain rfl:kV=.none:=Dflts.noKw hD
 obtain ⟨a,vs,ns,rfl,rfl,hobj,hints,hlen⟩:=script_of hn hpre hwl
 refine enter_call (codeAny_mono (call w s₀ s₁ mg mb fa o pm cd doc a vs ns G Y ho (fd_plain hd) hcd hmg hobj hints hlen hg) fun r s' hq=>?_)
 obtain ⟨rfl,h2,h3,h4⟩:=hq
 exact ⟨.inl ⟨.bool true,.bool true,[],rfl,fun _=>rfl,.bool true,post_true l _,fun _=>⟨List.Pairwise.nil,fun _ hm=>(nomatch hm)⟩⟩,h2,h3,h4⟩
end Att
namespace L2
open PySem PySem.Spec PyProof.Rows
theorem vals_ints:∀ {vs:List Value} {ns:List Int},IntsAre vs ns->Vals (ns.map V.int) vs
 | _,_,.nil=>.nil
 | _,_,.cons n t h=>.cons ⟨t,rfl⟩ (vals_ints h)
def Only(H:Hp):Prop:=∀ b,H b=none∨∃ o xs,H b=some (.frz o (.lst xs))
theorem law_call{P:Program}{w:World}{K:PySem.W.Frag}{mg mb:Str->Option Value}{CX:CXT}{k:Nat}{fa a:Addr}{fd:FuncData}{x:Str}{sp:Sp}{s₁:Shared}{vs:List Value}{ns:List Int}
  (KX:K.In s₁.heap) (hns:s₁.heap.Ns mainGlobals mg) (hb:s₁.heap.Ns builtinsNs mb) (hbb:∀ x:Str,x≠"__name__"->mb x=bootBuiltins x) (hlim:s₁.heap.NoLimit) (hg:s₁.gens=#[])
  (ha:s₁.heap.get? a=some { cls:=.type "list",data:=.seq vs.toArray }) (hi:IntsAre vs ns) (hl:ns.length<=sizeLine) (hr:Room k callerA)
  (F:∀ base:Heap,K.In base->base.Ns mainGlobals mg->FnOk P w K mg base CX k fa fd [x] sp) (hbind:∀ (s:Shared) (u:Value),BindsTo s fd ⟨[u],[]⟩ [(x,u)])
  (hsp:∀ H:Hp,Only H->SqL K H a (ns.map V.int)->sp [.ref a] H (fun v _=>v=.bl true) fun _ _ _=>False)
  (hCX:∀ H e s',CX [] H s₁ (fun _ _ _=>False) e s'->False) :
  codeAny (model P w) callerA (.call (.ref fa) ⟨[.ref a],[]⟩) (fun r s'=>r=.ok (.ret (.bool true))/\OldK s₁.heap s'.heap/\s'.os=s₁.os/\AllBare s'.gens) s₁:=by
 have rv:=vals_ints hi
 have lenV:=hi.length
 -- from an abstract heap in which nothing but the script may be tracked
 have core:∀ H:Hp,Only H->SqL K H a (ns.map V.int)->HOk P w H s₁.heap->(∀ b,H b≠none->b=a)->(H a≠none->K.lookup a=none)->
   codeAny (model P w) callerA (.call (.ref fa) ⟨[.ref a],[]⟩) (fun r s'=>r=.ok (.ret (.bool true))/\OldK s₁.heap s'.heap/\s'.os=s₁.os/\AllBare s'.gens) s₁:=by
  intro H hO hS hok hA hK
  have base_of:∀ {b:Addr} {o:Obj},s₁.heap.get? b=some o->H b=none->(hidT s₁.heap H).get? b=some o:=fun e n=>hidT_get e n
  have noA:∀ {b:Addr} {o:Obj} {es:Array DictEntry} {ep:Nat},s₁.heap.get? b=some o->o.data=.dict es ep->H b=none:=fun {b o es ep} e d=>by
   cases q:H b with
   | none=>rfl
   | some u=>
    have e':b=a:=hA b (by rw [q]; simp)
    subst e'
    rw [ha] at e; cases e
    have d':Data.seq vs.toArray _=Data.dict es ep:=d
    cases d'
  have nsK:∀ {b:Addr} {m:Str->Option Value},s₁.heap.Ns b m->(hidT s₁.heap H).Ns b m:=fun {b m} ⟨o,es,ep,e,d,r⟩=>⟨o,es,ep,base_of e (noA e d),d,r⟩
  have hKb:K.In (hidT s₁.heap H):=fun b o e=>base_of (KX b o e) (by
   cases q:H b with
   | none=>rfl
   | some u=>
    have e':b=a:=hA b (by rw [q]; simp)
    subst e'
    rw [hK (by rw [q]; simp)] at e; cases e)
  have hM:Mod K mg (hidT s₁.heap H):=⟨hKb,nsK hns,⟨mb,nsK hb,hbb⟩,let ⟨mc,h1,h2⟩:=hlim; ⟨mc,nsK h1,h2⟩⟩
  have e0:Env0 P w K mg (hidT s₁.heap H) callerA [] s₁ H:=⟨rfl,hM,fun b o e=>of_hidT e,Nat.le_of_eq (hidT_size _ _),trivial,fun b hb=>absurd (show b∈([]:List Addr) from hb) (by simp),hok,.of_eq hg⟩
  refine codeAny_mono ((F _ hKb (nsK hns)).run callerA [] s₁ H ⟨[.ref a],[]⟩ [.ref a] [.ref a] _ _ hr e0 (hbind s₁ (.ref a)) (.cons rfl .nil) (hsp H hO hS)) fun r s' h=>?_
  cases r with
  | error e=>exact (hCX H e s' h).elim
  | ok fl=>
   cases fl with
   | next=>exact False.elim h
   | brk=>exact False.elim h
   | cont=>exact False.elim h
   | ret u=>
    obtain ⟨v,H',os,bare,un,hok',r',q⟩:=h
    have q':v=.bl true:=q
    subst q'
    obtain rfl:u=Value.bool true:=r'
    refine ⟨rfl,OldK.of_keep fun b o e=>?_,os,bare⟩
    cases q:H b with
    | none=>exact un.keep b o e q (by intro z; exact absurd (show b∈([]:List Addr) from z) (by simp)) (by simp)
    | some u=>
     rcases hO b with z | ⟨ob,xs,z⟩
     ·rw [q] at z; cases z
     ·have z2:=un.frzs b ob _ z
      obtain ⟨e1,_⟩:=hok b _ z
      obtain ⟨e2,_⟩:=hok' b _ z2
      rw [e] at e1; cases e1
      exact e2
 cases hk:K.lookup a with
 | some o=>
  -- the script is one of the module's own objects
  have e:=KX a o hk
  rw [ha] at e
  cases e
  refine core (fun _=>none) (fun _=>.inl rfl) (.inr ⟨_,vs.toArray,_,hk,rfl,rfl,rfl,by rw [List.size_toArray,lenV]; exact hl,by simpa using rv⟩) (fun b u z=>by have z':(none:Option HO)=some u:=z; cases z') (fun b z=>absurd rfl z) fun z=>absurd rfl z
 | none=>
  refine core (fun b=>if b=a then some (.frz { cls:=.type "list",data:=.seq vs.toArray } (.lst (ns.map V.int))) else none) (fun b=>?_) (.inl (.inr ⟨{ cls:=.type "list",data:=.seq vs.toArray },if_pos rfl⟩)) (fun b u z=>?_) (fun b z=>?_) fun _=>hk
  ·by_cases hb:b=a
   ·exact .inr ⟨_,_,if_pos hb⟩
   ·exact .inl (if_neg hb)
  ·by_cases hb:b=a
   ·have z':=(if_pos hb).symm.trans z
    cases z'
    subst hb
    exact ⟨ha,by rw [List.length_map]; exact hl,vs,_,rv,ha⟩
   ·have z':=(if_neg hb).symm.trans z
    cases z'
  ·by_cases hb:b=a
   ·exact hb
   ·exact absurd (if_neg hb) z
end L2
namespace L2
open PySem PySem.Spec PyProof.Rows
theorem walk_of{l:PySem.W.OpenLaw}{n k:Nat}{q:Program}{loose:List Str}{XP:(Str->Option Value)->Heap->Prop}{YP:World->Heap->Prop}{d:DefRec}{K:Params->PySem.W.Frag}{CX:World->CXT}{sp:World->Sp}{x:Str}
  (hn:l.most=some n) (hn2:n<=sizeLine) (hdf:d.params.defaults=[]) (hr:Room k callerA)
  (hY:∀ (w:World) (h:Heap),YP w h->(K w.params).In h)
  (F:∀ (w:World) (mg:Str->Option Value) (fa:Addr) (h:Heap),(K w.params).In h->h.Ns mainGlobals mg->mg d.name=some (.ref fa)->
   ∃ fd:FuncData,(∀ (s:Shared) (u:Value),BindsTo s fd ⟨[u],[]⟩ [(x,u)]) /\
    ∀ base:Heap,(K w.params).In base->base.Ns mainGlobals mg->FnOk l.prog w (K w.params) mg base (CX w) k fa fd [x] (sp w))
  (hsp:∀ (w:World) (H:Hp) (a:Addr) (ns:List Int),ns.length<=n->Only H->SqL (K w.params) H a (ns.map V.int)->sp w [.ref a] H (fun v _=>v=.bl true) fun _ _ _=>False)
  (hCX:∀ (w:World) (H:Hp) (s:Shared) (e:Value) (s':Shared),CX w [] H s (fun _ _ _=>False) e s'->False) :
  PySem.W.WalkO q loose XP YP l.row.toRowW d [] (fun f vs=>PySem.call f vs):=by
 refine Att.attach_call hn hdf fun w s₀ s₁ mg mb fa o pm cd doc a vs ns G Y ho hd hcd hmg hobj hints hlen hg=>?_
 have KX:=hY w _ Y
 obtain ⟨fd,hb,hF⟩:=F w mg fa _ KX G.T.g hmg
 exact law_call KX G.T.g G.T.b G.T.builtins G.T.nolimit hg hobj hints (Nat.le_trans hlen hn2) hr hF hb (fun H hO hS=>hsp w H a ns hlen hO hS) fun H e s'=>hCX w H s₁ e s'
end L2
namespace L2
open PySem PySem.Spec PyProof.Rows
def defArgs(s:Stmt):Arguments:=match s with
 | .FunctionDef _ a _ _ _ _ _ _ _ _=>a
 | _=>{ posonlyargs:=[],args:=[],vararg:=none,kwonlyargs:=[],kw_defaults:=[],kwarg:=none,defaults:=[] }
def defBody(s:Stmt):List Stmt:=match s with
 | .FunctionDef _ _ b _ _ _ _ _ _ _=>b
 | _=>[]
def defScope(s:Stmt):Scope:=match s with
 | .FunctionDef _ _ _ _ _ _ sc _ _ _=>sc
 | _=>{ kind:=.function,names:=[],isGenerator:=false,isCoroutine:=false }
abbrev CX0:CXT:=fun _ _ _ _ _ _=>False
abbrev E0:XK:=fun _ _ _=>False
theorem pass0{X:Cx}:Passes CX0 X E0:=fun _ _ _ _ _ _ _ h=>h.elim
structure Fun (K:PySem.W.Frag) (x qual:Str) (st:Stmt) (f:Addr) (fd:FuncData):Prop where
 ex:∃ (oc:Value) (od:Option Addr) (kV doc pm:Value) (an:Option Addr) (cdv ct:Value) (osl:Array (Option Value)),
  fd=PySem.W.fnOf x qual (defArgs st) (defBody st) (defScope st) .none kV doc pm an cdv ct/\K.lookup f=some ⟨oc,od,.func fd,osl⟩/\PySem.W.codeIn K cdv qual=true
 kp:PySem.W.keepIn K (.ref f)=true
section
variable {P:Program}{w:World}{K:PySem.W.Frag}{mg:Str->Option Value}{base:Heap}
theorem Fun.ok{x qual:Str}{st:Stmt}{f:Addr}{fd:FuncData}{N ps:List Str}{k:Nat}{sp:Sp}(F:Fun K x qual st f fd)(S:FnScope N ps (defScope st))(len:∀ vs H Q E,sp vs H Q E->vs.length=ps.length)
  (hbody:∀ (cdv:Value) (A:Around) (outer:List Env) (s:Shared) (H:Hp) (vs:List V) (Q:VK) (E:XK),Room k (A.deeper (envOfC qual (defScope st) s.heap.objs.size f cdv))->sp vs H Q E->
   ∃ t,PSs (cxOf CX0 P w K mg base N qual (defScope st) f cdv A outer s H E).nox (defBody st) t/\t { nx:=fun _ H'=>Q .non H',rt:=Q } (start N vs) H):FnOk P w K mg base CX0 (k+1) f fd ps sp:=by
 obtain ⟨oc,od,kV,doc,pm,an,cdv,ct,osl,rfl,lk,hcd⟩:=F.ex
 refine fn_of lk hcd S len fun A outer s H vs Q E hr hsp=>?_
 obtain ⟨t,h,q⟩:=hbody cdv A outer s H vs Q E hr hsp
 exact ⟨t,h.nox,q⟩
theorem Fun.binds{x qual:Str}{st:Stmt}{f:Addr}{fd:FuncData}{ps:List Str}(F:Fun K x qual st f fd)
  (h:∀ (kV doc pm:Value) (an:Option Addr) (cdv ct:Value) (us:List Value),us.length=ps.length->bindArgs (PySem.W.fnOf x qual (defArgs st) (defBody st) (defScope st) .none kV doc pm an cdv ct) ⟨us,[]⟩=pure (ps.zip us)):Binds K fd ps []:=by
 obtain ⟨oc,od,kV,doc,pm,an,cdv,ct,osl,rfl,lk,hcd⟩:=F.ex
 exact .all (h kV doc pm an cdv ct)
theorem fun_mk{x qual:Str}{st:Stmt}{f:Addr}{oc:Value}{od an:Option Addr}{osl:Array (Option Value)}{kV doc pm cdv ct:Value}(l:K.lookup f=some ⟨oc,od,.func (PySem.W.fnOf x qual (defArgs st) (defBody st) (defScope st) .none kV doc pm an cdv ct),osl⟩)
  (c:PySem.W.codeIn K cdv qual=true) (k:PySem.W.keepIn K (.ref f)=true):Fun K x qual st f (PySem.W.fnOf x qual (defArgs st) (defBody st) (defScope st) .none kV doc pm an cdv ct):=⟨⟨oc,od,kV,doc,pm,an,cdv,ct,osl,rfl,l,c⟩,k⟩
end
theorem hu_of{A:Around}{k:Nat}(hr:Room k A):A.units+1 < cLine:=Nat.lt_of_le_of_lt (Nat.add_le_add_left (by decide:1<=64) _) hr.units
section
variable {X:Cx}
theorem pv(i:Nat){x:Str}{pos:Pos}(hN:X.N[i]?=some x:=by rfl)(hv:Vis X.env.scope x:=by first | exact Or.inl rfl | exact Or.inr (Or.inl rfl) | exact Or.inr (Or.inr rfl))(hd:(x == ("__debug__":Str))=false:=by decide)
  (hcd:(x == ("__classdict__":Str))=false:=by decide):PE X (.Name x pos) (tVar i):=pe_var hN hv hd hcd
end
end L2
namespace L2
open PySem PySem.Spec PyProof.Rows
theorem Inv.forget{X:Cx}{pins:List (Addr × Obj)}{sg sg':St}{H:Hp}{s:Shared}(I:Inv X pins sg H s)(hl:sg'.length=sg.length)(h:∀ (i:Nat) (v:V),sg'[i]?=some (some v)->sg[i]?=some (some v)):Inv X pins sg' H s:=by
 obtain ⟨m,hn,hm⟩:=I.loc
 exact ⟨I.ok,I.os,I.bare,I.base,⟨m,hn,fun i x v e1 e2 e3=>hm i x v e1 (h i v e2) e3⟩,I.cell,I.free,I.freeC,I.pin,I.hok,by rw [hl]; exact I.len⟩
def cxComp(X:Cx)(N:List Str)(scope:Scope)(cl:List (Str × Addr))(C:Addr)(s0:Shared)(H0:Hp)(fp:List Addr):Cx where
 prog:=X.prog
 w:=X.w
 K:=X.K
 mg:=X.mg
 base:=X.base
 A:=X.A
 N:=N
 s₀:=s0
 H₀:=H0
 env:=compEnvC scope cl C X.env
 outer:=X.stack
 stack:=X.stack
 ex:=fp
 fn:=fun _=>false
 calm:=X.calm
 pn:=[]
 xe:=fun _ _=>False
def capOk(N:List Str)(XN:List Str)(sc outer:Scope)(caps:List (Option Nat)):Bool:=
 decide (caps.length=N.length)&&((List.range caps.length).all fun i=>match caps[i]? with
  | some (some j)=>(match N[i]?,XN[j]? with
   | some x,some y=>x == y&&sc.names.lookup x == some .free&&(outer.names.lookup x == some .cell||outer.names.lookup x == some .free)
   | _,_=>false)
  | _=>true)
def capSt(caps:List (Option Nat))(sg:St):St:=caps.map fun o=>o.bind fun j=>(sg[j]?).join
theorem capOk.len{N XN:List Str}{sc outer:Scope}{caps:List (Option Nat)}(h:capOk N XN sc outer caps=true):caps.length=N.length:=by
 unfold capOk at h
 rw [Bool.and_eq_true] at h
 exact of_decide_eq_true h.1
theorem capOk.get{N XN:List Str}{sc outer:Scope}{caps:List (Option Nat)}(h:capOk N XN sc outer caps=true){i j:Nat}(e:caps[i]?=some (some j)) :
  ∃ x,N[i]?=some x/\XN[j]?=some x/\sc.names.lookup x=some .free/\(outer.names.lookup x=some .cell∨outer.names.lookup x=some .free):=by
 unfold capOk at h
 rw [Bool.and_eq_true] at h
 have hi:i < caps.length:=(List.getElem?_eq_some_iff.mp e).1
 have q:=List.all_eq_true.mp h.2 i (List.mem_range.mpr hi)
 rw [e] at q
 dsimp only at q
 cases h1:N[i]? with
 | none=>rw [h1] at q; cases q
 | some x=>
  cases h2:XN[j]? with
  | none=>rw [h1,h2] at q; cases q
  | some y=>
   rw [h1,h2] at q
   dsimp only at q
   rw [Bool.and_eq_true,Bool.and_eq_true,Bool.or_eq_true] at q
   obtain ⟨⟨q1,q2⟩,q3⟩:=q
   have e1:x=y:=eq_of_beq q1
   subst e1
   exact ⟨x,rfl,rfl,by simpa using q2,q3.imp (fun z=>by simpa using z) fun z=>by simpa using z⟩
theorem closure_of{env:Env}:∀ (names:List (Str × NameKind)) (acc:List (Str × Addr)),(∀ x,(x,NameKind.free)∈names->∃ c,env.cells.lookup x=some c)->
  ∃ cl,(forIn (m:=Sem) names acc fun (p:Str × NameKind) cs=>(if p.2 == NameKind.free then (do let c <-cellOf env p.1; pure (ForInStep.yield ((p.1,c)::cs))) else pure (ForInStep.yield cs)))=pure cl /\
   (∀ p∈cl,p∈acc∨env.cells.lookup p.1=some p.2)/\(∀ p∈acc,p∈cl)/\(∀ x,(x,NameKind.free)∈names->∃ c,(x,c)∈cl)
 | [],acc,_=>⟨acc,rfl,fun p hp=>.inl hp,fun p hp=>hp,fun x hx=>nomatch hx⟩
 | (n,k)::r,acc,h=>by
  by_cases hk:k=.free
  ·subst hk
   obtain ⟨c,hc⟩:=h n List.mem_cons_self
   obtain ⟨cl,e,h1,h2,h3⟩:=closure_of r ((n,c)::acc) fun x hx=>h x (List.mem_cons_of_mem _ hx)
   refine ⟨cl,?_,fun p hp=>?_,fun p hp=>h2 p (List.mem_cons_of_mem _ hp),fun x hx=>?_⟩
   ·rw [List.forIn_cons,if_pos (by rfl)]
    show (do let c <-cellOf env n; pure (ForInStep.yield ((n,c)::acc)):Sem _) >>= _=_
    rw [cellOf,hc]
    exact e
   ·rcases h1 p hp with z | z
    ·rcases List.mem_cons.mp z with z | z
     ·subst z; exact .inr hc
     ·exact .inl z
    ·exact .inr z
   ·rcases List.mem_cons.mp hx with z | z
    ·injection z with z1 _
     subst z1
     exact ⟨c,h2 _ List.mem_cons_self⟩
    ·exact h3 x z
  ·obtain ⟨cl,e,h1,h2,h3⟩:=closure_of r acc fun x hx=>h x (List.mem_cons_of_mem _ hx)
   refine ⟨cl,?_,h1,h2,fun x hx=>?_⟩
   ·rw [List.forIn_cons,if_neg (by simpa using hk)]
    exact e
   ·rcases List.mem_cons.mp hx with z | z
    ·injection z with _ z2
     exact absurd z2.symm hk
    ·exact h3 x z
theorem closureFor_of{scope:Scope}{env:Env}(h:∀ x,(x,NameKind.free)∈scope.names->∃ c,env.cells.lookup x=some c) :
  ∃ cl,closureFor scope env=pure cl/\(∀ p∈cl,env.cells.lookup p.1=some p.2)/\(∀ x,(x,NameKind.free)∈scope.names->∃ c,(x,c)∈cl):=by
 obtain ⟨cl,e,h1,_,h3⟩:=closure_of scope.names [] h
 refine ⟨cl,?_,fun p hp=>(h1 p hp).resolve_left (by simp),h3⟩
 have e2:closureFor scope env=((forIn (m:=Sem) scope.names ([]:List (Str × Addr)) fun (p:Str × NameKind) cs=>(if p.2 == NameKind.free then (do let c <-cellOf env p.1; pure (ForInStep.yield ((p.1,c)::cs))) else pure (ForInStep.yield cs))) >>= fun cs=>pure cs):=rfl
 rw [e2,e]
 rfl
end L2
namespace L2
open PySem PySem.Spec PyProof.Rows
theorem lookup_of_mem_some{α β:Type}[BEq α][LawfulBEq α]{x:α}{y:β}:∀ {l:List (α × β)},l.lookup x=some y->(x,y)∈l
 | (a,b)::r,h=>by
  rw [List.lookup_cons] at h
  cases hx:x == a with
  | true=>
   rw [hx] at h
   have e:b=y:=Option.some.inj h
   rw [eq_of_beq hx,e]
   exact List.mem_cons_self
  | false=>rw [hx] at h; exact List.mem_cons_of_mem _ (lookup_of_mem_some h)
theorem lookup_isSome_of_mem{α β:Type}[BEq α][LawfulBEq α]{x:α}{y:β}:∀ {l:List (α × β)},(x,y)∈l->∃ z,l.lookup x=some z
 | (a,b)::r,h=>by
  rw [List.lookup_cons]
  cases hx:x == a with
  | true=>exact ⟨b,rfl⟩
  | false=>
   rcases List.mem_cons.mp h with z | z
   ·injection z with z1 _
    rw [z1] at hx
    simp at hx
   ·exact lookup_isSome_of_mem z
theorem relabel_free{scope:Scope}{env:Env}(hcell:∀ y∈scope.names,y.2≠.cell){x:Str}(h:(relabel scope env).names.lookup x=some .cell∨(relabel scope env).names.lookup x=some .free):(x,NameKind.free)∈scope.names:=by
 have key:∀ k,(x,k)∈(relabel scope env).names->k=.cell∨k=.free->(x,NameKind.free)∈scope.names:=fun k hm hk=>by
  obtain ⟨⟨n,k'⟩,hn,e⟩:=List.mem_map.mp hm
  dsimp only at e
  split at e
  ·rename_i hc
   injection e with e1 e2
   subst e1
   have:k'=.free:=by
    simp only [Bool.and_eq_true] at hc
    simpa using hc.1.1
   subst this
   exact hn
  ·injection e with e1 e2
   subst e1; subst e2
   rcases hk with z | z
   ·subst z; exact absurd rfl (hcell _ hn)
   ·subst z; exact hn
 rcases h with h | h
 ·exact key _ (lookup_of_mem_some h) (.inl rfl)
 ·exact key _ (lookup_of_mem_some h) (.inr rfl)
theorem relabel_vis{env:Env}{x:Str}:∀ {names:List (Str × NameKind)},names.lookup x=some .free->
  (names.map fun (n,k)=>if (k == NameKind.free&&env.scope.kind == .function&&env.kindOf n == some .cell) then (n,NameKind.cell) else (n,k)).lookup x=some .cell ∨
  (names.map fun (n,k)=>if (k == NameKind.free&&env.scope.kind == .function&&env.kindOf n == some .cell) then (n,NameKind.cell) else (n,k)).lookup x=some .free
 | (n,k)::r,h=>by
  rw [List.lookup_cons] at h
  rw [List.map_cons]
  cases hx:x == n with
  | true=>
   rw [hx] at h
   have e:k=.free:=Option.some.inj h
   subst e
   dsimp only
   split
   ·left; rw [List.lookup_cons,hx]
   ·right; rw [List.lookup_cons,hx]
  | false=>
   rw [hx] at h
   have ih:=relabel_vis (env:=env) h
   dsimp only
   split<;>(rw [List.lookup_cons,hx]; exact ih)
section
variable {X:Cx}{N:List Str}{scope:Scope}{cl:List (Str × Addr)}{caps:List (Option Nat)}{pins:List (Addr × Obj)}{sg:St}{H:Hp}{s:Shared}{fp:List Addr}{h1:Heap}{tk:Nat}{m0:Str->Option Value}
theorem cxComp_ok(hkind:scope.kind=.function)(hcell:∀ y∈scope.names,y.2≠.cell)(I:Inv X pins sg H s)
  (hcl1:∀ p∈cl,X.env.cells.lookup p.1=some p.2) (hcl2:∀ x,(x,NameKind.free)∈scope.names->∃ c,(x,c)∈cl)
  (hf:∀ b∈fp,FpOk X pins H b) (hlt:∀ b∈fp,b < s.heap.objs.size):(cxComp X N scope cl s.heap.objs.size s H fp).Ok where
 mod:=I.ok.mod
 kind:=hkind
 glob:=I.ok.glob
 blt:=I.ok.blt
 above:=Nat.le_refl _
 inj:=fun x y c hx hy=>I.ok.inj x y c (hcl1 (x,c) (lookup_of_mem_some hx)) (hcl1 (y,c) (lookup_of_mem_some hy))
 has:=fun x hx=>by
  obtain ⟨c,hc⟩:=hcl2 x (relabel_free hcell hx)
  exact lookup_isSome_of_mem hc
 cab:=fun x c hx=>nomatch hx
 hd:=I.ok.hd
 frames:=I.ok.frames
 stk:=.inl rfl
 exf:=fun b hb=>⟨Nat.ne_of_lt (hlt b hb),fun x c hx=>(hf b hb).2.2.2.2.1 x c (hcl1 (x,c) (lookup_of_mem_some hx))⟩
 bs:=I.bs
 bsz:=Nat.le_trans I.ok.bsz I.sz
 noex:=fun b o e hb=>by
  rcases (hf b hb).2.2.2.1 with z | z
  ·exact I.ok.noex b o e z
  ·exact absurd (Nat.lt_of_lt_of_le (Heap.lt_size e) (Nat.le_trans I.ok.bsz z)) (Nat.lt_irrefl _)
 exfs:=fun b hb z=>by
  rcases List.mem_cons.mp (I.stkSub b z) with e | e
  ·exact (hf b hb).2.1 e
  ·exact (hf b hb).2.2.1 e
 funs:=I.stack
 frf:=I.stkFree
theorem cxComp_inv(hcap:capOk N X.N scope X.env.scope caps=true)(hkind:scope.kind=.function)(hcell:∀ y∈scope.names,y.2≠.cell)(I:Inv X pins sg H s)
  (hcl1:∀ p∈cl,X.env.cells.lookup p.1=some p.2) (hcl2:∀ x,(x,NameKind.free)∈scope.names->∃ c,(x,c)∈cl)
  (hf:∀ b∈fp,FpOk X pins H b) (hlt:∀ b∈fp,b < s.heap.objs.size) (hk:∀ b u,s.heap.get? b=some u->h1.get? b=some u) (hns:h1.Ns s.heap.objs.size m0) :
  Inv (cxComp X N scope cl s.heap.objs.size s H fp) [] (capSt caps sg) H { s with heap:=h1,toks:=tk } where
 ok:=cxComp_ok hkind hcell I hcl1 hcl2 hf hlt
 os:=rfl
 bare:=I.bare
 base:=Un.kept hk
 loc:=by
  refine ⟨m0,hns,fun i x v e1 e2 e3=>?_⟩
  have e2':∃ j,caps[i]?=some (some j)/\sg[j]?=some (some v):=by
   unfold capSt at e2
   rw [List.getElem?_map] at e2
   cases hc:caps[i]? with
   | none=>rw [hc] at e2; simp at e2
   | some o=>
    rw [hc] at e2
    cases o with
    | none=>simp at e2
    | some j=>
     refine ⟨j,rfl,?_⟩
     simp only [Option.map_some,Option.bind_some,Option.some.injEq] at e2
     cases hj:sg[j]? with
     | none=>rw [hj] at e2; simp at e2
     | some y=>rw [hj] at e2; simp at e2; rw [e2]
  obtain ⟨j,hj1,hj2⟩:=e2'
  obtain ⟨x',n1,n2,f1,f2⟩:=capOk.get hcap hj1
  have e1':N[i]?=some x:=e1
  rw [e1'] at n1
  obtain rfl:x=x':=Option.some.inj n1
  obtain ⟨m,hn,hm⟩:=I.loc
  obtain ⟨u,ru,l⟩:=hm j x v n2 hj2 (f2.elim (fun z=>.inr (.inl z)) fun z=>.inr (.inr z))
  refine ⟨u,ru,.inr ⟨relabel_vis f1,?_⟩⟩
  rcases l with ⟨k,_⟩ | ⟨_,c,hc,hcell⟩
  ·have k':X.env.scope.names.lookup x=some .local:=k
   rcases f2 with z | z<;>(rw [k'] at z; cases z)
  ·obtain ⟨c',hc'⟩:=hcl2 x (lookup_of_mem_some f1)
   obtain ⟨c'',hc''⟩:=lookup_isSome_of_mem hc'
   have q:X.env.cells.lookup x=some c'':=hcl1 (x,c'') (lookup_of_mem_some hc'')
   rw [hc] at q
   obtain rfl:c=c'':=Option.some.inj q
   obtain ⟨o,ho,hd⟩:=hcell
   exact ⟨c,hc'',o,hk c o ho,hd⟩
 cell:=fun x c hx=>by
  obtain ⟨v,o,ho,hd⟩:=I.cell x c (hcl1 (x,c) (lookup_of_mem_some hx))
  exact ⟨v,o,hk c o ho,hd⟩
 free:=I.hok.fresh (Nat.le_refl _)
 freeC:=fun x c hx=>I.freeC x c (hcl1 (x,c) (lookup_of_mem_some hx))
 pin:=fun p hp=>nomatch hp
 hok:=I.hok.kept hk
 len:=by
  show (capSt caps sg).length=N.length
  unfold capSt
  rw [List.length_map]
  exact capOk.len hcap
end
def PTs(X:Cx)(ifs:List Expr)(t:TT):Prop:=
 ∀ (pins:List (Addr × Obj)) (s:Shared) (sg:St) (H:Hp) (Q:Bool->Hp->Prop),Inv X pins sg H s->t sg H Q->
  wpAny (model X.prog X.w) X.A (forIn ifs true fun c r=>if r=true then do let ok <-isTrue c X.env (eval c X.env); pure (ForInStep.yield ok) else pure (ForInStep.yield r)) (TP X pins sg Q) X.xe s
def tAll:TT:=fun _ H Q=>Q true H
theorem pts_nil{X:Cx}:PTs X [] tAll:=fun _ _ _ H _ I h=>wpAny_tests_nil ⟨H,I,h⟩
theorem pts_one{X:Cx}{c:Expr}{t:TT}(h:PT X c t):PTs X [c] t:=fun pins s sg H Q I hq=>wpAny_tests_one (h pins s sg H Q I hq)
section
variable {prog:Program}{w:World}{A:Around}{R:Result->Shared->Prop}{s:Shared}
theorem compLoop_own{elt target iter:Expr}{ifs:List Expr}{scope:Scope}{pos:Pos}{it acc:Value}{env:Env}(I:Nat->Shared->Prop)
  (turn:∀ n s,I n s->wpAny (model prog w) A (pyNext it) (fun r s1=>match r with
   | none=>R (.ok .next) s1
   | some v=>wpAny (model prog w) A (letOwnedTupleGo target it v) (fun _ s1'=>wpAny (model prog w) A (assign target env v) (fun _ s2=>
     wpAny (model prog w) A (forIn ifs true fun c r=>if r=true then do let ok <-isTrue c env (eval c env); pure (ForInStep.yield ok) else pure (ForInStep.yield r)) (fun ok s3=>
      if ok=true then wpAny (model prog w) A (eval elt env) (fun x s4=>
       wpAny (model prog w) A (call (.builtin "list.append") [acc,x]) (fun _ s5=>∃ m,m < n/\I m s5) (fun _ _=>False) s4) (fun _ _=>False) s3
      else ∃ m,m < n/\I m s3) (fun _ _=>False) s2) (fun _ _=>False) s1') (fun _ _=>False) s1) (fun _ _=>False) s)
  (n:Nat) (h:I n s) :
  codeAny (model prog w) A (.compLoop (.ListComp elt [⟨target,iter,ifs,0⟩] scope pos) 0 it acc env) R s:=by
 refine codeAny_loop rfl I (fun n s hI=>?_) n h
 show wpAny _ A ((compTurn (.ListComp elt [⟨target,iter,ifs,0⟩] scope pos) 0 it acc env).onRaise (fun x=>do noteFrame x env; theTreesLotGoes x)) _ _ s
 refine wpAny_noted ?_
 rw [compTurn_list]
 refine wpAny_bind (wpAny_standAt (wpAny_bind (wpAny_mono (turn n s hI) (fun r s1 h1=>?_) fun _ _ h'=>h'.elim)))
 cases r with
 | none=>exact wpAny_pure h1
 | some v=>
  refine wpAny_bind (wpAny_mono h1 (fun _ s1' h1'=>?_) fun _ _ h'=>h'.elim)
  refine wpAny_bind (wpAny_mono h1' (fun _ s2 h2=>wpAny_bind (wpAny_mono h2 (fun ok s3 h3=>?_) fun _ _ h'=>h'.elim)) fun _ _ h'=>h'.elim)
  cases ok with
  | false=>exact wpAny_pure ⟨rfl,h3⟩
  | true=>
   exact wpAny_bind (wpAny_bind (wpAny_mono h3 (fun x s4 h4=>wpAny_bind (wpAny_mono h4 (fun _ s5 h5=>wpAny_pure (wpAny_pure ⟨rfl,h5⟩)) fun _ _ h'=>h'.elim)) fun _ _ h'=>h'.elim))
end
def KeepG(caps:List (Option Nat))(g:TG):Prop:=∀ (x:V) (sg:St) (H:Hp) (Q:St->Hp->Prop),g x sg H Q->g x sg H fun s2 H2=>Q s2 H2/\∀ (j k:Nat),caps[j]?=some (some k)->s2[j]?=sg[j]?
def KeepGs(caps:List (Option Nat))(g:TGs):Prop:=∀ (x:List V) (sg:St) (H:Hp) (Q:St->Hp->Prop),g x sg H Q->g x sg H fun s2 H2=>Q s2 H2/\∀ (j k:Nat),caps[j]?=some (some k)->s2[j]?=sg[j]?
theorem kg_name{caps:List (Option Nat)}{i:Nat}(h:caps[i]?=some none:=by rfl):KeepG caps (gName i):=fun x sg H Q q=>⟨q,fun j k e=>by
 have:i≠j:=fun z=>by subst z; rw [h] at e; cases e
 exact List.getElem?_set_ne this⟩
theorem kg_nil{caps:List (Option Nat)}:KeepGs caps gNil:=fun x sg H Q ⟨e,q⟩=>⟨e,q,fun _ _ _=>rfl⟩
theorem kg_cons{caps:List (Option Nat)}{t:TG}{u:TGs}(mt:∀ x sg H (Q Q':St->Hp->Prop),(∀ a b,Q a b->Q' a b)->t x sg H Q->t x sg H Q')(mu:∀ x sg H (Q Q':St->Hp->Prop),(∀ a b,Q a b->Q' a b)->u x sg H Q->u x sg H Q')
  (h:KeepG caps t) (h2:KeepGs caps u):KeepGs caps (gCons t u):=fun x sg H Q ⟨v,r,e,q⟩=>
 ⟨v,r,e,mt _ _ _ _ _ (fun s2 H2 ⟨q2,k2⟩=>mu _ _ _ _ _ (fun s3 H3 ⟨q3,k3⟩=>⟨q3,fun j k e=>(k3 j k e).trans (k2 j k e)⟩) (h2 _ _ _ _ q2)) (h _ _ _ _ q)⟩
theorem kg_tup{caps:List (Option Nat)}{K:PySem.W.Frag}{n:Nat}{t:TGs}(h:KeepGs caps t):KeepG caps (gTup K n t):=fun x sg H Q ⟨a,xs,e,hq,hl,q⟩=>⟨a,xs,e,hq,hl,h _ _ _ _ q⟩
theorem gName_mono{i:Nat}:∀ x sg H (Q Q':St->Hp->Prop),(∀ a b,Q a b->Q' a b)->gName i x sg H Q->gName i x sg H Q':=fun _ _ _ _ _ h q=>h _ _ q
theorem gNil_mono:∀ x sg H (Q Q':St->Hp->Prop),(∀ a b,Q a b->Q' a b)->gNil x sg H Q->gNil x sg H Q':=fun _ _ _ _ _ h q=>⟨q.1,h _ _ q.2⟩
theorem gCons_mono{t:TG}{u:TGs}(mt:∀ x sg H (Q Q':St->Hp->Prop),(∀ a b,Q a b->Q' a b)->t x sg H Q->t x sg H Q')(mu:∀ x sg H (Q Q':St->Hp->Prop),(∀ a b,Q a b->Q' a b)->u x sg H Q->u x sg H Q') :
  ∀ x sg H (Q Q':St->Hp->Prop),(∀ a b,Q a b->Q' a b)->gCons t u x sg H Q->gCons t u x sg H Q':=fun _ _ _ _ _ h ⟨v,r,e,q⟩=>⟨v,r,e,mt _ _ _ _ _ (fun _ _ z=>mu _ _ _ _ _ h z) q⟩
theorem kg_pair{caps:List (Option Nat)}{K:PySem.W.Frag}{i j:Nat}(h:caps[i]?=some none:=by rfl)(h2:caps[j]?=some none:=by rfl):KeepG caps (gTup K 2 (gCons (gName i) (gCons (gName j) gNil))):=
 kg_tup (kg_cons gName_mono (gCons_mono gName_mono gNil_mono) (kg_name h) (kg_cons gName_mono gNil_mono (kg_name h2) kg_nil))
def lcW(J:It)(g:TG)(tt:TT)(te:TE)(sg':St)(Q:VK)(H1:Hp):Prop:=
 ∀ D,H1 D=none->∃ W:Nat->Nat->Hp->Prop,(∃ m,W 0 m (upd H1 D (.lst [])))/\∀ i m H,W i m H->
  (J.stop i H/\Q (.ref D) H)∨(J.go i H/\∀ x H',J.yld i H x H'->g x sg' H' fun s2 H2=>tt s2 H2 fun b H3=>if b=true then
   te s2 H3 fun y H4=>∃ xs,H4 D=some (.lst xs)/\xs.length < sizeLine/\∃ m',m' < m/\W (i+1) m' (upd H4 D (.lst (xs++[y])))
   else ∃ m',m' < m/\W (i+1) m' H3)
section
variable {X:Cx}{N:List Str}{scope:Scope}{caps:List (Option Nat)}{tg elt iter:Expr}{ifs:List Expr}{wi:TI}{g:TG}{tt:TT}{te:TE}{pos:Pos}
theorem lc_block{pins:List (Addr × Obj)}{sg:St}{H:Hp}{s2:Shared}{cl:List (Str × Addr)}{it:Addr}{fp:List Addr}{tn:Nat->Heap->Prop}{J:It}{Q:VK}{E:Value->Shared->Prop}{RR:Value->Addr->Result->Shared->Prop}
  (hc:X.calm=true) (hcap:capOk N X.N scope X.env.scope caps=true) (hkind:scope.kind=.function) (hcell:∀ y∈scope.names,y.2≠.cell)
  (hg:∀ cl C s0 H0 fp,PG (cxComp X N scope cl C s0 H0 fp) tg g) (hgk:KeepG caps g) (ht:∀ cl C s0 H0 fp,PTs (cxComp X N scope cl C s0 H0 fp) ifs tt) (he:∀ cl C s0 H0 fp,PE (cxComp X N scope cl C s0 H0 fp) elt te)
  (hcl1:∀ p∈cl,X.env.cells.lookup p.1=some p.2) (hcl2:∀ x,(x,NameKind.free)∈scope.names->∃ c,(x,c)∈cl)
  (I2:Inv X pins sg H s2) (T:Turn X.prog X.w X.K tg J fp it tn) (st2:tn 0 s2.heap) (f2:∀ b∈fp,FpOk X pins H b) (hw:lcW J g tt te (capSt caps sg) Q H)
  (hRR:∀ (D C:Addr) (s':Shared) (H':Hp) (m':Str->Option Value),Inv X pins sg H' s'->s'.heap.Ns C m'->H' C=none->s2.heap.objs.size<=C->(∀ x c,X.env.cells.lookup x=some c->c≠C)->(∀ p∈X.pn++pins,p.1≠C)->C≠X.env.locals->Q (.ref D) H'->RR (.ref D) C (.ok .next) s') :
  wpAny (model X.prog X.w) X.A (newList []) (fun acc s3=>wpAny (model X.prog X.w) X.A (newFunctionEnv scope X.env.globals cl [] X.env.qual none .none (some X.env)) (fun cenv s4=>
   codeAny (model X.prog X.w) X.A (.compStart (.ListComp elt [⟨tg,iter,ifs,0⟩] scope pos) 0 (.ref it) acc { cenv with scope:=relabel scope X.env }) (RR acc cenv.locals) s4) E s3) E s2:=by
 refine wpAny_newObj_type ?_
 have I3:Inv X pins sg (upd H s2.heap.objs.size (.lst [])) { s2 with heap:=s2.heap.push { cls:=.type "list",dict:=none,data:=.seq ([]:List Value).toArray } }:=
  I2.laid (t':=s2.toks) (fun b u e=>Heap.get?_push_of_some _ e) (Nat.le_refl _) ⟨Nat.zero_le _,[],0,.nil,Heap.get?_push_size _ rfl⟩
 have hfree:H s2.heap.objs.size=none:=I2.hok.fresh (Nat.le_refl _)
 obtain ⟨W,⟨mm,w0⟩,turn⟩:=hw s2.heap.objs.size hfree
 generalize hD:s2.heap.objs.size=D at *
 generalize hs3:({ s2 with heap:=s2.heap.push { cls:=.type "list",dict:=none,data:=.seq ([]:List Value).toArray } }:Shared)=s3 at *
 have hlt3:∀ b o,s2.heap.get? b=some o->s3.heap.get? b=some o:=fun b o e=>by rw [<-hs3]; exact Heap.get?_push_of_some _ e
 have hsz3:s3.heap.objs.size=D+1:=by rw [<-hs3,<-hD]; exact Heap.size_push ..
 have fpD:∀ b∈fp,b < D:=fun b hb=>by
  obtain ⟨o,ho,_⟩:=T.obj 0 _ st2 b hb
  rw [<-hD]; exact Heap.lt_size ho
 have f3:∀ b∈fp,FpOk X pins (upd H D (.lst [])) b:=fun b hb=>⟨by rw [upd_ne (Nat.ne_of_lt (fpD b hb))]; exact (f2 b hb).1,(f2 b hb).2⟩
 have lt3:∀ b∈fp,b < s3.heap.objs.size:=fun b hb=>by rw [hsz3]; exact Nat.lt_succ_of_lt (fpD b hb)
 have st3:tn 0 s3.heap:=T.keep 0 _ _ st2 fun b _ o e=>hlt3 b o e
 refine wpAny_newFunctionEnv hcell (by intro y hy; simp at hy) (fun h1 hns1 hsb1=>?_) hkind
 try dsimp only at hns1 hsb1 ⊢
 have keep1:∀ b u,s3.heap.get? b=some u->h1.get? b=some u:=fun b u e=>hsb1.extBut b u (Nat.ne_of_lt (Heap.lt_size e)) (Heap.get?_push_of_some _ e)
 have I4:=cxComp_inv (N:=N) (tk:=s3.toks+([]:List (Str × Value)).length) hcap hkind hcell I3 hcl1 hcl2 f3 lt3 keep1 hns1
 have loop:codeAny (model X.prog X.w) X.A (.compLoop (.ListComp elt [⟨tg,iter,ifs,0⟩] scope pos) 0 (.ref it) (.ref D) (compEnvC scope cl s3.heap.objs.size X.env)) (RR (.ref D) s3.heap.objs.size) { s3 with heap:=h1,toks:=s3.toks+([]:List (Str × Value)).length }:=by
  generalize hX':cxComp X N scope cl s3.heap.objs.size s3 (upd H D (.lst [])) fp=X' at I4
  have eP:X'.prog=X.prog:=by rw [<-hX']; rfl
  have ew:X'.w=X.w:=by rw [<-hX']; rfl
  have eK:X'.K=X.K:=by rw [<-hX']; rfl
  have eA:X'.A=X.A:=by rw [<-hX']; rfl
  have eE:X'.env=compEnvC scope cl s3.heap.objs.size X.env:=by rw [<-hX']; rfl
  have ex:X'.xe=fun _ _=>False:=by rw [<-hX']; rfl
  have ecalm:X'.calm=true:=by rw [<-hX']; exact hc
  have hg':PG X' tg g:=by rw [<-hX']; exact hg _ _ _ _ _
  have ht':PTs X' ifs tt:=by rw [<-hX']; exact ht _ _ _ _ _
  have he':PE X' elt te:=by rw [<-hX']; exact he _ _ _ _ _
  have stat:∀ {H':Hp},(∀ b∈fp,H' b=none)->∀ b∈fp,FpOk X' [] H' b:=fun {H'} hn b hb=>by
   refine ⟨hn b hb,?_,?_,?_,?_,fun p hp=>?_⟩
   ·rw [<-hX']; exact Nat.ne_of_lt (lt3 b hb)
   ·rw [<-hX']
    exact fun z=>(cxComp_ok (N:=N) hkind hcell I3 hcl1 hcl2 f3 lt3).exfs b hb z
   ·rw [<-hX']; exact .inl hb
   ·rw [<-hX']
    exact ((cxComp_ok (N:=N) hkind hcell I3 hcl1 hcl2 f3 lt3).exf b hb).2
   ·rw [<-hX'] at hp; cases hp
  have out:∀ {sg':St} {H':Hp} {s':Shared},Inv X' [] sg' H' s'->Inv X pins sg H' s':=fun {sg' H' s'} I'=>by
   have hb:=I'.base
   rw [<-hX'] at hb
   have ho:=I'.os
   rw [<-hX'] at ho
   have hk:=I'.hok
   rw [eP,ew] at hk
   exact I3.call' (ch:=fp) ho hb hk I'.bare fun b hb=>⟨(f3 b hb).2.2.2.1,(f3 b hb).2.1,(f3 b hb).2.2.2.2.1,(f3 b hb).2.2.2.2.2⟩
  rw [<-eE,<-eA,<-eP,<-ew]
  refine compLoop_own (fun n s'=>∃ i H',Inv X' [] (capSt caps sg) H' s'/\tn i s'.heap/\(∀ b∈fp,H' b=none)/\W i n H') ?_ mm
   ⟨0,_,I4,T.keep 0 _ _ st3 fun b _ o e=>keep1 b o e,fun b hb=>(f3 b hb).1,w0⟩
  rintro n s5 ⟨i,H5,I5,st5,fr5,w5⟩
  rcases turn i n H5 w5 with ⟨stop,q⟩ | ⟨go,step⟩
  ·have z:=T.done X' eP ew eK ecalm i [] s5 _ H5 (fun _ _=>False) I5 (stat fr5) st5 stop
   rw [<-eP,<-ew] at z
   refine thn z fun r s6 h_=>?_; obtain ⟨hr,I6⟩:=h_
   subst hr
   obtain ⟨m',hn',_⟩:=I6.loc
   have hfr:=I6.free
   rw [eE] at hn' hfr
   refine hRR D s3.heap.objs.size s6 H5 m' (out I6) hn' hfr (by rw [hsz3]; exact Nat.le_succ _) (fun x c e z=>?_) (fun p hp z=>?_) (fun z=>?_) q
   ·obtain ⟨v,o,ho,_⟩:=I3.cell x c e
    rw [z] at ho
    exact absurd (Heap.lt_size ho) (Nat.lt_irrefl _)
   ·have:=Heap.lt_size (I3.pin p hp).1
    rw [z] at this
    exact absurd this (Nat.lt_irrefl _)
   ·have:=I3.lt
    rw [<-z] at this
    exact absurd this (Nat.lt_irrefl _)
  ·have z:=T.item X' eP ew eK ecalm i [] s5 _ H5 (fun _ _=>False) I5 (stat fr5) st5 go
   rw [<-eP,<-ew] at z
   refine thn z fun r s6 h_=>?_; obtain ⟨u,hr,h6⟩:=h_
   subst hr
   dsimp only
   refine thn h6 fun _ s7 h_=>?_; obtain ⟨x,H7,I7,r7,y7,st7,fr7⟩:=h_
   have I7':=I7.pinned (stat fr7) (T.obj _ _ st7)
   have q7:=step x H7 y7
   have a7:=hg' _ s7 (capSt caps sg) H7 x u _ I7' r7 (hgk _ _ _ _ q7)
   rw [ex] at a7
   refine thn a7 fun _ s8 h_=>?_; obtain ⟨sg8,H8,I8,q8,k8⟩:=h_
   have k8':∀ (j:Nat) (v:V),(capSt caps sg)[j]?=some (some v)->sg8[j]?=some (some v):=fun j v e=>by
    have e':=e
    unfold capSt at e'
    rw [List.getElem?_map] at e'
    cases hc:caps[j]? with
    | none=>rw [hc] at e'; simp at e'
    | some o=>
     cases o with
     | none=>rw [hc] at e'; simp at e'
     | some k=>rw [k8 j k hc]; exact e
   have a8:=ht' _ s8 sg8 H8 _ I8 q8
   rw [ex] at a8
   refine thn a8 fun ok s9 h_=>?_; obtain ⟨H9,I9,q9⟩:=h_
   have again:∀ {sg':St} {H':Hp} {s':Shared} {m':Nat},Inv X' ([]++pinsAt fp s7.heap) sg' H' s'->(∀ (j:Nat) (v:V),(capSt caps sg)[j]?=some (some v)->sg'[j]?=some (some v))->m' < n->W (i+1) m' H'->
     ∃ m,m < n/\∃ i H',Inv X' [] (capSt caps sg) H' s'/\tn i s'.heap/\(∀ b∈fp,H' b=none)/\W i m H':=fun {sg' H' s' m'} I' hs hm hw=>by
    refine ⟨m',hm,i+1,H',I'.unpinned.forget (I4.len.trans I'.len.symm) hs,T.keep _ _ _ st7 fun b hb o e=>(I'.pin (b,o) (List.mem_append_right _ (List.mem_append_right _ (mem_pinsAt hb e)))).1,fun b hb=>?_,hw⟩
    obtain ⟨o,e,d⟩:=T.obj _ _ st7 b hb
    exact (I'.pin (b,o) (List.mem_append_right _ (List.mem_append_right _ (mem_pinsAt hb e)))).2.1
   cases ok with
   | false=>
    obtain ⟨m',hm,w9⟩:=q9
    exact again I9 k8' hm w9
   | true=>
    have a9:=he' _ s9 sg8 H9 _ I9 q9
    rw [ex] at a9
    refine thn a9 fun v s10 h_=>?_; obtain ⟨y,H10,I10,r10,xs,hD',hz,m',hm,w10⟩:=h_
    have a10:=mt_append (X:=X') _ s10 sg8 H10 (.ref D) [y] (.ref D) [v] (fun _ H'=>W (i+1) m' H') I10 rfl (.cons r10 .nil) ⟨D,xs,y,rfl,rfl,hD',hz,w10⟩
    rw [ex] at a10
    exact thn a10 fun _ s11 ⟨_,H11,I11,_,w11⟩=>again I11 k8' hm w11
 exact codeAny_compStart_list loop (T.self _ _ _ _ _ (T.keep 0 _ _ st3 fun b _ o e=>keep1 b o e) loop)
def tLC(caps:List (Option Nat))(wi:TI)(g:TG)(tt:TT)(te:TE):TE:=fun sg H Q=>wi sg H fun J H1=>lcW J g tt te (capSt caps sg) Q H1
theorem freeC_of{X:Cx}{scope:Scope}(ok:X.Ok)(hfr:scope.names.all (fun p=>p.2 != .free||(X.env.scope.names.lookup p.1 == some .cell||X.env.scope.names.lookup p.1 == some .free))=true) :
  ∀ x,(x,NameKind.free)∈scope.names->∃ c,X.env.cells.lookup x=some c:=fun x hx=>by
 have q:=List.all_eq_true.mp hfr (x,.free) hx
 simp only [bne_self_eq_false,Bool.false_or,Bool.or_eq_true] at q
 exact ok.has x (q.imp (fun z=>eq_of_beq z) fun z=>eq_of_beq z)
theorem pe_lc(hc:X.calm=true)(hi:PI X tg iter wi)(hg:∀ cl C s0 H0 fp,PG (cxComp X N scope cl C s0 H0 fp) tg g)(hgk:KeepG caps g)(ht:∀ cl C s0 H0 fp,PTs (cxComp X N scope cl C s0 H0 fp) ifs tt)(he:∀ cl C s0 H0 fp,PE (cxComp X N scope cl C s0 H0 fp) elt te)
  (hcap:capOk N X.N scope X.env.scope caps=true:=by rfl) (hkind:scope.kind=.function:=by rfl) (hcell:scope.names.all (fun p=>p.2 != .cell)=true:=by rfl)
  (hnames:scope.names.all (fun p=>p.2 != .local||scope.names.lookup p.1 == some .local)=true:=by rfl)
  (hfr:scope.names.all (fun p=>p.2 != .free||(X.env.scope.names.lookup p.1 == some .cell||X.env.scope.names.lookup p.1 == some .free))=true:=by rfl)
  (hs:∀ x,foldedSetIterable iter X.env x=pure x:=by intro _; rfl):PE X (.ListComp elt [⟨tg,iter,ifs,0⟩] scope pos) (tLC caps wi g tt te):=by
 intro pins s sg H Q I h
 have hcell':∀ y∈scope.names,y.2≠.cell:=fun y hy=>by simpa using List.all_eq_true.mp hcell y hy
 have hnames':∀ x∈scope.names,x.2=.local->scope.names.lookup x.1=some .local:=fun x hx e=>by
  have q:=List.all_eq_true.mp hnames x hx
  rw [e] at q
  simpa using q
 obtain ⟨cl,hclos,hcl1,hcl2⟩:=closureFor_of (scope:=scope) (env:=X.env) (freeC_of I.ok hfr)
 rw [eval_ListComp]
 refine wpAny_comprehension_free (use:=none) rfl hs hclos hkind hnames' (thn (hi pins s sg H _ I h) fun v s1 h1=>thn h1 fun itv s2 h2=>?_)
 obtain ⟨it,fp,tn,J,H2,e,I2,T,st2,f2,hw⟩:=h2
 subst e
 refine lc_block (RR:=fun acc C=>compPost (model X.prog X.w) X.A X.xe none (EP X pins sg Q) acc C) hc hcap hkind hcell' hg hgk ht he hcl1 hcl2 I2 T st2 f2 hw ?_
 intro D C s' H' m' I' hn hfree hCs hCc hCp hCl q
 refine ⟨m',hn,fun h' hs'=>⟨.ref D,H',?_,rfl,q⟩⟩
 exact I'.turned (t':=s'.toks) (it:=C) (fun b o hb e=>(hs'.2 b hb).trans e) hfree hCl (.inr (Nat.le_trans I2.sz hCs)) hCc hCp
theorem ps_setLC{i:Nat}{y:Str}{py spos:Pos}(hN:X.N.Nodup)(hiy:X.N[i]?=some y)(hy:X.env.scope.names.lookup y=some .local)(hc:X.calm=true)(hi:PI X tg iter wi)(hg:∀ cl C s0 H0 fp,PG (cxComp X N scope cl C s0 H0 fp) tg g)(hgk:KeepG caps g)(ht:∀ cl C s0 H0 fp,PTs (cxComp X N scope cl C s0 H0 fp) ifs tt)(he:∀ cl C s0 H0 fp,PE (cxComp X N scope cl C s0 H0 fp) elt te)
  (hsw:swapsWith (.ListComp elt [⟨tg,iter,ifs,0⟩] scope pos) (some (.Name y py)) spos.line X.env=pure true:=by rfl)
  (hcap:capOk N X.N scope X.env.scope caps=true:=by rfl) (hkind:scope.kind=.function:=by rfl) (hcell:scope.names.all (fun p=>p.2 != .cell)=true:=by rfl)
  (hnames:scope.names.all (fun p=>p.2 != .local||scope.names.lookup p.1 == some .local)=true:=by rfl)
  (hfr:scope.names.all (fun p=>p.2 != .free||(X.env.scope.names.lookup p.1 == some .cell||X.env.scope.names.lookup p.1 == some .free))=true:=by rfl)
  (hs:∀ x,foldedSetIterable iter X.env x=pure x:=by intro _; rfl):PS X (.Assign [.Name y py] (.ListComp elt [⟨tg,iter,ifs,0⟩] scope pos) spos) (tAsg (tLC caps wi g tt te) (gName i)):=by
 intro pins s sg H D0 I h
 have hcell':∀ y∈scope.names,y.2≠.cell:=fun y hy=>by simpa using List.all_eq_true.mp hcell y hy
 have hnames':∀ x∈scope.names,x.2=.local->scope.names.lookup x.1=some .local:=fun x hx e=>by
  have q:=List.all_eq_true.mp hnames x hx
  rw [e] at q
  simpa using q
 obtain ⟨cl,hclos,hcl1,hcl2⟩:=closureFor_of (scope:=scope) (env:=X.env) (freeC_of I.ok hfr)
 rw [exec_Assign_Name_used _ _ _ _ hsw]
 refine wpAny_bind (wpAny_standAt (wpAny_bind ?_))
 show wpAny _ X.A (do let _ <-comprehension (.ListComp elt [⟨tg,iter,ifs,0⟩] scope pos) scope X.env _ (newList []) false (eval iter X.env) (some (assign (.Name y py) X.env))) _ _ s
 refine wpAny_bind (wpAny_mono (wpAny_comprehension_free (use:=some (assign (.Name y py) X.env)) (Q:=fun _ s'=>SP X pins D0 .next s') rfl hs hclos hkind hnames'
  (thn (hi pins s sg H _ I h) fun v s1 h1=>thn h1 fun itv s2 h2=>?_)) (fun _ s' hq=>wpAny_pure (wpAny_pure hq)) fun _ _ e=>e)
 obtain ⟨it,fp,tn,J,H2,e,I2,T,st2,f2,hw⟩:=h2
 subst e
 refine lc_block (Q:=fun x H1=>gName i x sg H1 D0.nx) (RR:=fun acc C=>compPost (model X.prog X.w) X.A X.xe (some (assign (.Name y py) X.env)) (fun _ s'=>SP X pins D0 .next s') acc C) hc hcap hkind hcell' hg hgk ht he hcl1 hcl2 I2 T st2 f2 hw ?_
 intro D C s' H' m' I' hn hfree hCs hCc hCp hCl q
 show wpAny _ X.A (assign (.Name y py) X.env (.ref D)) _ _ _
 refine wpAny_assign_Name (store_ok2 I' hN hiy (.inl hy) (v:=.ref D) rfl (fun s3 I3 ⟨a,hs3,ha⟩=>?_) (.inr hy))
 have hCa:C≠a:=by
  rcases ha with z | z
  ·rw [z]; exact hCl
  ·exact fun z'=>hCc y a z z'.symm
 refine ⟨m',hn.sameBut hs3 hCa,fun h' hs'=>?_⟩
 exact ⟨_,H',I3.turned (t':=s3.toks) (it:=C) (fun b o hb e=>(hs'.2 b hb).trans e) hfree hCl (.inr (Nat.le_trans I2.sz hCs)) hCc hCp,q⟩
end
end L2
namespace L2
open PySem PySem.Spec PyProof.Rows
section
variable {X:Cx}
def rSlS:V->Option Int->Option Int->Hp->VK->Prop:=fun x lo hi H Q=>∃ z,x=.str z/\z.length<=sizeLine/\Q (.str (Txt.slice z lo hi)) H
theorem sl_str:SlR X rSlS:=by
 intro pins s sg H x v vl vu lo hi sl Q I rx hs pl pu h
 obtain ⟨z,rfl,hz,q⟩:=h
 obtain ⟨t,rfl⟩:=rx
 refine ⟨"str",_,F.slot_str_getitem.lookup,typeIs_str _ _ _,?_⟩
 have fin:∀ t' k,EP X pins sg Q (.str (Txt.slice z lo hi) t') { s with toks:=k }:=fun t' k=>⟨.str _,H,I.tok _,⟨_,rfl⟩,q⟩
 have le:=Nat.le_trans (Txt.slice_le z lo hi) hz
 cases pl with
 | none=>
  cases pu with
  | none=>exact wpAny_getItem_str_slice (l:=none) (u:=none) (st:=none) hs rfl (post_val_or_str ⟨le,fin⟩)
  | int j uj=>exact wpAny_getItem_str_slice (l:=none) (u:=some (j,uj)) (st:=none) hs rfl (post_val_or_str ⟨le,fin⟩)
 | int i ui=>
  cases pu with
  | none=>exact wpAny_getItem_str_slice (l:=some (i,ui)) (u:=none) (st:=none) hs rfl (post_val_or_str ⟨le,fin⟩)
  | int j uj=>exact wpAny_getItem_str_slice (l:=some (i,ui)) (u:=some (j,uj)) (st:=none) hs rfl (post_val_or_str ⟨le,fin⟩)
end
section
variable {X:Cx}{K:PySem.W.Frag}
theorem pg_tupK{es:List Expr}{k:Nat}{t:TGs}{n:Nat}{pos:Pos}(hK:X.K=K)(hc:X.calm=true)(h:PGs X es t)
  (hn:(assignEach es X.env).length=n:=by rfl) (hst:(assignEach es X.env).findIdx? (·.1)=none:=by rfl):PG X (.Tuple es k pos) (gTup K n t):=by subst hK; exact pg_tup hc h hn hst
end
theorem bt_list:bootBuiltins "list"=some (.type "list"):=by decide +kernel
theorem bt_isinstance:bootBuiltins "isinstance"=some (.builtin "isinstance"):=by decide +kernel
theorem bt_enumerate:bootBuiltins "enumerate"=some (.type "enumerate"):=by decide +kernel
end L2
namespace L2
open PySem PySem.Spec PyProof.Rows
section
variable {X:Cx}{pos:Pos}
def Ite(K:PySem.W.Frag)(a:Addr):It:=
 ⟨fun i H=>∃ xs x,SqL K H a xs/\xs[i]?=some x,fun i H v H'=>∃ p x,v=.ref p/\H p=none/\H'=upd H p (.tup [.int i,x])/\∀ xs,SqL K H a xs->xs[i]?=some x,fun i H=>∃ xs,SqL K H a xs/\xs.length<=i⟩
theorem turn_enum{P:Program}{w:World}{K:PySem.W.Frag}{elts:List Expr}{x1:Nat}{tp:Pos}(a it e:Addr)(hne:e≠it) :
  Turn P w K (.Tuple elts x1 tp) (Ite K a) [e,it] e (fun i h=>(∃ old,IsEnum h e it i old)/\h.IsListIter it a i) where
 mem:=by simp
 obj:=fun i h st b hb=>by
  obtain ⟨⟨old,he⟩,o,ho,hc,hd⟩:=st
  rcases List.mem_cons.mp hb with z | z
  ·subst z
   exact ⟨_,he,fun v z=>by
    have z':Data.fields _=Data.cell v:=z
    cases z'⟩
  ·have z':b=it:=by simpa using z
   subst z'
   exact ⟨o,ho,fun v z=>by rw [hd] at z; cases z⟩
 keep:=fun i h h' st k=>by
  obtain ⟨⟨old,he⟩,hi⟩:=st
  exact ⟨⟨old,k e (by simp) _ he⟩,hi.at fun o q=>k it (by simp) o q⟩
 item:=by
  intro X hP hw hK hc i pins s sg H E I hf st hg
  subst hP hw hK
  obtain ⟨⟨old,he⟩,hit⟩:=st
  obtain ⟨xs,x,hq,hx⟩:=hg
  obtain ⟨its,rv,p,hz⟩:=I.list hq
  obtain ⟨u,hu,ru⟩:=rv.get hx
  obtain ⟨f0,f1,f2,f3,f4,f5⟩:=hf e (by simp)
  obtain ⟨g0,g1,g2,g3,g4,g5⟩:=hf it (by simp)
  refine wpAny_pyNext_enum_item he hit p.isList (x:=u) (by simpa using hu) hne fun h1 eo hit1 htup hsz keep1=>?_
  refine ⟨_,rfl,wpAny_letOwnedTupleGo_enum eo fun h2 en sb=>?_⟩
  have hn:H s.heap.objs.size=none:=I.hok.fresh (Nat.le_refl _)
  have elt:e < s.heap.objs.size:=Heap.lt_size he
  have keep2:∀ b o,b≠e->b≠it->s.heap.get? b=some o->h2.get? b=some o:=fun b o n1 n2 q=>(sb.2 b n1).trans (keep1 b o n1 n2 q)
  have tup2:h2.get? s.heap.objs.size=some { cls:=.type "tuple",data:=.seq #[.int i s.toks,u] }:=(sb.2 _ (Nat.ne_of_gt elt)).trans htup
  have nH:∀ b v,H b=some v->b≠e/\b≠it/\b≠s.heap.objs.size:=fun b v q=>⟨(fun z=>by rw [z,f0] at q; cases q),(fun z=>by rw [z,g0] at q; cases q),ne_of_none q hn⟩
  have I2:Inv X pins sg (upd H s.heap.objs.size (.tup [.int i,x])) { s with heap:=h2,toks:=s.toks+1 }:=by
   refine I.step (g':=s.gens) (d':=s.drawn) (ch:=[e,it]) (fun b hb=>?_) (fun b o _ _ hc q _=>keep2 b o (fun z=>hc (by simp [z])) (fun z=>hc (by simp [z])) q)
    (fun b o _ _ hc q _=>⟨o.slots,keep2 b o (fun z=>hc (by simp [z])) (fun z=>hc (by simp [z])) q⟩) (fun b o hc q n=>by rw [upd_ne (Nat.ne_of_lt (Heap.lt_size q))]; exact n)
    (fun b o hc q=>⟨o,keep2 b o (fun z=>hc (by simp [z])) (fun z=>hc (by simp [z])) q⟩) (fun b ys q=>by rw [upd_ne (nH b _ q).2.2]; exact q) (fun b o v q=>by rw [upd_ne (nH b _ q).2.2]; exact q)
    (fun b ps q=>⟨#[],by rw [upd_ne (nH b _ q).2.2,q]; simp⟩) (fun m hm=>?_) (fun b v q=>?_) I.bare
   ·rcases List.mem_cons.mp hb with z | z
    ·subst z; exact ⟨f3,f1,f4,f5⟩
    ·have z':b=it:=by simpa using z
     subst z'; exact ⟨g3,g1,g4,g5⟩
   ·obtain ⟨o,es,ep,ho,r⟩:=hm
    exact ⟨o,es,ep,keep2 _ o (Ne.symm f1) (Ne.symm g1) ho,r⟩
   ·by_cases hb:b=s.heap.objs.size
    ·subst hb
     rw [upd_same] at q
     cases q
     exact ⟨by show 2<=sizeLine; decide,[.int i s.toks,u],.cons ⟨_,rfl⟩ (.cons ru .nil),_,tup2,rfl,_,rfl⟩
    ·rw [upd_ne hb] at q
     refine (I.hok b v q).stay (fun c v' hc q'=>?_) (fun c q'=>by rw [upd_ne (nH c _ q').2.2]; exact q') fun c ys q'=>by rw [upd_ne (nH c _ q').2.2]; exact q'
     rcases hc with z | z
     ·exact keep2 c v' (by rw [z]; exact (nH b v q).1) (by rw [z]; exact (nH b v q).2.1) q'
     ·exact keep2 c v' (nH c _ z).1 (nH c _ z).2.1 q'
  refine ⟨.ref s.heap.objs.size,_,I2,rfl,⟨s.heap.objs.size,x,rfl,hn,rfl,fun ys hy=>by rw [I.list_inj hy hq]; exact hx⟩,⟨⟨_,en⟩,?_⟩,fun b hb=>?_⟩
  ·obtain ⟨o,ho,r⟩:=hit1
   exact ⟨o,(sb.2 it (Ne.symm hne)).trans ho,r⟩
  ·rcases List.mem_cons.mp hb with z | z
   ·subst z; rw [upd_ne (Nat.ne_of_lt elt)]; exact f0
   ·have z':b=it:=by simpa using z
    subst z'
    obtain ⟨o,ho,_⟩:=hit
    rw [upd_ne (Nat.ne_of_lt (Heap.lt_size ho))]; exact g0
 done:=by
  intro X hP hw hK hc i pins s sg H E I hf st hg
  subst hP hw hK
  obtain ⟨⟨old,he⟩,hit⟩:=st
  obtain ⟨xs,hq,hx⟩:=hg
  obtain ⟨its,rv,p,hz⟩:=I.list hq
  obtain ⟨g0,g1,g2,g3,g4,g5⟩:=hf it (by simp)
  have hl:=rv.length
  exact wpAny_pyNext_enum_end (I.ok.hd hc) he hit p.isList (by simp; lia) fun h' eb=>⟨rfl,I.turned (t':=s.toks) (fun b o hb q=>eb b o hb q) g0 g1 g3 g4 g5⟩
 self:=fun _ _ _ _ _ st h=>by
  obtain ⟨⟨old,he⟩,_⟩:=st
  exact wpAny_pyIter_enum he h
def iEnum(K:PySem.W.Frag)(ta:TA):TI:=fun sg H R=>ta sg H fun vs H1=>∃ a,vs=[.ref a]/\(∃ xs,SqL K H1 a xs)/\R (Ite K a) H1
theorem pi_enum{elts:List Expr}{x1:Nat}{tp:Pos}{a:Expr}{ta:TA}{p pos:Pos}(hg:Gl X "enumerate")(hm:X.mg "enumerate"=none)(ha:PA X [a] ta)(hs:starEach [a] X.env=[(false,eval a X.env)]:=by rfl) :
  PI X (.Tuple elts x1 tp) (.Call (.Name "enumerate" p) [a] [] pos) (iEnum X.K ta):=by
 intro pins s sg H R I h
 refine Call_ (ld_blt I hg hm bt_enumerate (PyProof.Rows.callWith_type1 (thn (ha pos pins s sg H _ I h) fun us s1 ⟨vs,H1,I1,r1,q1⟩=>?_) hs rfl))
 obtain ⟨a',rfl,⟨xs,hq⟩,q⟩:=q1
 obtain ⟨u,rfl,ru⟩:=vals1 r1
 cases ru
 obtain ⟨its,rv,pl,hz⟩:=I1.list hq
 refine call_enumerate_list pl.isList fun h' en il hsz kp=>?_
 refine wpAny_pyIter_enum en ?_
 have I2:Inv X pins sg H1 { s1 with heap:=h' }:=I1.kept (t':=s1.toks) kp
 refine ⟨s1.heap.objs.size+1,[s1.heap.objs.size+1,s1.heap.objs.size],_,_,H1,rfl,I2,turn_enum a' s1.heap.objs.size (s1.heap.objs.size+1) (Nat.succ_ne_self _),⟨⟨_,en⟩,il⟩,fun b hb=>?_,q⟩
 rcases List.mem_cons.mp hb with z | z
 ·subst z; exact I1.fpOk (Nat.le_succ _) (I1.hok.fresh (Nat.le_succ _))
 ·have z':b=s1.heap.objs.size:=by simpa using z
  subst z'; exact I1.fpOk (Nat.le_refl _) (I1.hok.fresh (Nat.le_refl _))
end
end L2
namespace L2
open PySem PySem.Spec PyProof.Rows
section
variable {X:Cx}
def rIsi(K:PySem.W.Frag):List V->Hp->VK->Prop:=fun xs H Q=>∃ x c t k,xs=[x,.ty c]/\TyOf K H x t/\PySem.W.kitOne K t (.type c)=some k/\Q (.bl k) H
theorem call_isi:CallR X (.builtin "isinstance") (rIsi X.K):=by
 intro pins s sg H xs us Q I r h
 obtain ⟨x,c,t,k,rfl,ty,e,q⟩:=h
 obtain ⟨u,u2,rfl,ru,ru2⟩:=vals2 r
 cases ru2
 exact isinst_ok I ru ty e fun tk=>⟨.bl k,H,I.tok _,rfl,q⟩
end
end L2
namespace L2
open PySem PySem.Spec PyProof.Rows
section
variable {X:Cx}
theorem rel_key{k:Key}{v:Value}(h:keyIs k v=true):RelV (kV k) v:=by
 rcases keyIs_shape h with ⟨i,t,rfl,rfl⟩ | ⟨x,t,rfl,rfl⟩
 ·exact ⟨t,rfl⟩
 ·exact ⟨t,rfl⟩
theorem vals_of_get:∀ {xs:List V} {us:List Value},xs.length=us.length->(∀ (j:Nat) x u,xs[j]?=some x->us[j]?=some u->RelV x u)->Vals xs us:=by
 intro xs
 induction xs with
 | nil=>
  intro us hl _
  cases us with
  | nil=>exact .nil
  | cons _ _=>cases hl
 | cons x xs ih=>
  intro us hl h
  cases us with
  | nil=>cases hl
  | cons u us=>exact .cons (h 0 x u rfl rfl) (ih (Nat.succ.inj hl) fun j y v e1 e2=>h (j+1) y v e1 e2)
theorem kv_get{κ:Type}{kvs:List (κ × V)}{vs:List (κ × Value)}{j:Nat}{p:κ × V}(h:KV kvs vs):kvs[j]?=some p->∃ q,vs[j]?=some q/\p.1=q.1/\RelV p.2 q.2:=by
 induction h generalizing j with
 | nil=>intro e; cases e
 | cons r t ih=>
  intro e
  cases j with
  | zero=>obtain rfl:=Option.some.inj e; exact ⟨_,rfl,r⟩
  | succ j=>exact ih (j:=j) e
theorem call_list_dict(hc:X.calm=true):CallR X (.type "list") (fun xs H Q=>∃ a kvs,xs=[V.ref a]/\Rd H a (.dK kvs)/\∀ l,H l=none->Q (.ref l) (upd H l (.lst (kvs.map fun kv=>kV kv.1)))):=by
 intro pins s σ H xs us Q I rv h
 obtain ⟨a,kvs,rfl,e,q⟩:=h
 obtain ⟨u,rfl,ru⟩:=rv.one
 cases ru
 obtain ⟨z,hd,vs,rel,dd⟩:=dk_rd I.hok e
 have hl:vs.length<=sizeLine:=by rw [<-rel.length]; exact z
 obtain ⟨ep,da⟩:=dd.dictAt
 refine PySem.W.kdl_call (PySem.W.kdl_dict (knd:=mixKind X.prog X.w) (kvs:=vs) (ep:=ep) hd) (I.ok.hd hc) da hl fun h' tk acc c hk hnew hit=>?_
 have hv:Vals (kvs.map fun kv=>kV kv.1) acc.toList:=by
  refine vals_of_get (by have h1:=hit.1; have h2:=rel.length; simp only [List.length_map,Array.length_toList]; lia) fun j x u e1 e2=>?_
  rw [List.getElem?_map] at e1
  obtain ⟨p,h1,h2⟩:=Qm e1
  obtain ⟨k,y,h3,h4⟩:=hit.2 j u (by simpa using e2)
  obtain ⟨w,h5,h6⟩:=kv_get rel h1
  rw [h3] at h5
  injection h5 with h5
  subst h5 h2
  rw [h6.1]
  exact rel_key h4
 exact ⟨.ref _,_,I.laid (a:=s.heap.objs.size) (o:=.lst (kvs.map fun kv=>kV kv.1)) (t':=tk) hk (Nat.le_refl _) ⟨by rw [List.length_map]; exact z,acc.toList,c,hv,by rw [hnew]⟩,rfl,q _ (I.hok.fresh (Nat.le_refl _))⟩
end
end L2
namespace L2
open PySem PySem.Spec PyProof.Rows
section
variable {X:Cx}{a:Expr}{ta:TA}{pos p p' pos':Pos}
def tLR(ta:TA):TE:=fun σ H Q=>ta σ H fun vs H1=>∃ j:Int,vs=[.int j]/\-(2 ^ 62)<=j/\j<=16777216/\∀ l,H1 l=none->Q (.ref l) (upd H1 l (.lst ((List.range j.toNat).map fun (k:Nat)=>V.int k)))
theorem pe_listRange(hc:X.calm=true)(hg:Gl X "list")(hm:X.mg "list"=none)(hg':Gl X "range")(hm':X.mg "range"=none)(ha:PA X [a] ta)(hs:starEach [a] X.env=[(false,eval a X.env)]:=by rfl)
  (hs':starEach [.Call (.Name "range" p') [a] [] pos'] X.env=[(false,eval (.Call (.Name "range" p') [a] [] pos') X.env)]:=by rfl) :
  PE X (.Call (.Name "list" p) [.Call (.Name "range" p') [a] [] pos'] [] pos) (tLR ta):=by
 intro pins s σ H Q I h
 refine Call_ (ld_blt I hg hm boot_list (PyProof.Rows.callWith_type1 ?_ hs' rfl))
 rw [hs']
 show wpAny _ _ (spliced [(false,eval (.Call (.Name "range" p') [a] [] pos') X.env)]) _ _ s
 refine Calls.spliced_cons (Call_ (ld_blt I hg' hm' boot_range (PyProof.Rows.callWith_type1 (thn (ha pos' pins s σ H _ I h) fun us s1 ⟨vs,H1,I1,r1,q1⟩=>?_) hs rfl)))
 obtain ⟨j,e,q1,q2,q⟩:=q1
 subst e
 cases r1 with
 | cons r rr=>
  cases rr
  obtain ⟨t,rfl⟩:=r
  refine call_range_1 (Calls.spliced_nil ?_)
  have I2:Inv X pins σ H1 { s1 with heap:=s1.heap.push { cls:=.type "range",data:=.fields #[.int 0 s1.toks,.int j t,.int 1 (s1.toks+1)] },toks:=s1.toks+1+1 }:=I1.kept fun b o e=>Heap.get?_push_of_some _ e
  have hn:Builtin.Range.rangeSize 0 j 1=(j.toNat:Int):=by rw [rangeSize_one]; split<;>lia
  refine call_list_range (I2.ok.hd hc) (IsRange.new ..) (small_one (by lia) (by lia) q1 (by lia)) hn (by lia) fun h' tk acc c hk hnew hit=>?_
  have hv:Vals ((List.range j.toNat).map fun (k:Nat)=>V.int k) acc.toList:=by
   refine vals_of_get (by have h1:=hit.1; simp only [List.length_map,List.length_range,Array.length_toList]; lia) fun i x u e1 e2=>?_
   rw [List.getElem?_map] at e1
   obtain ⟨k,h1,h2⟩:=Qm e1
   obtain ⟨tk',h3⟩:=hit.2 i u (by simpa using e2)
   obtain ⟨h4,rfl⟩:=List.getElem?_eq_some_iff.mp h1
   subst h2 h3
   rw [List.getElem_range]
   exact ⟨tk',by rw [Int.zero_add,Int.mul_one]⟩
  exact ⟨.ref _,_,I2.laid (o:=.lst ((List.range j.toNat).map fun (k:Nat)=>V.int k)) (t':=tk) hk (Nat.le_refl _) ⟨by rw [List.length_map,List.length_range,sizeLine_eq]; lia,acc.toList,c,hv,by rw [hnew]⟩,rfl,q _ (I2.hok.fresh (Nat.le_refl _))⟩
end
end L2
namespace Dw
open PySem PySem.Spec PyProof.Rows L2
def Sx(l:List Nat):Str:=⟨l.toArray⟩
theorem Sx_cps(l:List Nat):(Sx l).cps.toList=l:=by simp [Sx]
theorem Sx_len(l:List Nat):(Sx l).length=l.length:=by simp [Sx,Str.length]
theorem Sx_inj{l m:List Nat}(h:Sx l=Sx m):l=m:=by
 have:=congrArg (fun x=>x.cps.toList) h
 simpa [Sx] using this
theorem Sx_app(l m:List Nat):Sx l++Sx m=Sx (l++m):=by
 show Str.mk _=_
 simp [Sx]
theorem Sx_to(l:List Nat){j:Int}(h0:0<=j)(h:j<=l.length):Txt.slice (Sx l) none (some j)=Sx (l.take j.toNat):=by
 have:=slice_closes_to (x:=Sx l) (j:=j) ⟨h0,by rw [Sx_cps]; exact h⟩
 rw [eq_of_beq this,Sx_cps]
 simp [Sx]
theorem Sx_from(l:List Nat){j:Int}(h0:0<=j)(h:j<=l.length):Txt.slice (Sx l) (some j) none=Sx (l.drop j.toNat):=by
 have:=slice_closes_from (x:=Sx l) (i:=j) ⟨h0,by rw [Sx_cps]; exact h⟩
 rw [eq_of_beq this,Sx_cps,List.take_of_length_le (by rw [List.length_drop]; lia)]
 rfl
def IsName(x:Str):Prop:=1<=x.length/\x.length<=8/\∀ c∈x.cps.toList,97<=c/\c<=122
abbrev letters:Str:="abcdefghijklmnopqrstuvwxyz"
theorem letters_at{i:Int}(h0:0<=i)(h:i < 26):atI letters.cps.toList i=some (97+i.toNat):=by
 have key:∀ j:Nat,j < 26->letters.cps.toList[j]?=some (97+j):=by decide +kernel
 have ek:i=((i.toNat:Nat):Int):=by lia
 have q:=atI_nat (key i.toNat (by lia))
 rw [<-ek] at q
 exact q
theorem letters_len:letters.length<=sizeLine:=by decide +kernel
end Dw
namespace Dw
open PySem PySem.Spec PyProof.Rows L2
structure Pairing (ps:List Nat) (n:Nat):Prop where
 len:ps.length=2*n
 lt:∀ k∈ps,k < n
 two:∀ k,k < n->ps.count k=2
structure Half (pl:List (Option Nat)) (n i:Nat):Prop where
 len:pl.length=2*n
 lt:∀ k,some k∈pl->k < i
 two:∀ k,k < i->pl.count (some k)=2
 free:pl.count none+2*i=2*n
theorem Half.start(n:Nat):Half (List.replicate (2*n) none) n 0:=by
 refine ⟨List.length_replicate ..,fun k hk=>?_,fun k hk=>absurd hk (Nat.not_lt_zero k),?_⟩
 ·have:=List.eq_of_mem_replicate hk
  cases this
 ·rw [List.count_replicate_self]; lia
theorem count_map_inj{α β:Type}[BEq α][LawfulBEq α][BEq β][LawfulBEq β]{f:α->β}(hf:∀ a b,f a=f b->a=b)(x:α):∀ l:List α,(l.map f).count (f x)=l.count x
 | []=>rfl
 | a::r=>by
  rw [List.map_cons,List.count_cons,List.count_cons,count_map_inj hf x r]
  by_cases e:a=x
  ·subst e; simp
  ·have e1:(a == x)=false:=by simpa using e
   have e2:(f a == f x)=false:=by simpa using fun z=>e (hf _ _ z)
   rw [e1,e2]
theorem getD_at{l:List Str}{k:Nat}(h:k < l.length):l.getD k Str.empty=l[k]:=by
 simp [List.getD,List.getElem?_eq_getElem h]
theorem Half.next{pl:List (Option Nat)}{n i f0 f1:Nat}(h:Half pl n i)(hi:i < n)(h0:pl[f0]?=some none)(h1:pl[f1]?=some none)(hne:f0≠f1):Half ((pl.set f1 (some i)).set f0 (some i)) n (i+1):=by
 obtain ⟨l1,e1⟩:=List.getElem?_eq_some_iff.mp h1
 have h0':(pl.set f1 (some i))[f0]?=some none:=by rw [List.getElem?_set_ne (Ne.symm hne)]; exact h0
 obtain ⟨l0,e0⟩:=List.getElem?_eq_some_iff.mp h0'
 have ci:pl.count (some i)=0:=by
  refine List.count_eq_zero.mpr fun hm=>?_
  exact absurd (h.lt i hm) (Nat.lt_irrefl _)
 have cn:=h.free
 have key:∀ x,((pl.set f1 (some i)).set f0 (some i)).count x=pl.count x - (if (none:Option Nat) == x then 1 else 0)+(if some i == x then 1 else 0) - (if (none:Option Nat) == x then 1 else 0)+(if some i == x then 1 else 0):=fun x=>by
  rw [List.count_set l0,e0,List.count_set l1,e1]
 refine ⟨by rw [List.length_set,List.length_set]; exact h.len,fun k hk=>?_,fun k hk=>?_,?_⟩
 ·rcases List.mem_or_eq_of_mem_set hk with z | z
  ·rcases List.mem_or_eq_of_mem_set z with z | z
   ·exact Nat.lt_succ_of_lt (h.lt k z)
   ·cases z; exact Nat.lt_succ_self _
  ·cases z; exact Nat.lt_succ_self _
 ·rw [key]
  by_cases e:k=i
  ·subst e
   rw [ci]
   simp
  ·have:(some i == some k)=false:=by simpa using fun z=>e z.symm
   rw [this]
   simpa using h.two k (by lia)
 ·rw [key]
  have:(some i == (none:Option Nat))=false:=rfl
  rw [this]
  have:((none:Option Nat) == none)=true:=rfl
  rw [this]
  simp only [if_true,Bool.false_eq_true,if_false]
  lia
theorem Half.done{pl:List (Option Nat)}{n:Nat}(h:Half pl n n):∃ ps:List Nat,Pairing ps n/\pl=ps.map some:=by
 have hz:pl.count none=0:=by have:=h.free; lia
 have hn:none∉pl:=List.count_eq_zero.mp hz
 obtain ⟨ps,rfl⟩:∃ ps:List Nat,pl=ps.map some:=by
  clear h hz
  induction pl with
  | nil=>exact ⟨[],rfl⟩
  | cons o r ih=>
   obtain ⟨ps,rfl⟩:=ih fun z=>hn (List.mem_cons_of_mem _ z)
   cases o with
   | none=>exact absurd List.mem_cons_self hn
   | some j=>exact ⟨j::ps,rfl⟩
 refine ⟨ps,⟨by have:=h.len; rwa [List.length_map] at this,fun k hk=>h.lt k (List.mem_map_of_mem hk),fun k hk=>?_⟩,rfl⟩
 have:=h.two k hk
 rwa [count_map_inj (fun a b z=>Option.some.inj z)] at this
theorem Pairing.put{ps sh:List Nat}{n m t:Nat}(h:Pairing ps n)(hs:Pairing sh m):Pairing (ps.take t++(sh.map fun k=>n+k)++ps.drop t) (n+m):=by
 have perm:List.Perm (ps.take t++(sh.map fun k=>n+k)++ps.drop t) (ps++sh.map fun k=>n+k):=by
  rw [List.append_assoc]
  have:List.Perm (ps.take t++((sh.map fun k=>n+k)++ps.drop t)) (ps.take t++(ps.drop t++(sh.map fun k=>n+k))):=List.Perm.append_left _ List.perm_append_comm
  refine this.trans ?_
  rw [<-List.append_assoc,List.take_append_drop]
 refine ⟨?_,fun k hk=>?_,fun k hk=>?_⟩
 ·rw [perm.length_eq,List.length_append,List.length_map,h.len,hs.len]; lia
 ·rcases List.mem_append.mp (perm.mem_iff.mp hk) with z | z
  ·have:=h.lt k z; lia
  ·obtain ⟨j,hj,rfl⟩:=List.mem_map.mp z
   have:=hs.lt j hj; lia
 ·rw [perm.count_eq,List.count_append]
  by_cases c:k < n
  ·rw [h.two k c]
   have:(sh.map fun k=>n+k).count k=0:=List.count_eq_zero.mpr fun hm=>by
    obtain ⟨j,_,e⟩:=List.mem_map.mp hm
    lia
   rw [this]
  ·have e1:ps.count k=0:=List.count_eq_zero.mpr fun hm=>c (h.lt k hm)
   obtain ⟨j,rfl⟩:∃ j,k=n+j:=⟨k - n,by lia⟩
   rw [e1,count_map_inj (f:=fun k=>n+k) (fun a b (z:n+a=n+b)=>by lia) j sh,hs.two j (by lia)]
theorem Pairing.nil:Pairing [] 0:=⟨rfl,(fun k hk=>by cases hk),fun k hk=>absurd hk (Nat.not_lt_zero k)⟩
theorem Pairing.of_dec{ps:List Nat}{n:Nat}(h1:ps.length=2*n)(h2:ps.all (fun k=>decide (k < n))=true)(h3:(List.range n).all (fun k=>decide (ps.count k=2))=true):Pairing ps n:=
 ⟨h1,fun k hk=>of_decide_eq_true (List.all_eq_true.mp h2 k hk),fun k hk=>of_decide_eq_true (List.all_eq_true.mp h3 k (List.mem_range.mpr hk))⟩
structure GoodWord (wd:List Str):Prop where
 name:∀ x∈wd,IsName x
 two:∀ x∈wd,wd.count x=2
 len:wd.length<=60
theorem goodWord_of{names:List Str}{ps:List Nat}{n:Nat}(hn:n<=30)(hl:names.length=n)(hd:names.Nodup)(hN:∀ x∈names,IsName x)(hp:Pairing ps n):GoodWord (ps.map fun k=>names.getD k Str.empty):=by
 have inj:∀ j k,j < n->k < n->names.getD j Str.empty=names.getD k Str.empty->j=k:=fun j k hj hk e=>by
  rw [getD_at (by lia),getD_at (by lia)] at e
  exact (List.getElem_inj hd).mp e
 have memn:∀ k,k < n->names.getD k Str.empty∈names:=fun k hk=>by
  rw [getD_at (by lia)]
  exact List.getElem_mem _
 have cnt:∀ (l:List Nat),(∀ k∈l,k < n)->∀ k,k < n->(l.map fun k=>names.getD k Str.empty).count (names.getD k Str.empty)=l.count k:=by
  intro l
  induction l with
  | nil=>intro _ _ _; rfl
  | cons j r ih=>
   intro hl' k hk
   rw [List.map_cons,List.count_cons,List.count_cons,ih (fun k hk=>hl' k (List.mem_cons_of_mem _ hk)) k hk]
   by_cases e:j=k
   ·subst e; simp
   ·have e1:(j == k)=false:=by simpa using e
    have e2:(names.getD j Str.empty == names.getD k Str.empty)=false:=by
     simp only [beq_eq_false_iff_ne,ne_eq]
     exact fun z=>e (inj j k (hl' j List.mem_cons_self) hk z)
    rw [e1,e2]
 refine ⟨fun x hx=>?_,fun x hx=>?_,?_⟩
 ·obtain ⟨k,hk,rfl⟩:=List.mem_map.mp hx
  exact hN _ (memn k (hp.lt k hk))
 ·obtain ⟨k,hk,rfl⟩:=List.mem_map.mp hx
  rw [cnt ps hp.lt k (hp.lt k hk),hp.two k (hp.lt k hk)]
 ·rw [List.length_map,hp.len]; lia
end Dw
namespace Dw
open PySem PySem.Spec PyProof.Rows L2
def placesOf(wd:List Str)(x:Str):List Nat:=(List.range wd.length).filter fun j=>decide (wd[j]?=some x)
theorem placesOf_len(wd:List Str)(x:Str):(placesOf wd x).length=wd.count x:=by
 unfold placesOf
 induction wd with
 | nil=>rfl
 | cons o r ih=>
  rw [List.length_cons,List.range_succ_eq_map,List.filter_cons,List.filter_map,List.count_cons]
  have e:((List.range r.length).filter ((fun j=>decide ((o::r)[j]?=some x))∘Nat.succ))=(List.range r.length).filter fun j=>decide (r[j]?=some x):=rfl
  rw [e]
  by_cases h:o=x
  ·subst h
   rw [if_pos (by simp),List.length_cons,List.length_map,ih]
   simp
  ·rw [if_neg (by simpa using h),List.length_map,ih]
   simp [h]
def stp(acc:List Str)(x:Str):List Str:=if x∈acc then acc else acc++[x]
def firsts(wd:List Str):List Str:=wd.foldl stp []
theorem firsts_next{wd:List Str}{i:Nat}{x:Str}(h:wd[i]?=some x):firsts (wd.take (i+1))=stp (firsts (wd.take i)) x:=by
 unfold firsts
 rw [List.take_succ,h,Option.toList_some,List.foldl_append]
 rfl
theorem firsts_len:∀ (wd acc:List Str),(wd.foldl stp acc).length<=acc.length+wd.length
 | [],acc=>by simp
 | x::wd,acc=>by
  rw [List.foldl_cons]
  have:=firsts_len wd (stp acc x)
  have h:(stp acc x).length<=acc.length+1:=by unfold stp; split<;>simp
  rw [List.length_cons]
  lia
end Dw
namespace L3
open PySem PySem.Spec PyProof.Rows L2
class TheK where
 K:PySem.W.Frag
variable [TheK]
inductive T where
 | non | bl (b:Bool) | int (i:Int) | str (x:Str)
 | lst (xs:List T) | tup (xs:List T) | dct (kvs:List (Key × T)) | set (S:Int->Bool) (n:Nat)
 /-- a dict that will not be changed any more: it may be walked -/
 | fd (kvs:List (Key × T))
 /-- the script -/
 | scr (ns:List Int)
 /-- nothing is known -/
 | any
abbrev Sg:=List (Option T)
inductive Rep (C:Addr->Prop) (H:Hp):V->T->Prop
 | non:Rep C H .non .non
 | bl (b:Bool):Rep C H (.bl b) (.bl b)
 | int (i:Int):Rep C H (.int i) (.int i)
 | str (x:Str):Rep C H (.str x) (.str x)
 | lst {a:Addr} {vs:List V} {ts:List T} (c:C a) (r:H a=some (.lst vs)) (l:vs.length=ts.length) (h:∀ (i:Nat) v t,vs[i]?=some v->ts[i]?=some t->Rep C H v t):Rep C H (.ref a) (.lst ts)
 | tup {a:Addr} {vs:List V} {ts:List T} (c:C a) (r:H a=some (.tup vs)) (l:vs.length=ts.length) (h:∀ (i:Nat) v t,vs[i]?=some v->ts[i]?=some t->Rep C H v t):Rep C H (.ref a) (.tup ts)
 | dct {a:Addr} {kvs:List (Key × V)} {ts:List (Key × T)} (c:C a) (r:H a=some (.dK kvs)) (l:kvs.map (·.1)=ts.map (·.1)) (h:∀ (i:Nat) v t,kvs[i]?=some v->ts[i]?=some t->Rep C H v.2 t.2):Rep C H (.ref a) (.dct ts)
 | set {a:Addr} {S:Int->Bool} {n:Nat} (c:C a) (r:H a=some (.set S n)):Rep C H (.ref a) (.set S n)
 | fd {a:Addr} {o:Obj} {kvs:List (Key × V)} {ts:List (Key × T)} (c:C a) (r:H a=some (.frz o (.dK kvs))) (l:kvs.map (·.1)=ts.map (·.1)) (h:∀ (i:Nat) v t,kvs[i]?=some v->ts[i]?=some t->Rep C H v.2 t.2):Rep C H (.ref a) (.fd ts)
 | scr {a:Addr} {ns:List Int} {o:Obj} (c:C a) (r:H a=some (.frz o (.lst (ns.map V.int)))):Rep C H (.ref a) (.scr ns)
 /-- the script,as an object of the module -/
 | scrK {a:Addr} {ns:List Int} (r:∀ H',SqL TheK.K H' a (ns.map V.int)):Rep C H (.ref a) (.scr ns)
 | any {v:V}:Rep C H v .any
def Reps(C:Addr->Prop)(H:Hp)(vs:List V)(ts:List T):Prop:=vs.length=ts.length/\∀ (i:Nat) v t,vs[i]?=some v->ts[i]?=some t->Rep C H v t
def RepK(C:Addr->Prop)(H:Hp)(vs:List (Key × V))(ts:List (Key × T)):Prop:=vs.map (·.1)=ts.map (·.1)/\∀ (i:Nat) v t,vs[i]?=some v->ts[i]?=some t->Rep C H v.2 t.2
section
variable {C C':Addr->Prop}{H H':Hp}{v:V}{t:T}{vs:List V}{ts:List T}
theorem Rep.mono(h:Rep C H v t)(hc:∀ a,C a->C' a)(hh:∀ a o,C a->H a=some o->H' a=some o):Rep C' H' v t:=by
 induction h with
 | non=>exact .non
 | bl b=>exact .bl b
 | int i=>exact .int i
 | str x=>exact .str x
 | lst c r l h ih=>exact .lst (hc _ c) (hh _ _ c r) l ih
 | tup c r l h ih=>exact .tup (hc _ c) (hh _ _ c r) l ih
 | dct c r l h ih=>exact .dct (hc _ c) (hh _ _ c r) l ih
 | set c r=>exact .set (hc _ c) (hh _ _ c r)
 | fd c r l h ih=>exact .fd (hc _ c) (hh _ _ c r) l ih
 | scr c r=>exact .scr (hc _ c) (hh _ _ c r)
 | scrK r=>exact .scrK r
 | any=>exact .any
theorem Rep.there(h:Rep C H v t):Rep (fun a=>C a/\H a≠none) H v t:=by
 induction h with
 | non=>exact .non
 | bl b=>exact .bl b
 | int i=>exact .int i
 | str x=>exact .str x
 | lst c r l h ih=>exact .lst ⟨c,by rw [r]; simp⟩ r l ih
 | tup c r l h ih=>exact .tup ⟨c,by rw [r]; simp⟩ r l ih
 | dct c r l h ih=>exact .dct ⟨c,by rw [r]; simp⟩ r l ih
 | set c r=>exact .set ⟨c,by rw [r]; simp⟩ r
 | fd c r l h ih=>exact .fd ⟨c,by rw [r]; simp⟩ r l ih
 | scr c r=>exact .scr ⟨c,by rw [r]; simp⟩ r
 | scrK r=>exact .scrK r
 | any=>exact .any
theorem Reps.mono(h:Reps C H vs ts)(hc:∀ a,C a->C' a)(hh:∀ a o,C a->H a=some o->H' a=some o):Reps C' H' vs ts:=⟨h.1,fun i v t e1 e2=>(h.2 i v t e1 e2).mono hc hh⟩
theorem RepK.mono{ks:List (Key × V)}{kt:List (Key × T)}(h:RepK C H ks kt)(hc:∀ a,C a->C' a)(hh:∀ a o,C a->H a=some o->H' a=some o):RepK C' H' ks kt:=⟨h.1,fun i v t e1 e2=>(h.2 i v t e1 e2).mono hc hh⟩
theorem Reps.there(h:Reps C H vs ts):Reps (fun a=>C a/\H a≠none) H vs ts:=⟨h.1,fun i v t e1 e2=>(h.2 i v t e1 e2).there⟩
theorem RepK.there{ks:List (Key × V)}{kt:List (Key × T)}(h:RepK C H ks kt):RepK (fun a=>C a/\H a≠none) H ks kt:=⟨h.1,fun i v t e1 e2=>(h.2 i v t e1 e2).there⟩
theorem Reps.nil:Reps C H [] []:=⟨rfl,fun i v t e=>by simp at e⟩
theorem Reps.cons(h:Rep C H v t)(hs:Reps C H vs ts):Reps C H (v::vs) (t::ts):=by
 refine ⟨by simp [hs.1],fun i v' t' e1 e2=>?_⟩
 cases i with
 | zero=>simp at e1 e2; subst e1 e2; exact h
 | succ i=>exact hs.2 i v' t' (by simpa using e1) (by simpa using e2)
theorem Reps.head(hs:Reps C H (v::vs) (t::ts)):Rep C H v t:=hs.2 0 v t rfl rfl
theorem Reps.tail(hs:Reps C H (v::vs) (t::ts)):Reps C H vs ts:=⟨by simpa using hs.1,fun i v' t' e1 e2=>hs.2 (i+1) v' t' (by simpa using e1) (by simpa using e2)⟩
theorem Reps.get{i:Nat}(hs:Reps C H vs ts)(e:ts[i]?=some t):∃ v,vs[i]?=some v/\Rep C H v t:=by
 have hi:i < ts.length:=(List.getElem?_eq_some_iff.mp e).1
 have hv:i < vs.length:=by rw [hs.1]; exact hi
 exact ⟨vs[i],List.getElem?_eq_getElem hv,hs.2 i _ t (List.getElem?_eq_getElem hv) e⟩
theorem Reps.append{vs':List V}{ts':List T}(h:Reps C H vs ts)(h':Reps C H vs' ts'):Reps C H (vs++vs') (ts++ts'):=by
 refine ⟨by simp [h.1,h'.1],fun i v t e1 e2=>?_⟩
 by_cases hi:i < vs.length
 ·rw [List.getElem?_append_left hi] at e1
  rw [List.getElem?_append_left (by rw [<-h.1]; exact hi)] at e2
  exact h.2 i v t e1 e2
 ·rw [List.getElem?_append_right (by lia)] at e1
  rw [List.getElem?_append_right (by rw [<-h.1]; lia),<-h.1] at e2
  exact h'.2 _ v t e1 e2
theorem Reps.drop(n:Nat)(h:Reps C H vs ts):Reps C H (vs.drop n) (ts.drop n):=⟨by simp [h.1],fun i v t e1 e2=>h.2 (n+i) v t (by simpa using e1) (by simpa using e2)⟩
theorem Reps.take(n:Nat)(h:Reps C H vs ts):Reps C H (vs.take n) (ts.take n):=⟨by simp [h.1],fun i v t e1 e2=>by
 rw [List.getElem?_take] at e1 e2
 split at e1
 ·rename_i hi
  rw [if_pos hi] at e2
  exact h.2 i v t e1 e2
 ·cases e1⟩
theorem Reps.set(n:Nat)(h:Reps C H vs ts)(r:Rep C H v t):Reps C H (vs.set n v) (ts.set n t):=⟨by simp [h.1],fun i v' t' e1 e2=>by
 rw [List.getElem?_set] at e1 e2
 by_cases hi:n=i
 ·rw [if_pos hi] at e1 e2
  split at e1
  ·split at e2
   ·cases e1; cases e2; exact r
   ·cases e2
  ·cases e1
 ·rw [if_neg hi] at e1 e2
  exact h.2 i v' t' e1 e2⟩
inductive Live (C:Addr->Prop) (H:Hp):Addr->T->Prop
 | lst {a:Addr} {vs:List V} {ts:List T} (r:H a=some (.lst vs)) (h:Reps C H vs ts):Live C H a (.lst ts)
 | dct {a:Addr} {kvs:List (Key × V)} {ts:List (Key × T)} (r:H a=some (.dK kvs)) (h:RepK C H kvs ts):Live C H a (.dct ts)
 | set {a:Addr} {S:Int->Bool} {n:Nat} (r:H a=some (.set S n)):Live C H a (.set S n)
 | any {a:Addr} {o:HO} (r:H a=some o):Live C H a .any
variable {a:Addr}
theorem Live.mono(h:Live C H a t)(hc:∀ a,C a->C' a)(hh:∀ a o,C a->H a=some o->H' a=some o)(ha:∀ o,H a=some o->H' a=some o):Live C' H' a t:=by
 cases h with
 | lst r h=>exact .lst (ha _ r) (h.mono hc hh)
 | dct r h=>exact .dct (ha _ r) (h.mono hc hh)
 | set r=>exact .set (ha _ r)
 | any r=>exact .any (ha _ r)
theorem Live.there(h:Live C H a t):Live (fun a=>C a/\H a≠none) H a t:=by
 cases h with
 | lst r h=>exact .lst r h.there
 | dct r h=>exact .dct r h.there
 | set r=>exact .set r
 | any r=>exact .any r
theorem Live.ne(h:Live C H a t):H a≠none:=by
 cases h with
 | lst r h=>rw [r]; simp
 | dct r h=>rw [r]; simp
 | set r=>rw [r]; simp
 | any r=>rw [r]; simp
theorem Live.rep(h:Live C H a t)(hc:∀ b,C b->C' b)(ha:C' a):Rep C' H (.ref a) t:=by
 cases h with
 | lst r h=>exact .lst ha r h.1 fun i v t e1 e2=>(h.2 i v t e1 e2).mono hc fun _ _ _ e=>e
 | dct r h=>exact .dct ha r h.1 fun i v t e1 e2=>(h.2 i v t e1 e2).mono hc fun _ _ _ e=>e
 | set r=>exact .set ha r
 | any r=>exact .any
end
structure Fr where
 H0:Hp
 C0:Addr->Prop
 D:Addr->Prop
 adr:Nat->Addr
def Free(F:Fr)(O:Addr->Prop):Addr->Prop:=fun a=>¬ O a/\(F.C0 a∨F.H0 a=none)
theorem Free.weak{F:Fr}{O O':Addr->Prop}{a:Addr}(h:∀ b,O' b->O b)(x:Free F O a):Free F O' a:=⟨fun z=>x.1 (h _ z),x.2⟩
structure Rel (F:Fr) (O:Addr->Prop) (M:List Nat) (s:Sg) (σ:L2.St) (H:Hp):Prop where
 len:s.length=σ.length
 val:∀ (i:Nat) t,s[i]?=some (some t)->i∉M->∃ v,σ[i]?=some (some v)/\Rep (Free F O) H v t
 own:∀ (i:Nat) t,s[i]?=some (some t)->i∈M->∃ a,σ[i]?=some (some (.ref a))/\Live (Free F O) H a t
 ow:∀ (i:Nat) a,i∈M->σ[i]?=some (some (.ref a))->O a
 dis:∀ (i j:Nat) a,i∈M->j∈M->σ[i]?=some (some (.ref a))->σ[j]?=some (some (.ref a))->i=j
 keep:∀ b o,¬ F.D b->F.H0 b=some o->H b=some o
 dom:∀ b,H b=none->F.H0 b=none
 fresh:∀ a,O a->F.D a∨F.H0 a=none
 inD:∀ a,F.D a->O a
 al:∀ a,O a->H a≠none
structure Step (σ:L2.St) (M:List Nat) (H H':Hp):Prop where
 keep:∀ b o,(∀ (i:Nat),i∈M->σ[i]?≠some (some (.ref b)))->H b=some o->H' b=some o
 dom:∀ b,H' b=none->H b=none
section
variable {F:Fr}{O:Addr->Prop}{M:List Nat}{s s':Sg}{σ:L2.St}{H H' H'':Hp}{v:V}{t:T}{a:Addr}
theorem Step.refl:Step σ M H H:=⟨fun _ _ _ h=>h,fun _ h=>h⟩
theorem Step.trans(x:Step σ M H H')(y:Step σ M H' H''):Step σ M H H'':=⟨fun b o n h=>y.keep b o n (x.keep b o n h),fun b h=>x.dom b (y.dom b h)⟩
theorem Step.new(h:H a=none)(o:HO):Step σ M H (upd H a o):=⟨fun b u _ q=>by rw [upd_ne (ne_of_none q h)]; exact q,fun b h'=>by
 unfold upd at h'
 split at h'
 ·cases h'
 ·exact h'⟩
theorem Rel.notOwned(R:Rel F O M s σ H)(h:¬ O a):∀ (i:Nat),i∈M->σ[i]?≠some (some (.ref a)):=fun i hi e=>h (R.ow i a hi e)
theorem Rel.stay(R:Rel F O M s σ H)(S:Step σ M H H')(h:Rep (Free F O) H v t):Rep (Free F O) H' v t:=
 h.mono (fun _ c=>c) fun a o c e=>S.keep a o (R.notOwned c.1) e
theorem Rel.less{O':Addr->Prop}(R:Rel F O M s σ H)(h:∀ b,O' b->O b)(hw:∀ (i:Nat) a,i∈M->σ[i]?=some (some (.ref a))->O' a)(hD:∀ a,F.D a->O' a):Rel F O' M s σ H where
 len:=R.len
 val:=fun i t e n=>by
  obtain ⟨v,h1,h2⟩:=R.val i t e n
  exact ⟨v,h1,h2.mono (fun _ c=>c.weak h) fun _ _ _ e=>e⟩
 own:=fun i t e n=>by
  obtain ⟨a,h1,h2⟩:=R.own i t e n
  exact ⟨a,h1,h2.mono (fun _ c=>c.weak h) (fun _ _ _ e=>e) fun _ e=>e⟩
 ow:=hw
 dis:=R.dis
 keep:=R.keep
 dom:=R.dom
 fresh:=fun a z=>R.fresh a (h a z)
 inD:=hD
 al:=fun a z=>R.al a (h a z)
theorem Rel.new(R:Rel F O M s σ H)(h:H a=none)(o:HO):Rel F (fun b=>O b∨b=a) M s σ (upd H a o):=by
 have k:∀ b u,H b=some u->upd H a o b=some u:=fun b u q=>by rw [upd_ne (ne_of_none q h)]; exact q
 have fr:∀ b,Free F O b/\H b≠none->Free F (fun b=>O b∨b=a) b:=fun b c=>⟨fun z=>z.elim c.1.1 fun z=>c.2 (z▸h),c.1.2⟩
 refine ⟨R.len,fun i t e n=>?_,fun i t e n=>?_,fun i b hi e=>.inl (R.ow i b hi e),R.dis,fun b u n e=>k _ _ (R.keep b u n e),fun b e=>?_,fun b z=>?_,fun b z=>.inl (R.inD b z),fun b z=>?_⟩
 ·obtain ⟨v,h1,h2⟩:=R.val i t e n
  exact ⟨v,h1,h2.there.mono fr fun b u _ e=>k b u e⟩
 ·obtain ⟨b,h1,h2⟩:=R.own i t e n
  exact ⟨b,h1,h2.there.mono fr (fun b u _ e=>k b u e) fun u e=>k b u e⟩
 ·refine R.dom b ?_
  unfold upd at e
  split at e
  ·cases e
  ·exact e
 ·rcases z with z | z
  ·exact R.fresh b z
  ·subst z; exact .inr (R.dom _ h)
 ·rcases z with z | z
  ·intro e
   refine R.al b z ?_
   unfold upd at e
   split at e
   ·cases e
   ·exact e
  ·subst z; rw [upd_same]; simp
end
end L3
namespace L3
open PySem PySem.Spec PyProof.Rows L2
variable [TheK]
inductive Kd where
 | e | b | n
def BRep(C:Addr->Prop)(H:Hp)(v:V)(t:T):Prop:=Rep C H v t∨∃ a,v=.ref a/\Live C H a t
def Post(k:Kd)(F:Fr)(O:Addr->Prop)(M:List Nat)(σ:L2.St)(H:Hp)(s':Sg)(t:T)(v:V)(H':Hp):Prop:=match k with
 | .e=>Rel F O M s' σ H'/\Rep (Free F O) H' v t
 | .b=>Rel F O M s' σ H'/\(Rep (Free F O) H' v t∨∃ i:Nat,i∈M/\σ[i]?=some (some v)/\s'[i]?=some (some t))
 | .n=>∃ a,v=.ref a/\H a=none/\Rel F (fun b=>O b∨b=a) M s' σ H'/\Live (Free F (fun b=>O b∨b=a)) H' a t
abbrev DE:=Sg->Option (T × Sg)
abbrev DT:=Sg->Option (Bool × Sg)
abbrev DA:=Sg->Option (List T × Sg)
def cE(k:Kd)(M:List Nat)(f:DE):TE:=fun σ H Q=>∃ F O s t s',Rel F O M s σ H/\f s=some (t,s')/\∀ v H',Step σ M H H'->Post k F O M σ H s' t v H'->Q v H'
theorem cE_{k:Kd}{M:List Nat}{f:DE}{σ:L2.St}{H:Hp}{Q:VK}(h:cE k M f σ H Q){G:Prop}(g:∀ F O s t s',Rel F O M s σ H->f s=some (t,s')->(∀ v H',Step σ M H H'->Post k F O M σ H s' t v H'->Q v H')->G):G:=by
 obtain ⟨F,O,s,t,s',R,hf,q⟩:=h
 exact g F O s t s' R hf q
def cT(M:List Nat)(f:DT):TT:=fun σ H Q=>∃ F O s b s',Rel F O M s σ H/\f s=some (b,s')/\∀ H',Step σ M H H'->Rel F O M s' σ H'->Q b H'
theorem cT_{M:List Nat}{f:DT}{σ:L2.St}{H:Hp}{Q:Bool->Hp->Prop}(h:cT M f σ H Q){G:Prop}(g:∀ F O s b s',Rel F O M s σ H->f s=some (b,s')->(∀ H',Step σ M H H'->Rel F O M s' σ H'->Q b H')->G):G:=by
 obtain ⟨F,O,s,b,s',R,hf,q⟩:=h
 exact g F O s b s' R hf q
def cA(M:List Nat)(f:DA):TA:=fun σ H Q=>∃ F O s ts s',Rel F O M s σ H/\f s=some (ts,s')/\∀ vs H',Step σ M H H'->Rel F O M s' σ H'->Reps (Free F O) H' vs ts->Q vs H'
theorem weak{X:Cx}{e:Expr}{t t':TE}(h:PE X e t)(hw:∀ σ H Q,t' σ H Q->t σ H Q):PE X e t':=fun pins s σ H Q I q=>h pins s σ H Q I (hw _ _ _ q)
theorem weakT{X:Cx}{e:Expr}{t t':TT}(h:PT X e t)(hw:∀ σ H Q,t' σ H Q->t σ H Q):PT X e t':=fun pins s σ H Q I q=>h pins s σ H Q I (hw _ _ _ q)
theorem weakW{X:Cx}{e:Expr}{t t':TT}(h:PW X e t)(hw:∀ σ H Q,t' σ H Q->t σ H Q):PW X e t':=fun wh pins s σ H Q I q=>h wh pins s σ H Q I (hw _ _ _ q)
theorem weakA{X:Cx}{es:List Expr}{t t':TA}(h:PA X es t)(hw:∀ σ H Q,t' σ H Q->t σ H Q):PA X es t':=fun pos pins s σ H Q I q=>h pos pins s σ H Q I (hw _ _ _ q)
theorem weakS{X:Cx}{e:Stmt}{t t':TS}(h:PS X e t)(hw:∀ D σ H,t' D σ H->t D σ H):PS X e t':=fun pins s σ H D I q=>h pins s σ H D I (hw _ _ _ q)
theorem weakSs{X:Cx}{e:List Stmt}{t t':TS}(h:PSs X e t)(hw:∀ D σ H,t' D σ H->t D σ H):PSs X e t':=fun pins s σ H D I q=>h pins s σ H D I (hw _ _ _ q)
section
variable {F:Fr}{O:Addr->Prop}{M:List Nat}{s s':Sg}{σ:L2.St}{H H':Hp}{v:V}{t:T}{a:Addr}
theorem Post.ne(R:Rel F O M s σ H)(h:Post .n F O M σ H s' t v H'):Post .e F O M σ H s' t v H':=by
 obtain ⟨a,rfl,h0,R',L⟩:=h
 have w:∀ b,O b->(O b∨b=a):=fun b z=>.inl z
 refine ⟨R'.less w R.ow R.inD,L.rep (fun b c=>c.weak w) ⟨fun z=>R.al a z h0,.inr (R.dom a h0)⟩⟩
theorem Post.eb(h:Post .e F O M σ H s' t v H'):Post .b F O M σ H s' t v H':=⟨h.1,.inl h.2⟩
theorem Post.view(h:Post .b F O M σ H s' t v H'):BRep (Free F O) H' v t:=by
 rcases h.2 with h2 | ⟨i,hi,e1,e2⟩
 ·exact .inl h2
 ·obtain ⟨a,e3,L⟩:=h.1.own i t e2 hi
  rw [e1] at e3
  exact .inr ⟨a,by injection e3 with e3; injection e3,L⟩
theorem Post.mkN(R:Rel F O M s σ H)(R1:Rel F O M s' σ H')(S:Step σ M H H'){p:Addr}{o:HO}(hp:H' p=none)(L:∀ C:Addr->Prop,(∀ b,Free F O b/\H' b≠none->C b)->Live C (upd H' p o) p t):Post .n F O M σ H s' t (.ref p) (upd H' p o):=
 ⟨p,rfl,S.dom p hp,R1.new hp o,L _ fun b c=>⟨fun z=>z.elim c.1.1 fun z=>c.2 (z▸hp),c.1.2⟩⟩
theorem Post.mkE(R1:Rel F O M s' σ H'){p:Addr}{o:HO}(hp:H' p=none)(L:∀ C:Addr->Prop,(∀ b,Free F O b/\H' b≠none->C b)->C p->Rep C (upd H' p o) (.ref p) t):Post .e F O M σ H s' t (.ref p) (upd H' p o):=by
 have w:∀ b,O b->(O b∨b=p):=fun b z=>.inl z
 exact ⟨(R1.new hp o).less w R1.ow R1.inD,L _ (fun b c=>c.1) ⟨fun z=>R1.al p z hp,.inr (R1.dom p hp)⟩⟩
end
section
variable {X:Cx}{M:List Nat}{e a b:Expr}{fa fb:DE}
theorem ne(h:PE X e (cE .n M fa)):PE X e (cE .e M fa):=weak h fun σ H Q h_=>cE_ h_ fun F O s t s' R hf q=>⟨F,O,s,t,s',R,hf,fun v H' S p=>q v H' S (p.ne R)⟩
theorem eb(h:PE X e (cE .e M fa)):PE X e (cE .b M fa):=weak h fun σ H Q h_=>cE_ h_ fun F O s t s' R hf q=>⟨F,O,s,t,s',R,hf,fun v H' S p=>q v H' S p.eb⟩
theorem nb(h:PE X e (cE .n M fa)):PE X e (cE .b M fa):=eb (ne h)
def dV(i:Nat):DE:=fun s=>(s[i]?).join.map fun t=>(t,s)
def dC(t:T):DE:=fun s=>some (t,s)
theorem join_some{α:Type}{o:Option (Option α)}{x:α}(h:o.join=some x):o=some (some x):=by
 cases o with
 | none=>cases h
 | some o=>cases o with
  | none=>cases h
  | some y=>injection h with h; rw [h]
theorem dV_some{i:Nat}{s s':Sg}{t:T}(h:dV i s=some (t,s')):s[i]?=some (some t)/\s'=s:=by
 unfold dV at h
 cases e:(s[i]?).join with
 | none=>rw [e] at h; cases h
 | some x=>
  rw [e] at h
  injection h with h
  injection h with h1 h2
  subst h1 h2
  exact ⟨join_some e,rfl⟩
theorem e_var{i:Nat}(hi:M.contains i=false)(h:PE X e (tVar i)):PE X e (cE .e M (dV i)):=weak h fun σ H Q h_=>cE_ h_ fun F O s t s' R hf q=>by
 obtain ⟨e1,rfl⟩:=dV_some hf
 obtain ⟨v,h1,h2⟩:=R.val i t e1 (by simpa using hi)
 exact ⟨v,h1,q v H .refl ⟨R,h2⟩⟩
theorem e_raw{i:Nat}(hi:M.contains i=true)(h:PE X e (tVar i)):PE X e (cE .b M (dV i)):=weak h fun σ H Q h_=>cE_ h_ fun F O s t s' R hf q=>by
 obtain ⟨e1,rfl⟩:=dV_some hf
 obtain ⟨a,h1,h2⟩:=R.own i t e1 (by simpa using hi)
 exact ⟨_,h1,q _ H .refl ⟨R,.inr ⟨i,by simpa using hi,h1,e1⟩⟩⟩
theorem e_con{v:V}{t:T}(hr:∀ C H,Rep C H v t)(h:PE X e (tC v)):PE X e (cE .e M (dC t)):=weak h fun σ H Q h_=>cE_ h_ fun F O s t' s' R hf q=>by
 injection hf with hf
 injection hf with h1 h2
 subst h1 h2
 exact q v H .refl ⟨R,hr _ _⟩
theorem e_int{i j pos}:PE X (.Constant (.int i) j pos) (cE .e M (dC (.int i))):=e_con (fun _ _=>.int i) pe_int
theorem e_bl{i j pos}:PE X (.Constant (.bool i) j pos) (cE .e M (dC (.bl i))):=e_con (fun _ _=>.bl i) pe_bl
theorem e_str{i j pos}:PE X (.Constant (.str i) j pos) (cE .e M (dC (.str i))):=e_con (fun _ _=>.str i) pe_str
def d2(g:T->T->Option T)(fa fb:DE):DE:=fun s=>(fa s).bind fun p=>(fb p.2).bind fun q=>(g p.1 q.1).map fun t=>(t,q.2)
def d2v(g:T->T->Option T)(i:Nat)(fb:DE):DE:=fun s=>(s[i]?).join.bind fun _=>(fb s).bind fun q=>(q.2[i]?).join.bind fun x=>(g x q.1).map fun t=>(t,q.2)
theorem d2_some{g:T->T->Option T}{s s':Sg}{t:T}(h:d2 g fa fb s=some (t,s')):∃ x s1 y,fa s=some (x,s1)/\fb s1=some (y,s')/\g x y=some t:=by
 unfold d2 at h
 cases e:fa s with
 | none=>rw [e] at h; cases h
 | some p=>
  rw [e] at h
  cases e2:fb p.2 with
  | none=>simp [e2] at h
  | some q=>
   simp only [Option.bind_some,e2] at h
   cases e3:g p.1 q.1 with
   | none=>rw [e3] at h; cases h
   | some u=>
    rw [e3] at h
    injection h with h
    injection h with h1 h2
    subst h1 h2
    exact ⟨p.1,p.2,q.1,rfl,by rw [e2],e3⟩
theorem d2v_some{g:T->T->Option T}{i:Nat}{s s':Sg}{t:T}(h:d2v g i fb s=some (t,s')):∃ x0 x y,s[i]?=some (some x0)/\fb s=some (y,s')/\s'[i]?=some (some x)/\g x y=some t:=by
 unfold d2v at h
 cases e0:(s[i]?).join with
 | none=>rw [e0] at h; cases h
 | some x0=>
 rw [e0] at h
 simp only [Option.bind_some] at h
 cases e:fb s with
 | none=>rw [e] at h; cases h
 | some q=>
  simp only [e,Option.bind_some] at h
  cases e2:(q.2[i]?).join with
  | none=>rw [e2] at h; cases h
  | some x=>
   simp only [e2,Option.bind_some] at h
   cases e3:g x q.1 with
   | none=>rw [e3] at h; cases h
   | some u=>
    rw [e3] at h
    injection h with h
    injection h with h1 h2
    subst h1 h2
    exact ⟨x0,x,q.1,join_some e0,rfl,join_some e2,e3⟩
def S2E(r:R2)(g:T->T->Option T):Prop:=∀ (C:Addr->Prop) (H:Hp) x y tx ty t (Q:VK),BRep C H x tx->BRep C H y ty->g tx ty=some t->(∀ v,Rep C H v t->Q v H)->r x y H Q
def S2N(r:R2)(g:T->T->Option T):Prop:=∀ (C:Addr->Prop) (H:Hp) x y tx ty t (Q:VK),BRep C H x tx->BRep C H y ty->g tx ty=some t->
 (∀ p o,H p=none->(∀ C':Addr->Prop,(∀ b,C b/\H b≠none->C' b)->Live C' (upd H p o) p t)->Q (.ref p) (upd H p o))->r x y H Q
theorem two_e{r:R2}{g:T->T->Option T}(h:S2E r g):∀ σ H Q,cE .e M (d2 g fa fb) σ H Q->tOp r (cE .e M fa) (cE .b M fb) σ H Q:=by
 intro σ H Q h_;refine cE_ h_ fun F O s t s' R hf q=>?_
 obtain ⟨x,s1,y,h1,h2,h3⟩:=d2_some hf
 refine ⟨F,O,s,x,s1,R,h1,fun v H1 S1 p1=>?_⟩
 refine ⟨F,O,s1,y,s',p1.1,h2,fun u H2 S2 p2=>?_⟩
 exact h (Free F O) H2 v u x y t Q (.inl (p1.1.stay S2 p1.2)) p2.view h3 fun w rw=>q w H2 (S1.trans S2) ⟨p2.1,rw⟩
theorem two_n{r:R2}{g:T->T->Option T}(h:S2N r g):∀ σ H Q,cE .n M (d2 g fa fb) σ H Q->tOp r (cE .e M fa) (cE .b M fb) σ H Q:=by
 intro σ H Q h_;refine cE_ h_ fun F O s t s' R hf q=>?_
 obtain ⟨x,s1,y,h1,h2,h3⟩:=d2_some hf
 refine ⟨F,O,s,x,s1,R,h1,fun v H1 S1 p1=>?_⟩
 refine ⟨F,O,s1,y,s',p1.1,h2,fun u H2 S2 p2=>?_⟩
 exact h (Free F O) H2 v u x y t Q (.inl (p1.1.stay S2 p1.2)) p2.view h3 fun p o hp L=>q _ _ ((S1.trans S2).trans (.new hp o)) (.mkN R p2.1 (S1.trans S2) hp L)
theorem raw_live{F:Fr}{O:Addr->Prop}{s s':Sg}{σ:L2.St}{H H':Hp}{i:Nat}{t0 t:T}(hi:i∈M)(R:Rel F O M s σ H)(R':Rel F O M s' σ H')(e0:s[i]?=some (some t0))(e:s'[i]?=some (some t)):∃ v,σ[i]?=some (some v)/\BRep (Free F O) H' v t:=by
 obtain ⟨a,h1,_⟩:=R.own i t0 e0 hi
 obtain ⟨b,h2,L⟩:=R'.own i t e hi
 rw [h1] at h2
 injection h2 with h2
 injection h2 with h2
 injection h2 with h2
 subst h2
 exact ⟨_,h1,.inr ⟨a,rfl,L⟩⟩
theorem two_ev{r:R2}{g:T->T->Option T}{i:Nat}(hi:M.contains i=true)(h:S2E r g):∀ σ H Q,cE .e M (d2v g i fb) σ H Q->tOp r (tVar i) (cE .b M fb) σ H Q:=by
 intro σ H Q h_;refine cE_ h_ fun F O s t s' R hf q=>?_
 obtain ⟨x0,x,y,h0,h1,h2,h3⟩:=d2v_some hf
 have hi':i∈M:=by simpa using hi
 obtain ⟨a,e1,_⟩:=R.own i x0 h0 hi'
 refine ⟨_,e1,F,O,s,y,s',R,h1,fun u H2 S2 p2=>?_⟩
 obtain ⟨v,e2,B⟩:=raw_live hi' R p2.1 h0 h2
 rw [e1] at e2
 injection e2 with e2
 injection e2 with e2
 subst e2
 exact h (Free F O) H2 _ u x y t Q B p2.view h3 fun w rw=>q w H2 S2 ⟨p2.1,rw⟩
end
section
variable {C:Addr->Prop}{H:Hp}{v:V}
theorem BRep.non(h:BRep C H v .non):v=.non:=by
 rcases h with h | ⟨a,rfl,h⟩<;>cases h
 rfl
theorem BRep.bl{b:Bool}(h:BRep C H v (.bl b)):v=.bl b:=by
 rcases h with h | ⟨a,rfl,h⟩<;>cases h
 rfl
theorem BRep.int{i:Int}(h:BRep C H v (.int i)):v=.int i:=by
 rcases h with h | ⟨a,rfl,h⟩<;>cases h
 rfl
theorem BRep.str{x:Str}(h:BRep C H v (.str x)):v=.str x:=by
 rcases h with h | ⟨a,rfl,h⟩<;>cases h
 rfl
theorem BRep.lst{ts:List T}(h:BRep C H v (.lst ts)):∃ a vs,v=.ref a/\H a=some (.lst vs)/\Reps C H vs ts:=by
 rcases h with h | ⟨a,rfl,h⟩
 ·cases h with | lst c r l h=>exact ⟨_,_,rfl,r,l,h⟩
 ·cases h with | lst r h=>exact ⟨_,_,rfl,r,h⟩
theorem BRep.tup{ts:List T}(h:BRep C H v (.tup ts)):∃ a vs,v=.ref a/\H a=some (.tup vs)/\Reps C H vs ts:=by
 rcases h with h | ⟨a,rfl,h⟩
 ·cases h with | tup c r l h=>exact ⟨_,_,rfl,r,l,h⟩
 ·cases h
theorem BRep.dct{ts:List (Key × T)}(h:BRep C H v (.dct ts)):∃ a kvs,v=.ref a/\H a=some (.dK kvs)/\RepK C H kvs ts:=by
 rcases h with h | ⟨a,rfl,h⟩
 ·cases h with | dct c r l h=>exact ⟨_,_,rfl,r,l,h⟩
 ·cases h with | dct r h=>exact ⟨_,_,rfl,r,h⟩
theorem BRep.fd{ts:List (Key × T)}(h:BRep C H v (.fd ts)):∃ a o kvs,v=.ref a/\H a=some (.frz o (.dK kvs))/\RepK C H kvs ts/\C a:=by
 rcases h with h | ⟨a,rfl,h⟩
 ·cases h with | fd c r l h=>exact ⟨_,_,_,rfl,r,⟨l,h⟩,c⟩
 ·cases h
theorem BRep.scr{ns:List Int}(h:BRep C H v (.scr ns)):∃ a,v=.ref a/\SqL TheK.K H a (ns.map V.int):=by
 rcases h with h | ⟨a,rfl,h⟩
 ·cases h with
  | scr c r=>exact ⟨_,rfl,.inl (.inr ⟨_,r⟩)⟩
  | scrK r=>exact ⟨_,rfl,r H⟩
 ·cases h
end
def gAdd:T->T->Option T
 | .int i,.int j=>some (.int (i+j))
 | .str x,.str y=>if x.length+y.length<=sizeLine then some (.str (x++y)) else none
 | _,_=>none
def gCat:T->T->Option T
 | .lst a,.lst b=>if a.length+b.length<=sizeLine then some (.lst (a++b)) else none
 | _,_=>none
def gI(C:Int->Int->Bool)(g:Int->Int->Int):T->T->Option T
 | .int i,.int j=>if C i j=true then some (.int (g i j)) else none
 | _,_=>none
def bMul(i j:Int):Bool:=decide (-(2 ^ 64) < i/\i < 2 ^ 64)||decide (-(2 ^ 64) < j/\j < 2 ^ 64)
def bDiv(i j:Int):Bool:=decide (0 < j/\j < 1073741824)
def bMod(i j:Int):Bool:=decide (0 < j)
def bPow(i j:Int):Bool:=decide (0<=j/\j<=1000000/\i.natAbs < 2 ^ 64)
def gSb:=gI (fun _ _=>true) fun i j=>i - j
def gMul:=gI bMul fun i j=>i*j
def gDiv:=gI bDiv fun i j=>i / j
def gMod:=gI bMod fun i j=>i%j
def gPow:=gI bPow fun i j=>i ^ j.toNat
def gCmp(p:Int->Int->Bool)(ps:Str->Str->Bool):T->T->Option T
 | .int i,.int j=>some (.bl (p i j))
 | .str i,.str j=>some (.bl (ps i j))
 | _,_=>none
section
variable {X:Cx}
theorem s_add:S2E (fun x y H Q=>rI0 (fun i j=>.int (i+j)) x y H Q∨∃ i j,x=.str i/\y=.str j/\i.length+j.length<=sizeLine/\Q (.str (i++j)) H) gAdd:=by
 intro C H x y tx ty t Q bx by' hg q
 unfold gAdd at hg
 split at hg
 ·injection hg with hg; subst hg
  exact .inl ⟨_,_,bx.int,by'.int,q _ (.int _)⟩
 ·split at hg
  ·rename_i h
   injection hg with hg; subst hg
   exact .inr ⟨_,_,bx.str,by'.str,h,q _ (.str _)⟩
  ·cases hg
 ·cases hg
theorem s_cat:S2N rCat gCat:=by
 intro C H x y tx ty t Q bx by' hg q
 unfold gCat at hg
 split at hg
 ·split at hg
  ·rename_i h
   injection hg with hg; subst hg
   obtain ⟨a,vs,rfl,ha,ra⟩:=bx.lst
   obtain ⟨b,us,rfl,hb,rb⟩:=by'.lst
   refine ⟨a,b,vs,us,rfl,rfl,ha,hb,by rw [ra.1,rb.1]; exact h,fun p hp=>q p _ hp fun C' hC=>?_⟩
   exact .lst upd_same ((ra.append rb).there.mono hC fun c o hc e=>by rw [upd_ne (ne_of_none e hp)]; exact e)
  ·cases hg
 ·cases hg
theorem s_I{P:Int->Int->Prop}{C:Int->Int->Bool}{g:Int->Int->Int}(hC:∀ i j,C i j=true->P i j):S2E (rI P fun i j=>.int (g i j)) (gI C g):=by
 intro C' H x y tx ty t Q bx by' hg q
 unfold gI at hg
 split at hg
 ·split at hg
  ·rename_i h
   injection hg with hg; subst hg
   exact ⟨_,_,bx.int,by'.int,hC _ _ h,q _ (.int _)⟩
  ·cases hg
 ·cases hg
theorem s_I0{g:Int->Int->Int}:S2E (rI0 fun i j=>.int (g i j)) (gI (fun _ _=>true) g):=by
 intro C' H x y tx ty t Q bx by' hg q
 unfold gI at hg
 split at hg
 ·split at hg
  ·injection hg with hg; subst hg
   exact ⟨_,_,bx.int,by'.int,q _ (.int _)⟩
  ·cases hg
 ·cases hg
theorem s_cmp{p:Int->Int->Bool}{ps:Str->Str->Bool}:S2E (fun x y H Q=>rI0 (fun i j=>.bl (p i j)) x y H Q∨∃ i j,x=.str i/\y=.str j/\Q (.bl (ps i j)) H) (gCmp p ps):=by
 intro C H x y tx ty t Q bx by' hg q
 unfold gCmp at hg
 split at hg
 ·injection hg with hg; subst hg
  exact .inl ⟨_,_,bx.int,by'.int,q _ (.bl _)⟩
 ·injection hg with hg; subst hg
  exact .inr ⟨_,_,bx.str,by'.str,q _ (.bl _)⟩
 ·cases hg
variable {M:List Nat}{a b:Expr}{fa fb:DE}{pos:Pos}
theorem e_add(ha:PE X a (cE .e M fa))(hb:PE X b (cE .b M fb)):PE X (.BinOp a .Add b pos) (cE .e M (d2 gAdd fa fb)):=weak (pe_op (op_add.or op_add_str) ha hb) (two_e s_add)
theorem e_cat(ha:PE X a (cE .e M fa))(hb:PE X b (cE .b M fb)):PE X (.BinOp a .Add b pos) (cE .n M (d2 gCat fa fb)):=weak (pe_op op_cat ha hb) (two_n s_cat)
theorem e_sub(ha:PE X a (cE .e M fa))(hb:PE X b (cE .b M fb)):PE X (.BinOp a .Sub b pos) (cE .e M (d2 gSb fa fb)):=weak (pe_op op_sub ha hb) (two_e s_I0)
theorem e_mul(ha:PE X a (cE .e M fa))(hb:PE X b (cE .b M fb)):PE X (.BinOp a .Mult b pos) (cE .e M (d2 gMul fa fb)):=weak (pe_op op_mul ha hb) (two_e (s_I fun i j h=>by
 unfold bMul at h
 rw [Bool.or_eq_true,decide_eq_true_iff,decide_eq_true_iff] at h
 exact h))
theorem e_div(ha:PE X a (cE .e M fa))(hb:PE X b (cE .b M fb)):PE X (.BinOp a .FloorDiv b pos) (cE .e M (d2 gDiv fa fb)):=weak (pe_op op_fdiv ha hb) (two_e (s_I fun i j h=>of_decide_eq_true (p:=0 < j/\j < 1073741824) h))
theorem e_mod(ha:PE X a (cE .e M fa))(hb:PE X b (cE .b M fb)):PE X (.BinOp a .Mod b pos) (cE .e M (d2 gMod fa fb)):=weak (pe_op op_mod ha hb) (two_e (s_I fun i j h=>of_decide_eq_true h))
theorem e_pow(ha:PE X a (cE .e M fa))(hb:PE X b (cE .b M fb)):PE X (.BinOp a .Pow b pos) (cE .e M (d2 gPow fa fb)):=weak (pe_op op_pow ha hb) (two_e (s_I fun i j h=>of_decide_eq_true (p:=0<=j/\j<=1000000/\i.natAbs < 2 ^ 64) h))
end
end L3
namespace L3
open PySem PySem.Spec PyProof.Rows L2
variable [TheK]
def scE:T->T->Option Bool
 | .non,.non=>some true | .non,.bl _=>some false | .non,.int _=>some false | .non,.str _=>some false
 | .bl a,.bl b=>some (a == b) | .bl _,.non=>some false | .bl a,.int b=>some ((if a then 1 else 0) == b) | .bl _,.str _=>some false
 | .int a,.int b=>some (a == b) | .int _,.non=>some false | .int a,.bl b=>some (a == (if b then 1 else 0)) | .int _,.str _=>some false
 | .str a,.str b=>some (a == b) | .str _,.non=>some false | .str _,.bl _=>some false | .str _,.int _=>some false
 | _,_=>none
def allE(f:T->T->Option Bool):List T->List T->Option Bool
 | x::xs,y::ys=>(f x y).bind fun b=>(allE f xs ys).map fun c=>b&&c
 | _,_=>some true
def eqD:Nat->T->T->Option Bool
 | n+1,.lst xs,.lst ys=>if xs.length=ys.length then allE (eqD n) xs ys else some false
 | n+1,.tup xs,.tup ys=>(allE (eqD n) xs ys).map fun b=>b&&xs.length == ys.length
 | _+1,.lst _,.tup _=>some false
 | _+1,.tup _,.lst _=>some false
 | _,x,y=>scE x y
def eqS(n:Nat)(x y:T):Option Bool:=match x,y with
 | .lst xs,.lst ys=>if xs.length=ys.length then allE (eqD n) xs ys else some false
 | .tup xs,.tup ys=>(allE (eqD n) xs ys).map fun b=>b&&xs.length == ys.length
 | .lst _,.tup _=>some false
 | .tup _,.lst _=>some false
 | x,y=>scE x y
theorem eqD_succ(n:Nat)(x y:T):eqD (n+1) x y=eqS n x y:=by cases x<;>cases y<;>rfl
theorem allE_get{f:T->T->Option Bool}:∀ {xs ys:List T} {b:Bool},allE f xs ys=some b->∃ e:Nat->Bool,(∀ j x y,xs[j]?=some x->ys[j]?=some y->f x y=some (e j))/\b=(List.range (min xs.length ys.length)).all e
 | [],_,b,h=>⟨fun _=>true,fun j x y e=>by simp at e,by unfold allE at h; simp at h; simp [h]⟩
 | x::xs,[],b,h=>⟨fun _=>true,fun j x y _ e=>by simp at e,by unfold allE at h; simp at h; simp [h]⟩
 | x::xs,y::ys,b,h=>by
  unfold allE at h
  cases h1:f x y with
  | none=>rw [h1] at h; cases h
  | some c=>
   rw [h1,Option.bind_some] at h
   cases h2:allE f xs ys with
   | none=>rw [h2] at h; cases h
   | some d=>
    rw [h2] at h
    injection h with h
    obtain ⟨e,he,hd⟩:=allE_get h2
    refine ⟨fun j=>match j with | 0=>c | j+1=>e j,fun j x' y' e1 e2=>?_,?_⟩
    ·cases j with
     | zero=>simp at e1 e2; subst e1 e2; exact h1
     | succ j=>exact he j x' y' (by simpa using e1) (by simpa using e2)
    ·rw [<-h,hd,List.length_cons,List.length_cons,Nat.succ_min_succ,List.range_succ_eq_map,List.all_cons,List.all_map]
     rfl
theorem rep_same{C:Addr->Prop}{H:Hp}:∀ (n:Nat) {v:V} {t t':T} {b:Bool},Rep C H v t->Rep C H v t'->eqD n t t'=some b->b=true:=by
 have sc:∀ {v:V} {t t':T} {b:Bool},Rep C H v t->Rep C H v t'->scE t t'=some b->b=true:=by
  intro v t t' b h h' e
  cases h<;>cases h'<;>simp [scE] at e<;>(try subst e)<;>simp
 intro n
 induction n with
 | zero=>intro v t t' b h h' e; unfold eqD at e; exact sc h h' e
 | succ n ih=>
  intro v t t' b h h' e
  have lists:∀ {vs:List V} {xs ys:List T} {b:Bool},Reps C H vs xs->Reps C H vs ys->allE (eqD n) xs ys=some b->b=true:=by
   intro vs xs ys b hx hy h
   obtain ⟨e,he,rfl⟩:=allE_get h
   refine List.all_eq_true.mpr fun j hj=>?_
   have hj':=List.mem_range.mp hj
   have h1:j < xs.length:=by lia
   have h2:j < ys.length:=by lia
   have h3:j < vs.length:=by rw [hx.1]; exact h1
   have q1:=hx.2 j _ _ (List.getElem?_eq_getElem h3) (List.getElem?_eq_getElem h1)
   have q2:=hy.2 j _ _ (List.getElem?_eq_getElem h3) (List.getElem?_eq_getElem h2)
   exact ih q1 q2 (he j _ _ (List.getElem?_eq_getElem h1) (List.getElem?_eq_getElem h2))
  cases h with
  | lst c r l hc=>
   cases h' with
   | lst c' r' l' hc'=>
    rw [r] at r'; cases r'
    unfold eqD at e
    split at e
    ·exact lists ⟨l,hc⟩ ⟨l',hc'⟩ e
    ·lia
   | tup c' r' l' hc'=>rw [r] at r'; cases r'
   | dct c' r' l' hc'=>simp [eqD,scE] at e
   | set c' r'=>simp [eqD,scE] at e
   | fd c' r' l' hc'=>simp [eqD,scE] at e
   | scr c' r'=>simp [eqD,scE] at e
   | scrK r'=>simp [eqD,scE] at e
   | any=>simp [eqD,scE] at e
  | tup c r l hc=>
   cases h' with
   | tup c' r' l' hc'=>
    rw [r] at r'; cases r'
    unfold eqD at e
    cases h2:allE (eqD n) _ _ with
    | none=>rw [h2] at e; cases e
    | some d=>
     rw [h2] at e
     injection e with e
     subst e
     rw [lists ⟨l,hc⟩ ⟨l',hc'⟩ h2,<-l,<-l']
     simp
   | lst c' r' l' hc'=>rw [r] at r'; cases r'
   | dct c' r' l' hc'=>simp [eqD,scE] at e
   | set c' r'=>simp [eqD,scE] at e
   | fd c' r' l' hc'=>simp [eqD,scE] at e
   | scr c' r'=>simp [eqD,scE] at e
   | scrK r'=>simp [eqD,scE] at e
   | any=>simp [eqD,scE] at e
  | non=>exact sc .non h' (by cases h'<;>simpa [eqD] using e)
  | bl x=>exact sc (.bl x) h' (by cases h'<;>simpa [eqD] using e)
  | int x=>exact sc (.int x) h' (by cases h'<;>simpa [eqD] using e)
  | str x=>exact sc (.str x) h' (by cases h'<;>simpa [eqD] using e)
  | dct c r l hc=>cases h'<;>simp [eqD,scE] at e
  | set c r=>cases h'<;>simp [eqD,scE] at e
  | fd c r l hc=>cases h'<;>simp [eqD,scE] at e
  | scr c r=>cases h'<;>simp [eqD,scE] at e
  | scrK r=>cases h'<;>simp [eqD,scE] at e
  | any=>cases t'<;>simp [eqD,scE] at e
open PySem.SeqAt
section
variable {X:Cx}{pins:List (Addr × Obj)}{σ:L2.St}{H:Hp}{s:Shared}{C:Addr->Prop}
theorem sc_at{A:Around}{x y:V}{tx ty:T}{b:Bool}{u w:Value}(hx:Rep C H x tx)(hy:Rep C H y ty)(rx:RelV x u)(ry:RelV y w)(h:scE tx ty=some b):EqAt A s u w b/\RcAt A s u w b/\RcNeAt A s u w (!b):=by
 cases hx with
 | non=>
  cases rx
  cases hy with
  | non=>cases ry; injection h with h; subst h; exact ⟨.same _,.none_none,.none_none⟩
  | bl y=>cases ry; injection h with h; subst h; exact ⟨.none_bool _,.none_bool _,.none_bool _⟩
  | int y=>obtain ⟨t,rfl⟩:=ry; injection h with h; subst h; exact ⟨.none_int _ _,.none_int _ _,.none_int _ _⟩
  | str y=>obtain ⟨t,rfl⟩:=ry; injection h with h; subst h; exact ⟨.none_str _ _,.none_str _ _,.none_str _ _⟩
  | _=>cases h
 | bl x=>
  cases rx
  cases hy with
  | non=>cases ry; injection h with h; subst h; exact ⟨.bool_none _,.bool_none _,.bool_none _⟩
  | bl y=>cases ry; injection h with h; subst h; exact ⟨.bool_bool _ _,.bool_bool _ _,.bool_bool _ _⟩
  | int y=>obtain ⟨t,rfl⟩:=ry; injection h with h; subst h; exact ⟨.bool_int _ _ _,.bool_int _ _ _,.bool_int _ _ _⟩
  | str y=>obtain ⟨t,rfl⟩:=ry; injection h with h; subst h; exact ⟨.bool_str _ _ _,.bool_str _ _ _,.bool_str _ _ _⟩
  | _=>cases h
 | int x=>
  obtain ⟨t0,rfl⟩:=rx
  cases hy with
  | non=>cases ry; injection h with h; subst h; exact ⟨.int_none _ _,.int_none _ _,.int_none _ _⟩
  | bl y=>cases ry; injection h with h; subst h; exact ⟨.int_bool _ _ _,.int_bool _ _ _,.int_bool _ _ _⟩
  | int y=>obtain ⟨t,rfl⟩:=ry; injection h with h; subst h; exact ⟨.int_int _ _ _ _,.int_int _ _ _ _,.int_int _ _ _ _⟩
  | str y=>obtain ⟨t,rfl⟩:=ry; injection h with h; subst h; exact ⟨.int_str _ _ _ _,.int_str _ _ _ _,.int_str _ _ _ _⟩
  | _=>cases h
 | str x=>
  obtain ⟨t0,rfl⟩:=rx
  cases hy with
  | non=>cases ry; injection h with h; subst h; exact ⟨.str_none _ _,.str_none _ _,.str_none _ _⟩
  | bl y=>cases ry; injection h with h; subst h; exact ⟨.str_bool _ _ _,.str_bool _ _ _,.str_bool _ _ _⟩
  | int y=>obtain ⟨t,rfl⟩:=ry; injection h with h; subst h; exact ⟨.str_int _ _ _ _,.str_int _ _ _ _,.str_int _ _ _ _⟩
  | str y=>obtain ⟨t,rfl⟩:=ry; injection h with h; subst h; exact ⟨.str_str _ _ _ _,.str_str _ _ _ _,.str_str _ _ _ _⟩
  | _=>cases h
 | _=>cases ty<;>simp [scE] at h
theorem eq_at(I:Inv X pins σ H s):∀ (n:Nat) (A:Around) {x y:V} {tx ty:T} {b:Bool} {u w:Value},A.units+n < cLine->Rep C H x tx->Rep C H y ty->RelV x u->RelV y w->eqD n tx ty=some b->EqAt A s u w b/\RcAt A s u w b/\RcNeAt A s u w (!b):=by
 intro n
 induction n with
 | zero=>intro A x y tx ty b u w hu hx hy rx ry h; unfold eqD at h; exact sc_at hx hy rx ry h
 | succ n ih=>
  intro A x y tx ty b u w hu hx hy rx ry h
  have hu':A.units < cLine:=by lia
  have hin:A.in1.units+n < cLine:=by
   have:A.in1.units=A.units+1:=rfl
   lia
  have parts:∀ {vs us:List V} {xs ys:List T} {its its2:List Value} {e:Nat->Bool},Reps C H vs xs->Reps C H us ys->Vals vs its->Vals us its2->(∀ j x y,xs[j]?=some x->ys[j]?=some y->eqD n x y=some (e j))->
    ∀ j (h1:j < its.toArray.size) (h2:j < its2.toArray.size),EqAt A.in1 s its.toArray[j] its2.toArray[j] (e j):=by
   intro vs us xs ys its its2 e hvs hus r r2 he j h1 h2
   rw [List.size_toArray] at h1 h2
   have v1:j < vs.length:=by rw [r.length]; exact h1
   have v2:j < us.length:=by rw [r2.length]; exact h2
   have x1:j < xs.length:=by rw [<-hvs.1]; exact v1
   have y1:j < ys.length:=by rw [<-hus.1]; exact v2
   obtain ⟨w1,e1,q1⟩:=r.get (List.getElem?_eq_getElem v1)
   obtain ⟨w2,e2,q2⟩:=r2.get (List.getElem?_eq_getElem v2)
   rw [List.getElem?_eq_getElem h1] at e1
   rw [List.getElem?_eq_getElem h2] at e2
   injection e1 with e1
   injection e2 with e2
   simp only [List.getElem_toArray,e1,e2]
   exact (ih A.in1 hin (hvs.2 j _ _ (List.getElem?_eq_getElem v1) (List.getElem?_eq_getElem x1)) (hus.2 j _ _ (List.getElem?_eq_getElem v2) (List.getElem?_eq_getElem y1)) q1 q2 (he j _ _ (List.getElem?_eq_getElem x1) (List.getElem?_eq_getElem y1))).1
  have refs:∀ {p q:Addr},x=.ref p->y=.ref q->RcAt A s (.ref p) (.ref q) b->EqAt A s (.ref p) (.ref q) b:=by
   intro p q ep eq hr
   by_cases hpq:p=q
   ·subst hpq
    have:b=true:=rep_same (n+1) (v:=.ref p) (ep▸hx) (eq▸hy) h
    rw [this]
    exact .same _
   ·exact .of_refs hpq hr
  have scs:scE tx ty=some b->EqAt A s u w b/\RcAt A s u w b/\RcNeAt A s u w (!b):=sc_at hx hy rx ry
  rw [eqD_succ] at h
  unfold eqS at h
  split at h
  ·rename_i xs ys
   obtain ⟨p,vs,rfl,hp,rp⟩:=BRep.lst (.inl hx)
   obtain ⟨q,us,rfl,hq,rq⟩:=BRep.lst (.inl hy)
   cases rx; cases ry
   obtain ⟨its,r,pl,_⟩:=I.list (SqL.of hp)
   obtain ⟨its2,r2,pl2,_⟩:=I.list (SqL.of hq)
   have l1:=r.length
   have l2:=r2.length
   have l3:=rp.1
   have l4:=rq.1
   split at h
   ·rename_i hl
    obtain ⟨e,he,hb⟩:=allE_get h
    have sz:its.toArray.size=its2.toArray.size:=by rw [List.size_toArray,List.size_toArray]; lia
    have rc:=RcAt.lists pl.isList pl2.isList sz hu' (parts rp rq r r2 he)
    have rn:=RcNeAt.lists pl.isList pl2.isList sz hu' (parts rp rq r r2 he)
    have hb':b=(List.range its.toArray.size).all e:=by rw [hb,List.size_toArray,hl,Nat.min_self,show its.length=ys.length by lia]
    rw [<-hb'] at rc rn
    exact ⟨refs rfl rfl rc,rc,rn⟩
   ·rename_i hl
    injection h with h
    subst h
    have sz:(its.toArray.size != its2.toArray.size)=true:=by simp; lia
    have rc:=RcAt.lists_lengths pl.isList pl2.isList sz hu'
    exact ⟨refs rfl rfl rc,rc,RcNeAt.lists_lengths pl.isList pl2.isList sz hu'⟩
  ·rename_i xs ys
   obtain ⟨p,vs,rfl,hp,rp⟩:=BRep.tup (.inl hx)
   obtain ⟨q,us,rfl,hq,rq⟩:=BRep.tup (.inl hy)
   cases rx; cases ry
   obtain ⟨its,r,pl,_⟩:=I.tuple (SqT.of hp)
   obtain ⟨its2,r2,pl2,_⟩:=I.tuple (SqT.of hq)
   have l1:=r.length
   have l2:=r2.length
   have l3:=rp.1
   have l4:=rq.1
   cases h2:allE (eqD n) xs ys with
   | none=>rw [h2] at h; cases h
   | some d=>
    rw [h2] at h
    injection h with h
    obtain ⟨e,he,hb⟩:=allE_get h2
    have rc:=RcAt.tuples pl pl2 hu' (parts rp rq r r2 he)
    have rn:=RcNeAt.tuples pl pl2 hu' (parts rp rq r r2 he)
    have hb':b=((List.range (min its.toArray.size its2.toArray.size)).all e&&its.toArray.size == its2.toArray.size):=by
     rw [<-h,hb,List.size_toArray,List.size_toArray,show its.length=xs.length by lia,show its2.length=ys.length by lia]
    rw [<-hb'] at rc rn
    exact ⟨refs rfl rfl rc,rc,rn⟩
  ·obtain ⟨p,vs,rfl,hp,rp⟩:=BRep.lst (.inl hx)
   obtain ⟨q,us,rfl,hq,rq⟩:=BRep.tup (.inl hy)
   cases rx; cases ry
   obtain ⟨its,r,pl,_⟩:=I.list (SqL.of hp)
   obtain ⟨its2,r2,pl2,_⟩:=I.tuple (SqT.of hq)
   injection h with h
   subst h
   exact ⟨.list_tuple pl.isList pl2 hu',.list_tuple pl.isList pl2 hu',.list_tuple pl.isList pl2 hu'⟩
  ·obtain ⟨p,vs,rfl,hp,rp⟩:=BRep.tup (.inl hx)
   obtain ⟨q,us,rfl,hq,rq⟩:=BRep.lst (.inl hy)
   cases rx; cases ry
   obtain ⟨its,r,pl,_⟩:=I.tuple (SqT.of hp)
   obtain ⟨its2,r2,pl2,_⟩:=I.list (SqL.of hq)
   injection h with h
   subst h
   exact ⟨.tuple_list pl pl2.isList hu',.tuple_list pl pl2.isList hu',.tuple_list pl pl2.isList hu'⟩
  ·exact scs h
end
end L3
namespace L3
open PySem PySem.Spec PyProof.Rows L2
variable [TheK]
theorem BRep.all{C:Addr->Prop}{H:Hp}{v:V}{t:T}(h:BRep C H v t):Rep (fun _=>True) H v t:=by
 rcases h with h | ⟨a,rfl,h⟩
 ·exact h.mono (fun _ _=>trivial) fun _ _ _ e=>e
 ·exact h.rep (fun _ _=>trivial) trivial
def gEq(x y:T):Option T:=(eqD 8 x y).map .bl
def gNe(x y:T):Option T:=(eqD 8 x y).map fun b=>.bl (!b)
def rEqT(neg:Bool):R2:=fun x y H Q=>∃ tx ty b,Rep (fun _=>True) H x tx/\Rep (fun _=>True) H y ty/\eqD 8 tx ty=some b/\Q (.bl (if neg then !b else b)) H
theorem op_eqT{X:Cx}(hu:X.A.units+8 < cLine):OpR X (compareOp .Eq) (rEqT false):=by
 intro pins s sg H x y v u Q I rx ry h
 obtain ⟨tx,ty,b,hx,hy,e,q⟩:=h
 exact (eq_at I 8 X.A hu hx hy rx ry e).2.1 _ _ _ _ ⟨.bl b,H,I,rfl,q⟩
theorem op_neT{X:Cx}(hu:X.A.units+8 < cLine):OpR X (compareOp .NotEq) (rEqT true):=by
 intro pins s sg H x y v u Q I rx ry h
 obtain ⟨tx,ty,b,hx,hy,e,q⟩:=h
 exact (eq_at I 8 X.A hu hx hy rx ry e).2.2 _ _ _ _ ⟨.bl (!b),H,I,rfl,q⟩
theorem s_eq:S2E (rEqT false) gEq:=by
 intro C H x y tx ty t Q bx by' hg q
 unfold gEq at hg
 cases e:eqD 8 tx ty with
 | none=>rw [e] at hg; cases hg
 | some b=>
  rw [e] at hg
  injection hg with hg; subst hg
  exact ⟨tx,ty,b,bx.all,by'.all,e,q _ (.bl b)⟩
theorem s_ne:S2E (rEqT true) gNe:=by
 intro C H x y tx ty t Q bx by' hg q
 unfold gNe at hg
 cases e:eqD 8 tx ty with
 | none=>rw [e] at hg; cases hg
 | some b=>
  rw [e] at hg
  injection hg with hg; subst hg
  exact ⟨tx,ty,b,bx.all,by'.all,e,q _ (.bl (!b))⟩
def gLt:=gCmp (fun i j=>decide (i < j)) fun i j=>decide (i.cps.toList < j.cps.toList)
def gI1(p:Int->Int->Bool):T->T->Option T
 | .int i,.int j=>some (.bl (p i j))
 | _,_=>none
def gLe:=gI1 fun i j=>decide (i<=j)
def gGt:=gI1 fun i j=>decide (j < i)
def gGe:=gI1 fun i j=>decide (j<=i)
theorem s_I1{p:Int->Int->Bool}:S2E (rI0 (fun i j=>.bl (p i j))) (gI1 p):=by
 intro C H x y tx ty t Q bx by' hg q
 unfold gI1 at hg
 split at hg
 ·injection hg with hg; subst hg
  exact ⟨_,_,bx.int,by'.int,q _ (.bl _)⟩
 ·cases hg
def toV:T->Option V
 | .non=>some .non | .bl b=>some (.bl b) | .int i=>some (.int i) | .str x=>some (.str x) | _=>none
def toVs:List T->Option (List V)
 | []=>some []
 | t::ts=>(toV t).bind fun v=>(toVs ts).map fun vs=>v::vs
theorem toV_ok{C:Addr->Prop}{H:Hp}{v u:V}{t:T}(h:BRep C H v t)(e:toV t=some u):u=v/\flatV v=true:=by
 cases t<;>simp [toV] at e
 ·exact ⟨by rw [h.non,<-e],by rw [h.non]; rfl⟩
 ·exact ⟨by rw [h.bl,<-e],by rw [h.bl]; rfl⟩
 ·exact ⟨by rw [h.int,<-e],by rw [h.int]; rfl⟩
 ·exact ⟨by rw [h.str,<-e],by rw [h.str]; rfl⟩
theorem toVs_ok{C:Addr->Prop}{H:Hp}:∀ {vs us:List V} {ts:List T},Reps C H vs ts->toVs ts=some us->us=vs/\vs.all flatV=true
 | [],us,[],_,e=>by unfold toVs at e; injection e with e; exact ⟨e.symm,rfl⟩
 | v::vs,us,[],h,_=>by have:=h.1; simp at this
 | [],us,t::ts,h,_=>by have:=h.1; simp at this
 | v::vs,us,t::ts,h,e=>by
  unfold toVs at e
  cases e1:toV t with
  | none=>rw [e1] at e; cases e
  | some a=>
   rw [e1,Option.bind_some] at e
   cases e2:toVs ts with
   | none=>rw [e2] at e; cases e
   | some as=>
    rw [e2] at e
    injection e with e
    obtain ⟨q1,q2⟩:=toV_ok (.inl h.head) e1
    obtain ⟨q3,q4⟩:=toVs_ok h.tail e2
    exact ⟨by rw [<-e,q1,q3],by rw [List.all_cons,q2,q4]; rfl⟩
def lookT(kvs:List (Key × T))(k:Key):Option T:=(kvs.find? fun kv=>decide (kv.1=k)).map (·.2)
theorem lookT_cons(p:Key × T)(r:List (Key × T))(k:Key):lookT (p::r) k=if p.1=k then some p.2 else lookT r k:=by
 unfold lookT
 rw [List.find?_cons]
 by_cases h:p.1=k
 ·rw [if_pos h,decide_eq_true h]; rfl
 ·rw [if_neg h,decide_eq_false h]
theorem RepK.tail{C:Addr->Prop}{H:Hp}{p:Key × V}{q:Key × T}{vs:List (Key × V)}{ts:List (Key × T)}(h:RepK C H (p::vs) (q::ts)):p.1=q.1/\Rep C H p.2 q.2/\RepK C H vs ts:=by
 have h1:=h.1
 rw [List.map_cons,List.map_cons] at h1
 injection h1 with a b
 exact ⟨a,h.2 0 p q rfl rfl,b,fun i v t e1 e2=>h.2 (i+1) v t (by simpa using e1) (by simpa using e2)⟩
theorem RepK.cons{C:Addr->Prop}{H:Hp}{p:Key × V}{q:Key × T}{vs:List (Key × V)}{ts:List (Key × T)}(e:p.1=q.1)(r:Rep C H p.2 q.2)(h:RepK C H vs ts):RepK C H (p::vs) (q::ts):=by
 refine ⟨by rw [List.map_cons,List.map_cons,e,h.1],fun i v t e1 e2=>?_⟩
 cases i with
 | zero=>simp at e1 e2; subst e1 e2; exact r
 | succ i=>exact h.2 i v t (by simpa using e1) (by simpa using e2)
theorem RepK.look{C:Addr->Prop}{H:Hp}(k:Key):∀ {vs:List (Key × V)} {ts:List (Key × T)},RepK C H vs ts->(valV vs k=none/\lookT ts k=none)∨∃ v t,valV vs k=some v/\lookT ts k=some t/\Rep C H v t
 | [],[],_=>.inl ⟨rfl,rfl⟩
 | p::vs,[],h=>by have:=h.1; simp at this
 | [],q::ts,h=>by have:=h.1; simp at this
 | p::vs,q::ts,h=>by
  obtain ⟨e,r,h'⟩:=h.tail
  rw [lookT_cons]
  by_cases hk:q.1=k
  ·rw [if_pos hk,valV_pos (e.trans hk)]
   exact .inr ⟨_,_,rfl,rfl,r⟩
  ·rw [if_neg hk,valV_neg (fun z=>hk (e.symm.trans z))]
   exact RepK.look k h'
def keyT:T->Option Key
 | .int i=>some (.inl i)
 | .str x=>some (.inr x)
 | _=>none
theorem keyT_ok{C:Addr->Prop}{H:Hp}{v:V}{t:T}{k:Key}(h:BRep C H v t)(e:keyT t=some k):v=kV k:=by
 cases t<;>simp [keyT] at e
 ·rw [h.int,<-e]; rfl
 ·rw [h.str,<-e]; rfl
def gInB(x y:T):Option Bool:=match y with
 | .lst ys=>(toV x).bind fun v=>(toVs ys).map fun vs=>inV v vs
 | .tup ys=>(toV x).bind fun v=>(toVs ys).map fun vs=>inV v vs
 | _=>none
def gIn(x y:T):Option T:=(gInB x y).map .bl
def gNotIn(x y:T):Option T:=(gInB x y).map fun b=>.bl (!b)
def gDInB(x y:T):Option Bool:=match y with
 | .dct kvs=>(keyT x).map fun k=>(lookT kvs k).isSome
 | .fd kvs=>(keyT x).map fun k=>(lookT kvs k).isSome
 | _=>none
def gDIn(x y:T):Option T:=(gDInB x y).map .bl
def gDNotIn(x y:T):Option T:=(gDInB x y).map fun b=>.bl (!b)
theorem s_inb{K:PySem.W.Frag}{neg:Bool}:S2E (rIn K neg) fun x y=>(gInB x y).map fun b=>.bl (if neg then !b else b):=by
 intro C H x y tx ty t Q bx by' hg q
 obtain ⟨b,e,rfl⟩:=Qm hg
 have fin:∀ {p vs ys},y=.ref p->(SqL K H p vs∨SqT K H p vs)->Reps C H vs ys->((toV tx).bind fun v=>(toVs ys).map fun vs=>inV v vs)=some b->rIn K neg x y H Q:=by
  intro p vs ys e1 e2 r e5
  obtain ⟨v,e3,e5⟩:=Qb e5
  obtain ⟨us,e4,rfl⟩:=Qm e5
  obtain ⟨q1,q2⟩:=toV_ok bx e3
  obtain ⟨q3,q4⟩:=toVs_ok r e4
  subst q1 q3
  exact ⟨p,_,e1,e2,q2,q4,q _ (.bl _)⟩
 cases ty with
 | lst ys=>
  obtain ⟨p,vs,e1,e2,r⟩:=by'.lst
  exact fin e1 (.inl (SqL.of e2)) r e
 | tup ys=>
  obtain ⟨p,vs,e1,e2,r⟩:=by'.tup
  exact fin e1 (.inr (SqT.of e2)) r e
 | _=>cases e
theorem s_din{neg:Bool}:S2E (fun y x H Q=>∃ a o,x=.ref a/\DGet H a y o/\Q (.bl (if neg then !o.isSome else o.isSome)) H) fun x y=>(gDInB x y).map fun b=>.bl (if neg then !b else b):=by
 intro C H x y tx ty t Q bx by' hg q
 obtain ⟨b,e,rfl⟩:=Qm hg
 cases ty with
 | dct kts=>
  obtain ⟨p,kvs,rfl,e2,r⟩:=by'.dct
  obtain ⟨k,e3,rfl⟩:=Qm (show (keyT tx).map (fun k=>(lookT kts k).isSome)=some b from e)
  obtain rfl:=keyT_ok bx e3
  refine ⟨p,_,rfl,DGet.k e2,?_⟩
  have:(lookT kts k).isSome=(valV kvs k).isSome:=by
   rcases r.look k with ⟨h1,h2⟩ | ⟨_,_,h1,h2,_⟩<;>rw [h1,h2]<;>rfl
  rw [<-this]
  exact q _ (.bl _)
 | fd kts=>
  obtain ⟨p,ob,kvs,rfl,e2,r,_⟩:=by'.fd
  obtain ⟨k,e3,rfl⟩:=Qm (show (keyT tx).map (fun k=>(lookT kts k).isSome)=some b from e)
  obtain rfl:=keyT_ok bx e3
  refine ⟨p,_,rfl,.inl ⟨kvs,k,.inr ⟨ob,e2⟩,rfl,rfl⟩,?_⟩
  have:(lookT kts k).isSome=(valV kvs k).isSome:=by
   rcases r.look k with ⟨h1,h2⟩ | ⟨_,_,h1,h2,_⟩<;>rw [h1,h2]<;>rfl
  rw [<-this]
  exact q _ (.bl _)
 | _=>cases e
def gIx:T->T->Option T
 | .lst xs,.int i=>atI xs i
 | .tup xs,.int i=>atI xs i
 | .str x,.int i=>if x.length<=sizeLine then (atI x.cps.toList i).map fun c=>.str ⟨#[c]⟩ else none
 | .scr ns,.int i=>(atI ns i).map .int
 | _,_=>none
def gDIx(x y:T):Option T:=match x with
 | .dct kvs=>(keyT y).bind fun k=>lookT kvs k
 | .fd kvs=>(keyT y).bind fun k=>lookT kvs k
 | _=>none
theorem Reps.at{C:Addr->Prop}{H:Hp}{vs:List V}{ts:List T}{i:Int}{t:T}(h:Reps C H vs ts)(e:atI ts i=some t):∃ v,atI vs i=some v/\Rep C H v t:=by
 unfold atI at e ⊢
 rw [h.1]
 cases e1:ixN ts.length i with
 | none=>rw [e1] at e; cases e
 | some j=>
  rw [e1] at e
  exact h.get e
theorem s_ix:S2E (rIx TheK.K) gIx:=by
 intro C H x y tx ty t Q bx by' hg q
 unfold gIx at hg
 split at hg
 ·obtain ⟨p,vs,rfl,e2,r⟩:=bx.lst
  obtain ⟨v,h1,h2⟩:=r.at hg
  exact .inl ⟨p,vs,_,v,rfl,by'.int,SqL.of e2,h1,q v h2⟩
 ·obtain ⟨p,vs,rfl,e2,r⟩:=bx.tup
  obtain ⟨v,h1,h2⟩:=r.at hg
  exact .inr (.inl ⟨p,vs,_,v,rfl,by'.int,SqT.of e2,h1,q v h2⟩)
 ·split at hg
  ·rename_i hl
   obtain ⟨c,h1,h2⟩:=Qm hg
   subst h2
   exact .inr (.inr ⟨_,_,c,bx.str,by'.int,hl,h1,q _ (.str _)⟩)
  ·cases hg
 ·obtain ⟨p,rfl,e2⟩:=bx.scr
  obtain ⟨c,h1,h2⟩:=Qm hg
  subst h2
  refine .inl ⟨p,_,_,.int c,rfl,by'.int,e2,?_,q _ (.int c)⟩
  unfold atI at h1 ⊢
  rw [List.length_map]
  cases e1:ixN _ _ with
  | none=>rw [e1] at h1; cases h1
  | some j=>
   rw [e1,Option.bind_some] at h1
   rw [Option.bind_some,List.getElem?_map,h1]
   rfl
 ·cases hg
theorem s_dix:S2E (fun x y H Q=>∃ a v,x=.ref a/\DGet H a y (some v)/\Q v H) gDIx:=by
 intro C H x y tx ty t Q bx by' hg q
 unfold gDIx at hg
 split at hg
 ·obtain ⟨p,kvs,rfl,e2,r⟩:=bx.dct
  cases e3:keyT ty with
  | none=>rw [e3] at hg; cases hg
  | some k=>
   rw [e3,Option.bind_some] at hg
   obtain rfl:=keyT_ok by' e3
   rcases r.look k with ⟨h1,h2⟩ | ⟨v,t',h1,h2,h3⟩
   ·rw [h2] at hg; cases hg
   ·rw [h2] at hg
    injection hg with hg; subst hg
    exact ⟨p,v,rfl,h1▸DGet.k e2,q v h3⟩
 ·obtain ⟨p,ob,kvs,rfl,e2,r,_⟩:=bx.fd
  cases e3:keyT ty with
  | none=>rw [e3] at hg; cases hg
  | some k=>
   rw [e3,Option.bind_some] at hg
   obtain rfl:=keyT_ok by' e3
   rcases r.look k with ⟨h1,h2⟩ | ⟨v,t',h1,h2,h3⟩
   ·rw [h2] at hg; cases hg
   ·rw [h2] at hg
    injection hg with hg; subst hg
    exact ⟨p,v,rfl,.inl ⟨kvs,k,.inr ⟨ob,e2⟩,rfl,h1.symm⟩,q v h3⟩
 ·cases hg
section
variable {X:Cx}{M:List Nat}{a b:Expr}{fa fb:DE}{pos:Pos}
theorem e_eq(hu:X.A.units+8 < cLine)(ha:PE X a (cE .e M fa))(hb:PE X b (cE .b M fb)):PE X (.Compare a [.Eq] [b] pos) (cE .e M (d2 gEq fa fb)):=weak (pe_cmpR (op_eqT hu) ha hb (nomark _)) (two_e s_eq)
theorem e_le(ha:PE X a (cE .e M fa))(hb:PE X b (cE .b M fb)):PE X (.Compare a [.LtE] [b] pos) (cE .e M (d2 gLe fa fb)):=weak (pe_cmpR op_le ha hb (nomark _)) (two_e s_I1)
theorem e_in(ha:PE X a (cE .e M fa))(hb:PE X b (cE .b M fb))(hm:behindInMarks .In b=false):PE X (.Compare a [.In] [b] pos) (cE .e M (d2 gIn fa fb)):=weak (pe_cmpR op_in_seq ha hb hm) (two_e (s_inb (neg:=false)))
theorem e_din(hu:X.A.units+1 < cLine)(ha:PE X a (cE .e M fa))(hb:PE X b (cE .b M fb))(hm:behindInMarks .In b=false):PE X (.Compare a [.In] [b] pos) (cE .e M (d2 gDIn fa fb)):=weak (pe_cmp (pc_din hu ha hb) hm) fun σ H Q h=>two_e (s_din (neg:=false)) σ H Q h
theorem e_ix(hK:X.K=TheK.K)(ha:PE X a (cE .e M fa))(hb:PE X b (cE .b M fb))(hs:PlainIx b):PE X (.Subscript a b pos) (cE .e M (d2 gIx fa fb)):=weak (pe_ix (hK▸ix_seq) ha hb hs) (two_e s_ix)
theorem e_ixV{i:Nat}(hK:X.K=TheK.K)(hi:M.contains i=true)(ha:PE X a (tVar i))(hb:PE X b (cE .b M fb))(hs:PlainIx b):PE X (.Subscript a b pos) (cE .e M (d2v gIx i fb)):=weak (pe_ix (hK▸ix_seq) ha hb hs) (two_ev hi s_ix)
theorem e_dix(hu:X.A.units+1 < cLine)(ha:PE X a (cE .e M fa))(hb:PE X b (cE .b M fb))(hs:NoSl b):PE X (.Subscript a b pos) (cE .e M (d2 gDIx fa fb)):=weak (pe_dget hu ha hb hs) fun σ H Q h=>two_e s_dix σ H Q h
theorem e_dixV{i:Nat}(hi:M.contains i=true)(hu:X.A.units+1 < cLine)(ha:PE X a (tVar i))(hb:PE X b (cE .b M fb))(hs:NoSl b):PE X (.Subscript a b pos) (cE .e M (d2v gDIx i fb)):=weak (pe_dget hu ha hb hs) fun σ H Q h=>two_ev hi s_dix σ H Q h
end
end L3
namespace L3
open PySem PySem.Spec PyProof.Rows L2
variable [TheK]
def dB(f:DE):DT:=fun s=>(f s).bind fun p=>match p.1 with
 | .bl b=>some (b,p.2)
 | _=>none
theorem dB_some{f:DE}{s s':Sg}{b:Bool}(h:dB f s=some (b,s')):f s=some (.bl b,s'):=by
 obtain ⟨p,h1,h2⟩:=Qb h
 obtain ⟨t,s1⟩:=p
 cases t<;>simp at h2
 rw [h1,h2.1,h2.2]
theorem tst{M:List Nat}{f:DE}{t:TE}(h:∀ σ H Q,cE .e M f σ H Q->t σ H Q):∀ σ H Q,cT M (dB f) σ H Q->tTest t σ H Q:=by
 intro σ H Q h_;refine cT_ h_ fun F O s b s' R hf q=>?_
 exact h σ H _ ⟨F,O,s,.bl b,s',R,dB_some hf,fun v H' S p=>⟨b,BRep.bl (.inl p.2),q H' S p.1⟩⟩
def tru:T->Option Bool
 | .non=>some false | .bl b=>some b | .int i=>some (i != 0)
 | .str x=>if x.length<=sizeLine then some ((x.length:Int) != 0) else none
 | .lst xs=>some (!xs.isEmpty) | .tup xs=>some (!xs.isEmpty) | .dct xs=>some (!xs.isEmpty)
 | _=>none
theorem len_empty{α β:Type}{xs:List α}{ys:List β}(h:xs.length=ys.length):(!ys.isEmpty)=!xs.isEmpty:=by
 cases xs<;>cases ys<;>simp at h<;>rfl
theorem tru_ok3{K:PySem.W.Frag}{C:Addr->Prop}{H:Hp}{v:V}{t:T}{b:Bool}(h:BRep C H v t)(e:tru t=some b):TruV K v H b:=by
 cases t with
 | non=>rw [h.non]; injection e with e; exact e.symm
 | bl x=>rw [h.bl]; injection e with e; exact e.symm
 | int x=>rw [h.int]; injection e with e; exact e.symm
 | str x=>
  rw [h.str]
  by_cases hl:x.length<=sizeLine
  ·have e':(if x.length<=sizeLine then some ((x.length:Int) != 0) else none)=some b:=e
   rw [if_pos hl] at e'
   injection e' with e'
   exact ⟨hl,e'.symm⟩
  ·have e':(if x.length<=sizeLine then some ((x.length:Int) != 0) else none)=some b:=e
   rw [if_neg hl] at e'
   cases e'
 | lst xs=>
  obtain ⟨p,vs,rfl,e2,r⟩:=h.lst
  injection e with e
  exact .inl ⟨vs,SqL.of e2,by rw [<-e]; exact len_empty r.1⟩
 | tup xs=>
  obtain ⟨p,vs,rfl,e2,r⟩:=h.tup
  injection e with e
  exact .inr (.inl ⟨vs,SqT.of e2,by rw [<-e]; exact len_empty r.1⟩)
 | dct xs=>
  obtain ⟨p,vs,rfl,e2,r⟩:=h.dct
  injection e with e
  have l:vs.length=xs.length:=by simpa using congrArg List.length r.1
  exact .inr (.inr ⟨vs,e2,by rw [<-e]; exact len_empty l⟩)
 | _=>cases e
def dTru(f:DE):DT:=fun s=>(f s).bind fun p=>(tru p.1).map fun b=>(b,p.2)
def dAnd(f g:DT):DT:=fun s=>(f s).bind fun p=>if p.1 then g p.2 else some (false,p.2)
def dOr(f g:DT):DT:=fun s=>(f s).bind fun p=>if p.1 then some (true,p.2) else g p.2
def dNot(f:DT):DT:=fun s=>(f s).map fun p=>(!p.1,p.2)
def dAndV(f g:DE):DE:=fun s=>(dB f s).bind fun p=>if p.1 then g p.2 else some (.bl false,p.2)
def dOrV(f g:DE):DE:=fun s=>(dB f s).bind fun p=>if p.1 then some (.bl true,p.2) else g p.2
def dNotV(f:DE):DE:=fun s=>(dB f s).map fun p=>(.bl (!p.1),p.2)
def dIf(c:DT)(f g:DE):DE:=fun s=>(c s).bind fun p=>if p.1 then f p.2 else g p.2
section
variable {X:Cx}{M:List Nat}{a b c:Expr}{fa fb:DE}{ft fu:DT}{pos:Pos}{k:Kd}
theorem t_tru(h:PE X a (cE .b M fa))(he:∀ whole,isTrue a X.env whole=(do let v <-whole; standAt a.pos; holding [v] (truthy v)):=by intro _; rfl):PT X a (cT M (dTru fa)):=weakT (pt_truth h he) (by
 intro σ H Q h_;refine cT_ h_ fun F O s b s' R hf q=>?_
 obtain ⟨p,h1,h2⟩:=Qb hf
 obtain ⟨b',h3,h4⟩:=Qm h2
 injection h4 with h4 h5
 subst h4 h5
 exact ⟨F,O,s,p.1,p.2,R,h1,fun v H' S po=>⟨b',tru_ok3 po.view h3,q H' S po.1⟩⟩)
theorem t_eq(hu:X.A.units+8 < cLine)(ha:PE X a (cE .e M fa))(hb:PE X b (cE .b M fb)):PT X (.Compare a [.Eq] [b] pos) (cT M (dB (d2 gEq fa fb))):=weakT (pt_cmpR (op_eqT hu) ha hb (nomark _)) (tst (two_e s_eq))
theorem t_ne(hu:X.A.units+8 < cLine)(ha:PE X a (cE .e M fa))(hb:PE X b (cE .b M fb)):PT X (.Compare a [.NotEq] [b] pos) (cT M (dB (d2 gNe fa fb))):=weakT (pt_cmpR (op_neT hu) ha hb (nomark _)) (tst (two_e s_ne))
theorem t_lt(ha:PE X a (cE .e M fa))(hb:PE X b (cE .b M fb)):PT X (.Compare a [.Lt] [b] pos) (cT M (dB (d2 gLt fa fb))):=weakT (pt_cmpR (op_lt.or op_lt_str) ha hb (nomark _)) (tst (two_e s_cmp))
theorem t_gt(ha:PE X a (cE .e M fa))(hb:PE X b (cE .b M fb)):PT X (.Compare a [.Gt] [b] pos) (cT M (dB (d2 gGt fa fb))):=weakT (pt_cmpR op_gt ha hb (nomark _)) (tst (two_e s_I1))
theorem t_ge(ha:PE X a (cE .e M fa))(hb:PE X b (cE .b M fb)):PT X (.Compare a [.GtE] [b] pos) (cT M (dB (d2 gGe fa fb))):=weakT (pt_cmpR op_ge ha hb (nomark _)) (tst (two_e s_I1))
theorem t_in(ha:PE X a (cE .e M fa))(hb:PE X b (cE .b M fb))(hm:behindInMarks .In b=false):PT X (.Compare a [.In] [b] pos) (cT M (dB (d2 gIn fa fb))):=weakT (pt_cmpR op_in_seq ha hb hm) (tst (two_e (s_inb (neg:=false))))
theorem t_notin(ha:PE X a (cE .e M fa))(hb:PE X b (cE .b M fb))(hm:behindInMarks .NotIn b=false):PT X (.Compare a [.NotIn] [b] pos) (cT M (dB (d2 gNotIn fa fb))):=weakT (pt_cmpR op_notIn_seq ha hb hm) (tst (two_e (s_inb (neg:=true))))
theorem t_din(hu:X.A.units+1 < cLine)(ha:PE X a (cE .e M fa))(hb:PE X b (cE .b M fb))(hm:behindInMarks .In b=false):PT X (.Compare a [.In] [b] pos) (cT M (dB (d2 gDIn fa fb))):=weakT (pt_cmp (pc_din hu ha hb) hm) fun σ H Q h=>tst (two_e (s_din (neg:=false))) σ H Q h
theorem t_dnotin(hu:X.A.units+1 < cLine)(ha:PE X a (cE .e M fa))(hb:PE X b (cE .b M fb))(hm:behindInMarks .NotIn b=false):PT X (.Compare a [.NotIn] [b] pos) (cT M (dB (d2 gDNotIn fa fb))):=weakT (pt_cmp (pc_dnotin hu ha hb) hm) fun σ H Q h=>tst (two_e (s_din (neg:=true))) σ H Q h
theorem t_not(h:PT X a (cT M ft)):PT X (.UnaryOp .Not a pos) (cT M (dNot ft)):=weakT (pt_not h) (by
 intro σ H Q h_;refine cT_ h_ fun F O s b s' R hf q=>?_
 obtain ⟨p,h1,h2⟩:=Qm hf
 injection h2 with h2 h3
 subst h2 h3
 exact ⟨F,O,s,p.1,p.2,R,h1,fun H' S R'=>q H' S R'⟩)
theorem w_and1(h:PT X a (cT M ft)):PW X (.BoolOp .And [a] pos) (cT M ft):=pw_and1 h
theorem w_or1(h:PT X a (cT M ft)):PW X (.BoolOp .Or [a] pos) (cT M ft):=pw_or1 h
theorem w_and{rest:List Expr}(ha:PT X a (cT M ft))(hb:PW X (.BoolOp .And (b::rest) pos) (cT M fu)):PW X (.BoolOp .And (a::b::rest) pos) (cT M (dAnd ft fu)):=weakW (pw_and ha hb) (by
 intro σ H Q h_;refine cT_ h_ fun F O s b s' R hf q=>?_
 obtain ⟨p,h1,h2⟩:=Qb hf
 refine ⟨F,O,s,p.1,p.2,R,h1,fun H' S R'=>?_⟩
 split at h2
 ·rename_i hp
  rw [if_pos hp]
  exact ⟨F,O,p.2,b,s',R',h2,fun H2 S2 R2=>q H2 (S.trans S2) R2⟩
 ·rename_i hp
  rw [if_neg hp]
  injection h2 with h2
  injection h2 with h2 h3
  subst h2 h3
  exact q H' S R')
theorem w_or{rest:List Expr}(ha:PT X a (cT M ft))(hb:PW X (.BoolOp .Or (b::rest) pos) (cT M fu)):PW X (.BoolOp .Or (a::b::rest) pos) (cT M (dOr ft fu)):=weakW (pw_or ha hb) (by
 intro σ H Q h_;refine cT_ h_ fun F O s b s' R hf q=>?_
 obtain ⟨p,h1,h2⟩:=Qb hf
 refine ⟨F,O,s,p.1,p.2,R,h1,fun H' S R'=>?_⟩
 split at h2
 ·rename_i hp
  rw [if_pos hp]
  injection h2 with h2
  injection h2 with h2 h3
  subst h2 h3
  exact q H' S R'
 ·rename_i hp
  rw [if_neg hp]
  exact ⟨F,O,p.2,b,s',R',h2,fun H2 S2 R2=>q H2 (S.trans S2) R2⟩)
theorem e_one{op}(h:PE X a (cE .e M fa)):PE X (.BoolOp op [a] pos) (cE .e M fa):=pe_one h
theorem e_and{rest:List Expr}(ha:PE X a (cE .e M fa))(hb:PE X (.BoolOp .And (b::rest) pos) (cE .e M fb)):PE X (.BoolOp .And (a::b::rest) pos) (cE .e M (dAndV fa fb)):=weak (pe_and ha hb) (by
 intro σ H Q h_;refine cE_ h_ fun F O s t s' R hf q=>?_
 obtain ⟨p,h1,h2⟩:=Qb hf
 refine ⟨F,O,s,.bl p.1,p.2,R,dB_some h1,fun v H' S po=>⟨p.1,BRep.bl (.inl po.2),?_⟩⟩
 split at h2
 ·rename_i hp
  rw [if_pos hp]
  exact ⟨F,O,p.2,t,s',po.1,h2,fun w H2 S2 p2=>q w H2 (S.trans S2) p2⟩
 ·rename_i hp
  rw [if_neg hp]
  injection h2 with h2
  injection h2 with h2 h3
  subst h2 h3
  exact q _ H' S ⟨po.1,.bl false⟩)
end
def dAn:DA:=fun s=>some ([],s)
def dAc(f:DE)(g:DA):DA:=fun s=>(f s).bind fun p=>(g p.2).map fun q=>(p.1::q.1,q.2)
def dLst(f:DA):DE:=fun s=>(f s).bind fun p=>if p.1.length<=sizeLine then some (.lst p.1,p.2) else none
def dTup(f:DA):DE:=fun s=>(f s).bind fun p=>if p.1.length<=sizeLine then some (.tup p.1,p.2) else none
section
variable {X:Cx}{M:List Nat}{e:Expr}{es:List Expr}{fe:DE}{fa:DA}{pos:Pos}
theorem a_nil:PA X [] (cA M dAn):=weakA pa_nil (by
 rintro σ H Q ⟨F,O,s,ts,s',R,hf,q⟩
 injection hf with hf
 injection hf with h1 h2
 subst h1 h2
 exact q [] H .refl R .nil)
theorem a_cons(h:PE X e (cE .e M fe))(ha:PA X es (cA M fa))(hs:starEach (e::es) X.env=(false,eval e X.env)::starEach es X.env:=by rfl):PA X (e::es) (cA M (dAc fe fa)):=weakA (pa_cons h ha hs) (by
 rintro σ H Q ⟨F,O,s,ts,s',R,hf,q⟩
 obtain ⟨p,h1,h2⟩:=Qb hf
 obtain ⟨r,h3,h4⟩:=Qm h2
 injection h4 with h4 h5
 subst h4 h5
 refine ⟨F,O,s,p.1,p.2,R,h1,fun v H1 S1 p1=>⟨F,O,p.2,r.1,r.2,p1.1,h3,fun vs H2 S2 R2 rs=>?_⟩⟩
 exact q _ H2 (S1.trans S2) R2 (.cons (p1.1.stay S2 p1.2) rs))
theorem e_lst(h:PA X es (cA M fa)):PE X (.List es pos) (cE .n M (dLst fa)):=weak (pe_lst h) (by
 intro σ H Q h_;refine cE_ h_ fun F O s t s' R hf q=>?_
 obtain ⟨p,h1,h2⟩:=Qb hf
 split at h2
 ·rename_i hl
  injection h2 with h2
  injection h2 with h2 h3
  subst h2 h3
  refine ⟨F,O,s,p.1,p.2,R,h1,fun vs H1 S1 R1 rs=>⟨by rw [rs.1]; exact hl,fun a ha=>?_⟩⟩
  exact q _ _ (S1.trans (.new ha _)) (.mkN R R1 S1 ha fun C hC=>.lst upd_same (rs.there.mono hC fun c o _ e=>by rw [upd_ne (ne_of_none e ha)]; exact e))
 ·cases h2)
theorem e_tup{x1}(h:PA X es (cA M fa)):PE X (.Tuple es x1 pos) (cE .e M (dTup fa)):=weak (pe_tup h) (by
 intro σ H Q h_;refine cE_ h_ fun F O s t s' R hf q=>?_
 obtain ⟨p,h1,h2⟩:=Qb hf
 split at h2
 ·rename_i hl
  injection h2 with h2
  injection h2 with h2 h3
  subst h2 h3
  refine ⟨F,O,s,p.1,p.2,R,h1,fun vs H1 S1 R1 rs=>⟨by rw [rs.1]; exact hl,fun a ha=>?_⟩⟩
  refine q _ _ (S1.trans (.new ha _)) (.mkE R1 ha fun C hC hp=>?_)
  have:=rs.there.mono (C':=C) (H':=upd H1 a (.tup vs)) hC fun c o _ e=>by rw [upd_ne (ne_of_none e ha)]; exact e
  exact .tup hp upd_same this.1 this.2
 ·cases h2)
def dDict:DE:=fun s=>some (.dct [],s)
theorem e_dict:PE X (.Dict [] [] pos) (cE .n M dDict):=weak pe_dnewK (by
 intro σ H Q h_;refine cE_ h_ fun F O s t s' R hf q=>?_
 injection hf with hf
 injection hf with h1 h2
 subst h1 h2
 intro a ha
 exact q _ _ (.new ha _) (.mkN R R .refl ha fun C hC=>.dct upd_same ⟨rfl,fun i v t e=>by simp at e⟩))
end
abbrev DO:=Sg->Option (Option Int × Sg)
def cO(M:List Nat)(f:DO):TO:=fun σ H Q=>∃ F O s t s',Rel F O M s σ H/\f s=some (t,s')/\∀ H',Step σ M H H'->Rel F O M s' σ H'->Q t H'
def dOn:DO:=fun s=>some (none,s)
def dOs(f:DE):DO:=fun s=>(f s).bind fun p=>match p.1 with
 | .int i=>some (some i,p.2)
 | _=>none
def cutT{α:Type}(xs:List α)(lo hi:Option Int):List α:=(xs.drop (HT.sIx xs.length 0 lo)).take (HT.sIx xs.length xs.length hi - HT.sIx xs.length 0 lo)
def gSl(t:T)(lo hi:Option Int):Option T:=match t with
 | .lst xs=>some (.lst (cutT xs lo hi))
 | .scr ns=>some (.lst ((cutT ns lo hi).map .int))
 | _=>none
def gSlS(t:T)(lo hi:Option Int):Option T:=match t with
 | .str x=>if x.length<=sizeLine then some (.str (Txt.slice x lo hi)) else none
 | _=>none
def dSl(g:T->Option Int->Option Int->Option T)(f:DE)(l h:DO):DE:=fun s=>(f s).bind fun p=>(l p.2).bind fun q=>(h q.2).bind fun r=>(g p.1 q.1 r.1).map fun t=>(t,r.2)
def dSlV(g:T->Option Int->Option Int->Option T)(i:Nat)(l h:DO):DE:=fun s=>(s[i]?).join.bind fun _=>(l s).bind fun q=>(h q.2).bind fun r=>(r.2[i]?).join.bind fun x=>(g x q.1 r.1).map fun t=>(t,r.2)
theorem Reps.cut{C:Addr->Prop}{H:Hp}{vs:List V}{ts:List T}(h:Reps C H vs ts)(lo hi:Option Int):Reps C H (cutV vs lo hi) (cutT ts lo hi):=by
 unfold cutV cutT
 rw [h.1]
 exact (h.drop _).take _
theorem reps_ints{C:Addr->Prop}{H:Hp}:∀ (ns:List Int),Reps C H (ns.map V.int) (ns.map T.int)
 | []=>.nil
 | n::ns=>.cons (.int n) (reps_ints ns)
def S3N(r:V->Option Int->Option Int->Hp->VK->Prop)(g:T->Option Int->Option Int->Option T):Prop:=∀ (C:Addr->Prop) (H:Hp) x lo hi tx t (Q:VK),BRep C H x tx->g tx lo hi=some t->
 (∀ p o,H p=none->(∀ C':Addr->Prop,(∀ b,C b/\H b≠none->C' b)->Live C' (upd H p o) p t)->Q (.ref p) (upd H p o))->r x lo hi H Q
theorem s_sl:S3N (rSlL TheK.K) gSl:=by
 intro C H x lo hi tx t Q bx hg q
 cases tx<;>simp [gSl] at hg
 ·subst hg
  obtain ⟨a,vs,rfl,ha,ra⟩:=bx.lst
  refine ⟨a,vs,rfl,SqL.of ha,fun p hp=>q p _ hp fun C' hC=>?_⟩
  exact .lst upd_same ((ra.cut lo hi).there.mono hC fun c o _ e=>by rw [upd_ne (ne_of_none e hp)]; exact e)
 ·rename_i ns
  subst hg
  obtain ⟨a,rfl,ha⟩:=bx.scr
  refine ⟨a,_,rfl,ha,fun p hp=>q p _ hp fun C' hC=>.lst upd_same ?_⟩
  have:cutV (ns.map V.int) lo hi=(cutT ns lo hi).map V.int:=by
   unfold cutV cutT
   rw [List.length_map,<-List.map_drop,<-List.map_take]
  rw [this]
  exact reps_ints _
section
variable {X:Cx}{M:List Nat}{e:Expr}{lo hi:Option Expr}{fe:DE}{fl fh:DO}{pos p2:Pos}
theorem o_none:PO X none (cO M dOn):=fun pins s σ H Q I h=>by
 obtain ⟨F,O,s',t,s'',R,hf,q⟩:=h
 injection hf with hf
 injection hf with h1 h2
 subst h1 h2
 exact po_none pins s σ H Q I (q H .refl R)
theorem o_some(h:PE X e (cE .e M fe)):PO X (some e) (cO M (dOs fe)):=fun pins s σ H Q I hw=>by
 obtain ⟨F,O,s',t,s'',R,hf,q⟩:=hw
 obtain ⟨⟨t',s1⟩,h1,h2⟩:=Qb hf
 cases t'<;>simp at h2
 rename_i i
 obtain ⟨h2,h3⟩:=h2
 subst h2 h3
 exact po_some h pins s σ H Q I ⟨F,O,s',.int i,s1,R,h1,fun v H' S p=>⟨i,BRep.int (.inl p.2),q H' S p.1⟩⟩
theorem sl_n{g:T->Option Int->Option Int->Option T}{r:V->Option Int->Option Int->Hp->VK->Prop}(hs:S3N r g):∀ σ H Q,cE .n M (dSl g fe fl fh) σ H Q->tSl r (cE .e M fe) (cO M fl) (cO M fh) σ H Q:=by
 intro σ H Q h_;refine cE_ h_ fun F O s t s' R hf q=>?_
 obtain ⟨p,h1,h2⟩:=Qb hf
 obtain ⟨l,h3,h4⟩:=Qb h2
 obtain ⟨u,h5,h6⟩:=Qb h4
 obtain ⟨t',h7,h8⟩:=Qm h6
 injection h8 with h8 h9
 subst h8 h9
 refine ⟨F,O,s,p.1,p.2,R,h1,fun v H1 S1 p1=>⟨F,O,p.2,l.1,l.2,p1.1,h3,fun H2 S2 R2=>⟨F,O,l.2,u.1,u.2,R2,h5,fun H3 S3 R3=>?_⟩⟩⟩
 have S:=(S1.trans S2).trans S3
 exact hs (Free F O) H3 v l.1 u.1 p.1 t' Q (.inl (R2.stay S3 (p1.1.stay S2 p1.2))) h7 fun a o ha L=>q _ _ (S.trans (.new ha o)) (.mkN R R3 S ha L)
theorem e_sl(hK:X.K=TheK.K)(he:PE X e (cE .e M fe))(hl:PO X lo (cO M fl))(hu:PO X hi (cO M fh)):PE X (.Subscript e (.Slice lo hi none p2) pos) (cE .n M (dSl gSl fe fl fh)):=weak (pe_slice (hK▸sl_list) he hl hu) (sl_n s_sl)
theorem e_slS(he:PE X e (cE .e M fe))(hl:PO X lo (cO M fl))(hu:PO X hi (cO M fh)):PE X (.Subscript e (.Slice lo hi none p2) pos) (cE .e M (dSl gSlS fe fl fh)):=weak (pe_slice sl_str he hl hu) (by
 intro σ H Q h_;refine cE_ h_ fun F O s t s' R hf q=>?_
 obtain ⟨p,h1,h2⟩:=Qb hf
 obtain ⟨l,h3,h4⟩:=Qb h2
 obtain ⟨u,h5,h6⟩:=Qb h4
 obtain ⟨t',h7,h8⟩:=Qm h6
 injection h8 with h8 h9
 subst h8 h9
 refine ⟨F,O,s,p.1,p.2,R,h1,fun v H1 S1 p1=>⟨F,O,p.2,l.1,l.2,p1.1,h3,fun H2 S2 R2=>⟨F,O,l.2,u.1,u.2,R2,h5,fun H3 S3 R3=>?_⟩⟩⟩
 have S:=(S1.trans S2).trans S3
 obtain ⟨pt,ps⟩:=p
 cases pt<;>simp [gSlS] at h7
 rename_i x
 obtain ⟨h7,h8⟩:=h7
 exact ⟨x,BRep.str (.inl p1.2),h7,q _ _ S ⟨R3,by rw [<-h8]; exact .str _⟩⟩)
end
end L3
namespace L3
open PySem PySem.Spec PyProof.Rows L2
variable [TheK]
inductive Fl where
 | nx (s:Sg) | rt (t:T) (s:Sg) | bk (s:Sg) | ct (s:Sg)
abbrev DS:=Sg->Option Fl
structure Ios (F:Fr) (io M:List Nat) (σ:L2.St):Prop where
 at_:∀ (i:Nat),i∈io->i∈M/\σ[i]?=some (some (.ref (F.adr i)))
 D:∀ a,F.D a->∃ j,j∈io/\a=F.adr j
def KeepO(O:Addr->Prop)(H:Hp)(O':Addr->Prop)(H':Hp):Prop:=(∀ b o,¬ O b->H b=some o->H' b=some o/\¬ O' b)/\∀ b,H' b=none->H b=none
def C1(F:Fr):Addr->Prop:=fun b=>¬ F.D b/\(F.C0 b∨F.H0 b=none)
structure RetOk (F:Fr) (rk:Kd) (io:List Nat) (s':Sg) (t:T) (v:V) (H':Hp):Prop where
 keep:∀ b o,¬ F.D b->F.H0 b=some o->H' b=some o
 dom:∀ b,H' b=none->F.H0 b=none
 res:match rk with
  | .n=>∃ r,v=.ref r/\F.H0 r=none/\¬ F.D r/\Live (fun b=>C1 F b/\b≠r) H' r t/\∀ (i:Nat),i∈io->∃ t',s'[i]?=some (some t')/\Live (fun b=>C1 F b/\b≠r) H' (F.adr i) t'
  | .b=>Rep (fun b=>F.H0 b=none) H' v t
  | .e=>Rep (C1 F) H' v t/\∀ (i:Nat),i∈io->∃ t',s'[i]?=some (some t')/\Live (C1 F) H' (F.adr i) t'
def EndOk(F:Fr)(rk:Kd)(io M' Mb:List Nat)(O:Addr->Prop)(H:Hp)(D:Ends):Fl->Prop
 | .nx s'=>∀ O' σ' H',KeepO O H O' H'->Rel F O' M' s' σ' H'->Ios F io M' σ'->D.nx σ' H'
 | .bk s'=>∀ O' σ' H',KeepO O H O' H'->Rel F O' Mb s' σ' H'->Ios F io Mb σ'->D.bk σ' H'
 | .ct s'=>∀ O' σ' H',KeepO O H O' H'->Rel F O' Mb s' σ' H'->Ios F io Mb σ'->D.ct σ' H'
 | .rt t s'=>∀ v H',RetOk F rk io s' t v H'->D.rt v H'
def cS(rk:Kd)(io M M' Mb:List Nat)(d:DS):TS:=fun D σ H=>∃ F O s r,Rel F O M s σ H/\Ios F io M σ/\d s=some r/\EndOk F rk io M' Mb O H D r
theorem cS_{rk:Kd}{io M M' Mb:List Nat}{d:DS}{D:_}{σ:L2.St}{H:Hp}(h:cS rk io M M' Mb d D σ H){G:Prop}(g:∀ F O s r,Rel F O M s σ H->Ios F io M σ->d s=some r->EndOk F rk io M' Mb O H D r->G):G:=by
 obtain ⟨F,O,s,r,R,I,hd,q⟩:=h
 exact g F O s r R I hd q
section
variable {F:Fr}{O O' O'':Addr->Prop}{io M M' Mb:List Nat}{s s':Sg}{σ:L2.St}{H H' H'':Hp}{v:V}{t:T}{a:Addr}{rk:Kd}
theorem KeepO.refl:KeepO O H O H:=⟨fun _ _ n h=>⟨h,n⟩,fun _ h=>h⟩
theorem KeepO.trans(x:KeepO O H O' H')(y:KeepO O' H' O'' H''):KeepO O H O'' H'':=⟨fun b o n h=>by
 obtain ⟨h1,n1⟩:=x.1 b o n h
 exact y.1 b o n1 h1,fun b h=>x.2 b (y.2 b h)⟩
theorem Step.keepO(S:Step σ M H H')(R:Rel F O M s σ H):KeepO O H O H':=⟨fun b o n h=>⟨S.keep b o (R.notOwned n) h,n⟩,S.dom⟩
theorem EndOk.more{D:Ends}{r:Fl}(h:EndOk F rk io M' Mb O H D r)(k:KeepO O H O' H'):EndOk F rk io M' Mb O' H' D r:=by
 cases r with
 | nx s'=>exact fun O2 σ2 H2 k2=>h O2 σ2 H2 (k.trans k2)
 | bk s'=>exact fun O2 σ2 H2 k2=>h O2 σ2 H2 (k.trans k2)
 | ct s'=>exact fun O2 σ2 H2 k2=>h O2 σ2 H2 (k.trans k2)
 | rt t s'=>exact h
theorem Rel.freeze(R:Rel F O M s σ H)(I:Ios F io M σ)(hM:∀ i,i∈M'->i∈M)(hio:∀ i,i∈io->i∈M'):∃ O',(∀ b,O' b->O b)/\Rel F O' M' s σ H/\Ios F io M' σ:=by
 refine ⟨fun b=>O b/\¬ ∃ j:Nat,j∈M/\j∉M'/\σ[j]?=some (some (.ref b)),fun b z=>z.1,?_,⟨fun i hi=>⟨hio i hi,(I.at_ i hi).2⟩,I.D⟩⟩
 have w:∀ b,(O b/\¬ ∃ j:Nat,j∈M/\j∉M'/\σ[j]?=some (some (.ref b)))->O b:=fun b z=>z.1
 have notD:∀ (i:Nat) b,i∈M->i∉M'->σ[i]?=some (some (.ref b))->¬ F.D b:=fun i b hi hi' e z=>by
  obtain ⟨j,hj,rfl⟩:=I.D b z
  obtain ⟨h1,h2⟩:=I.at_ j hj
  have:=R.dis i j _ hi h1 e h2
  subst this
  exact hi' (hio i hj)
 refine ⟨R.len,fun i t e n=>?_,fun i t e n=>?_,fun i b hi e=>⟨R.ow i b (hM i hi) e,fun ⟨j,h1,h2,h3⟩=>?_⟩,fun i j b hi hj=>R.dis i j b (hM i hi) (hM j hj),R.keep,R.dom,fun b z=>R.fresh b z.1,fun b z=>⟨R.inD b z,fun ⟨j,h1,h2,h3⟩=>notD j b h1 h2 h3 z⟩,fun b z=>R.al b z.1⟩
 ·by_cases hi:i∈M
  ·obtain ⟨b,h1,L⟩:=R.own i t e hi
   refine ⟨_,h1,L.rep (fun c z=>z.weak w) ⟨fun z=>z.2 ⟨i,hi,n,h1⟩,?_⟩⟩
   rcases R.fresh b (R.ow i b hi h1) with z | z
   ·exact absurd z (notD i b hi n h1)
   ·exact .inr z
  ·obtain ⟨v,h1,h2⟩:=R.val i t e hi
   exact ⟨v,h1,h2.mono (fun _ c=>c.weak w) fun _ _ _ e=>e⟩
 ·obtain ⟨b,h1,h2⟩:=R.own i t e (hM i n)
  exact ⟨b,h1,h2.mono (fun _ c=>c.weak w) (fun _ _ _ e=>e) fun _ e=>e⟩
 ·have:=R.dis j i b h1 (hM i hi) h3 e
  subst this
  exact h2 hi
theorem sub_of{A B:List Nat}(h:A.all (B.contains ·)=true):∀ i,i∈A->i∈B:=fun i hi=>by simpa using List.all_eq_true.mp h i hi
theorem s_pre{X:Cx}{st:Stmt}{d:DS}{Mx:List Nat}(h:PS X st (cS rk io M' Mx Mb d))(hM:M'.all (M.contains ·)=true:=by rfl)(hio:io.all (M'.contains ·)=true:=by rfl):PS X st (cS rk io M Mx Mb d):=weakS h (by
 intro D σ H h_;refine cS_ h_ fun F O s r R I hd q=>?_
 obtain ⟨O',w,R',I'⟩:=R.freeze I (sub_of hM) (sub_of hio)
 exact ⟨F,O',s,r,R',I',hd,q.more ⟨fun b o n h=>⟨h,fun z=>n (w b z)⟩,fun _ h=>h⟩⟩)
theorem Rel.write{i:Nat}{t0 t':T}{o:HO}(R:Rel F O M s σ H)(hi:i∈M)(e:σ[i]?=some (some (.ref a)))(hs:s[i]?=some (some t0))(L:∀ H1,(∀ b u,Free F O b->H b=some u->H1 b=some u)->H1 a=some o->Live (Free F O) H1 a t'):Rel F O M (s.set i (some t')) σ (upd H a o):=by
 have oa:=R.ow i a hi e
 have k:∀ b u,Free F O b->H b=some u->upd H a o b=some u:=fun b u c q=>(upd_ne (fun z:b=a=>c.1 (z▸oa))).trans q
 have hl:i < s.length:=(List.getElem?_eq_some_iff.mp hs).1
 refine ⟨by rw [List.length_set]; exact R.len,fun j t e' n=>?_,fun j t e' n=>?_,R.ow,R.dis,fun b u n q=>?_,fun b q=>?_,R.fresh,R.inD,fun b z=>?_⟩
 ·have hij:i≠j:=fun z=>n (z▸hi)
  rw [List.getElem?_set_ne hij] at e'
  obtain ⟨v,h1,h2⟩:=R.val j t e' n
  exact ⟨v,h1,h2.mono (fun _ c=>c) k⟩
 ·by_cases hij:i=j
  ·subst hij
   rw [List.getElem?_set_self hl] at e'
   injection e' with e'
   injection e' with e'
   subst e'
   exact ⟨a,e,L _ k upd_same⟩
  ·rw [List.getElem?_set_ne hij] at e'
   obtain ⟨b,h1,h2⟩:=R.own j t e' n
   have hne:b≠a:=fun z=>hij (R.dis i j a hi n e (z▸h1))
   exact ⟨b,h1,h2.mono (fun _ c=>c) k fun u q=>by rw [upd_ne hne]; exact q⟩
 ·refine (upd_ne (fun z=>?_)).trans (R.keep b u n q)
  subst z
  rcases R.fresh b oa with z | z
  ·exact n z
  ·rw [z] at q; cases q
 ·refine R.dom b ?_
  unfold upd at q
  split at q
  ·cases q
  ·exact q
 ·intro q
  refine R.al b z ?_
  unfold upd at q
  split at q
  ·cases q
  ·exact q
theorem Step.write{i:Nat}{o:HO}(hi:i∈M)(e:σ[i]?=some (some (.ref a)))(_:H a≠none):Step σ M H (upd H a o):=⟨fun b u n q=>by
 exact (upd_ne (fun z:b=a=>n i hi (z▸e))).trans q,fun b q=>by
 unfold upd at q
 split at q
 ·cases q
 ·exact q⟩
theorem Rel.setE{i:Nat}(R:Rel F O M s σ H)(hM:∀ j,j∈M'->j∈M/\j≠i)(hk:∀ j,j∈M->j∈M'∨j=i)(hi:i < s.length)(r:Rep (Free F O) H v t):Rel F O M' (s.set i (some t)) (σ.set i (some v)) H:=by
 have hi2:i < σ.length:=by rw [<-R.len]; exact hi
 refine ⟨by rw [List.length_set,List.length_set]; exact R.len,fun j t' e n=>?_,fun j t' e n=>?_,fun j b hj e=>?_,fun j k b hj hk e1 e2=>?_,R.keep,R.dom,R.fresh,R.inD,R.al⟩
 ·by_cases hij:i=j
  ·subst hij
   rw [List.getElem?_set_self hi] at e
   injection e with e
   injection e with e
   subst e
   exact ⟨v,List.getElem?_set_self hi2,r⟩
  ·rw [List.getElem?_set_ne hij] at e
   rw [List.getElem?_set_ne hij]
   exact R.val j t' e fun z=>(hk j z).elim n fun z=>hij z.symm
 ·obtain ⟨h1,h2⟩:=hM j n
  rw [List.getElem?_set_ne (Ne.symm h2)] at e
  rw [List.getElem?_set_ne (Ne.symm h2)]
  exact R.own j t' e h1
 ·obtain ⟨h1,h2⟩:=hM j hj
  rw [List.getElem?_set_ne (Ne.symm h2)] at e
  exact R.ow j b h1 e
 ·obtain ⟨h1,h2⟩:=hM j hj
  obtain ⟨h3,h4⟩:=hM k hk
  rw [List.getElem?_set_ne (Ne.symm h2)] at e1
  rw [List.getElem?_set_ne (Ne.symm h4)] at e2
  exact R.dis j k b h1 h3 e1 e2
theorem Rel.setN{i:Nat}(R:Rel F O M s σ H)(hM:∀ j,j∈M'->j=i∨j∈M)(hk:∀ j,j∈M->j∈M')(hi:i < s.length)(him:i∈M')(oa:O a)(nw:∀ j,j∈M->j≠i->σ[j]?≠some (some (.ref a)))(L:Live (Free F O) H a t):Rel F O M' (s.set i (some t)) (σ.set i (some (.ref a))) H:=by
 have hi2:i < σ.length:=by rw [<-R.len]; exact hi
 refine ⟨by rw [List.length_set,List.length_set]; exact R.len,fun j t' e n=>?_,fun j t' e n=>?_,fun j b hj e=>?_,fun j k b hj hk' e1 e2=>?_,R.keep,R.dom,R.fresh,R.inD,R.al⟩
 ·have hij:i≠j:=fun z=>n (z▸him)
  rw [List.getElem?_set_ne hij] at e
  rw [List.getElem?_set_ne hij]
  exact R.val j t' e fun z=>n (hk j z)
 ·by_cases hij:i=j
  ·subst hij
   rw [List.getElem?_set_self hi] at e
   injection e with e
   injection e with e
   subst e
   exact ⟨a,List.getElem?_set_self hi2,L⟩
  ·rw [List.getElem?_set_ne hij] at e
   rw [List.getElem?_set_ne hij]
   exact R.own j t' e ((hM j n).resolve_left fun z=>hij z.symm)
 ·by_cases hij:i=j
  ·subst hij
   rw [List.getElem?_set_self hi2] at e
   injection e with e
   injection e with e
   injection e with e
   exact e▸oa
  ·rw [List.getElem?_set_ne hij] at e
   exact R.ow j b ((hM j hj).resolve_left fun z=>hij z.symm) e
 ·by_cases hij:i=j
  ·by_cases hik:i=k
   ·exact hij.symm.trans hik
   ·subst hij
    rw [List.getElem?_set_self hi2] at e1
    rw [List.getElem?_set_ne hik] at e2
    injection e1 with e1
    injection e1 with e1
    injection e1 with e1
    subst e1
    exact absurd e2 (nw k ((hM k hk').resolve_left fun z=>hik z.symm) (Ne.symm hik))
  ·rw [List.getElem?_set_ne hij] at e1
   by_cases hik:i=k
   ·subst hik
    rw [List.getElem?_set_self hi2] at e2
    injection e2 with e2
    injection e2 with e2
    injection e2 with e2
    subst e2
    exact absurd e1 (nw j ((hM j hj).resolve_left fun z=>hij z.symm) (Ne.symm hij))
   ·rw [List.getElem?_set_ne hik] at e2
    exact R.dis j k b ((hM j hj).resolve_left fun z=>hij z.symm) ((hM k hk').resolve_left fun z=>hik z.symm) e1 e2
theorem Ios.set{i:Nat}{x:Option V}(I:Ios F io M σ)(hio:i∉io)(hM:∀ j,j∈io->j∈M'):Ios F io M' (σ.set i x):=⟨fun j hj=>by
 refine ⟨hM j hj,?_⟩
 rw [List.getElem?_set_ne (fun z:i=j=>hio (z▸hj))]
 exact (I.at_ j hj).2,I.D⟩
end
def dSeq(f g:DS):DS:=fun s=>(f s).bind fun r=>match r with
 | .nx s'=>g s'
 | r=>some r
def dNext:DS:=fun s=>some (.nx s)
def dSet(i:Nat)(f:DE):DS:=fun s=>(f s).bind fun p=>if i < p.2.length then some (.nx (p.2.set i (some p.1))) else none
def dIfS(c:DT)(f g:DS):DS:=fun s=>(c s).bind fun p=>if p.1 then f p.2 else g p.2
def dDo(f:DE):DS:=fun s=>(f s).map fun p=>.nx p.2
def dBrk:DS:=fun s=>some (.bk s)
def dCnt:DS:=fun s=>some (.ct s)
section
variable {X:Cx}{rk:Kd}{io M M' M'' Mb:List Nat}{st:Stmt}{sts:List Stmt}{e c:Expr}{a b:List Stmt}{d d':DS}{fe:DE}{ft:DT}{pos pos':Pos}
theorem ss_nil:PSs X [] (cS rk io M M Mb dNext):=weakSs pss_nil (by
 intro D σ H h_;refine cS_ h_ fun F O s r R I hd q=>?_
 injection hd with hd
 subst hd
 exact q O σ H .refl R I)
theorem ss_one(h:PS X st (cS rk io M M' Mb d)):PSs X [st] (cS rk io M M' Mb d):=pss_one h
theorem ss_cons(h:PS X st (cS rk io M M' Mb d))(h2:PSs X sts (cS rk io M' M'' Mb d')):PSs X (st::sts) (cS rk io M M'' Mb (dSeq d d')):=weakSs (pss_cons h h2) (by
 intro D σ H h_;refine cS_ h_ fun F O s r R I hd q=>?_
 obtain ⟨r1,h1,h2⟩:=Qb hd
 refine ⟨F,O,s,r1,R,I,h1,?_⟩
 cases r1 with
 | nx s1=>exact fun O1 σ1 H1 k1 R1 I1=>⟨F,O1,s1,r,R1,I1,h2,q.more k1⟩
 | bk s1=>injection h2 with h2; subst h2; exact q
 | ct s1=>injection h2 with h2; subst h2; exact q
 | rt t s1=>injection h2 with h2; subst h2; exact q)
theorem s_if(hc:PT X c (cT M ft))(ha:PSs X a (cS rk io M M' Mb d))(hb:PSs X b (cS rk io M M' Mb d')):PS X (.If c a b pos) (cS rk io M M' Mb (dIfS ft d d')):=weakS (ps_if hc ha hb) (by
 intro D σ H h_;refine cS_ h_ fun F O s r R I hd q=>?_
 obtain ⟨p,h1,h2⟩:=Qb hd
 refine ⟨F,O,s,p.1,p.2,R,h1,fun H1 S1 R1=>?_⟩
 have k:=S1.keepO R
 dsimp only
 split at h2
 ·rename_i hp
  rw [if_pos hp]
  exact ⟨F,O,p.2,r,R1,I,h2,q.more k⟩
 ·rename_i hp
  rw [if_neg hp]
  exact ⟨F,O,p.2,r,R1,I,h2,q.more k⟩)
def setsE(M M' io:List Nat)(i:Nat):Bool:=M'.all (fun j=>M.contains j&&j != i)&&M.all (fun j=>M'.contains j||j == i)&&!io.contains i&&io.all (M'.contains ·)
def setsN(M M' io:List Nat)(i:Nat):Bool:=M'.all (fun j=>j == i||M.contains j)&&M.all (M'.contains ·)&&M'.contains i&&!io.contains i&&io.all (M'.contains ·)
theorem s_setE{i:Nat}(h:PS X st (tAsg (cE .e M fe) (gName i)))(hM:setsE M M' io i=true:=by rfl):PS X st (cS rk io M M' Mb (dSet i fe)):=weakS h (by
 unfold setsE at hM
 rw [Bool.and_eq_true,Bool.and_eq_true,Bool.and_eq_true] at hM
 obtain ⟨⟨⟨m1,m2⟩,m3⟩,m4⟩:=hM
 intro D σ H h_;refine cS_ h_ fun F O s r R I hd q=>?_
 obtain ⟨p,h1,h2⟩:=Qb hd
 split at h2
 ·rename_i hi
  injection h2 with h2
  subst h2
  refine ⟨F,O,s,p.1,p.2,R,h1,fun v H1 S1 p1=>?_⟩
  refine q O _ H1 (S1.keepO R) (p1.1.setE (fun j hj=>?_) (fun j hj=>?_) hi p1.2) (I.set (by simpa using m3) (sub_of m4))
  ·simpa using List.all_eq_true.mp m1 j hj
  ·simpa using List.all_eq_true.mp m2 j hj
 ·cases h2)
theorem s_setN{i:Nat}(h:PS X st (tAsg (cE .n M fe) (gName i)))(hM:setsN M M' io i=true:=by rfl):PS X st (cS rk io M M' Mb (dSet i fe)):=weakS h (by
 unfold setsN at hM
 rw [Bool.and_eq_true,Bool.and_eq_true,Bool.and_eq_true,Bool.and_eq_true] at hM
 obtain ⟨⟨⟨⟨m1,m2⟩,m5⟩,m3⟩,m4⟩:=hM
 intro D σ H h_;refine cS_ h_ fun F O s r R I hd q=>?_
 obtain ⟨p,h1,h2⟩:=Qb hd
 split at h2
 ·rename_i hi
  injection h2 with h2
  subst h2
  refine ⟨F,O,s,p.1,p.2,R,h1,fun v H1 S1 p1=>?_⟩
  obtain ⟨a,rfl,h0,R1,L⟩:=p1
  have k:KeepO O H (fun b=>O b∨b=a) H1:=⟨fun b o n h=>⟨S1.keep b o (R.notOwned n) h,fun z=>z.elim n fun z=>by rw [z,h0] at h; cases h⟩,S1.dom⟩
  refine q _ _ H1 k (R1.setN (fun j hj=>?_) (fun j hj=>?_) hi (by simpa using m5) (.inr rfl) (fun j hj _ e=>R.al a (R.ow j a hj e) h0) L) (I.set (by simpa using m3) (sub_of m4))
  ·simpa using List.all_eq_true.mp m1 j hj
  ·simpa using List.all_eq_true.mp m2 j hj
 ·cases h2)
theorem s_do{k:Kd}(hk:k=.e∨k=.b)(he:PE X e (cE k M fe))(hs:swapsWith e none pos.line X.env=pure false:=by rfl):PS X (.Expr e pos) (cS rk io M M Mb (dDo fe)):=weakS (ps_expr he hs) (by
 intro D σ H h_;refine cS_ h_ fun F O s r R I hd q=>?_
 obtain ⟨p,h1,h2⟩:=Qm hd
 subst h2
 refine ⟨F,O,s,p.1,p.2,R,h1,fun v H1 S1 p1=>?_⟩
 rcases hk with rfl | rfl
 ·exact q O σ H1 (S1.keepO R) p1.1 I
 ·exact q O σ H1 (S1.keepO R) p1.1 I)
theorem Free.c1{F:Fr}{O:Addr->Prop}{M:List Nat}{s:Sg}{σ:L2.St}{H:Hp}(R:Rel F O M s σ H){b:Addr}(c:Free F O b):C1 F b:=⟨fun z=>c.1 (R.inD b z),c.2⟩
theorem ret_e{F:Fr}{O:Addr->Prop}{s:Sg}{σ:L2.St}{H:Hp}{v:V}{t:T}(R:Rel F O M s σ H)(I:Ios F io M σ)(hio:∀ i,i∈io->∃ t,s[i]?=some (some t))(r:Rep (Free F O) H v t):RetOk F .e io s t v H:=by
 refine ⟨R.keep,R.dom,r.mono (fun _ c=>c.c1 R) (fun _ _ _ e=>e),fun i hi=>?_⟩
 obtain ⟨t',ht⟩:=hio i hi
 obtain ⟨h1,h2⟩:=I.at_ i hi
 obtain ⟨a,h3,L⟩:=R.own i t' ht h1
 rw [h2] at h3
 injection h3 with h3
 injection h3 with h3
 injection h3 with h3
 subst h3
 exact ⟨t',ht,L.mono (fun _ c=>c.c1 R) (fun _ _ _ e=>e) fun _ e=>e⟩
theorem ret_n{F:Fr}{O:Addr->Prop}{s:Sg}{σ:L2.St}{H:Hp}{t:T}{a:Addr}(R:Rel F O M s σ H)(I:Ios F io M σ)(hio:∀ i,i∈io->∃ t,s[i]?=some (some t))(oa:O a)(h0:F.H0 a=none)(nd:¬ F.D a)(L:Live (Free F O) H a t):RetOk F .n io s t (.ref a) H:=by
 have w:∀ b,Free F O b->C1 F b/\b≠a:=fun b c=>⟨c.c1 R,fun z=>c.1 (z▸oa)⟩
 refine ⟨R.keep,R.dom,a,rfl,h0,nd,L.mono w (fun _ _ _ e=>e) fun _ e=>e,fun i hi=>?_⟩
 obtain ⟨t',ht⟩:=hio i hi
 obtain ⟨h1,h2⟩:=I.at_ i hi
 obtain ⟨b,h3,L⟩:=R.own i t' ht h1
 rw [h2] at h3
 injection h3 with h3
 injection h3 with h3
 injection h3 with h3
 subst h3
 exact ⟨t',ht,L.mono w (fun _ _ _ e=>e) fun _ e=>e⟩
def hasAll(io:List Nat)(s:Sg):Bool:=io.all fun i=>(s[i]?).join.isSome
theorem hasAll.get{io:List Nat}{s:Sg}(h:hasAll io s=true):∀ i,i∈io->∃ t,s[i]?=some (some t):=fun i hi=>by
 have:=List.all_eq_true.mp h i hi
 cases e:(s[i]?).join with
 | none=>rw [e] at this; cases this
 | some t=>exact ⟨t,join_some e⟩
def dRetI(io:List Nat)(f:DE):DS:=fun s=>(f s).bind fun p=>if hasAll io p.2 then some (.rt p.1 p.2) else none
theorem s_retE(he:PE X e (cE .e M fe)):PS X (.Return (some e) pos) (cS .e io M M' Mb (dRetI io fe)):=weakS (ps_ret he) (by
 intro D σ H h_;refine cS_ h_ fun F O s r R I hd q=>?_
 obtain ⟨p,h1,h2⟩:=Qb hd
 split at h2
 ·rename_i hh
  injection h2 with h2
  subst h2
  exact ⟨F,O,s,p.1,p.2,R,h1,fun v H1 S1 p1=>q v H1 (ret_e p1.1 I (hasAll.get hh) p1.2)⟩
 ·cases h2)
theorem s_retN(he:PE X e (cE .n M fe)):PS X (.Return (some e) pos) (cS .n io M M' Mb (dRetI io fe)):=weakS (ps_ret he) (by
 intro D σ H h_;refine cS_ h_ fun F O s r R I hd q=>?_
 obtain ⟨p,h1,h2⟩:=Qb hd
 split at h2
 ·rename_i hh
  injection h2 with h2
  subst h2
  refine ⟨F,O,s,p.1,p.2,R,h1,fun v H1 S1 p1=>?_⟩
  obtain ⟨a,rfl,h0,R1,L⟩:=p1
  exact q _ H1 (ret_n R1 I (hasAll.get hh) (.inr rfl) (R.dom a h0) (fun z=>R.al a (R.inD a z) h0) L)
 ·cases h2)
end
end L3
namespace L3
open PySem PySem.Spec PyProof.Rows L2
variable [TheK]
def isLst:T->Bool
 | .lst _=>true
 | _=>false
def SM(r:V->List V->Hp->VK->Prop)(g:T->List T->Option (T × T)):Prop:=∀ (C:Addr->Prop) (H:Hp) a tx vs ts t' tr (Q:VK),¬ C a->Live C H a tx->Reps C H vs ts->g tx ts=some (t',tr)->
 (∀ o v,(∀ H1,(∀ b u,C b->H b=some u->H1 b=some u)->H1 a=some o->Live C H1 a t')->Rep C H v tr->Q v (upd H a o))->r (.ref a) vs H Q
def dMut(g:T->List T->Option (T × T))(i:Nat)(fa:DA):DE:=fun s=>(s[i]?).join.bind fun t0=>if isLst t0 then (fa s).bind fun p=>(p.2[i]?).join.bind fun t=>(g t p.1).map fun q=>(q.2,p.2.set i (some q.1)) else none
def mApp:T->List T->Option (T × T)
 | .lst xs,[t]=>if xs.length < sizeLine then some (.lst (xs++[t]),.non) else none
 | _,_=>none
def mPopAt:T->List T->Option (T × T)
 | .lst xs,[.int i]=>if 0<=i/\i<=1000000 then (xs[i.toNat]?).map fun y=>(.lst (xs.eraseIdx i.toNat),y) else none
 | _,_=>none
theorem Live.lst'{C:Addr->Prop}{H:Hp}{a:Addr}{ts:List T}(h:Live C H a (.lst ts)):∃ vs,H a=some (.lst vs)/\Reps C H vs ts:=by
 cases h with | lst r h=>exact ⟨_,r,h⟩
theorem Reps.one{C:Addr->Prop}{H:Hp}{vs:List V}{t:T}(h:Reps C H vs [t]):∃ v,vs=[v]/\Rep C H v t:=by
 obtain ⟨v,rfl⟩:=List.length_eq_one_iff.mp (show vs.length=1 from h.1)
 exact ⟨v,rfl,h.head⟩
theorem Reps.none{C:Addr->Prop}{H:Hp}{vs:List V}(h:Reps C H vs []):vs=[]:=List.length_eq_zero_iff.mp h.1
theorem Reps.snoc{C:Addr->Prop}{H:Hp}{vs:List V}{ts:List T}{v:V}{t:T}(h:Reps C H vs ts)(r:Rep C H v t):Reps C H (vs++[v]) (ts++[t]):=h.append (.cons r .nil)
theorem m_app:SM rAppend mApp:=by
 intro C H a tx vs ts t' tr Q hn L R hg q
 unfold mApp at hg
 split at hg
 ·split at hg
  ·rename_i hl
   injection hg with hg
   injection hg with h1 h2
   subst h1 h2
   obtain ⟨us,h1,h2⟩:=L.lst'
   obtain ⟨v,rfl,rv⟩:=R.one
   refine ⟨a,us,v,rfl,rfl,h1,by rw [h2.1]; exact hl,q _ _ (fun H1 k e=>.lst e ?_) .non⟩
   exact (h2.snoc rv).mono (fun _ c=>c) k
  ·cases hg
 ·cases hg
section
variable {X:Cx}{M:List Nat}{fa:DA}
theorem mut_e{r:V->List V->Hp->VK->Prop}{g:T->List T->Option (T × T)}{i:Nat}(hi:M.contains i=true)(hs:SM r g):∀ σ H Q,cE .e M (dMut g i fa) σ H Q->tBM X.K "list" r (tVar i) (cA M fa) σ H Q:=by
 intro σ H Q h_;refine cE_ h_ fun F O s t s' R hf q=>?_
 have hi':i∈M:=by simpa using hi
 obtain ⟨t0,h0,hf⟩:=Qb hf
 split at hf
 ·rename_i hl
  obtain ⟨p,h1,hf⟩:=Qb hf
  obtain ⟨t1,h2,hf⟩:=Qb hf
  obtain ⟨w,h3,h4⟩:=Qm hf
  injection h4 with h4 h5
  subst h4 h5
  obtain ⟨a,e1,L0⟩:=R.own i t0 (join_some h0) hi'
  refine ⟨_,e1,?_,F,O,s,p.1,p.2,R,h1,fun vs H1 S1 R1 rs=>?_⟩
  ·cases L0 with
   | lst r h=>exact .inl ⟨rfl,_,SqL.of r⟩
   | _=>cases hl
  obtain ⟨b,e2,L⟩:=R1.own i t1 (join_some h2) hi'
  rw [e1] at e2
  injection e2 with e2
  injection e2 with e2
  injection e2 with e2
  subst e2
  refine hs (Free F O) H1 a t1 vs p.1 w.1 w.2 Q (fun z=>z.1 (R1.ow i a hi' e1)) L rs h3 fun o v hL rv=>?_
  have R2:=R1.write (o:=o) hi' e1 (join_some h2) hL
  refine q v _ (S1.trans (.write hi' e1 L.ne)) ⟨R2,?_⟩
  exact R1.stay (.write hi' e1 L.ne) rv
 ·cases hf
end
def putT(kvs:List (Key × T))(k:Key)(v:T):List (Key × T):=
 if kvs.any fun kv=>decide (kv.1=k) then kvs.map fun kv=>if kv.1=k then (kv.1,v) else kv else kvs++[(k,v)]
theorem RepK.any{C:Addr->Prop}{H:Hp}(k:Key):∀ {vs:List (Key × V)} {ts:List (Key × T)},RepK C H vs ts->(vs.any fun kv=>decide (kv.1=k))=ts.any fun kv=>decide (kv.1=k)
 | [],[],_=>rfl
 | p::vs,[],h=>by have:=h.1; simp at this
 | [],q::ts,h=>by have:=h.1; simp at this
 | p::vs,q::ts,h=>by
  obtain ⟨e,r,h'⟩:=h.tail
  rw [List.any_cons,List.any_cons,RepK.any k h',e]
theorem RepK.mapPut{C:Addr->Prop}{H:Hp}{k:Key}{v:V}{t:T}(r:Rep C H v t):∀ {vs:List (Key × V)} {ts:List (Key × T)},RepK C H vs ts->RepK C H (vs.map fun kv=>if kv.1=k then (kv.1,v) else kv) (ts.map fun kv=>if kv.1=k then (kv.1,t) else kv)
 | [],[],h=>h
 | p::vs,[],h=>by have:=h.1; simp at this
 | [],q::ts,h=>by have:=h.1; simp at this
 | p::vs,q::ts,h=>by
  obtain ⟨e,r',h'⟩:=h.tail
  rw [List.map_cons,List.map_cons]
  by_cases hk:q.1=k
  ·rw [if_pos hk,if_pos (e.trans hk)]
   exact .cons e r (RepK.mapPut r h')
  ·rw [if_neg hk,if_neg (fun z=>hk (e.symm.trans z))]
   exact .cons e r' (RepK.mapPut r h')
theorem RepK.append{C:Addr->Prop}{H:Hp}:∀ {vs ws:List (Key × V)} {ts us:List (Key × T)},RepK C H vs ts->RepK C H ws us->RepK C H (vs++ws) (ts++us)
 | [],_,[],_,_,h=>h
 | p::vs,_,[],_,h,_=>by have:=h.1; simp at this
 | [],_,q::ts,_,h,_=>by have:=h.1; simp at this
 | p::vs,_,q::ts,_,h,h2=>by
  obtain ⟨e,r',h'⟩:=h.tail
  exact .cons e r' (RepK.append h' h2)
theorem RepK.put{C:Addr->Prop}{H:Hp}{k:Key}{v:V}{t:T}{vs:List (Key × V)}{ts:List (Key × T)}(h:RepK C H vs ts)(r:Rep C H v t):RepK C H (putK vs k v) (putT ts k t):=by
 unfold putK putT
 rw [h.any k]
 split
 ·exact RepK.mapPut r h
 ·exact RepK.append h (.cons rfl r ⟨rfl,fun i v t e=>by simp at e⟩)
theorem RepK.len{C:Addr->Prop}{H:Hp}{vs:List (Key × V)}{ts:List (Key × T)}(h:RepK C H vs ts):vs.length=ts.length:=by simpa using congrArg List.length h.1
def dPut(i:Nat)(fk fv:DE):DS:=fun s=>(fv s).bind fun p=>(p.2[i]?).join.bind fun _=>(fk p.2).bind fun q=>(q.2[i]?).join.bind fun t=>match t with
 | .dct kvs=>(keyT q.1).bind fun k=>if kvs.length < sizeLine then some (.nx (q.2.set i (some (.dct (putT kvs k p.1))))) else none
 | _=>none
def dSetI(i:Nat)(fk fv:DE):DS:=fun s=>(fv s).bind fun p=>(p.2[i]?).join.bind fun _=>(fk p.2).bind fun q=>(q.2[i]?).join.bind fun t=>match t,q.1 with
 | .lst xs,.int k=>(ixN xs.length k).map fun j=>.nx (q.2.set i (some (.lst (xs.set j p.1))))
 | _,_=>none
section
variable {X:Cx}{rk:Kd}{io M M' Mb:List Nat}{st:Stmt}{fk fv:DE}
theorem s_put{i:Nat}(hi:M.contains i=true)(h:PS X st (sDPut (tVar i) (cE .e M fk) (cE .e M fv))):PS X st (cS rk io M M Mb (dPut i fk fv)):=weakS h (by
 intro D σ H h_;refine cS_ h_ fun F O s r R I hd q=>?_
 have hi':i∈M:=by simpa using hi
 obtain ⟨p,h1,hd⟩:=Qb hd
 obtain ⟨t0,h0,hd⟩:=Qb hd
 obtain ⟨w,h2,hd⟩:=Qb hd
 obtain ⟨t1,h3,hd⟩:=Qb hd
 obtain ⟨kvs,rfl⟩:∃ kvs,t1=.dct kvs:=by cases t1<;>first | exact ⟨_,rfl⟩ | cases hd
 have hd:((keyT w.1).bind fun k=>if kvs.length < sizeLine then some (Fl.nx (w.2.set i (some (.dct (putT kvs k p.1))))) else none)=some r:=hd
 obtain ⟨k,h4,hd⟩:=Qb hd
 split at hd
 case isFalse=>cases hd
 rename_i h5
 injection hd with h6
 subst h6
 refine ⟨F,O,s,p.1,p.2,R,h1,fun v H1 S1 p1=>?_⟩
 obtain ⟨a,e1,_⟩:=p1.1.own i t0 (join_some h0) hi'
 refine ⟨_,e1,F,O,p.2,w.1,w.2,p1.1,h2,fun y H2 S2 p2=>?_⟩
 obtain ⟨b,e2,L⟩:=p2.1.own i _ (join_some h3) hi'
 rw [e1] at e2
 injection e2 with e2
 injection e2 with e2
 injection e2 with e2
 subst e2
 have ne:=L.ne
 cases L with
 | dct hr hk=>
  obtain rfl:=keyT_ok (.inl p2.2) h4
  refine ⟨a,_,rfl,DPut.k hr (by rw [hk.len]; exact h5),?_⟩
  have rv:=p1.1.stay S2 p1.2
  have R2:=p2.1.write (t':=.dct (putT kvs k p.1)) hi' e1 (join_some h3) (fun Hx kx ex=>.dct ex ((hk.put rv).mono (fun _ c=>c) kx))
  exact q O σ _ (((S1.trans S2).trans (.write hi' e1 ne)).keepO R) R2 I)
theorem s_setI{i:Nat}(hi:M.contains i=true)(h:PS X st (tAsg (cE .e M fv) (gSub (tVar i) (cE .e M fk) rSetL))):PS X st (cS rk io M M Mb (dSetI i fk fv)):=weakS h (by
 intro D σ H h_;refine cS_ h_ fun F O s r R I hd q=>?_
 have hi':i∈M:=by simpa using hi
 obtain ⟨p,h1,hd⟩:=Qb hd
 obtain ⟨t0,h0,hd⟩:=Qb hd
 obtain ⟨⟨w1,w2⟩,h2,hd⟩:=Qb hd
 obtain ⟨t1,h3,hd⟩:=Qb hd
 obtain ⟨xs,rfl⟩:∃ xs,t1=.lst xs:=by cases t1<;>first | exact ⟨_,rfl⟩ | cases hd
 obtain ⟨k,rfl⟩:∃ k,w1=.int k:=by cases w1<;>first | exact ⟨_,rfl⟩ | cases hd
 obtain ⟨j,h4,h6⟩:=Qm (show (ixN xs.length k).map (fun j=>Fl.nx (w2.set i (some (.lst (xs.set j p.1)))))=some r from hd)
 subst h6
 refine ⟨F,O,s,p.1,p.2,R,h1,fun v H1 S1 p1=>?_⟩
 obtain ⟨a,e1,_⟩:=p1.1.own i t0 (join_some h0) hi'
 refine ⟨_,e1,F,O,p.2,_,_,p1.1,h2,fun y H2 S2 p2=>?_⟩
 obtain ⟨b,e2,L⟩:=p2.1.own i _ (join_some h3) hi'
 rw [e1] at e2
 injection e2 with e2
 injection e2 with e2
 injection e2 with e2
 subst e2
 have ne:=L.ne
 obtain ⟨vs,hr,hk⟩:=L.lst'
 obtain rfl:y=.int k:=BRep.int (.inl p2.2)
 refine ⟨a,vs,k,j,rfl,rfl,hr,by rw [hk.1]; exact h4,?_⟩
 have rv:=p1.1.stay S2 p1.2
 have R2:=p2.1.write (t':=.lst (xs.set j p.1)) hi' e1 (join_some h3) (fun Hx kx ex=>.lst ex ((hk.set j rv).mono (fun _ c=>c) kx))
 exact q O σ _ (((S1.trans S2).trans (.write hi' e1 ne)).keepO R) R2 I)
def dAug(i:Nat)(f:DE):DS:=fun s=>(s[i]?).join.bind fun x=>(f s).bind fun p=>match x,p.1 with
 | .int a,.int b=>some (.nx (p.2.set i (some (.int (a+b)))))
 | _,_=>none
def gsN:List Nat->TGs
 | []=>gNil
 | i::r=>gCons (gName i) (gsN r)
def setAll:List Nat->List T->Sg->Option Sg
 | [],[],s=>some s
 | i::is,t::ts,s=>if i < s.length then setAll is ts (s.set i (some t)) else none
 | _,_,_=>none
def itemsT:T->Option (List T)
 | .lst xs=>some xs
 | .tup xs=>some xs
 | _=>none
def dUn(is:List Nat)(f:DE):DS:=fun s=>(f s).bind fun p=>(itemsT p.1).bind fun ts=>(setAll is ts p.2).map .nx
end
end L3
namespace L3
open PySem PySem.Spec PyProof.Rows L2
variable [TheK]
def ItOk(F:Fr)(O:Addr->Prop)(its:List T)(J:It)(H1:Hp):Prop:=∀ H2,(∀ b o,Free F O b->H1 b=some o->H2 b=some o)->
 ∀ i:Nat,(∀ t,its[i]?=some t->J.go i H2/\∀ x H3,J.yld i H2 x H3->(H3=H2∨∃ p o,H2 p=none/\H3=upd H2 p o)/\Rep (fun b=>(Free F O b/\H1 b≠none)∨H2 b=none) H3 x t)/\(its.length<=i->J.stop i H2)
abbrev DI:=Sg->Option (List T × Sg)
def cI(M:List Nat)(f:DI):TI:=fun σ H R=>∃ F O s its s',Rel F O M s σ H/\f s=some (its,s')/\∀ J H',Step σ M H H'->Rel F O M s' σ H'->ItOk F O its J H'->R J H'
theorem cI_{M:List Nat}{f:DI}{σ:L2.St}{H:Hp}{R:_}(h:cI M f σ H R){G:Prop}(g:∀ F O s its s',Rel F O M s σ H->f s=some (its,s')->(∀ J H',Step σ M H H'->Rel F O M s' σ H'->ItOk F O its J H'->R J H')->G):G:=by
 obtain ⟨F,O,s,its,s',Rl,hf,q⟩:=h
 exact g F O s its s' Rl hf q
theorem weakI{X:Cx}{tg e:Expr}{t t':TI}(h:PI X tg e t)(hw:∀ σ H R,t' σ H R->t σ H R):PI X tg e t':=fun pins s σ H R I q=>h pins s σ H R I (hw _ _ _ q)
def dIt(f:DE):DI:=fun s=>(f s).bind fun p=>match p.1 with
 | .lst xs=>some (xs,p.2)
 | .scr ns=>some (ns.map .int,p.2)
 | _=>none
def dItT(f:DE):DI:=fun s=>(f s).bind fun p=>match p.1 with
 | .tup xs=>some (xs,p.2)
 | _=>none
def rangeT(lo:Int)(n:Nat):List T:=(List.range n).map fun (i:Nat)=>T.int (lo+i)
def rgOk(j:Int):Bool:=(j+2000).natAbs.ble 4000
theorem rgOk_iff{j:Int}(h:rgOk j=true):-(2 ^ 62)<=j/\j < 2 ^ 62:=by
 unfold rgOk at h
 have:=Nat.le_of_ble_eq_true h
 lia
def dRg1(f:DA):DI:=fun s=>(f s).bind fun p=>match p.1 with
 | [.int j]=>if rgOk j=true then some (rangeT 0 j.toNat,p.2) else none
 | _=>none
def dRg2(f:DA):DI:=fun s=>(f s).bind fun p=>match p.1 with
 | [.int i,.int j]=>if rgOk i=true/\rgOk j=true then some (rangeT i (j - i).toNat,p.2) else none
 | _=>none
def enumT(xs:List T):List T:=(List.range xs.length).map fun (i:Nat)=>T.tup [.int i,xs.getD i .non]
def dEn(f:DA):DI:=fun s=>(f s).bind fun p=>match p.1 with
 | [.lst xs]=>some (enumT xs,p.2)
 | _=>none
section
variable {X:Cx}{M:List Nat}{tg e:Expr}{fe:DE}{fa:DA}
theorem it_list{F:Fr}{O:Addr->Prop}{H1:Hp}{a:Addr}{vs:List V}{ts:List T}{K:PySem.W.Frag}(fr:Free F O a)(ha:H1 a=some (.lst vs))(r:Reps (Free F O) H1 vs ts):ItOk F O ts (Itl K a) H1:=by
 intro H2 k i
 have h2:=k a _ fr ha
 refine ⟨fun t ht=>?_,fun hl=>⟨vs,SqL.of h2,by rw [r.1]; exact hl⟩⟩
 obtain ⟨v,hv,rv⟩:=r.get ht
 refine ⟨⟨vs,v,SqL.of h2,hv⟩,fun x H3 ⟨e1,e2⟩=>⟨.inl e1,?_⟩⟩
 have:=e2 vs (SqL.of h2)
 rw [hv] at this
 obtain rfl:v=x:=Option.some.inj this
 subst e1
 exact rv.there.mono (fun b c=>.inl c) fun b o c e=>k b o c.1 e
theorem it_scr{F:Fr}{O:Addr->Prop}{H1:Hp}{a:Addr}{ns:List Int}{K:PySem.W.Frag}(h:∀ H2,(∀ b o,Free F O b->H1 b=some o->H2 b=some o)->SqL K H2 a (ns.map V.int)):ItOk F O (ns.map T.int) (Itl K a) H1:=by
 intro H2 k i
 have h2:=h H2 k
 refine ⟨fun t ht=>?_,fun hl=>⟨_,h2,by simpa using hl⟩⟩
 obtain ⟨v,hv,rv⟩:=(reps_ints (C:=fun b=>(Free F O b/\H1 b≠none)∨H2 b=none) (H:=H2) ns).get ht
 refine ⟨⟨_,v,h2,hv⟩,fun x H3 ⟨e1,e2⟩=>⟨.inl e1,?_⟩⟩
 have:=e2 _ h2
 rw [hv] at this
 obtain rfl:v=x:=Option.some.inj this
 subst e1
 exact rv
theorem i_list(hK:X.K=TheK.K)(h:PE X e (cE .e M fe)):PI X tg e (cI M (dIt fe)):=weakI (t:=iList TheK.K (cE .e M fe)) (hK▸pi_list h) (by
 intro σ H R h_;refine cI_ h_ fun F O s its s' Rl hf q=>?_
 obtain ⟨⟨p1,p2⟩,h1,h2⟩:=Qb hf
 refine ⟨F,O,s,p1,p2,Rl,h1,fun v H1 S1 po=>?_⟩
 cases p1<;>simp at h2
 ·obtain ⟨h3,h4⟩:=h2
  subst h3 h4
  have po2:=po.2
  cases po2 with
  | lst c r l h=>
   exact ⟨_,rfl,⟨_,SqL.of r⟩,q _ H1 S1 po.1 (it_list c r ⟨l,h⟩)⟩
 ·obtain ⟨h3,h4⟩:=h2
  subst h3 h4
  have po2:=po.2
  cases po2 with
  | @scr a ns o c r=>
   refine ⟨a,rfl,⟨_,.inl (.inr ⟨o,r⟩)⟩,q _ H1 S1 po.1 ?_⟩
   exact it_scr fun H2 k=>.inl (.inr ⟨o,k a _ c r⟩)
  | @scrK a ns r=>
   refine ⟨a,rfl,⟨_,r H1⟩,q _ H1 S1 po.1 ?_⟩
   exact it_scr fun H2 k=>r H2)
theorem i_tup(h:PE X e (cE .e M fe)):PI X tg e (cI M (dItT fe)):=weakI (pi_tup h) (by
 intro σ H R h_;refine cI_ h_ fun F O s its s' Rl hf q=>?_
 obtain ⟨⟨p1,p2⟩,h1,h2⟩:=Qb hf
 refine ⟨F,O,s,p1,p2,Rl,h1,fun v H1 S1 po=>?_⟩
 cases p1<;>simp at h2
 obtain ⟨h3,h4⟩:=h2
 subst h3 h4
 have po2:=po.2
 cases po2 with
 | tup c r l h=>
  rename_i a vs
  refine ⟨a,rfl,⟨vs,SqT.of r⟩,q _ H1 S1 po.1 ?_⟩
  intro H2 k i
  have h2:=k a _ c r
  refine ⟨fun t ht=>?_,fun hl=>⟨vs,SqT.of h2,by rw [l]; exact hl⟩⟩
  obtain ⟨v,hv,rv⟩:=Reps.get (⟨l,h⟩:Reps (Free F O) H1 vs _) ht
  refine ⟨⟨vs,v,SqT.of h2,hv⟩,fun x H3 ⟨e1,e2⟩=>⟨.inl e1,?_⟩⟩
  have:=e2 vs (SqT.of h2)
  rw [hv] at this
  obtain rfl:v=x:=Option.some.inj this
  subst e1
  exact rv.there.mono (fun b c=>.inl c) fun b o c e=>k b o c.1 e)
theorem it_range{F:Fr}{O:Addr->Prop}{H1:Hp}{lo:Int}{n:Nat}:ItOk F O (rangeT lo n) (Itr lo n) H1:=by
 intro H2 k i
 unfold rangeT
 refine ⟨fun t ht=>?_,fun hl=>by show n<=i; simpa using hl⟩
 rw [List.getElem?_map] at ht
 obtain ⟨j,hj,e⟩:=Qm ht
 have hi:i < n:=by simpa using (List.getElem?_eq_some_iff.mp hj).1
 rw [List.getElem?_range hi] at hj
 obtain rfl:i=j:=Option.some.inj hj
 refine ⟨hi,fun x H3 ⟨e1,e2⟩=>⟨.inl e1,?_⟩⟩
 subst e1 e2 e
 exact .int _
theorem i_range1{a:Expr}{p pos:Pos}(hg:Gl X "range")(hm:X.mg "range"=none)(ha:PA X [a] (cA M fa))(hs:starEach [a] X.env=[(false,eval a X.env)]:=by rfl):PI X tg (.Call (.Name "range" p) [a] [] pos) (cI M (dRg1 fa)):=weakI (pi_range1 hg hm ha hs) (by
 intro σ H R h_;refine cI_ h_ fun F O s its s' Rl hf q=>?_
 obtain ⟨⟨p1,p2⟩,h1,h2⟩:=Qb hf
 refine ⟨F,O,s,p1,p2,Rl,h1,fun vs H1 S1 R1 rs=>?_⟩
 dsimp only at h2
 split at h2
 case h_2=>cases h2
 ·rename_i j
  have h2:(if rgOk j=true then some (rangeT 0 j.toNat,p2) else none)=some (its,s'):=h2
  split at h2
  ·rename_i hj
   have hj:=rgOk_iff hj
   injection h2 with h2
   injection h2 with h3 h4
   subst h3 h4
   obtain ⟨v,rfl,rv⟩:=rs.one
   obtain rfl:v=.int j:=BRep.int (.inl rv)
   exact ⟨j,rfl,hj.1,hj.2,q _ H1 S1 R1 it_range⟩
  ·cases h2)
theorem i_range2{a b:Expr}{p pos:Pos}(hg:Gl X "range")(hm:X.mg "range"=none)(ha:PA X [a,b] (cA M fa))(hs:starEach [a,b] X.env=[(false,eval a X.env),(false,eval b X.env)]:=by rfl)(hs2:starEach [b] X.env=[(false,eval b X.env)]:=by rfl):PI X tg (.Call (.Name "range" p) [a,b] [] pos) (cI M (dRg2 fa)):=weakI (pi_range2 hg hm ha hs hs2) (by
 intro σ H R h_;refine cI_ h_ fun F O s its s' Rl hf q=>?_
 obtain ⟨⟨p1,p2⟩,h1,h2⟩:=Qb hf
 refine ⟨F,O,s,p1,p2,Rl,h1,fun vs H1 S1 R1 rs=>?_⟩
 dsimp only at h2
 split at h2
 case h_2=>cases h2
 ·rename_i i j
  have h2:(if rgOk i=true/\rgOk j=true then some (rangeT i (j - i).toNat,p2) else none)=some (its,s'):=h2
  split at h2
  ·rename_i hj
   have hj:-(2 ^ 62)<=i/\i < 2 ^ 62/\-(2 ^ 62)<=j/\j < 2 ^ 62:=⟨(rgOk_iff hj.1).1,(rgOk_iff hj.1).2,rgOk_iff hj.2⟩
   injection h2 with h2
   injection h2 with h3 h4
   subst h3 h4
   match vs,rs with
   | v::vs,rs=>
    obtain ⟨u,rfl,ru⟩:=rs.tail.one
    obtain rfl:v=.int i:=BRep.int (.inl rs.head)
    obtain rfl:u=.int j:=BRep.int (.inl ru)
    exact ⟨i,j,rfl,hj,q _ H1 S1 R1 it_range⟩
   | [],rs=>exact absurd rs.1 (by simp)
  ·cases h2)
theorem i_enum{elts:List Expr}{x1:Nat}{tp:Pos}{a:Expr}{p pos:Pos}(hg:Gl X "enumerate")(hm:X.mg "enumerate"=none)(ha:PA X [a] (cA M fa))(hs:starEach [a] X.env=[(false,eval a X.env)]:=by rfl):PI X (.Tuple elts x1 tp) (.Call (.Name "enumerate" p) [a] [] pos) (cI M (dEn fa)):=weakI (pi_enum hg hm ha hs) (by
 intro σ H R h_;refine cI_ h_ fun F O s its s' Rl hf q=>?_
 obtain ⟨⟨p1,p2⟩,h1,h2⟩:=Qb hf
 refine ⟨F,O,s,p1,p2,Rl,h1,fun vs H1 S1 R1 rs=>?_⟩
 dsimp only at h2
 split at h2
 case h_2=>cases h2
 ·rename_i xs
  injection h2 with h2
  injection h2 with h3 h4
  subst h3 h4
  obtain ⟨v,rfl,rv⟩:=rs.one
  cases rv with
  | @lst a us _ c r l h=>
   refine ⟨a,rfl,⟨us,SqL.of r⟩,q _ H1 S1 R1 ?_⟩
   intro H2 k i
   have h2:=k a _ c r
   have hlen:(enumT xs).length=us.length:=by unfold enumT; rw [List.length_map,List.length_range,l]
   refine ⟨fun t ht=>?_,fun hl=>⟨us,SqL.of h2,by rw [<-hlen]; exact hl⟩⟩
   have hi:i < us.length:=by rw [<-hlen]; exact (List.getElem?_eq_some_iff.mp ht).1
   have hx:i < xs.length:=by rw [<-l]; exact hi
   have et:t=.tup [.int i,xs[i]]:=by
    unfold enumT at ht
    rw [List.getElem?_map,List.getElem?_range hx] at ht
    have:=Option.some.inj ht
    rw [<-this]
    simp [List.getD,List.getElem?_eq_getElem hx]
   subst et
   refine ⟨⟨us,us[i],SqL.of h2,List.getElem?_eq_getElem hi⟩,fun x H3 ⟨p',x',e1,e2,e3,e4⟩=>⟨.inr ⟨p',_,e2,e3⟩,?_⟩⟩
   have:=e4 us (SqL.of h2)
   rw [List.getElem?_eq_getElem hi] at this
   obtain rfl:us[i]=x':=Option.some.inj this
   subst e1 e3
   have ri:=h i _ _ (List.getElem?_eq_getElem hi) (List.getElem?_eq_getElem hx)
   have ri2:Rep (fun b=>(Free F O b/\H1 b≠none)∨H2 b=none) (upd H2 p' (.tup [.int i,us[i]])) us[i] xs[i]:=
    ri.there.mono (fun b c=>.inl c) fun b o c e=>by rw [upd_ne (ne_of_none (k b o c.1 e) e2)]; exact k b o c.1 e
   have rr:Reps (fun b=>(Free F O b/\H1 b≠none)∨H2 b=none) (upd H2 p' (.tup [.int i,us[i]])) [.int i,us[i]] [.int i,xs[i]]:=.cons (.int _) (.cons ri2 .nil)
   exact .tup (.inr e2) upd_same rr.1 rr.2)
end
abbrev DG:=T->Sg->Option Sg
def cG(io M:List Nat)(g:DG):TG:=fun v σ H Q=>∃ F O s t s',Rel F O M s σ H/\Ios F io M σ/\Rep (Free F O) H v t/\g t s=some s'/\∀ σ',Rel F O M s' σ' H->Ios F io M σ'->Q σ' H
def dGn(i:Nat):DG:=fun t s=>if i < s.length then some (s.set i (some t)) else none
def dGt(is:List Nat):DG:=fun t s=>match t with
 | .tup ts=>setAll is ts s
 | _=>none
theorem weakG{X:Cx}{e:Expr}{t t':TG}(h:PG X e t)(hw:∀ v σ H Q,t' v σ H Q->t v σ H Q):PG X e t':=fun pins s σ H v u Q I r q=>h pins s σ H v u Q I r (hw _ _ _ _ q)
section
variable {X:Cx}{rk:Kd}{io M M' Mb:List Nat}{tg iter:Expr}{body:List Stmt}{fi:DI}{g:DG}{db:DS}{pos:Pos}
theorem gn{i:Nat}(hi:M.contains i=false)(hio:io.all (M.contains ·)=true):∀ v σ H Q,cG io M (dGn i) v σ H Q->gName i v σ H Q:=by
 rintro v σ H Q ⟨F,O,s,t,s',R,I,r,hg,q⟩
 have hi':i∉M:=by simpa using hi
 unfold dGn at hg
 split at hg
 ·rename_i hl
  injection hg with hg
  subst hg
  exact q _ (R.setE (fun j hj=>⟨hj,fun z=>hi' (z▸hj)⟩) (fun j hj=>.inl hj) hl r) (I.set (fun z=>hi' (sub_of hio i z)) (sub_of hio))
 ·cases hg
theorem g_name{i:Nat}(h:PG X tg (gName i))(hi:M.contains i=false:=by rfl)(hio:io.all (M.contains ·)=true:=by rfl):PG X tg (cG io M (dGn i)):=weakG h (gn hi hio)
def loopF(g:DG)(db:DS):List T->Sg->Option Fl
 | [],s=>some (.nx s)
 | x::xs,s=>(g x s).bind fun s1=>(db s1).bind fun r=>match r with
  | .nx s2=>loopF g db xs s2
  | .ct s2=>loopF g db xs s2
  | .bk s2=>some (.nx s2)
  | .rt t s2=>some (.rt t s2)
def dFor(fi:DI)(g:DG)(db:DS):DS:=fun s=>(fi s).bind fun p=>loopF g db p.1 p.2
theorem rel_yield{F:Fr}{O O1:Addr->Prop}{s:Sg}{σ:L2.St}{H1 H2 H3:Hp}{x:V}{t:T}(k:KeepO O H1 O1 H2)(R:Rel F O1 M s σ H2)(hy:H3=H2∨∃ p o,H2 p=none/\H3=upd H2 p o)(r:Rep (fun b=>(Free F O b/\H1 b≠none)∨H2 b=none) H3 x t) :
  Rel F O1 M s σ H3/\KeepO O1 H2 O1 H3/\Rep (Free F O1) H3 x t:=by
 have fr:∀ b,((Free F O b/\H1 b≠none)∨H2 b=none)->Free F O1 b:=fun b c=>by
  rcases c with ⟨c,n⟩ | n
  ·cases e:H1 b with
   | none=>exact absurd e n
   | some o=>exact ⟨(k.1 b o c.1 e).2,c.2⟩
  ·exact ⟨fun z=>R.al b z n,.inr (R.dom b n)⟩
 refine ⟨?_,?_,r.mono fr fun _ _ _ e=>e⟩
 ·rcases hy with rfl | ⟨p,o,hp,rfl⟩
  ·exact R
  ·exact (R.new hp o).less (fun b z=>.inl z) R.ow R.inD
 ·rcases hy with rfl | ⟨p,o,hp,rfl⟩
  ·exact .refl
  ·exact ⟨fun b u n e=>⟨by rw [upd_ne (ne_of_none e hp)]; exact e,n⟩,fun b e=>by
    unfold upd at e
    split at e
    ·cases e
    ·exact e⟩
theorem for_ok:∀ D σ H,cS rk io M M Mb (dFor fi g db) D σ H->tFor (cI M fi) (cG io M g) (cS rk io M M M db) D σ H:=by
 intro D σ H h_;refine cS_ h_ fun F O s r R I hd q=>?_
 obtain ⟨⟨its,s1⟩,h1,h2⟩:=Qb hd
 refine ⟨F,O,s,its,s1,R,h1,fun J H1 S1 R1 IT=>?_⟩
 have k1:KeepO O H O H1:=S1.keepO R
 refine ⟨fun i m σ' H'=>m=its.length - i/\i<=its.length/\∃ O' s',KeepO O H1 O' H'/\Rel F O' M s' σ' H'/\Ios F io M σ'/\loopF g db (its.drop i) s'=some r,⟨its.length,by simp,Nat.zero_le _,O,s1,.refl,R1,I,h2⟩,?_⟩
 rintro i m σ2 H2 ⟨rfl,hi,O2,s2,k2,R2,I2,hl⟩
 have it:=IT H2 (fun b o c e=>(k2.1 b o c.1 e).1) i
 by_cases hlt:i < its.length
 ·refine .inr ?_
  obtain ⟨go,yl⟩:=it.1 its[i] (List.getElem?_eq_getElem hlt)
  rw [List.drop_eq_getElem_cons hlt] at hl
  unfold loopF at hl
  obtain ⟨s3,hg,hl⟩:=Qb hl
  obtain ⟨r1,hb,hl⟩:=Qb hl
  refine ⟨go,fun σ' H'=>∃ O' s',KeepO O H1 O' H'/\Rel F O' M s' σ' H'/\Ios F io M σ'/\loopF g db (its.drop (i+1)) s'=some r,fun σ' H' ⟨O',s',h⟩=>⟨its.length - (i+1),by lia,rfl,hlt,O',s',h⟩,fun x H3 hy=>?_⟩
  obtain ⟨y1,y2⟩:=yl x H3 hy
  obtain ⟨R3,k3,rx⟩:=rel_yield k2 R2 y1 y2
  have k13:=k2.trans k3
  refine ⟨F,O2,s2,its[i],s3,R3,I2,rx,hg,fun σ4 R4 I4=>⟨F,O2,s3,r1,R4,I4,hb,?_⟩⟩
  cases r1 with
  | nx s5=>exact fun O5 σ5 H5 k5 R5 I5=>⟨O5,s5,k13.trans k5,R5,I5,hl⟩
  | ct s5=>exact fun O5 σ5 H5 k5 R5 I5=>⟨O5,s5,k13.trans k5,R5,I5,hl⟩
  | bk s5=>
   injection hl with hl
   subst hl
   exact fun O5 σ5 H5 k5 R5 I5=>q O5 σ5 H5 (k1.trans (k13.trans k5)) R5 I5
  | rt t s5=>
   injection hl with hl
   subst hl
   exact q
 ·have e:i=its.length:=by lia
  subst e
  rw [List.drop_length] at hl
  injection hl with hl
  subst hl
  exact .inl ⟨it.2 (Nat.le_refl _),q O2 σ2 H2 (k1.trans k2) R2 I2⟩
theorem s_for(h:PS X (.For tg iter body [] pos) (tFor (cI M fi) (cG io M g) (cS rk io M M M db))):PS X (.For tg iter body [] pos) (cS rk io M M Mb (dFor fi g db)):=weakS h for_ok
def whileN(ft:DT)(db:DS):Nat->Sg->Option Fl
 | 0,_=>none
 | n+1,s=>(ft s).bind fun p=>if p.1 then (db p.2).bind fun r=>match r with
  | .nx s2=>whileN ft db n s2
  | .ct s2=>whileN ft db n s2
  | .bk s2=>some (.nx s2)
  | .rt t s2=>some (.rt t s2)
  else some (.nx p.2)
theorem while_ok{ft:DT}{n:Nat}:∀ D σ H,cS rk io M M Mb (whileN ft db n) D σ H->tWhile (cT M ft) (cS rk io M M M db) D σ H:=by
 intro D σ H h_;refine cS_ h_ fun F O s r R I hd q=>?_
 refine ⟨fun m σ' H'=>∃ O' s',KeepO O H O' H'/\Rel F O' M s' σ' H'/\Ios F io M σ'/\whileN ft db m s'=some r,⟨n,O,s,.refl,R,I,hd⟩,?_⟩
 rintro m σ2 H2 ⟨O2,s2,k2,R2,I2,hl⟩
 cases m with
 | zero=>cases hl
 | succ m=>
  unfold whileN at hl
  obtain ⟨⟨b,s3⟩,h1,h2⟩:=Qb hl
  refine ⟨F,O2,s2,b,s3,R2,h1,fun H3 S3 R3=>?_⟩
  have k3:=k2.trans (S3.keepO R2)
  cases b with
  | true=>
   obtain ⟨r1,hb,hl⟩:=Qb h2
   refine ⟨fun σ' H'=>∃ O' s',KeepO O H O' H'/\Rel F O' M s' σ' H'/\Ios F io M σ'/\whileN ft db m s'=some r,fun σ' H' z=>⟨m,Nat.lt_succ_self m,z⟩,F,O2,s3,r1,R3,I2,hb,?_⟩
   cases r1 with
   | nx s5=>exact fun O5 σ5 H5 k5 R5 I5=>⟨O5,s5,k3.trans k5,R5,I5,hl⟩
   | ct s5=>exact fun O5 σ5 H5 k5 R5 I5=>⟨O5,s5,k3.trans k5,R5,I5,hl⟩
   | bk s5=>
    injection hl with hl
    subst hl
    exact fun O5 σ5 H5 k5 R5 I5=>q O5 σ5 H5 (k3.trans k5) R5 I5
   | rt t s5=>
    injection hl with hl
    subst hl
    exact q
  | false=>
   injection h2 with h2
   subst h2
   exact q O2 σ2 H3 k3 R3 I2
theorem s_while{c:Expr}{ft:DT}(n:Nat)(hp:PassesOwn (model X.prog X.w) X.A X.env X.xe)(hc:PT X c (cT M ft))(hb:PSs X body (cS rk io M M M db)):PS X (.While c body [] pos) (cS rk io M M Mb (whileN ft db n)):=weakS (ps_while hp hc hb) while_ok
end
end L3
namespace L3
open PySem PySem.Spec PyProof.Rows L2
variable [TheK]
structure CallP (rk:Kd) (C:Addr->Prop) (H:Hp) (t:T) (v:V) (H':Hp):Prop where
 keep:∀ b o,H b=some o->H' b=some o
 dom:∀ b,H' b=none->H b=none
 res:match rk with
  | .n=>∃ r,v=.ref r/\H r=none/\Live (fun b=>(C b∨H b=none)/\b≠r) H' r t
  | _=>Rep (fun b=>C b∨H b=none) H' v t
def spP(rk:Kd)(np:Nat)(fn:List T->Option T):Sp:=fun vs H Q _=>∃ C ts t,ts.length=np/\Reps C H vs ts/\fn ts=some t/\∀ v H',CallP rk C H t v H'->Q v H'
structure CallI (rk:Kd) (C:Addr->Prop) (a:Addr) (H:Hp) (t t0:T) (v:V) (H':Hp):Prop where
 keep:∀ b o,b≠a->H b=some o->H' b=some o
 dom:∀ b,H' b=none->H b=none
 res:match rk with
  | .n=>∃ r,v=.ref r/\H r=none/\Live (fun b=>(b≠a/\(C b∨H b=none))/\b≠r) H' r t/\Live (fun b=>(b≠a/\(C b∨H b=none))/\b≠r) H' a t0
  | _=>Rep (fun b=>b≠a/\(C b∨H b=none)) H' v t/\Live (fun b=>b≠a/\(C b∨H b=none)) H' a t0
def spI(rk:Kd)(np:Nat)(fn:List T->Option (T × T)):Sp:=fun vs H Q _=>∃ C a us t0 ts t t1,(t0::ts).length=np/\vs=.ref a::us/\¬ C a/\Live C H a t0/\Reps C H us ts/\fn (t0::ts)=some (t,t1)/\∀ v H',CallI rk C a H t t1 v H'->Q v H'
def start3(n:Nat)(ts:List T):Sg:=ts.map some++List.replicate (n - ts.length) none
def fnP(n:Nat)(d:DS):List T->Option T:=fun ts=>match d (start3 n ts) with
 | some (.rt t _)=>some t
 | some (.nx _)=>some .non
 | _=>none
def fnPn(n:Nat)(d:DS):List T->Option T:=fun ts=>match d (start3 n ts) with
 | some (.rt t _)=>some t
 | _=>none
def fnI(n:Nat)(d:DS):List T->Option (T × T):=fun ts=>match d (start3 n ts) with
 | some (.rt t s)=>(s[0]?).join.map fun u=>(t,u)
 | _=>none
theorem start_get{N:List Str}{vs:List V}{ts:List T}{C:Addr->Prop}{H:Hp}(r:Reps C H vs ts)(hl:ts.length<=N.length):(start3 N.length ts).length=(L2.start N vs).length/\∀ (i:Nat) t,(start3 N.length ts)[i]?=some (some t)->∃ v,(L2.start N vs)[i]?=some (some v)/\ts[i]?=some t/\vs[i]?=some v/\Rep C H v t:=by
 have rl:=r.1
 unfold start3 L2.start
 refine ⟨by simp [rl],fun i t e=>?_⟩
 by_cases hi:i < ts.length
 ·rw [List.getElem?_append_left (by rw [List.length_map]; exact hi),List.getElem?_map] at e
  obtain ⟨t',h1,h2⟩:=Qm e
  injection h2 with h2
  subst h2
  obtain ⟨v,hv,rv⟩:=r.get h1
  refine ⟨v,?_,h1,hv,rv⟩
  rw [List.getElem?_append_left (by rw [List.length_map,rl]; exact hi),List.getElem?_map,hv]
  rfl
 ·rw [List.getElem?_append_right (by rw [List.length_map]; lia)] at e
  have:=List.mem_of_getElem? e
  have:=List.eq_of_mem_replicate this
  cases this
section
variable {rk:Kd}{M' Mb:List Nat}{d:DS}{N:List Str}{np:Nat}
theorem run_P{fn:List T->Option T}(hfn:∀ ts t,fn ts=some t->(∃ s',d (start3 N.length ts)=some (.rt t s'))∨(rk=.e/\t=.non/\∃ s',d (start3 N.length ts)=some (.nx s')))(hrk:rk=.e∨rk=.n)(hN:np<=N.length){vs:List V}{H:Hp}{Q:VK}{E:XK}(h:spP rk np fn vs H Q E) :
  cS rk [] [] M' Mb d { nx:=fun _ H'=>Q .non H',rt:=Q } (L2.start N vs) H:=by
 obtain ⟨C,ts,t,hl,r,hf,q⟩:=h
 obtain ⟨l1,l2⟩:=start_get (N:=N) r (by lia)
 have w:∀ b,C b->Free ⟨H,C,fun _=>False,fun _=>0⟩ (fun _=>False) b:=fun b c=>⟨fun z=>z,.inl c⟩
 have R:Rel ⟨H,C,fun _=>False,fun _=>0⟩ (fun _=>False) [] (start3 N.length ts) (L2.start N vs) H:=by
  refine ⟨l1,fun i t e _=>?_,fun i t e n=>by simp at n,fun i a n=>by simp at n,fun i j a n=>by simp at n,fun b o _ e=>e,fun b e=>e,fun a z=>z.elim,fun a z=>z,fun a z=>z.elim⟩
  obtain ⟨v,h1,_,_,rv⟩:=l2 i t e
  exact ⟨v,h1,rv.mono w fun _ _ _ e=>e⟩
 have I:Ios ⟨H,C,fun _=>False,fun _=>0⟩ [] [] (L2.start N vs):=⟨fun i hi=>by simp at hi,fun a z=>z.elim⟩
 rcases hfn ts t hf with ⟨s',hd⟩ | ⟨e1,e2,s',hd⟩
 ·refine ⟨_,_,_,_,R,I,hd,fun v H' ro=>q v H' ⟨fun b o e=>ro.keep b o (fun z=>z) e,ro.dom,?_⟩⟩
  rcases hrk with rfl | rfl
  ·exact ro.res.1.mono (fun b c=>c.2) fun _ _ _ e=>e
  ·obtain ⟨r,h1,h2,_,h3,_⟩:=ro.res
   exact ⟨r,h1,h2,h3.mono (fun b c=>⟨c.1.2,c.2⟩) (fun _ _ _ e=>e) fun _ e=>e⟩
 ·subst e1 e2
  refine ⟨_,_,_,_,R,I,hd,fun O' σ' H' k R' I'=>q .non H' ⟨fun b o e=>R'.keep b o (fun z=>z) e,R'.dom,.non⟩⟩
theorem run_I(hrk:rk=.e∨rk=.n)(hN:np<=N.length){vs:List V}{H:Hp}{Q:VK}{E:XK}(h:spI rk np (fnI N.length d) vs H Q E) :
  cS rk [0] [0] M' Mb d { nx:=fun _ H'=>Q .non H',rt:=Q } (L2.start N vs) H:=by
 obtain ⟨C,a,us,t0,ts,t,t1,hl,rfl,na,L,r,hf,q⟩:=h
 have hlu:us.length+1<=N.length:=by rw [r.1]; simpa using Nat.le_trans (Nat.le_of_eq hl) hN
 have r':Reps (fun b=>C b∨b=a) H (.ref a::us) (t0::ts):=.cons (L.rep (fun b c=>.inl c) (.inr rfl)) (r.mono (fun b c=>.inl c) fun _ _ _ e=>e)
 obtain ⟨l1,l2⟩:=start_get (N:=N) r' (by rw [hl]; exact hN)
 have w:∀ b,C b->Free ⟨H,C,fun b=>b=a,fun _=>a⟩ (fun b=>b=a) b:=fun b c=>⟨fun z=>na (z▸c),.inl c⟩
 have e0:(L2.start N (.ref a::us))[0]?=some (some (.ref a)):=rfl
 have R:Rel ⟨H,C,fun b=>b=a,fun _=>a⟩ (fun b=>b=a) [0] (start3 N.length (t0::ts)) (L2.start N (.ref a::us)) H:=by
  refine ⟨l1,fun i t e n=>?_,fun i t e n=>?_,fun i b n e=>?_,fun i j b n m _ _=>?_,fun b o _ e=>e,fun b e=>e,fun b z=>.inl z,fun b z=>z,fun b z=>z▸L.ne⟩
  ·obtain ⟨v,h1,h2,h3,_⟩:=l2 i t e
   cases i with
   | zero=>simp at n
   | succ i=>
    have rv:=r.2 i v t (by simpa using h3) (by simpa using h2)
    exact ⟨v,h1,rv.mono w fun _ _ _ e=>e⟩
  ·obtain rfl:i=0:=by simpa using n
   obtain ⟨v,h1,h2,h3,_⟩:=l2 0 t e
   have:t0=t:=by simpa using h2
   subst this
   exact ⟨a,e0,L.mono w (fun _ _ _ e=>e) fun _ e=>e⟩
  ·obtain rfl:i=0:=by simpa using n
   rw [e0] at e
   injection e with e
   injection e with e
   injection e with e
   exact e.symm
  ·have h1:i=0:=by simpa using n
   have h2:j=0:=by simpa using m
   rw [h1,h2]
 have I:Ios ⟨H,C,fun b=>b=a,fun _=>a⟩ [0] [0] (L2.start N (.ref a::us)):=⟨fun i hi=>by
  obtain rfl:i=0:=by simpa using hi
  exact ⟨by simp,e0⟩,fun b z=>⟨0,by simp,z⟩⟩
 unfold fnI at hf
 cases hd:d (start3 N.length (t0::ts)) with
 | none=>rw [hd] at hf; cases hf
 | some r1=>
  rw [hd] at hf
  cases r1 with
  | rt t' s'=>
   obtain ⟨u,h1,h2⟩:=Qm hf
   injection h2 with h2 h3
   subst h2 h3
   refine ⟨_,_,_,_,R,I,hd,fun v H' ro=>q v H' ⟨fun b o n e=>ro.keep b o n e,ro.dom,?_⟩⟩
   rcases hrk with rfl | rfl
   ·obtain ⟨h2,h3⟩:=ro.res
    obtain ⟨t2,h4,h5⟩:=h3 0 (by simp)
    rw [join_some h1] at h4
    injection h4 with h4
    injection h4 with h4
    subst h4
    exact ⟨h2,h5⟩
   ·obtain ⟨r,h2,h3,_,h4,h5⟩:=ro.res
    obtain ⟨t2,h6,h7⟩:=h5 0 (by simp)
    rw [join_some h1] at h6
    injection h6 with h6
    injection h6 with h6
    subst h6
    exact ⟨r,h2,h3,h4,h7⟩
  | nx s'=>cases hf
  | bk s'=>cases hf
  | ct s'=>cases hf
end
section
variable {F:Fr}{O:Addr->Prop}{M:List Nat}{s:Sg}{σ:L2.St}{H H':Hp}
theorem Rel.ext(R:Rel F O M s σ H)(k:∀ b o,H b=some o->H' b=some o)(dm:∀ b,H' b=none->H b=none):Rel F O M s σ H' where
 len:=R.len
 val:=fun i t e n=>by
  obtain ⟨v,h1,h2⟩:=R.val i t e n
  exact ⟨v,h1,h2.mono (fun _ c=>c) fun b o _ e=>k b o e⟩
 own:=fun i t e n=>by
  obtain ⟨a,h1,h2⟩:=R.own i t e n
  exact ⟨a,h1,h2.mono (fun _ c=>c) (fun b o _ e=>k b o e) fun o e=>k a o e⟩
 ow:=R.ow
 dis:=R.dis
 keep:=fun b o n e=>k b o (R.keep b o n e)
 dom:=fun b e=>R.dom b (dm b e)
 fresh:=R.fresh
 inD:=R.inD
 al:=fun a z e=>R.al a z (dm a e)
theorem Rel.extN{r:Addr}(R:Rel F O M s σ H)(k:∀ b o,H b=some o->H' b=some o)(dm:∀ b,H' b=none->H b=none)(hr:H r=none)(hr':H' r≠none):Rel F (fun b=>O b∨b=r) M s σ H':=by
 have R':=R.ext k dm
 have fr:∀ b,Free F O b/\H b≠none->Free F (fun b=>O b∨b=r) b:=fun b c=>⟨fun z=>z.elim c.1.1 fun z=>c.2 (z▸hr),c.1.2⟩
 refine ⟨R.len,fun i t e n=>?_,fun i t e n=>?_,fun i b hi e=>.inl (R.ow i b hi e),R.dis,R'.keep,R'.dom,fun b z=>?_,fun b z=>.inl (R.inD b z),fun b z=>?_⟩
 ·obtain ⟨v,h1,h2⟩:=R.val i t e n
  exact ⟨v,h1,h2.there.mono fr fun b o _ e=>k b o e⟩
 ·obtain ⟨b,h1,h2⟩:=R.own i t e n
  exact ⟨b,h1,h2.there.mono fr (fun b o _ e=>k b o e) fun o e=>k b o e⟩
 ·rcases z with z | z
  ·exact R.fresh b z
  ·subst z; exact .inr (R.dom _ hr)
 ·rcases z with z | z
  ·exact R'.al b z
  ·subst z; exact hr'
theorem Rel.freeNew(R:Rel F O M s σ H){b:Addr}(h:Free F O b∨H b=none):Free F O b:=h.elim id fun z=>⟨fun w=>R.al b w z,.inr (R.dom b z)⟩
end
def Ar(fa:DA)(n:Nat):Prop:=∀ s ts s',fa s=some (ts,s')->ts.length=n
theorem ar_nil:Ar dAn 0:=fun s ts s' h=>by
 injection h with h
 injection h with h1 _
 rw [<-h1]; rfl
theorem ar_{f:DE}{fa:DA}{n:Nat}(h:Ar fa n):Ar (dAc f fa) (n+1):=fun s ts s' e=>by
 obtain ⟨p,h1,h2⟩:=Qb e
 obtain ⟨q,h3,h4⟩:=Qm h2
 injection h4 with h4 _
 rw [<-h4,List.length_cons,h _ _ _ h3]
def dCall(fn:List T->Option T)(fa:DA):DE:=fun s=>(fa s).bind fun p=>(fn p.1).map fun t=>(t,p.2)
def dCallI(fn:List T->Option (T × T))(i:Nat)(fa:DA):DE:=fun s=>(s[i]?).join.bind fun _=>(fa s).bind fun p=>(p.2[i]?).join.bind fun t0=>(fn (t0::p.1)).map fun q=>(q.1,p.2.set i (some q.2))
def dCallN(fn:List T->Option (T × T))(f0:DE)(fa:DA):DE:=fun s=>(f0 s).bind fun p=>(fa p.2).bind fun q=>(fn (p.1::q.1)).map fun r=>(r.1,q.2)
section
variable {M:List Nat}{fa:DA}{f0:DE}{rk:Kd}{np:Nat}
theorem call_e{fn:List T->Option T}(hn:Ar fa np):∀ σ H Q,cE .e M (dCall fn fa) σ H Q->tCall (spP .e np fn) [] E0 (cA M fa) σ H Q:=by
 intro σ H Q h_;refine cE_ h_ fun F O s t s' R hf q=>?_
 obtain ⟨p,h1,h2⟩:=Qb hf
 obtain ⟨t',h3,h4⟩:=Qm h2
 injection h4 with h4 h5
 subst h4 h5
 refine ⟨F,O,s,p.1,p.2,R,h1,fun vs H1 S1 R1 rs=>?_⟩
 try dsimp only
 rw [List.append_nil]
 refine ⟨Free F O,p.1,t',hn _ _ _ h1,rs,h3,fun v H2 c=>q v H2 (S1.trans ⟨fun b o _ e=>c.keep b o e,c.dom⟩) ⟨R1.ext c.keep c.dom,?_⟩⟩
 exact c.res.mono (fun b z=>R1.freeNew z) fun _ _ _ e=>e
theorem call_n{fn:List T->Option T}(hn:Ar fa np):∀ σ H Q,cE .n M (dCall fn fa) σ H Q->tCall (spP .n np fn) [] E0 (cA M fa) σ H Q:=by
 intro σ H Q h_;refine cE_ h_ fun F O s t s' R hf q=>?_
 obtain ⟨p,h1,h2⟩:=Qb hf
 obtain ⟨t',h3,h4⟩:=Qm h2
 injection h4 with h4 h5
 subst h4 h5
 refine ⟨F,O,s,p.1,p.2,R,h1,fun vs H1 S1 R1 rs=>?_⟩
 try dsimp only
 rw [List.append_nil]
 refine ⟨Free F O,p.1,t',hn _ _ _ h1,rs,h3,fun v H2 c=>?_⟩
 obtain ⟨r,rfl,hr,L⟩:=c.res
 refine q _ H2 (S1.trans ⟨fun b o _ e=>c.keep b o e,c.dom⟩) ⟨r,rfl,S1.dom r hr,R1.extN c.keep c.dom hr L.ne,L.mono (fun b z=>?_) (fun _ _ _ e=>e) fun _ e=>e⟩
 have:=R1.freeNew z.1
 exact ⟨fun y=>y.elim this.1 z.2,this.2⟩
theorem callI_e{fn:List T->Option (T × T)}{i:Nat}(hn:Ar fa np)(hi:M.contains i=true):∀ σ H Q,cE .e M (dCallI fn i fa) σ H Q->tCall (spI .e (np+1) fn) [] E0 (tCons (tVar i) (cA M fa)) σ H Q:=by
 intro σ H Q h_;refine cE_ h_ fun F O s t s' R hf q=>?_
 have hi':i∈M:=by simpa using hi
 obtain ⟨x0,h0,hf⟩:=Qb hf
 obtain ⟨p,h1,hf⟩:=Qb hf
 obtain ⟨t0,h2,hf⟩:=Qb hf
 obtain ⟨w,h3,h4⟩:=Qm hf
 injection h4 with h4 h5
 subst h4 h5
 obtain ⟨a,e1,_⟩:=R.own i x0 (join_some h0) hi'
 refine ⟨_,e1,F,O,s,p.1,p.2,R,h1,fun vs H1 S1 R1 rs=>?_⟩
 obtain ⟨b,e2,L⟩:=R1.own i t0 (join_some h2) hi'
 rw [e1] at e2
 injection e2 with e2
 injection e2 with e2
 injection e2 with e2
 subst e2
 have oa:=R1.ow i a hi' e1
 try dsimp only
 rw [List.append_nil]
 refine ⟨Free F O,a,vs,t0,p.1,w.1,w.2,by rw [List.length_cons,hn _ _ _ h1],rfl,fun z=>z.1 oa,L,rs,h3,fun v H2 c=>?_⟩
 obtain ⟨c1,c2⟩:=c.res
 have S2:Step σ M H1 H2:=⟨fun b o n e=>c.keep b o (fun z=>n i hi' (z▸e1)) e,c.dom⟩
 have fr:∀ b,(b≠a/\(Free F O b∨H1 b=none))->Free F O b:=fun b z=>R1.freeNew z.2
 have kf:∀ b u,Free F O b->H1 b=some u->H2 b=some u:=fun b u z e=>c.keep b u (fun y=>z.1 (y▸oa)) e
 have hl:i < p.2.length:=(List.getElem?_eq_some_iff.mp (join_some h2)).1
 refine q v H2 (S1.trans S2) ⟨?_,c1.mono fr fun _ _ _ e=>e⟩
 refine ⟨by rw [List.length_set]; exact R1.len,fun j t e' n=>?_,fun j t e' n=>?_,R1.ow,R1.dis,fun b u n e=>?_,fun b e=>R1.dom b (c.dom b e),R1.fresh,R1.inD,fun b z e=>R1.al b z (c.dom b e)⟩
 ·have hij:i≠j:=fun z=>n (z▸hi')
  rw [List.getElem?_set_ne hij] at e'
  obtain ⟨v,h1,h2⟩:=R1.val j t e' n
  exact ⟨v,h1,h2.mono (fun _ c=>c) kf⟩
 ·by_cases hij:i=j
  ·subst hij
   rw [List.getElem?_set_self hl] at e'
   injection e' with e'
   injection e' with e'
   subst e'
   exact ⟨a,e1,c2.mono fr (fun _ _ _ e=>e) fun _ e=>e⟩
  ·rw [List.getElem?_set_ne hij] at e'
   obtain ⟨b,h1,h2⟩:=R1.own j t e' n
   have hne:b≠a:=fun z=>hij (R1.dis i j a hi' n e1 (z▸h1))
   exact ⟨b,h1,h2.mono (fun _ c=>c) kf fun u e=>c.keep b u hne e⟩
 ·refine c.keep b u (fun z=>?_) (R1.keep b u n e)
  subst z
  rcases R1.fresh b oa with z | z
  ·exact n z
  ·rw [z] at e; cases e
theorem callN_x{fn:List T->Option (T × T)}(hrk:rk=.e∨rk=.n)(hn:Ar fa np):∀ σ H Q,cE rk M (dCallN fn f0 fa) σ H Q->tCall (spI rk (np+1) fn) [] E0 (tCons (cE .n M f0) (cA M fa)) σ H Q:=by
 intro σ H Q h_;refine cE_ h_ fun F O s t s' R hf q=>?_
 obtain ⟨p,h1,hf⟩:=Qb hf
 obtain ⟨w,h2,hf⟩:=Qb hf
 obtain ⟨u,h3,h4⟩:=Qm hf
 injection h4 with h4 h5
 subst h4 h5
 refine ⟨F,O,s,p.1,p.2,R,h1,fun v0 H1 S1 p1=>?_⟩
 obtain ⟨a,rfl,ha,R1,L⟩:=p1
 refine ⟨F,_,p.2,w.1,w.2,R1,h2,fun vs H2 S2 R2 rs=>?_⟩
 have na:∀ (j:Nat),j∈M->σ[j]?≠some (some (.ref a)):=fun j hj e=>R.al a (R.ow j a hj e) ha
 have L2:Live (Free F (fun b=>O b∨b=a)) H2 a p.1:=L.mono (fun _ c=>c) (fun b o c e=>S2.keep b o (R1.notOwned c.1) e) fun o e=>S2.keep a o na e
 try dsimp only
 rw [List.append_nil]
 refine ⟨Free F (fun b=>O b∨b=a),a,vs,p.1,w.1,u.1,u.2,by rw [List.length_cons,hn _ _ _ h2],rfl,fun z=>z.1 (.inr rfl),L2,rs,h3,fun v H3 c=>?_⟩
 have S:Step σ M H H3:=⟨fun b o n e=>c.keep b o (ne_of_none e ha) ((S1.trans S2).keep b o n e),fun b e=>(S1.trans S2).dom b (c.dom b e)⟩
 have RO:Rel F O M w.2 σ H2:=R2.less (fun b z=>.inl z) R.ow R.inD
 -- all but a is kept; a is nobody's
 have k3:∀ b o,b≠a->H2 b=some o->H3 b=some o:=fun b o n e=>c.keep b o n e
 have fa':∀ b,Free F (fun b=>O b∨b=a) b->Free F O b:=fun b z=>z.weak fun b y=>.inl y
 have R3:Rel F (fun b=>O b∨b=a) M w.2 σ H3:=by
  refine ⟨R2.len,fun i t e n=>?_,fun i t e n=>?_,R2.ow,R2.dis,fun b o n e=>?_,fun b e=>R2.dom b (c.dom b e),R2.fresh,R2.inD,fun b z e=>R2.al b z (c.dom b e)⟩
  ·obtain ⟨v,h1,h2⟩:=R2.val i t e n
   exact ⟨v,h1,h2.mono (fun _ c=>c) fun b o z e=>k3 b o (fun y=>z.1 (.inr y)) e⟩
  ·obtain ⟨b,h1,h2⟩:=R2.own i t e n
   exact ⟨b,h1,h2.mono (fun _ c=>c) (fun b o z e=>k3 b o (fun y=>z.1 (.inr y)) e) fun o e=>k3 b o (fun z=>na i n (z▸h1)) e⟩
  ·refine k3 b o (fun z=>?_) (R2.keep b o n e)
   subst z
   have:=R.dom b ha
   rw [this] at e; cases e
 have R3O:Rel F O M w.2 σ H3:=R3.less (fun b z=>.inl z) R.ow R.inD
 have frn:∀ b,(b≠a/\(Free F (fun b=>O b∨b=a) b∨H2 b=none))->Free F O b:=fun b z=>z.2.elim (fa' b) fun y=>⟨fun x=>RO.al b x y,.inr (RO.dom b y)⟩
 rcases hrk with rfl | rfl
 ·exact q v H3 S ⟨R3O,c.res.1.mono frn fun _ _ _ e=>e⟩
 ·obtain ⟨r,rfl,hr,c1,_⟩:=c.res
  have nr:∀ b,Free F O b/\H2 b≠none->Free F (fun b=>O b∨b=r) b:=fun b z=>⟨fun y=>y.elim z.1.1 fun y=>z.2 (y▸hr),z.1.2⟩
  refine q _ H3 S ⟨r,rfl,S1.dom r (S2.dom r hr),?_,c1.mono (fun b z=>?_) (fun _ _ _ e=>e) fun _ e=>e⟩
  ·refine ⟨R2.len,fun i t e n=>?_,fun i t e n=>?_,fun i b hi e=>.inl (R.ow i b hi e),R2.dis,R3.keep,R3.dom,fun b z=>?_,fun b z=>.inl (R.inD b z),fun b z=>?_⟩
   ·obtain ⟨v,h1,h2⟩:=R2.val i t e n
    exact ⟨v,h1,h2.there.mono (fun b z=>nr b ⟨fa' b z.1,z.2⟩) fun b o z e=>k3 b o (fun y=>z.1.1 (.inr y)) e⟩
   ·obtain ⟨b,h1,h2⟩:=R2.own i t e n
    exact ⟨b,h1,h2.there.mono (fun b z=>nr b ⟨fa' b z.1,z.2⟩) (fun b o z e=>k3 b o (fun y=>z.1.1 (.inr y)) e) fun o e=>k3 b o (fun z=>na i n (z▸h1)) e⟩
   ·rcases z with z | z
    ·exact RO.fresh b z
    ·subst z; exact .inr (RO.dom _ hr)
   ·rcases z with z | z
    ·exact R3O.al b z
    ·subst z; exact c1.ne
  ·have:=frn b z.1
   exact ⟨fun y=>y.elim this.1 z.2,this.2⟩
end
end L3
namespace L3
open PySem PySem.Spec PyProof.Rows L2
variable [TheK]
def S1E(r:List V->Hp->VK->Prop)(g:T->Option T):Prop:=∀ (C:Addr->Prop) (H:Hp) x tx t (Q:VK),BRep C H x tx->g tx=some t->(∀ v,Rep C H v t->Q v H)->r [x] H Q
def S1N(r:List V->Hp->VK->Prop)(g:T->Option T):Prop:=∀ (C:Addr->Prop) (H:Hp) x tx t (Q:VK),BRep C H x tx->g tx=some t->
 (∀ p o,H p=none->(∀ C':Addr->Prop,(∀ b,C b/\H b≠none->C' b)->Live C' (upd H p o) p t)->Q (.ref p) (upd H p o))->r [x] H Q
def d1(g:T->Option T)(f:DE):DE:=fun s=>(f s).bind fun p=>(g p.1).map fun t=>(t,p.2)
section
variable {M:List Nat}{f:DE}
theorem one_e{r:List V->Hp->VK->Prop}{g:T->Option T}(h:S1E r g):∀ σ H Q,cE .e M (d1 g f) σ H Q->tCB r (tCons (cE .b M f) tNil) σ H Q:=by
 intro σ H Q h_;refine cE_ h_ fun F O s t s' R hf q=>?_
 obtain ⟨p,h1,h2⟩:=Qb hf
 obtain ⟨t',h3,h4⟩:=Qm h2
 injection h4 with h4 h5
 subst h4 h5
 exact ⟨F,O,s,p.1,p.2,R,h1,fun v H1 S1 p1=>h (Free F O) H1 v p.1 t' Q p1.view h3 fun w rw=>q w H1 S1 ⟨p1.1,rw⟩⟩
theorem one_n{r:List V->Hp->VK->Prop}{g:T->Option T}(h:S1N r g):∀ σ H Q,cE .n M (d1 g f) σ H Q->tCB r (tCons (cE .b M f) tNil) σ H Q:=by
 intro σ H Q h_;refine cE_ h_ fun F O s t s' R hf q=>?_
 obtain ⟨p,h1,h2⟩:=Qb hf
 obtain ⟨t',h3,h4⟩:=Qm h2
 injection h4 with h4 h5
 subst h4 h5
 exact ⟨F,O,s,p.1,p.2,R,h1,fun v H1 S1 p1=>h (Free F O) H1 v p.1 t' Q p1.view h3 fun a o ha L=>q _ _ (S1.trans (.new ha o)) (.mkN R p1.1 S1 ha L)⟩
end
theorem CallR.or{X:Cx}{f:Value}{r r':List V->Hp->VK->Prop}(h:CallR X f r)(h':CallR X f r'):CallR X f (fun xs H Q=>r xs H Q∨r' xs H Q):=by
 intro pins s σ H xs us Q I rv q
 rcases q with q | q
 ·exact h pins s σ H xs us Q I rv q
 ·exact h' pins s σ H xs us Q I rv q
theorem call_lenR{X:Cx}:CallR X (.builtin "len") (fun xs H Q=>∃ a kvs,xs=[V.ref a]/\Rd H a (.dK kvs)/\Q (.int kvs.length) H):=by
 intro pins s σ H xs us Q I r h
 obtain ⟨a,kvs,rfl,ha,q⟩:=h
 obtain ⟨u,rfl,ru⟩:=vals1 r
 cases ru
 exact d_len I ha fun t s' I'=>⟨.int kvs.length,H,I',⟨t,rfl⟩,q⟩
def gLen:T->Option T
 | .lst xs=>some (.int xs.length) | .tup xs=>some (.int xs.length) | .scr xs=>some (.int xs.length) | .dct xs=>some (.int xs.length) | .fd xs=>some (.int xs.length)
 | .str x=>if x.length<=sizeLine then some (.int x.length) else none
 | _=>none
theorem s_len:S1E (fun xs H Q=>((∃ p ys,xs=[.ref p]/\(SqL TheK.K H p ys∨SqT TheK.K H p ys)/\Q (.int ys.length) H)∨(∃ z,xs=[.str z]/\z.length<=sizeLine/\Q (.int z.length) H))∨∃ a kvs,xs=[V.ref a]/\Rd H a (.dK kvs)/\Q (.int kvs.length) H) gLen:=by
 intro C H x tx t Q bx hg q
 cases tx with
 | lst ts=>
  injection hg with hg; subst hg
  obtain ⟨a,vs,rfl,ha,ra⟩:=bx.lst
  exact .inl (.inl ⟨a,vs,rfl,.inl (SqL.of ha),by rw [ra.1]; exact q _ (.int _)⟩)
 | tup ts=>
  injection hg with hg; subst hg
  obtain ⟨a,vs,rfl,ha,ra⟩:=bx.tup
  exact .inl (.inl ⟨a,vs,rfl,.inr (SqT.of ha),by rw [ra.1]; exact q _ (.int _)⟩)
 | scr ns=>
  injection hg with hg; subst hg
  obtain ⟨a,rfl,ha⟩:=bx.scr
  exact .inl (.inl ⟨a,_,rfl,.inl ha,by rw [List.length_map]; exact q _ (.int _)⟩)
 | dct ks=>
  injection hg with hg; subst hg
  obtain ⟨a,kvs,rfl,ha,ra⟩:=bx.dct
  exact .inr ⟨a,kvs,rfl,.inl ha,by rw [ra.len]; exact q _ (.int _)⟩
 | fd ks=>
  injection hg with hg; subst hg
  obtain ⟨a,ob,kvs,rfl,ha,ra,_⟩:=bx.fd
  exact .inr ⟨a,kvs,rfl,.inr ⟨ob,ha⟩,by rw [ra.len]; exact q _ (.int _)⟩
 | str z=>
  have hg:(if z.length<=sizeLine then some (T.int z.length) else none)=some t:=hg
  split at hg
  ·rename_i hl
   injection hg with hg; subst hg
   exact .inl (.inr ⟨z,by rw [bx.str],hl,q _ (.int _)⟩)
  ·cases hg
 | _=>cases hg
def gList:T->Option T
 | .lst xs=>some (.lst xs) | .tup xs=>some (.lst xs) | .scr ns=>some (.lst (ns.map .int))
 | _=>none
theorem s_list:S1N (fun xs H Q=>∃ p ys,xs=[.ref p]/\(SqL TheK.K H p ys∨SqT TheK.K H p ys)/\∀ l,H l=none->Q (.ref l) (upd H l (.lst ys))) gList:=by
 intro C H x tx t Q bx hg q
 cases tx with
 | lst ts=>
  injection hg with hg; subst hg
  obtain ⟨a,vs,rfl,ha,ra⟩:=bx.lst
  exact ⟨a,vs,rfl,.inl (SqL.of ha),fun p hp=>q p _ hp fun C' hC=>.lst upd_same (ra.there.mono hC fun c o _ e=>by rw [upd_ne (ne_of_none e hp)]; exact e)⟩
 | tup ts=>
  injection hg with hg; subst hg
  obtain ⟨a,vs,rfl,ha,ra⟩:=bx.tup
  exact ⟨a,vs,rfl,.inr (SqT.of ha),fun p hp=>q p _ hp fun C' hC=>.lst upd_same (ra.there.mono hC fun c o _ e=>by rw [upd_ne (ne_of_none e hp)]; exact e)⟩
 | scr ns=>
  injection hg with hg; subst hg
  obtain ⟨a,rfl,ha⟩:=bx.scr
  exact ⟨a,_,rfl,.inl ha,fun p hp=>q p _ hp fun C' hC=>.lst upd_same (reps_ints _)⟩
 | _=>cases hg
def isi(c:String):T->Option Bool
 | .non=>some (c == "NoneType") | .bl _=>some (c == "bool"||c == "int") | .int _=>some (c == "int") | .str _=>some (c == "str")
 | .lst _=>some (c == "list") | .tup _=>some (c == "tuple") | .dct _=>some (c == "dict")
 | _=>none
def dIsi(c:String)(f:DE):DE:=d1 (fun t=>(isi c t).map .bl) f
def okTy(c:String):Bool:=["NoneType","bool","int","str","list","tuple","dict"].contains c
theorem isi_ok{K:PySem.W.Frag}{C:Addr->Prop}{H:Hp}{v:V}{t:T}{c:String}{b:Bool}(hc:okTy c=true)(h:BRep C H v t)(e:isi c t=some b):∃ ty,TyOf K H v ty/\PySem.W.kitOne K ty (.type c)=some b:=by
 have hc':c="NoneType"∨c="bool"∨c="int"∨c="str"∨c="list"∨c="tuple"∨c="dict":=by simpa [okTy] using hc
 cases t with
 | non=>obtain rfl:=h.non; injection e with e; subst e; refine ⟨_,.non,?_⟩; rcases hc' with rfl | rfl | rfl | rfl | rfl | rfl | rfl<;>rfl
 | bl x=>obtain rfl:=h.bl; injection e with e; subst e; refine ⟨_,.bl x,?_⟩; rcases hc' with rfl | rfl | rfl | rfl | rfl | rfl | rfl<;>rfl
 | int x=>obtain rfl:=h.int; injection e with e; subst e; refine ⟨_,.int x,?_⟩; rcases hc' with rfl | rfl | rfl | rfl | rfl | rfl | rfl<;>rfl
 | str x=>obtain rfl:=h.str; injection e with e; subst e; refine ⟨_,.str x,?_⟩; rcases hc' with rfl | rfl | rfl | rfl | rfl | rfl | rfl<;>rfl
 | lst ts=>
  obtain ⟨a,vs,rfl,ha,ra⟩:=h.lst
  injection e with e; subst e; refine ⟨_,.lst ha,?_⟩; rcases hc' with rfl | rfl | rfl | rfl | rfl | rfl | rfl<;>rfl
 | tup ts=>
  obtain ⟨a,vs,rfl,ha,ra⟩:=h.tup
  injection e with e; subst e; refine ⟨_,.tup ha,?_⟩; rcases hc' with rfl | rfl | rfl | rfl | rfl | rfl | rfl<;>rfl
 | dct ts=>
  obtain ⟨a,vs,rfl,ha,ra⟩:=h.dct
  injection e with e; subst e; refine ⟨_,.dK ha,?_⟩; rcases hc' with rfl | rfl | rfl | rfl | rfl | rfl | rfl<;>rfl
 | scr ns=>cases e
 | set=>cases e
 | fd=>cases e
 | any=>cases e
theorem isi_e{M:List Nat}{f:DE}{K:PySem.W.Frag}{c:String}(hc:okTy c=true):∀ σ H Q,cE .e M (dIsi c f) σ H Q->tCB (rIsi K) (tCons (cE .b M f) (tCons (tC (.ty c)) tNil)) σ H Q:=by
 intro σ H Q h_;refine cE_ h_ fun F O s t s' R hf q=>?_
 obtain ⟨p,h1,h2⟩:=Qb hf
 obtain ⟨t',h3,h4⟩:=Qm h2
 obtain ⟨b,h5,h6⟩:=Qm h3
 injection h4 with h4 h7
 subst h4 h7 h6
 refine ⟨F,O,s,p.1,p.2,R,h1,fun v H1 S1 p1=>?_⟩
 obtain ⟨ty,g1,g2⟩:=isi_ok (K:=K) hc p1.view h5
 exact ⟨v,c,ty,b,rfl,g1,g2,q _ H1 S1 ⟨p1.1,.bl b⟩⟩
def dA2(g:Int->Int->Int)(fa:DA):DE:=fun s=>(fa s).bind fun p=>match p.1 with
 | [.int i,.int j]=>some (.int (g i j),p.2)
 | _=>none
def strsT:List T->Option (List Str)
 | []=>some []
 | .str x::ts=>(strsT ts).map fun r=>x::r
 | _=>none
def gJoin(z:Str)(t:T):Option T:=match t with
 | .lst ts=>(strsT ts).bind fun ys=>if (ys.map (·.length)).sum+ys.length*z.length<=16777216 then some (.str (Txt.join z ys)) else none
 | _=>none
def dJoin(f:DE)(g:DE):DE:=fun s=>(f s).bind fun p=>match p.1 with
 | .str z=>(g p.2).bind fun q=>(gJoin z q.1).map fun t=>(t,q.2)
 | _=>none
def gCount(x y:T):Option T:=match x with
 | .lst ts=>(toVs ts).bind fun vs=>(toV y).map fun v=>.int (vs.countP (fun u=>eqV u v):Nat)
 | _=>none
def d2L(g:T->T->Option T)(fa fb:DE):DE:=fun s=>(fa s).bind fun p=>if isLst p.1 then (fb p.2).bind fun q=>(g p.1 q.1).map fun t=>(t,q.2) else none
end L3
namespace L2
open PySem PySem.Spec PyProof.Rows
section
variable {X:Cx}
theorem truth_bools{P:Program}{w:World}{A:Around}{its:Array Value}{bs:List Bool}(r:Vals (bs.map V.bl) its.toList):TruthOf P w A (fun i v=>its[i]?=some v) (fun i=>bs.getD i false):=by
 intro i v s Q E hP hQ
 have hi:i < its.size:=(Array.getElem?_eq_some_iff.mp hP).1
 have hl:bs.length=its.size:=by have:=r.length; simpa using this
 obtain ⟨u,h1,h2⟩:=r.get (i:=i) (x:=.bl (bs[i]'(by lia))) (by rw [List.getElem?_map,List.getElem?_eq_getElem (by lia)]; rfl)
 rw [Array.getElem?_toList,hP] at h1
 cases h1
 cases h2
 refine wpAny_truthy_bool ?_
 have e:bs.getD i false=bs[i]'(by lia):=by rw [List.getD_eq_getElem?_getD,List.getElem?_eq_getElem (by lia)]; rfl
 rw [<-e]
 exact hQ
theorem all_getD(bs:List Bool):(List.range bs.length).all (fun i=>bs.getD i false)=bs.all id:=by
 rw [Bool.eq_iff_iff,List.all_eq_true,List.all_eq_true]
 constructor
 ·intro h b hb
  obtain ⟨i,hi,rfl⟩:=List.getElem_of_mem hb
  have:=h i (List.mem_range.mpr hi)
  rw [List.getD_eq_getElem?_getD,List.getElem?_eq_getElem hi] at this
  exact this
 ·intro h i hi
  have hi':=List.mem_range.mp hi
  rw [List.getD_eq_getElem?_getD,List.getElem?_eq_getElem hi']
  exact h _ (List.getElem_mem hi')
theorem Inv.walked{pins:List (Addr × Obj)}{σ:St}{H:Hp}{s:Shared}{o:Obj}{h':Heap}{tk:Nat}(I:Inv X pins σ H s)(k:∀ b u,b∉[s.heap.objs.size]->(s.heap.push o).get? b=some u->h'.get? b=some u):Inv X pins σ H { s with heap:=h',toks:=tk }:=
 I.kept fun b u e=>k b u (fun hm=>by
  have h1:=Heap.lt_size e
  have h2:b=s.heap.objs.size:=by simpa using hm
  exact absurd (h2▸h1) (Nat.lt_irrefl _)) (Heap.get?_push_of_some _ e)
theorem call_all(hc:X.calm=true):CallR X (.builtin "all") (fun xs H Q=>∃ (a:Addr) (bs:List Bool),xs=[V.ref a]/\SqL X.K H a (bs.map V.bl)/\Q (.bl (bs.all id)) H):=by
 intro pins s σ H xs us Q I rv h
 obtain ⟨a,bs,rfl,hq,q⟩:=h
 obtain ⟨u,rfl,ru⟩:=rv.one
 cases ru
 obtain ⟨its,r,p,hz⟩:=I.list hq
 have hh:X.A.in1.handled=none:=I.ok.hd hc
 have ne:a≠s.heap.objs.size:=by obtain ⟨o,n,e,_⟩:=p; exact Nat.ne_of_lt (Heap.lt_size e)
 refine call_all_walk (wpAny_pyIter_list p.isList ⟨_,_,_,_,_,_,_,rfl,Walks.list hh _ a ne its.toArray,⟨⟨_,Heap.get?_push_size _ rfl,rfl,rfl⟩,p.isList.at fun o e=>Heap.get?_push_of_some _ e⟩,truth_bools (by simpa using r),fun h' tk k=>?_⟩)
 have hl:=r.length
 rw [List.length_map] at hl
 refine ⟨.bl (bs.all id),H,I.walked k,?_,q⟩
 rw [List.size_toArray,<-hl,all_getD]; rfl
end
end L2
namespace L2
open PySem PySem.Spec PyProof.Rows
section
variable {X:Cx}{pins:List (Addr × Obj)}{σ:St}{H:Hp}{s:Shared}{a:Addr}{kvs:List (Key × V)}
theorem Inv.known(I:Inv X pins σ H s)(e:H a=some (.dK kvs)):∃ o,Inv X pins σ (upd H a (.frz o (.dK kvs))) s:=by
 obtain ⟨z,hd,vs,rel,o,es,ep,ho,r⟩:=dk_of I.hok e
 refine ⟨o,?_⟩
 have ne:∀ {b:Addr},H b=none->b≠a:=fun {b} hb z=>by rw [z,e] at hb; cases hb
 refine ⟨I.ok,I.os,I.bare,⟨fun b ob hb n1 n2 n3=>I.base.keep b ob hb n1 n2 n3,fun b ob hb n1 n2 n3=>I.base.slot b ob hb n1 n2 n3,fun b ob hb n1 n2=>?_,fun b ob hb n1=>I.base.there b ob hb n1,fun b xs hb=>?_,fun b ob u hb=>?_,fun b ps hb=>?_⟩,I.loc,I.cell,?_,fun x c hc=>?_,fun p hp=>?_,fun b u hb=>?_,I.len⟩
 ·have:=I.base.free b ob hb n1 n2
  rw [upd_ne (ne this)]; exact this
 ·have:=I.base.tups b xs hb
  have hne:b≠a:=fun z=>by rw [z,e] at this; cases this
  rw [upd_ne hne]; exact this
 ·have:=I.base.frzs b ob u hb
  have hne:b≠a:=fun z=>by rw [z,e] at this; cases this
  rw [upd_ne hne]; exact this
 ·obtain ⟨more,this⟩:=I.base.tbls b ps hb
  have hne:b≠a:=fun z=>by rw [z,e] at this; cases this
  exact ⟨more,by rw [upd_ne hne]; exact this⟩
 ·rw [upd_ne (ne I.free)]; exact I.free
 ·have:=I.freeC x c hc
  rw [upd_ne (ne this)]; exact this
 ·obtain ⟨p1,p2,p3⟩:=I.pin p hp
  exact ⟨p1,by rw [upd_ne (ne p2)]; exact p2,p3⟩
 ·by_cases hba:b=a
  ·subst hba
   rw [upd_same] at hb
   cases hb
   exact ⟨ho,z,hd,vs,rel,o,es,ep,ho,r⟩
  ·rw [upd_ne hba] at hb
   refine (I.hok b u hb).stay (fun c v _ q=>q) (fun c q=>?_) fun c xs q=>?_
   ·have hne:c≠a:=fun z=>by rw [z,e] at q; cases q
    rw [upd_ne hne]; exact q
   ·have hne:c≠a:=fun z=>by rw [z,e] at q; cases q
    rw [upd_ne hne]; exact q
end
def Itd(f:Key × V->V)(a:Addr)(o:Obj):It:=
 ⟨fun i H=>∃ kvs x,H a=some (.frz o (.dK kvs))/\kvs[i]?=some x,fun i H x H'=>H'=H/\∀ kvs,H a=some (.frz o (.dK kvs))->(kvs[i]?).map f=some x,fun i H=>∃ kvs,H a=some (.frz o (.dK kvs))/\kvs.length<=i⟩
theorem known_at{X:Cx}{pins:List (Addr × Obj)}{σ:St}{H:Hp}{s:Shared}{a:Addr}{o:Obj}{kvs:List (Key × V)}(I:Inv X pins σ H s)(e:H a=some (.frz o (.dK kvs))) :
  ∃ vs es ep,KV kvs vs/\s.heap.DictAt (mixKind X.prog X.w) a vs ep/\o.data=.dict es ep/\es.size=vs.length/\(a == sysModules)=false:=by
 obtain ⟨ho,z,hd,vs,rel,o',es,ep,ho',c,d,k,p,n⟩:=(show ObjOk X.prog X.w H s.heap a (.frz o (.dK kvs)) from I.hok a _ e)
 rw [ho] at ho'
 cases ho'
 exact ⟨vs,es,ep,rel,⟨o,es,ho,c,d,k,p,n⟩,d,by rw [<-p.length]; simp,hd⟩
theorem turn_dict{P:Program}{w:World}{K:PySem.W.Frag}{tg:Expr}(a it:Addr)(o:Obj):Turn P w K tg (Itd (fun kv=>kV kv.1) a o) [it] it (fun i h=>∃ n ep es,h.IsKeyIter it a i n ep/\o.data=.dict es ep/\es.size=n) where
 mem:=by simp
 obj:=fun i h st b hb=>by
  have e:b=it:=by simpa using hb
  subst e
  obtain ⟨n,ep,es,⟨o',e,c,d⟩,_⟩:=st
  exact ⟨o',e,fun v z=>by rw [d] at z; cases z⟩
 keep:=fun i h h' ⟨n,ep,es,st,r⟩ k=>⟨n,ep,es,st.at fun o e=>k it (by simp) o e,r⟩
 item:=by
  intro X hP hw hK hc i pins s σ H E I hf st hg
  subst hP hw hK
  obtain ⟨kvs,x,hq,hx⟩:=hg
  obtain ⟨n,ep,es,st,d1,d2⟩:=st
  obtain ⟨vs,es',ep',rel,da,d3,d4,hd⟩:=known_at I hq
  rw [d1] at d3
  cases d3
  obtain ⟨y,hy,y1,y2⟩:=kv_get rel hx
  obtain ⟨f0,f1,f2,f3,f4,f5⟩:=hf it (by simp)
  rw [<-d2,d4] at st
  refine wpAny_pyNext_dict_item st da (k:=y.1) (v:=y.2) hy fun key h' hkey st' sb=>?_
  have I1:Inv X pins σ H { s with heap:=h' }:=I.turned (t':=s.toks) (fun b o hb e=>(sb.2 b hb).trans e) f0 f1 f3 f4 f5
  obtain ⟨o',e,c,d⟩:=id st'
  refine ⟨key,rfl,go_of (s:={ s with heap:=h' }) e c d (by decide) ⟨kV x.1,H,I1,y1▸rel_key hkey,⟨rfl,fun kvs' h'=>?_⟩,⟨_,ep,es,st',d1,d4⟩,fun b hb=>(hf b hb).1⟩⟩
  rw [hq] at h'
  cases h'
  rw [hx]; rfl
 done:=by
  intro X hP hw hK hc i pins s σ H E I hf st hg
  subst hP hw hK
  obtain ⟨kvs,hq,hx⟩:=hg
  obtain ⟨n,ep,es,st,d1,d2⟩:=st
  obtain ⟨vs,es',ep',rel,da,d3,d4,hd⟩:=known_at I hq
  rw [d1] at d3
  cases d3
  obtain ⟨f0,f1,f2,f3,f4,f5⟩:=hf it (by simp)
  have hl:=rel.length
  rw [<-d2,d4] at st
  exact wpAny_pyNext_dict_end (I.ok.hd hc) st da (by rw [List.getElem?_eq_none_iff]; lia) fun h' eb=>⟨rfl,I.turned (t':=s.toks) (fun b o hb e=>eb b o hb e) f0 f1 f3 f4 f5⟩
 self:=fun _ _ _ _ _ ⟨_,_,_,st,_⟩ h=>wpAny_pyIter_keyiter st h
def iDict(tl:TE):TI:=fun σ H R=>tl σ H fun x H1=>∃ a o kvs,x=.ref a/\H1 a=some (.frz o (.dK kvs))/\R (Itd (fun kv=>kV kv.1) a o) H1
theorem pi_dict{X:Cx}{tg l:Expr}{tl:TE}(hl:PE X l tl):PI X tg l (iDict tl):=by
 intro pins s σ H R I h
 refine thn (hl pins s σ H _ I h) fun v s1 h_=>?_; obtain ⟨x,H1,I1,r1,q1⟩:=h_
 obtain ⟨a,o,kvs,e,hq,q⟩:=q1
 subst e
 cases r1
 obtain ⟨vs,es,ep,rel,da,d3,d4,hd⟩:=known_at I1 hq
 refine wpAny_pyIter_dict hd da ?_
 refine ⟨s1.heap.objs.size,[s1.heap.objs.size],_,_,H1,rfl,I1.kept (t':=s1.toks) fun b o e=>Heap.get?_push_of_some _ e,turn_dict a _ o,⟨_,ep,es,⟨_,Heap.get?_push_size _ rfl,rfl,rfl⟩,d3,d4⟩,fun b hb=>?_,q⟩
 have e:b=s1.heap.objs.size:=by simpa using hb
 subst e
 exact I1.fpOk (Nat.le_refl _) (I1.hok.fresh (Nat.le_refl _))
theorem turn_vals{P:Program}{w:World}{K:PySem.W.Frag}{tg:Expr}(a it:Addr)(o:Obj):Turn P w K tg (Itd (fun kv=>kv.2) a o) [it] it (fun i h=>∃ n ep es,h.IsValIter it a i n ep/\o.data=.dict es ep/\es.size=n) where
 mem:=by simp
 obj:=fun i h st b hb=>by
  have e:b=it:=by simpa using hb
  subst e
  obtain ⟨n,ep,es,⟨o',e,c,d⟩,_⟩:=st
  exact ⟨o',e,fun v z=>by rw [d] at z; cases z⟩
 keep:=fun i h h' ⟨n,ep,es,st,r⟩ k=>⟨n,ep,es,st.at fun o e=>k it (by simp) o e,r⟩
 item:=by
  intro X hP hw hK hc i pins s σ H E I hf st hg
  subst hP hw hK
  obtain ⟨kvs,x,hq,hx⟩:=hg
  obtain ⟨n,ep,es,st,d1,d2⟩:=st
  obtain ⟨vs,es',ep',rel,da,d3,d4,hd⟩:=known_at I hq
  rw [d1] at d3
  cases d3
  obtain ⟨y,hy,y1,y2⟩:=kv_get rel hx
  obtain ⟨f0,f1,f2,f3,f4,f5⟩:=hf it (by simp)
  rw [<-d2,d4] at st
  refine wpAny_pyNext_values_item st da (k:=y.1) (v:=y.2) hy fun h' st' sb=>?_
  have I1:Inv X pins σ H { s with heap:=h' }:=I.turned (t':=s.toks) (fun b o hb e=>(sb.2 b hb).trans e) f0 f1 f3 f4 f5
  obtain ⟨o',e,c,d⟩:=id st'
  refine ⟨y.2,rfl,go_of (s:={ s with heap:=h' }) e c d (by decide) ⟨x.2,H,I1,y2,⟨rfl,fun kvs' h'=>?_⟩,⟨_,ep,es,st',d1,d4⟩,fun b hb=>(hf b hb).1⟩⟩
  rw [hq] at h'
  cases h'
  rw [hx]; rfl
 done:=by
  intro X hP hw hK hc i pins s σ H E I hf st hg
  subst hP hw hK
  obtain ⟨kvs,hq,hx⟩:=hg
  obtain ⟨n,ep,es,st,d1,d2⟩:=st
  obtain ⟨vs,es',ep',rel,da,d3,d4,hd⟩:=known_at I hq
  rw [d1] at d3
  cases d3
  obtain ⟨f0,f1,f2,f3,f4,f5⟩:=hf it (by simp)
  have hl:=rel.length
  rw [<-d2,d4] at st
  exact wpAny_pyNext_values_end (I.ok.hd hc) st da (by rw [List.getElem?_eq_none_iff]; lia) fun h' eb=>⟨rfl,I.turned (t':=s.toks) (fun b o hb e=>eb b o hb e) f0 f1 f3 f4 f5⟩
 self:=fun _ _ _ _ _ ⟨_,_,_,st,_⟩ h=>wpAny_pyIter_valiter st h
def iVals(tl:TE):TI:=fun σ H R=>tl σ H fun x H1=>∃ a o kvs,x=.ref a/\H1 a=some (.frz o (.dK kvs))/\R (Itd (fun kv=>kv.2) a o) H1
theorem pi_vals{X:Cx}{tg o:Expr}{tl:TE}{apos cpos:Pos}(ho:PE X o tl)(hbase:attributeBase o "values" X.env (eval o X.env)=eval o X.env:=by rfl)(hline:(apos.endLine == cpos.line)=true:=by rfl):PI X tg (.Call (.Attribute o "values" apos) [] [] cpos) (iVals tl):=by
 intro pins s σ H R I h
 refine wpAny_Call_method0_late hbase hline (thn (ho pins s σ H _ I h) fun v s1 h_=>?_); obtain ⟨x,H1,I1,r1,q1⟩:=h_
 obtain ⟨a,ob,kvs,e,hq,q⟩:=q1
 subst e
 cases r1
 obtain ⟨t1,t2,_⟩:=isD_at I1 (.inl ⟨kvs,.inr ⟨ob,hq⟩⟩)
 obtain ⟨vs,es,ep,rel,da,d3,d4,hd⟩:=known_at I1 hq
 refine ⟨"dict",_,PySem.F.plainAttrs_dict,PySem.F.slot_dict_values,PySem.F.type_dict_values,t1,t2,Calls.callWith_builtin rfl (PySem.evalArgs_none ?_)⟩
 refine call_meetsIn PySem.F.slot_dict_values t1 PySem.F.entry_dict_values (PySem.F.args_dict_values_1 _) (meets_dict_values (mixKind X.prog X.w) a hd) ⟨⟨vs,da.dictOf⟩,?_⟩
 have I2:Inv X pins σ H1 { s1 with heap:=s1.heap.push { cls:=.type "dict_values",data:=.fields #[.ref a] } }:=I1.kept (t':=s1.toks) fun b o e=>Heap.get?_push_of_some _ e
 obtain ⟨vs,es,ep,rel,da,d3,d4,hd⟩:=known_at I2 hq
 refine wpAny_pyIter_values ⟨_,Heap.get?_push_size _ rfl,rfl,rfl⟩ da ?_
 refine ⟨_,[_],_,_,H1,rfl,I2.kept (t':=s1.toks) fun b o e=>Heap.get?_push_of_some _ e,turn_vals a _ ob,⟨_,ep,es,⟨_,Heap.get?_push_size _ rfl,rfl,rfl⟩,d3,d4⟩,fun b hb=>?_,q⟩
 have e:b=(s1.heap.push { cls:=.type "dict_values",data:=.fields #[.ref a] }).objs.size:=by simpa using hb
 subst e
 exact I2.fpOk (Nat.le_refl _) (I2.hok.fresh (Nat.le_refl _))
def Its(x:Str):It:=⟨fun i _=>i < x.cps.size,fun i H v H'=>H'=H/\∃ c,x.cps[i]?=some c/\v=.str ⟨#[c]⟩,fun i _=>x.cps.size<=i⟩
theorem turn_sign{P:Program}{w:World}{K:PySem.W.Frag}{tg:Expr}(it:Addr)(x:Str)(t:Tok)(n:String)(hn:n="str_ascii_iterator"∨n="str_iterator"):Turn P w K tg (Its x) [it] it (fun i h=>h.IsStrIter it n x t i) where
 mem:=by simp
 obj:=fun i h st b hb=>by
  have e:b=it:=by simpa using hb
  subst e
  obtain ⟨o,e,c,d⟩:=st
  exact ⟨o,e,fun v z=>by rw [d] at z; cases z⟩
 keep:=fun i h h' st k=>let ⟨o,ho,r⟩:=st; ⟨o,k it (by simp) o ho,r⟩
 item:=by
  intro X hP hw hK hc i pins s σ H E I hf st hg
  subst hP hw hK
  obtain ⟨f0,f1,f2,f3,f4,f5⟩:=hf it (by simp)
  have hg:i < x.cps.size:=hg
  have fin:∀ h',h'.IsStrIter it n x t (i+1)->Heap.SameBut it s.heap h'->∀ u,u=Value.str ⟨#[x.cps[i]]⟩ s.toks->∃ u',some u=some u'/\wpAny (model X.prog X.w) X.A (letOwnedTupleGo tg (.ref it) u') (fun _ s2=>∃ y H',Inv X pins σ H' s2/\RelV y u'/\(Its x).yld i H y H'/\s2.heap.IsStrIter it n x t (i+1)/\∀ b∈[it],H' b=none) E { s with heap:=h',toks:=s.toks+1 }:=by
   intro h' st' sb u hu
   have I1:Inv X pins σ H { s with heap:=h',toks:=s.toks+1 }:=I.turned (fun b o hb e=>(sb.2 b hb).trans e) f0 f1 f3 f4 f5
   obtain ⟨o',e,c,d⟩:=id st'
   refine ⟨u,rfl,go_of (s:={ s with heap:=h',toks:=s.toks+1 }) e c d (by rcases hn with rfl | rfl<;>decide) ⟨.str ⟨#[x.cps[i]]⟩,H,I1,⟨_,hu⟩,⟨rfl,_,by simp [hg],rfl⟩,st',fun b hb=>(hf b hb).1⟩⟩
  rcases hn with rfl | rfl
  ·exact wpAny_pyNext_ascii_item st (c:=x.cps[i]) (by simp [hg]) fun h' st' sb=>fin h' st' sb _ rfl
  ·exact wpAny_pyNext_wide_item st (c:=x.cps[i]) (by simp [hg]) fun h' st' sb=>fin h' st' sb _ rfl
 done:=by
  intro X hP hw hK hc i pins s σ H E I hf st hg
  subst hP hw hK
  obtain ⟨f0,f1,f2,f3,f4,f5⟩:=hf it (by simp)
  have hg:x.cps.size<=i:=hg
  rcases hn with rfl | rfl
  ·exact wpAny_pyNext_ascii_end (I.ok.hd hc) st (by simp [hg]) fun h' eb=>⟨rfl,I.turned (t':=s.toks) (fun b o hb e=>eb b o hb e) f0 f1 f3 f4 f5⟩
  ·exact wpAny_pyNext_wide_end (I.ok.hd hc) st (by simp [hg]) fun h' eb=>⟨rfl,I.turned (t':=s.toks) (fun b o hb e=>eb b o hb e) f0 f1 f3 f4 f5⟩
 self:=fun _ _ _ _ _ st h=>by
  rcases hn with rfl | rfl
  ·exact wpAny_pyIter_striter_ascii st h
  ·exact wpAny_pyIter_striter_wide st h
def iSign(tl:TE):TI:=fun σ H R=>tl σ H fun v H1=>∃ x,v=.str x/\R (Its x) H1
theorem pi_sign{X:Cx}{tg l:Expr}{tl:TE}(hl:PE X l tl):PI X tg l (iSign tl):=by
 intro pins s σ H R I h
 refine thn (hl pins s σ H _ I h) fun v s1 h_=>?_; obtain ⟨y,H1,I1,r1,q1⟩:=h_
 obtain ⟨x,e,q⟩:=q1
 subst e
 obtain ⟨t,rfl⟩:=r1
 have fp:∀ b∈[s1.heap.objs.size],FpOk X pins H1 b:=fun b hb=>by
  have e:b=s1.heap.objs.size:=by simpa using hb
  subst e
  exact I1.fpOk (Nat.le_refl _) (I1.hok.fresh (Nat.le_refl _))
 cases ha:x.cps.all (· < 128)
 ·exact wpAny_pyIter_wide ha ⟨s1.heap.objs.size,[s1.heap.objs.size],_,_,H1,rfl,I1.kept (t':=s1.toks) fun b o e=>Heap.get?_push_of_some _ e,turn_sign _ x t "str_iterator" (.inr rfl),⟨_,Heap.get?_push_size _ rfl,rfl,rfl⟩,fp,q⟩
 ·exact wpAny_pyIter_ascii ha ⟨s1.heap.objs.size,[s1.heap.objs.size],_,_,H1,rfl,I1.kept (t':=s1.toks) fun b o e=>Heap.get?_push_of_some _ e,turn_sign _ x t "str_ascii_iterator" (.inl rfl),⟨_,Heap.get?_push_size _ rfl,rfl,rfl⟩,fp,q⟩
end L2
namespace L2
open PySem PySem.Spec PyProof.Rows
theorem intsAre_of':∀ {ss:List Int} {us:List Value},Vals (ss.map V.int) us->IntsAre us ss
 | [],_,.nil=>.nil
 | s::ss,_,.cons r t=>by obtain ⟨t',rfl⟩:=r; exact .cons s t' (intsAre_of' t)
end L2
namespace L2
open PySem PySem.Spec PyProof.Rows
section
variable {P:Program}{w:World}{A:Around}{R:Result->Shared->Prop}{I:Addr}{fp wr:List Addr}{G:Array GenState->Array GenState->Prop}{n:Nat}{Pv:Nat->Value->Prop}{St:Nat->Shared->Prop}
def two(v:Value)(c:Nat):Obj:={ cls:=.type "list",dict:=none,data:=.seq #[v,v] c,slots:=#[] }
end
section
variable {X:Cx}
def leastAt(rs:List (List Int)):Nat:=argBest (fun i j=>HT.lexLt (rs.getD i []) (rs.getD j [])) (rs.length - 1)
end
end L2
namespace L2
open PySem PySem.Spec PyProof.Rows
abbrev lc2(elt t1 i1 t2 i2:Expr)(scope:Scope)(pos:Pos):Expr:=.ListComp elt [⟨t1,i1,[],0⟩,⟨t2,i2,[],0⟩] scope pos
end L2
namespace L2
open PySem PySem.Spec PyProof.Rows
def lowI:List Int->Int
 | []=>0
 | x::xs=>xs.foldl (fun a b=>if b < a then b else a) x
def topI:List Int->Int
 | []=>0
 | x::xs=>xs.foldl (fun a b=>if a < b then b else a) x
theorem topI_eq{ns:List Int}{m:Int}(hm:m∈ns)(h:∀ x∈ns,x<=m):topI ns=m:=by
 cases ns with
 | nil=>cases hm
 | cons x xs=>
  show xs.foldl (fun a b=>if a < b then b else a) x=m
  have h1:=fold_max xs x
  have:m<=xs.foldl (fun a b=>if a < b then b else a) x:=by
   rcases List.mem_cons.mp hm with e | e
   ·rw [e]; exact h1.2.1
   ·exact h1.2.2 m e
  have:xs.foldl (fun a b=>if a < b then b else a) x<=m:=by
   rcases h1.1 with e | e
   ·rw [e]; exact h x (List.mem_cons_self ..)
   ·exact h _ (List.mem_cons_of_mem _ e)
  lia
theorem numAt_of{zs:Array (Int × Tok)}{ns:List Int}(e:ns=zs.toList.map (·.1))(i:Nat):numAt zs i=ns[i]?.getD 0:=by
 subst e
 unfold numAt
 rw [List.getElem?_map,Array.getElem?_toList]
section
variable {X:Cx}
theorem call_maxI(hc:X.calm=true):CallR X (.builtin "max") (fun xs H Q=>∃ (a:Addr) (ns:List Int),xs=[V.ref a]/\SqL X.K H a (ns.map V.int)/\0 < ns.length/\Q (.int (topI ns)) H):=by
 intro pins s σ H xs us Q I rv h
 obtain ⟨a,ns,rfl,hq,hn,q⟩:=h
 obtain ⟨u,rfl,ru⟩:=rv.one
 cases ru
 obtain ⟨its,r,p,hz⟩:=I.list hq
 have hi:=intsAre_of' r
 obtain ⟨zs,hx⟩:=hi.allInts.items
 have e1:ns=zs.toList.map (·.1):=by
  rw [<-nums_intItems,<-hx]
  exact (show numsOf its.toArray.toList=ns from hi.numsOf).symm
 have el:zs.size=ns.length:=by rw [e1]; simp
 refine max_intList (xs:=zs) (I.ok.hd hc) (hx▸p.isList) (by lia) fun v h' tk hv k=>?_
 obtain ⟨t,rfl⟩:=intItems_at hv
 have b:=argBest_gt (numAt zs) (zs.size - 1)
 have e2:topI ns=numAt zs (argBest (fun i j=>decide (numAt zs i > numAt zs j)) (zs.size - 1)):=by
  refine topI_eq ?_ fun x hx=>?_
  ·rw [numAt_of e1,List.getElem?_eq_getElem (by lia)]
   exact List.getElem_mem _
  ·obtain ⟨j,hj,rfl⟩:=List.getElem_of_mem hx
   have:=b.2 j (by lia)
   rw [numAt_of e1 j,List.getElem?_eq_getElem hj] at this
   exact this
 rw [<-e2]
 exact ⟨.int (topI ns),H,I.kept k,⟨_,rfl⟩,q⟩
end
end L2
namespace L2
open PySem PySem.Spec PyProof.Rows
open PySem.W (hideAll hideAll_get of_hideAll hideAll_none funFrames_hide)
structure Fly (P:Program) (w:World) (outer:List Env) (H:Hp) (s:Shared) (x C:Addr) (a0:Value) (B:Heap) (H':Hp) (s':Shared):Prop where
 os:s'.os=s.os
 bare:AllBare s'.gens
 fly:Heap.FlyingW B outer x (.ref C) a0 s'.heap
 hok:HOk P w H' B
 un:Un (frs outer) [] H H' s.heap s'.heap
 keep:∀ b o,s.heap.get? b=some o->H b=none->b∉frs outer->B.get? b=some o
 has:∀ b o,s.heap.get? b=some o->b∉frs outer->∃ o',B.get? b=some o'
 fr:∀ b∈frs outer,H' b=none
def CX1(P:Program)(w:World):CXT:=fun outer H s E e s'=>∃ x C a0 B H',e=.ref x/\Fly P w outer H s x C a0 B H' s'/\E (.ref C) none H'
theorem Fly.on{P:Program}{w:World}{outer:List Env}{H H':Hp}{s s':Shared}{x C:Addr}{a0:Value}{B h'':Heap}(F:Fly P w outer H s x C a0 B H' s')(st:B.StaysIn h'')(up:s'.heap.UpToSlots h'')(funs:s.heap.FunFrames base outer) :
  Un (frs outer) [] H H' s.heap h'':=by
 have sl:∀ b o,s.heap.get? b=some o->H b=none->b∈frs outer->∃ sl,h''.get? b=some { o with slots:=sl }:=fun b o e n hb=>by
  obtain ⟨sl,e1⟩:=F.un.slot b o e n hb (by simp)
  obtain ⟨_,o',ho',hd'⟩:=funs.mem hb
  rw [e] at ho'
  obtain rfl:=Option.some.inj ho'
  obtain ⟨sl2,e2⟩:=up b _ e1 hd'
  exact ⟨sl2,e2⟩
 refine ⟨fun b o e n hb _=>st b o (F.keep b o e n hb),fun b o e n hb _=>sl b o e n hb,F.un.free,fun b o e _=>?_,F.un.tups,F.un.frzs,F.un.tbls⟩
 by_cases hb:b∈frs outer
 ·obtain ⟨o1,e1⟩:=F.un.there b o e (by simp)
  obtain ⟨_,o',ho',hd'⟩:=funs.mem hb
  by_cases n:H b=none
  ·obtain ⟨sl,e2⟩:=sl b o e n hb
   exact ⟨_,e2⟩
  ·obtain ⟨_,_,ho2,hd2⟩:=F.fly.2.2.1.mem hb
   obtain ⟨sl,e2⟩:=up b _ ho2 hd2
   exact ⟨_,e2⟩
 ·obtain ⟨o',e1⟩:=F.has b o e hb
  exact ⟨o',st b o' e1⟩
section
variable {P:Program}{w:World}{K:PySem.W.Frag}{mg:Str->Option Value}{base:Heap}{N:List Str}{qual:Str}{scope:Scope}{f:Addr}{cd:Value}{A:Around}{outer:List Env}{s:Shared}{H:Hp}{E:XK}
theorem raised_out{pins:List (Addr × Obj)}{σ:St}{Hc:Hp}{s2:Shared}{h':Heap}{e C:Addr}{vs:List Value}{tk:Nat}
  (I:Inv (cxOf (CX1 P w) P w K mg base N qual scope f cd A outer s H E) pins σ Hc s2) (hA:A.frames=some outer) (hx:Heap.MadeExcOf s2.heap h' e (.ref C) vs) (hE:E (.ref C) none Hc) :
  (cxOf (CX1 P w) P w K mg base N qual scope f cd A outer s H E).xe (.ref e) { s2 with heap:=h',toks:=tk }:=by
 show wpAny (model P w) (A.deeper (envOfC qual scope s.heap.objs.size f cd)) (leaving (envOfC qual scope s.heap.objs.size f cd) (.ref e)) _ _ _
 have stk:=I.stack
 have fsub:∀ env∈(envOfC qual scope s.heap.objs.size f cd::outer),∀ b,env.frame=some b->b∈frs (envOfC qual scope s.heap.objs.size f cd::outer):=fun env he b hb=>List.mem_filterMap.mpr ⟨env,he,hb⟩
 refine wpAny_leaves_madeW (base:=hideAll s2.heap (frs (envOfC qual scope s.heap.objs.size f cd::outer))) (Around.frames_deeper hA) rfl (fun b o q=>of_hideAll _ q) (funFrames_hide stk fsub) hx fun h'' t x1 x2 x3 x4=>?_
 have own:∀ b o,s.heap.get? b=some o->b∉frs outer->b∉frs (envOfC qual scope s.heap.objs.size f cd::outer):=fun b o q hb hm=>by
  unfold frs at hm
  rw [List.filterMap_cons] at hm
  rcases List.mem_cons.mp hm with z | z
  ·exact absurd (Heap.lt_size q) (by rw [z]; exact Nat.lt_irrefl _)
  ·exact hb z
 have un:Un (frs outer) [] H Hc s.heap s2.heap:=I.base
 have up:s2.heap.UpToSlots h'':=(Heap.UpToSlots.of_keeps hx.keeps).trans x4
 refine ⟨e,C,_,hideAll s2.heap (frs (envOfC qual scope s.heap.objs.size f cd::outer)),Hc,rfl,⟨I.os,I.bare,x1,fun a o q=>?_,⟨fun b o q n hb _=>?_,fun b o q n hb _=>?_,un.free,fun b o q _=>?_,un.tups,un.frzs,un.tbls⟩,fun b o q n hb=>?_,fun b o q hb=>?_,fun b hb=>?_⟩,hE⟩
 ·have nf:∀ b u,Hc b=some u->b∉frs (envOfC qual scope s.heap.objs.size f cd::outer):=fun b u hu hm=>by
   rw [I.stkFree b hm] at hu
   cases hu
  exact (I.hok a o q).stay (fun b u hb r=>hideAll_get _ r (by
   rcases hb with rfl | hb
   ·exact nf _ _ q
   ·exact nf _ _ hb)) (fun _ r=>r) fun _ _ r=>r
 ·exact x1.1 b o (hideAll_get _ (un.keep b o q n hb (by simp)) (own b o q hb))
 ·obtain ⟨sl,e1⟩:=un.slot b o q n hb (by simp)
  obtain ⟨_,o',ho',hd'⟩:=I.funs.mem hb
  rw [e1] at ho'
  obtain rfl:=Option.some.inj ho'
  obtain ⟨sl2,e2⟩:=up b _ e1 hd'
  exact ⟨sl2,e2⟩
 ·obtain ⟨o1,e1⟩:=un.there b o q (by simp)
  by_cases hb:b∈frs outer
  ·obtain ⟨_,o',ho',hd'⟩:=I.funs.mem hb
   obtain ⟨sl2,e2⟩:=up b _ ho' hd'
   exact ⟨_,e2⟩
  ·exact ⟨o1,x1.1 b o1 (hideAll_get _ e1 (own b o q hb))⟩
 ·exact hideAll_get _ (un.keep b o q n hb (by simp)) (own b o q hb)
 ·obtain ⟨o1,e1⟩:=un.there b o q (by simp)
  exact ⟨o1,hideAll_get _ e1 (own b o q hb)⟩
 ·refine I.stkFree b ?_
  show b∈frs (envOfC qual scope s.heap.objs.size f cd::outer)
  unfold frs
  rw [List.filterMap_cons]
  exact List.mem_cons_of_mem _ hb
end
end L2
namespace L2
open PySem PySem.Spec PyProof.Rows
section
variable {P:Program}{w:World}{K:PySem.W.Frag}{mg:Str->Option Value}{base:Heap}{N:List Str}{qual:Str}{scope:Scope}{f:Addr}{cd:Value}{A:Around}{outer:List Env}{s:Shared}{H:Hp}{E E':XK}
theorem passed_on(hA:A.frames=some outer)(hE:∀ C H',E' (.ref C) none H'->E (.ref C) none H'):Passes (CX1 P w) (cxOf (CX1 P w) P w K mg base N qual scope f cd A outer s H E) E':=by
 intro pins σ Hc s2 ev s3 I hq
 obtain ⟨x,C,a0,B,H',rfl,F,hE'⟩:=hq
 have hE:=hE C H' hE'
 show wpAny (model P w) (A.deeper (envOfC qual scope s.heap.objs.size f cd)) (leaving (envOfC qual scope s.heap.objs.size f cd) (.ref x)) _ _ _
 refine wpAny_leaves_onW (Around.frames_deeper hA) rfl F.fly fun h'' x1 x4=>?_
 have un:Un (frs outer) [] H Hc s.heap s2.heap:=I.base
 have own:∀ b o,s.heap.get? b=some o->b∉frs outer->b∉frs (cxOf (CX1 P w) P w K mg base N qual scope f cd A outer s H E).stack:=fun b o q hb hm=>by
  have hm:b∈frs (envOfC qual scope s.heap.objs.size f cd::outer):=hm
  unfold frs at hm
  rw [List.filterMap_cons] at hm
  rcases List.mem_cons.mp hm with z | z
  ·exact absurd (Heap.lt_size q) (by rw [z]; exact Nat.lt_irrefl _)
  ·exact hb z
 have inn:∀ b,b∈frs outer->b∈frs (cxOf (CX1 P w) P w K mg base N qual scope f cd A outer s H E).stack:=fun b hb=>by
  show b∈frs (envOfC qual scope s.heap.objs.size f cd::outer)
  unfold frs
  rw [List.filterMap_cons]
  exact List.mem_cons_of_mem _ hb
 have un2:=F.on x1.1 x4 I.stack
 refine ⟨x,C,a0,B,H',rfl,⟨F.os.trans I.os,F.bare,x1,F.hok,⟨fun b o q n hb _=>?_,fun b o q n hb _=>?_,fun b o q n _=>?_,fun b o q _=>?_,fun b xs q=>un2.tups b xs (un.tups b xs q),fun b o u q=>un2.frzs b o u (un.frzs b o u q),fun b ps q=>?_⟩,fun b o q n hb=>?_,fun b o q hb=>?_,fun b hb=>F.fr b (inn b hb)⟩,hE⟩
 ·exact un2.keep b o (un.keep b o q n hb (by simp)) (un.free b o q n (by simp)) (own b o q hb) (by simp)
 ·obtain ⟨sl,e1⟩:=un.slot b o q n hb (by simp)
  obtain ⟨sl2,e2⟩:=un2.slot b _ e1 (un.free b o q n (by simp)) (inn b hb) (by simp)
  exact ⟨sl2,e2⟩
 ·obtain ⟨o',e1⟩:=un.there b o q (by simp)
  exact un2.free b o' e1 (un.free b o q n (by simp)) (by simp)
 ·obtain ⟨o',e1⟩:=un.there b o q (by simp)
  exact un2.there b o' e1 (by simp)
 ·obtain ⟨m1,e1⟩:=un.tbls b ps q
  obtain ⟨m2,e2⟩:=un2.tbls b _ e1
  exact ⟨m1++m2,by rw [e2,Array.append_assoc]⟩
 ·exact F.keep b o (un.keep b o q n hb (by simp)) (un.free b o q n (by simp)) (own b o q hb)
 ·obtain ⟨o',e1⟩:=un.there b o q (by simp)
  exact F.has b o' e1 (own b o q hb)
end
structure XCls (h:Heap) (C:Addr) (bm:List Value):Prop where
 obj:∃ N nm q bs hdct sn sub ab col dd k0 k1 k2 k3 k5 mN,h.get? C=some (excClassObj nm q C N bs bm hdct sn sub ab col dd k0 k1 k2 k3 k5 "ValueError.__new__")/\h.Ns N mN/\mN "__init__"=none/\OwnTail h [.type "ValueError",.type "Exception",.type "BaseException",.type "object"] bm
theorem XCls.keeps{h h':Heap}{C:Addr}{bm:List Value}(x:XCls h C bm)(k:∀ b o,h.get? b=some o->h'.get? b=some o):XCls h' C bm:=by
 obtain ⟨N,nm,q,bs,hdct,sn,sub,ab,col,dd,k0,k1,k2,k3,k5,mN,e1,e2,e3,e4⟩:=x.obj
 exact ⟨N,nm,q,bs,hdct,sn,sub,ab,col,dd,k0,k1,k2,k3,k5,mN,k _ _ e1,e2.keeps k,e3,e4.keeps k⟩
def Raises(X:Cx)(E:XK):Prop:=∀ (pins:List (Addr × Obj)) (σ:St) (H:Hp) (s:Shared) (h':Heap) (e C:Addr) (vs:List Value),Inv X pins σ H s->Heap.MadeExcOf s.heap h' e (.ref C) vs->E (.ref C) none H->X.xe (.ref e) { s with heap:=h' }
theorem raises_cx{P:Program}{w:World}{K:PySem.W.Frag}{mg:Str->Option Value}{base:Heap}{N:List Str}{qual:Str}{scope:Scope}{f:Addr}{cd:Value}{A:Around}{outer:List Env}{s:Shared}{H:Hp}{E:XK}(hA:A.frames=some outer) :
  Raises (cxOf (CX1 P w) P w K mg base N qual scope f cd A outer s H E) E:=fun pins σ Hc s2 h' e C vs I hx hE=>raised_out (tk:=s2.toks) I hA hx hE
section
variable {X:Cx}{E:XK}{C:Addr}{bm:List Value}{x:Str}{np cpos pos:Pos}{e0:Expr}{es:List Expr}{t:TA}
theorem ps_raise(hR:Raises X E)(hc:X.calm=true)(xc:XCls X.base C bm)(hg:Gl X x)(hm:X.mg x=some (.ref C))(ha:PA X (e0::es) t)
  (he:starEach (e0::es) X.env=(false,eval e0 X.env)::starEach es X.env:=by rfl) (hpl:(backTo cpos (starEach es X.env)).any (·.1)=false:=by rfl) (hd:(x == ("__debug__":Str))=false:=by decide) (hz:(e0::es).length<=100:=by decide) :
  PS X (.Raise (some (.Call (.Name x np) (e0::es) [] cpos)) none pos) (fun D σ H=>t σ H fun vs H1=>vs.length<=1000/\E (.ref C) none H1):=by
 intro pins s σ H D I h
 obtain ⟨N,nm,q,bs,hdct,sn,sub,ab,col,dd,k0,k1,k2,k3,k5,mN,e1,e2,e3,e4⟩:=xc.obj
 refine wpAny_Raise_call_subT (C:=C) (nm:=nm) (q:=q) (N:=N) (bs:=bs) (bm:=bm) (hdct:=hdct) (sn:=sn) (sub:=sub) (ab:=ab) (col:=col) (dd:=dd) (k0:=k0) (k1:=k1) (k2:=k2) (k3:=k3) (k5:=k5)
  F.excBase_ValueError (mN:=mN) (e4.hasType F.excBase_ValueError.hasBase) (I.ok.hd hc) (by rw [he]; show (false||(backTo cpos (starEach es X.env)).any (·.1))=false; rw [hpl]; rfl) e3 (ld_glob I hg hm ⟨rfl,?_⟩ hd)
 have a:=ha cpos pins s σ H _ I h
 rw [he] at a ⊢
 refine Calls.evalArgs_plain (wpAny_mono a (fun us s2 h2=>?_) fun _ _ y=>y)
 obtain ⟨vs,H1,I1,r,hl,hE⟩:=h2
 have xc2:=I1.bk
 refine ⟨rfl,?_,xc2 _ _ e1,e2.keeps xc2,e4.keeps xc2,fun h' e hx=>hR pins σ H1 s2 h' e C us I1 hx hE⟩
 show us.length<=sizeLine
 rw [<-r.length,sizeLine_eq]
 lia
end
end L2
namespace L2
open PySem PySem.Spec PyProof.Rows
def noneSt(X:Cx):St:=List.replicate X.N.length none
def excO(x C:Addr):HO:=.ext fun h=>∃ o,h.get? x=some o/\o.cls=.ref C
abbrev Cx.held(X:Cx)(x:Addr):Cx:={ X with A:=X.A.mark (some (.ref x)),calm:=false,xe:=fun _ _=>False }
section
variable {X:Cx}{pins:List (Addr × Obj)}{σ:St}{H H':Hp}{s:Shared}{x:Addr}
theorem Inv.held(I:Inv X pins σ H s)(x:Addr):Inv (X.held x) pins σ H s:=
 ⟨⟨I.ok.mod,I.ok.kind,I.ok.glob,I.ok.blt,I.ok.above,I.ok.inj,I.ok.has,I.ok.cab,(fun z=>by cases z),I.ok.frames,I.ok.stk,I.ok.exf,I.ok.bs,I.ok.bsz,I.ok.noex,I.ok.exfs,I.ok.funs,I.ok.frf⟩,I.os,I.bare,I.base,I.loc,I.cell,I.free,I.freeC,I.pin,I.hok,I.len⟩
theorem Inv.unheld(ok:X.Ok)(I:Inv (X.held x) pins σ H s):Inv X pins σ H s:=
 ⟨ok,I.os,I.bare,I.base,I.loc,I.cell,I.free,I.freeC,I.pin,I.hok,I.len⟩
theorem Inv.nopins(I:Inv X pins σ H s):Inv X [] σ H s:=Inv.unpinned (pins:=[]) (pl:=pins) (by simpa using I)
theorem none_get{i:Nat}{v:V}:(noneSt X)[i]?≠some (some v):=fun e=>by
 unfold noneSt at e
 rw [List.getElem?_replicate] at e
 split at e<;>cases e
theorem Inv.noNames(I:Inv X pins σ H s):Inv X pins (noneSt X) H s:=I.forget (by unfold noneSt; rw [List.length_replicate]; exact I.len.symm) fun i v e=>absurd e none_get
theorem Inv.relocal{h':Heap}{tk:Nat}{m':Str->Option Value}(I:Inv X [] σ H s)(hp:X.pn=[])(hn:h'.Ns X.env.locals m')(hs:Heap.SameBut X.env.locals s.heap h'):Inv X [] (noneSt X) H { s with heap:=h',toks:=tk }:=by
 have old:∀ b o,X.s₀.heap.get? b=some o->b≠X.env.locals:=fun b o e=>Nat.ne_of_lt (Nat.lt_of_lt_of_le (Heap.lt_size e) I.ok.above)
 refine ⟨I.ok,I.os,I.bare,⟨fun b o e n hb hx=>?_,fun b o e n hb hx=>?_,I.base.free,fun b o e hx=>?_,I.base.tups,I.base.frzs,I.base.tbls⟩,⟨m',hn,fun i y v _ e _=>absurd e none_get⟩,fun y c e=>?_,I.free,I.freeC,fun p hp'=>?_,fun a o e=>?_,by unfold noneSt; rw [List.length_replicate]⟩
 ·exact (hs.2 b (old b o e)).trans (I.base.keep b o e n hb hx)
 ·obtain ⟨sl,e1⟩:=I.base.slot b o e n hb hx
  exact ⟨sl,(hs.2 b (old b o e)).trans e1⟩
 ·obtain ⟨o',e1⟩:=I.base.there b o e hx
  exact ⟨o',(hs.2 b (old b o e)).trans e1⟩
 ·obtain ⟨v,o,ho,hd⟩:=I.cell y c e
  exact ⟨v,o,(hs.2 c (I.cne y c e)).trans ho,hd⟩
 ·rw [hp] at hp'
  simp at hp'
 ·refine (I.hok a o e).stay (fun b u hb q=>(hs.2 b ?_).trans q) (fun _ q=>q) fun _ _ q=>q
  rintro rfl
  rcases hb with z | z
  ·rw [<-z,I.free] at e; cases e
  ·rw [I.free] at z; cases z
end
section
variable {M:Model}{A:Around}{E:Value->Shared->Prop}
theorem exc_matches{h:Heap}{g:Array GenState}{d:Drawn}{t:Nat}{os:OsState}{e C D:Addr}{oe:Obj}{bm bmD:List Value}{Q:Bool->Shared->Prop}(xc:XCls h C bm)(xd:XCls h D bmD)(he:h.get? e=some oe)(hcls:oe.cls=.ref C)(hm:(Value.ref C::bm).contains (.ref D)=true)
  (hq:Q true ⟨h,g,d,t,os⟩):wpAny M A (excMatches (.ref e) (.ref D)) Q E ⟨h,g,d,t,os⟩:=by
 obtain ⟨N,nm,q,bs,hdct,sn,sub,ab,col,dd,k0,k1,k2,k3,k5,mN,hC,_,_,_⟩:=xc.obj
 obtain ⟨N',nm',q',bs',hdct',sn',sub',ab',col',dd',k0',k1',k2',k3',k5',mN',hD,_,_,T⟩:=xd.obj
 have hcB:(Value.ref D::bmD).contains (.type "BaseException")=true:=by rw [List.contains_cons,T.hasType (X:="BaseException") (b:=true) F.excBase_ValueError.hasBase,Bool.or_true]
 have f:=tc_notTuple
 unfold excMatches
 repeat (first | (with_reducible refine wpAny_loadPart_at he ?_; rw [hcls]) | with_reducible refine wpAny_loadPart_at hD ?_ | (with_reducible refine wpAny_isSubtype_exc hD ?_; rw [hcB]) | (with_reducible refine wpAny_isSubtype_exc hC ?_; rw [hm]) | wp_step)
 exact hq
end
end L2
namespace L2
open PySem PySem.Spec PyProof.Rows
def PS0(X:Cx)(st:Stmt)(t:TS):Prop:=∀ (s:Shared) (σ:St) (H:Hp) (D:Ends),Inv X [] σ H s->t D σ H->wpAny (model X.prog X.w) X.A (exec st X.env) (SP X [] D) X.xe s
def PSs0(X:Cx)(st:List Stmt)(t:TS):Prop:=∀ (s:Shared) (σ:St) (H:Hp) (D:Ends),Inv X [] σ H s->t D σ H->wpAny (model X.prog X.w) X.A (execs st X.env) (SP X [] D) X.xe s
section
variable {X:Cx}
theorem Inv.track{σ:St}{H:Hp}{s:Shared}{x C:Addr}{oe:Obj}{vs:Array Value}(I:Inv X [] σ H s)(hp:X.pn=[])(hx:H x=none)(he:s.heap.get? x=some oe)(hc:oe.cls=.ref C)(hd:oe.data=.fields vs)(new:∀ o,X.s₀.heap.get? x≠some o):Inv X [] σ (upd H x (excO x C)) s:=by
 have ne:∀ b u,H b=some u->b≠x:=fun b u e z=>by rw [z,hx] at e; cases e
 refine ⟨I.ok,I.os,I.bare,⟨I.base.keep,I.base.slot,fun b o e n hb=>?_,I.base.there,fun b xs e=>?_,fun b o u e=>?_,fun b ps e=>?_⟩,I.loc,I.cell,?_,fun y c e=>?_,fun p hp'=>?_,fun a o e=>?_,I.len⟩
 ·have nb:b≠x:=fun z=>new o (by rw [<-z]; exact e)
  rw [upd_ne nb]
  exact I.base.free b o e n hb
 ·have:=I.base.tups b xs e
  rw [upd_ne (ne b _ this)]; exact this
 ·have:=I.base.frzs b o u e
  rw [upd_ne (ne b _ this)]; exact this
 ·obtain ⟨more,this⟩:=I.base.tbls b ps e
  exact ⟨more,by rw [upd_ne (ne b _ this)]; exact this⟩
 ·refine (upd_ne fun z=>?_).trans I.free
  obtain ⟨m,⟨o',es,ep,ho',hd',_⟩,_⟩:=I.loc
  rw [z,he] at ho'
  obtain rfl:=Option.some.inj ho'
  rw [hd] at hd'
  cases hd'
 ·refine (upd_ne fun z=>?_).trans (I.freeC y c e)
  obtain ⟨v,o',ho',hd'⟩:=I.cell y c e
  rw [z,he] at ho'
  obtain rfl:=Option.some.inj ho'
  rw [hd] at hd'
  cases hd'
 ·rw [hp] at hp'
  simp at hp'
 ·by_cases hb:a=x
  ·subst hb
   rw [upd_same] at e
   obtain rfl:=Option.some.inj e
   exact ⟨⟨oe,he,hc⟩,⟨oe,he⟩,fun h1 h2 ⟨o,e1,e2⟩ k=>⟨o,k o e1,e2⟩⟩
  ·rw [upd_ne hb] at e
   exact (I.hok a o e).stay (fun _ _ _ q=>q) (fun b q=>by rw [upd_ne (ne b _ q)]; exact q) fun b xs q=>by rw [upd_ne (ne b _ q)]; exact q
def caughtAs(X:Cx)(D:Addr)(i:Nat)(ts:Addr->TS)(En:Ends):XK:=fun cls _ H'=>∃ C bm,cls=.ref C/\XCls X.base C bm/\(Value.ref C::bm).contains (.ref D)=true /\
 ∀ x,H' x=none->ts x { nx:=fun _ _=>False,rt:=En.rt } ((noneSt X).set i (some (.ref x))) (upd H' x (excO x C))
theorem Fly.inv{pins:List (Addr × Obj)}{σ:St}{H1 H':Hp}{s1 s':Shared}{x C:Addr}{a0:Value}{B h'':Heap}{tk:Nat}(I1:Inv X pins σ H1 s1)(F:Fly X.prog X.w X.stack H1 s1 x C a0 B H' s')(st:B.StaysIn h'')(up:s'.heap.UpToSlots h''):Inv X [] (noneSt X) H' { s' with heap:=h'',toks:=tk }:=
 (I1.nopins.noNames).call' (ch:=[]) (s':={ s' with heap:=h'',toks:=tk }) F.os (F.on st up I1.stack) (F.hok.kept st) F.bare (fun b hb=>by simp at hb)
theorem Fly.new{pins:List (Addr × Obj)}{σ:St}{H1 H':Hp}{s1 s':Shared}{x C:Addr}{a0:Value}{B:Heap}(I1:Inv X pins σ H1 s1)(F:Fly X.prog X.w X.stack H1 s1 x C a0 B H' s')(hx:X.ex=[]):H' x=none/\∀ o,X.s₀.heap.get? x≠some o:=by
 have hB:B.get? x=none:=F.fly.2.1
 refine ⟨?_,fun o e=>?_⟩
 ·cases q:H' x with
  | none=>rfl
  | some u=>
   obtain ⟨o,ho⟩:∃ o,B.get? x=some o:=by
    have hok:=F.hok x u q
    cases u with
    | lst xs=>obtain ⟨_,_,_,_,e⟩:=hok; exact ⟨_,e⟩
    | tup xs=>obtain ⟨_,_,_,o,e,_⟩:=hok; exact ⟨o,e⟩
    | dK kvs=>obtain ⟨_,_,_,_,o,_,_,e,_⟩:=hok; exact ⟨o,e⟩
    | dT kvs=>obtain ⟨_,_,_,_,o,_,_,e,_⟩:=hok; exact ⟨o,e⟩
    | set S n=>obtain ⟨o,_,_,_,e,_⟩:=hok; exact ⟨o,e⟩
    | ins C dx fs=>obtain ⟨_,_,_,e,_⟩:=hok; exact ⟨_,e⟩
    | own y=>exact hok
    | xd fs=>obtain ⟨_,⟨o,_,_,e,_⟩,_⟩:=hok; exact ⟨o,e⟩
    | rng lo hi=>obtain ⟨_,_,_,e⟩:=hok; exact ⟨_,e⟩
    | frz ob u=>obtain ⟨e,_⟩:=hok; exact ⟨_,e⟩
    | tbl ps=>exact ⟨_,show B.get? x=some _ from hok⟩
    | met f y=>exact ⟨_,show B.get? x=some _ from hok⟩
    | ext φ=>obtain ⟨_,e,_⟩:=hok; exact e
   rw [hB] at ho; cases ho
 ·obtain ⟨o1,e1⟩:=I1.base.there x o e (by rw [hx]; simp)
  by_cases hf:x∈frs X.stack
  ·obtain ⟨oe,vs,T,oT,ts,he,_,hd,_⟩:=F.fly.2.2.2
   obtain ⟨_,o',ho',hd'⟩:=F.fly.2.2.1.mem hf
   rw [he] at ho'
   obtain rfl:=Option.some.inj ho'
   exact hd' vs hd
  ·obtain ⟨o2,e2⟩:=F.has x o1 e1 hf
   rw [hB] at e2; cases e2
theorem ps_try_as{body suite:List Stmt}{b0:Stmt}{d n:Str}{np hpos pos:Pos}{tb:XK->TS}{ts:Addr->TS}{i:Nat}{D:Addr}{bmD:List Value}
  (hb:∀ W E,Passes (CX1 X.prog X.w) (X.wish W) E->PSs (X.wish W) body (tb E)) (hst:X.stack=X.env::X.outer) (hfr:X.env.frame=some X.env.locals) (hpn:X.pn=[]) (hex:X.ex=[])
  (hN:X.N.Nodup) (hi:X.N[i]?=some n) (hk:X.env.scope.names.lookup n=some .local) (hgd:Gl X d) (hmd:X.mg d=some (.ref D)) (xd:XCls X.base D bmD) (hs:∀ x,PSs (X.held x) (b0::suite) (ts x))
  (hdb:(d == ("__debug__":Str))=false:=by decide) :
  PS0 X (.Try body [.ExceptHandler (some (.Name d np)) (some n) (b0::suite) hpos] [] [] pos) (fun En σ H=>tb (caughtAs X D i ts En) En σ H):=by
 intro s σ H En I h
 refine wpAny_Try_except ?_
 have pass:Passes (CX1 X.prog X.w) (X.wish (fun e s1=>wpAny (model X.prog X.w) X.A (noteFrame e X.env) (fun _ s2=>wpAny (model X.prog X.w) X.A (setFlight e none) (fun _ s3=>wpAny (model X.prog X.w) X.A (handleBy e X.env [.ExceptHandler (some (.Name d np)) (some n) (b0::suite) hpos]) (SP X [] En) X.xe s3) X.xe s2) X.xe s1)) (caughtAs X D i ts En):=by
  intro pins σ' H1 s1 ev s' I1 hq
  obtain ⟨x,C,a0,B,H',rfl,F,C',bm,eC,xc,hm,hsuite⟩:=hq
  obtain rfl:C=C':=by injection eC
  have I1:=I1.unwish
  have F:Fly X.prog X.w X.stack H1 s1 x C a0 B H' s':=F
  obtain ⟨hx0,hnew⟩:=F.new I1 hex
  have fl:=F.fly
  rw [hst] at fl
  have hA:X.A.frames=some (X.env::X.outer):=by rw [<-hst]; exact I.ok.frames
  show wpAny (model X.prog X.w) X.A (noteFrame (.ref x) X.env) _ _ _
  refine wpAny_looks_onW hA hfr fl fun h4 held4 up4=>?_
  refine wpAny_landsW held4 fun h5 fly5 up5=>?_
  have J5:Inv X [] (noneSt X) H' { s' with heap:=h5 }:=F.inv (tk:=s'.toks) I1 fly5.1 (up4.trans up5)
  obtain ⟨oe,he,hcls⟩:=fly5.there
  refine wpAny_handleBy_cons (codeAny_handlers_test ?_) (by intro q; cases q)
  refine ld_glob (J5.held x) hgd hmd ?_ hdb
  refine exc_matches (xc.keeps J5.bk) (xd.keeps J5.bk) he hcls hm ?_
  show codeAny _ _ _ _ _
  refine codeAny_handlers_suite_as ?_
  refine lands_againW fly5 fun h6 fly6 up6=>?_
  have J6:Inv X [] (noneSt X) H' { s' with heap:=h6 }:=F.inv (tk:=s'.toks) I1 fly6.1 ((up4.trans up5).trans up6)
  obtain ⟨oe6,vs6,T6,oT6,ts6,he6,⟨hc6,_⟩,hd6,_⟩:=fly6.2.2.2
  have J7:=J6.track hpn hx0 he6 hc6 hd6 hnew
  refine store_ok2 J7 hN hi (.inl hk) (v:=.ref x) rfl (fun s8 I8 _=>?_) (.inr hk)
  refine wpAny_mono (hs x [] s8 _ _ _ (I8.held x) (hsuite x hx0)) (fun f s9 q=>?_) fun _ _ z=>False.elim z
  cases f with
  | next=>obtain ⟨_,_,_,q⟩:=q; exact q.elim
  | brk=>obtain ⟨_,_,_,q⟩:=q; exact q.elim
  | cont=>obtain ⟨_,_,_,q⟩:=q; exact q.elim
  | ret u=>
   obtain ⟨v,σ9,H9,I9,r,q⟩:=q
   have I9:=I9.unheld I.ok
   obtain ⟨m,hn,_⟩:=I9.loc
   exact wpAny_nameGoes hk hn (by rw [I.ok.kind]; rfl) fun h' m' hn' hs'=>⟨v,noneSt X,H9,I9.relocal hpn hn' hs',r,q⟩
 refine wpAny_mono (hb _ _ pass [] s σ H En (I.wish _) h) (fun f s1 q=>?_) fun _ _ z=>z
 have q:=q.unwish
 cases f with
 | next=>exact wpAny_execs_nil q
 | brk=>exact q
 | cont=>exact q
 | ret u=>exact q
end
end L2
namespace L2
open PySem PySem.Spec PySem.Calls PyProof.Rows PySem.W Builtin Builtin.ObjectAttr Builtin.Getset_descriptor
def ExcAt(x C:Addr)(h:Heap):Prop:=∃ o,h.get? x=some o/\o.cls=.ref C
structure XIn (K:Frag) (C:Addr):Prop where
 ga:findIn K (.ref C) "__getattribute__"=some (some (.builtin "BaseException.__getattribute__"))
 no:findIn K (.ref C) "__getattr__"=some none
 cl:findIn K (.ref C) "__class__"=some (some (.builtin "object.__class__"))
 ob:mroIn K C (.type "object")=some true
 be:mroIn K C (.type "BaseException")=some true
 it:(clsIn K C).isSome=true
section
variable {prog:Program}{w:World}{A:Around}{E:Value->Shared->Prop}{K:Frag}{x C:Addr}{h:Heap}{g:Array GenState}{d:Drawn}{t:Nat}{os:OsState}
theorem excAt_ty(M:Model)(h:Heap)(p:ExcAt x C h):Looks M h (typeOf (.ref x)) (.ref C):=by
 obtain ⟨o,h1,h2⟩:=p
 exact h2▸(Looks.ld h1).andThen .now
theorem excls_get{R:Result->Shared->Prop}{tp:Value}(X:K.In h)(p:ExcAt x C h)(hm:mroIn K C (.type "object")=some true)(hq:R (.ok (.ret (.ref C))) ⟨h,g,d,t,os⟩) :
  codeAny (model prog w) A (.call (.builtin "getset_descriptor.__get__") ⟨[.builtin "object.__class__",.ref x,tp],[]⟩) R ⟨h,g,d,t,os⟩:=by
 have L0:=excAt_ty (model prog w) h p
 have L1:=looks_mroIn (M:=model prog w) X hm
 refine codeAny_call_builtin KF.slot_gs.plain KF.entry_gs (KF.slot_gs.check _ _ _ _ _ _ _ _ KF.type_class (KF.args_gs _ _ _) ?_)
 unfold Builtin.«getset_descriptor.__get__» descrGet
 rw [dga_obj]
 refine wpAny_bind (wpAny_pure ?_)
 unfold descrGetter descrCheckInstance descrNameAndClass isInstance
 simp only [KF.owner_class]
 repeat lk
 refine ⟨Code.quiet_builtin _ (by decide +kernel),codeAny_builtin KF.entry_class ?_⟩
 unfold Builtin.«object.__class__» shownTypeOf
 repeat lk
 exact hq
theorem excls_entry{tk:Tok}{Q:Fin->Shared->Prop}(X:K.In h)(p:ExcAt x C h)(c:XIn K C)(hq:Q (.done (.ret (.ref C))) ⟨h,g,d,t,os⟩) :
  wpAny (model prog w) A (Builtin.«object.__getattribute__» ⟨[.ref x,.str "__class__" tk],[]⟩) Q E ⟨h,g,d,t,os⟩:=by
 have L0:=excAt_ty (model prog w) h p
 have L1:=looks_findIn (M:=model prog w) X c.cl
 have hT5:(⟨h,g,d,t,os⟩:Shared).TypeIs (.builtin "object.__class__") "getset_descriptor":=F.typeOf_object_class
 have f5:=F.typeOf_object_class
 have f6:=F.slot_gs_get.lookup
 have f7:=F.slot_gs_set.lookup
 repeat (any_goals (first | assumption | with_reducible refine L0.at ?_ | with_reducible refine L1.at ?_ | wp_step))
 refine excls_get X p c.ob ?_
 repeat (any_goals (first | assumption | wp_step))
theorem excls_check{nameV:Value}{Q:Unit->Shared->Prop}(X:K.In h)(p:ExcAt x C h)(c:XIn K C)(hq:Q () ⟨h,g,d,t,os⟩) :
  wpAny (model prog w) A (checkBuiltinCall "BaseException.__getattribute__" ⟨[.ref x,nameV],[]⟩) Q E ⟨h,g,d,t,os⟩:=by
 have hk:builtinKind "BaseException.__getattribute__"=some .slot:=by decide +kernel
 have hsplit:splitId "BaseException.__getattribute__"=some ("BaseException","__getattribute__"):=by decide +kernel
 have L0:=excAt_ty (model prog w) h p
 have L1:=looks_mroIn (M:=model prog w) X c.be
 have ha:=F.args_bexc_ga (.ref x) nameV
 simp only [checkBuiltinCall,hk,hsplit]
 refine wpAny_bind ?_
 ·unfold isInstance
  repeat (first | with_reducible refine L0.at ?_ | with_reducible refine L1.at ?_ | wp_step)
  exact hq
theorem excls_call{tk:Tok}{R:Result->Shared->Prop}(X:K.In h)(p:ExcAt x C h)(c:XIn K C)(hq:R (.ok (.ret (.ref C))) ⟨h,g,d,t,os⟩) :
  codeAny (model prog w) A (.call (.builtin "BaseException.__getattribute__") ⟨[.ref x,.str "__class__" tk],[]⟩) R ⟨h,g,d,t,os⟩:=
 codeAny_call_builtin F.excAttr_ValueError.ga.plain F.entry_bexc_ga (excls_check X p c (excls_entry X p c hq))
theorem excls_by{tk:Tok}{Q:Value->Shared->Prop}(X:K.In h)(p:ExcAt x C h)(c:XIn K C)(hq:Q (.ref C) ⟨h,g,d,t,os⟩) :
  wpAny (model prog w) A (getAttrBy (.ref x) (.str "__class__" tk) false) Q E ⟨h,g,d,t,os⟩:=by
 have L0:=excAt_ty (model prog w) h p
 have L1:=looks_findIn (M:=model prog w) X c.ga
 have L2:=looks_findIn (M:=model prog w) X c.no
 have f3:=F.excAttr_ValueError.ga.bind (.ref x)
 have hx2:(Value.builtin "BaseException.__getattribute__" == Value.builtin "object.__getattribute__")=false:=by decide +kernel
 have hx1:(onTheHeap (Value.ref C)&&Value.builtin "BaseException.__getattribute__" == Value.builtin "object.__getattribute__")=false:=by rw [hx2]; rfl
 repeat (any_goals (first | assumption | with_reducible refine L0.at ?_ | with_reducible refine L1.at ?_ | with_reducible refine L2.at ?_ | wp_step))
 refine excls_call X p c ?_
 repeat (any_goals (first | assumption | wp_step))
theorem excls_attr{Q:Option Value->Shared->Prop}(X:K.In h)(p:ExcAt x C h)(c:XIn K C)(hq:Q (some (.ref C)) ⟨h,g,d,t+1,os⟩):wpAny (model prog w) A (getAttr? (.ref x) "__class__") Q E ⟨h,g,d,t,os⟩:=by
 unfold getAttr? getAttrBy?
 repeat (any_goals (first | assumption | with_reducible apply excls_by X p c | wp_step))
theorem kitx_exc(c:XIn K C):KitX K (.ref x) (.ref C) (ExcAt x C) where
 ty:=fun M h _ p=>excAt_ty M h p
 it:=fun _ _ X _=>by
  have hcD:=c.it
  unfold clsIn at hcD
  split at hcD
  ·rename_i c' d' cd' sl' ho
   intro A' Q' E' s' k q
   unfold isType loadHead
   exact wpAny_bind (wpAny_loadPart (k _ _ (X _ _ ho)) (wpAny_pure q))
  ·cases hcD
 ne:=fun h tp dd its n sl X htp=>by
  have hcD:=c.it
  refine Bool.eq_false_iff.mpr fun q=>?_
  have e:C=tp:=Value.ref.inj (beq_iff_eq.mp q)
  subst e
  unfold clsIn at hcD
  split at hcD
  ·rename_i c' d' cd' sl' ho
   have z:=(X _ _ ho).symm.trans htp
   cases z
  ·cases hcD
 ca:=fun {_ _ _ _ _ s} X p k=>by
  obtain ⟨h,g,d,t,os⟩:=s
  exact excls_attr X p c k
end
section
variable {X:Cx}
def rIsx(K:Frag):List V->Hp->VK->Prop:=fun xs H Q=>∃ x C v c k,xs=[.ref x,v]/\RelV v c/\H x=some (excO x C)/\XIn K C/\kitOne K (.ref C) c=some k/\Q (.bl k) H
theorem call_isx:CallR X (.builtin "isinstance") (rIsx X.K):=by
 intro pins s sg H xs us Q I r h
 obtain ⟨x,C,v,c,k,rfl,rc,ex,xi,e,q⟩:=h
 obtain ⟨u,u2,rfl,ru,ru2⟩:=vals2 r
 obtain rfl:u=Value.ref x:=ru
 have p:ExcAt x C s.heap:=by
  obtain ⟨p,_⟩:=I.hok x _ ex
  exact p
 obtain rfl:u2=c:=by
  have:v≠.str ""∨True:=.inr trivial
  cases v<;>first | exact (show u2=_ from ru2).trans (show c=_ from rc).symm | (exfalso; obtain ⟨t,rfl⟩:=rc; cases e) | (exfalso; cases (show c=_ from rc); cases e)
 exact kia_one (kitx_exc xi) I.kIn p e (fun z=>nomatch z) fun tk=>⟨.bl k,H,I.tok _,rfl,q⟩
def rIsxT(K:Frag):List V->Hp->VK->Prop:=fun xs H Q=>∃ (x C tp:Addr) (cs:List Addr) (k:Bool),xs=[.ref x,.ref tp]/\H x=some (excO x C)/\XIn K C/\H tp=some (.tup (cs.map V.ref))/\kitAny K (.ref C) (cs.map Value.ref)=some k/\Q (.bl k) H
theorem valsRefs:∀ {cs:List Addr} {us:List Value},Vals (cs.map V.ref) us->us=cs.map Value.ref
 | [],_,r=>by cases r; rfl
 | c::cs,_,r=>by
  cases r with
  | cons r1 r2=>rw [valsRefs r2,show _=Value.ref c from r1]; rfl
theorem call_isxT:CallR X (.builtin "isinstance") (rIsxT X.K):=by
 intro pins s sg H xs us Q I r h
 obtain ⟨x,C,tp,cs,k,rfl,ex,xi,et,e,q⟩:=h
 obtain ⟨u,u2,rfl,ru,ru2⟩:=vals2 r
 obtain rfl:u=Value.ref x:=ru
 obtain rfl:u2=Value.ref tp:=ru2
 have p:ExcAt x C s.heap:=by
  obtain ⟨p,_⟩:=I.hok x _ ex
  exact p
 obtain ⟨_,its,rv,⟨oc,od,oda,osl⟩,h1,h2,n,h3⟩:=(show ObjOk X.prog X.w H s.heap tp (.tup (cs.map V.ref)) from I.hok tp _ et)
 obtain rfl:=valsRefs rv
 dsimp only at h2 h3
 subst h2 h3
 exact kia_tup (kitx_exc xi) I.kIn p h1 e (fun z=>nomatch z) fun tk=>⟨.bl k,H,I.tok _,rfl,q⟩
end
end L2
namespace L2
open PySem PySem.Spec PyProof.Rows
abbrev Cx.rough(X:Cx):Cx:={ X with calm:=false,xe:=fun _ _=>False }
structure RoomH (k:Nat) (A:Around):Prop where
 dp:A.depth+3*k+5 < recursionLimit
 un:A.units+16*k+200 < cLine
theorem Room.h{k:Nat}{A:Around}(r:Room k A):RoomH k A:=⟨r.dp,r.un⟩
theorem RoomH.deeper{k:Nat}{A:Around}(r:RoomH (k+1) A)(env:Env):RoomH k (A.deeper env):=
 ⟨by have:=r.dp; show A.depth+1+3*k+5 < _; lia,by have:=r.un; show A.units+3+16*k+200 < _; lia⟩
theorem RoomH.mono{j k:Nat}{A:Around}(r:RoomH k A)(h:j<=k):RoomH j A:=⟨by have:=r.dp; lia,by have:=r.un; lia⟩
theorem RoomH.mark{k:Nat}{A:Around}(r:RoomH k A)(v:Option Value):RoomH k (A.mark v):=⟨r.dp,r.un⟩
structure FnOkH (P:Program) (w:World) (K:PySem.W.Frag) (mg:Str->Option Value) (base:Heap) (k:Nat) (f:Addr) (fd:FuncData) (ps:List Str) (sp:Sp):Prop where
 len:∀ vs H Q E,sp vs H Q E->vs.length=ps.length
 run:∀ (A:Around) (outer:List Env) (s:Shared) (H:Hp) (args:Args) (us:List Value) (vs:List V) (Q:VK) (E:XK),RoomH k A->Env0 P w K mg base A outer s H->BindsTo s fd args (ps.zip us)->Vals vs us->sp vs H Q E->
  codeAny (model P w) A (.call (.ref f) args) (CR CX0 outer P w H s Q E) s
theorem fn_ofH{P:Program}{w:World}{K:PySem.W.Frag}{mg:Str->Option Value}{base:Heap}{k:Nat}{f:Addr}{name qual:Str}{params:Arguments}{body:List Stmt}{scope:Scope}{dV kV doc pm cdv ct oc:Value}{an od:Option Addr}
  {osl:Array (Option Value)} {N ps:List Str} {sp:Sp} (lk:K.lookup f=some ⟨oc,od,.func (PySem.W.fnOf name qual params body scope dV kV doc pm an cdv ct),osl⟩) (hcd:PySem.W.codeIn K cdv qual=true) (S:FnScope N ps scope)
  (len:∀ vs H Q E,sp vs H Q E->vs.length=ps.length)
  (hbody:∀ (A:Around) (outer:List Env) (s:Shared) (H:Hp) (vs:List V) (Q:VK) (E:XK),RoomH k (A.deeper (envOfC qual scope s.heap.objs.size f cdv))->sp vs H Q E->
   ∃ t,PSs0 (cxOf CX0 P w K mg base N qual scope f cdv A outer s H E).rough body t/\t { nx:=fun _ H'=>Q .non H',rt:=Q } (start N vs) H) :
  FnOkH P w K mg base (k+1) f (PySem.W.fnOf name qual params body scope dV kV doc pm an cdv ct) ps sp:=by
 refine ⟨len,fun A outer s H args us vs Q E hr e0 hb r hsp=>?_⟩
 have hl:=len _ _ _ _ hsp
 have KX:K.In s.heap:=e0.mod.kin.keeps fun b o e=>(e0.bs b o e).1
 have lim:s.heap.NoLimit:=e0.mod.nolimit.keeps fun b o e=>(e0.bs b o e).1
 have hkind:∀ y∈ps.zip us,scope.names.lookup y.1=some .local∨(scope.names.lookup y.1=some .cell/\((cellsFrom (s.heap.objs.size+1) scope.names []).lookup y.1).isSome=true):=fun ⟨n,v⟩ hy=>by
  rcases S.par n (List.of_mem_zip hy).1 with q | q
  ·exact .inl q
  ·exact .inr ⟨q,PySem.W.cellsFrom_some _ _ _ (.inl q)⟩
 refine codeAny_call_function (by have:=hr.dp; lia) (KX _ _ lk) rfl S.co S.gen rfl (PySem.W.codeRec_of KX hcd) (hb _ _ _ _ ?_)
 refine wpAny_newFunctionEnv_cells S.kind hkind fun env he s1 x=>?_
 subst he
 refine ⟨lim.keeps x.toInCall.keep,codeAny_func ?_⟩
 obtain ⟨t,ht,hq⟩:=hbody A outer s H vs Q E (hr.deeper _) hsp
 have e1:Env0 P w K mg base { A with handled:=none } outer s H:=⟨e0.frames,e0.mod,e0.bs,e0.bsz,e0.funs,e0.frf,e0.hok,e0.bare⟩
 have I0:Inv (cxOf CX0 P w K mg base N qual scope f cdv { A with handled:=none } outer s H E) [] (start N vs) H s1:=inv_start S rfl e1 hl r x
 have I:Inv (cxOf CX0 P w K mg base N qual scope f cdv A outer s H E).rough [] (start N vs) H s1:=
  ⟨⟨I0.ok.mod,I0.ok.kind,I0.ok.glob,I0.ok.blt,I0.ok.above,I0.ok.inj,I0.ok.has,I0.ok.cab,(fun z=>by cases z),Around.frames_deeper e0.frames,I0.ok.stk,I0.ok.exf,I0.ok.bs,I0.ok.bsz,I0.ok.noex,I0.ok.exfs,I0.ok.funs,I0.ok.frf⟩,I0.os,I0.bare,I0.base,I0.loc,I0.cell,I0.free,I0.freeC,I0.pin,I0.hok,I0.len⟩
 refine wpAny_mono (ht s1 (start N vs) H _ I hq) (fun fl s' hs=>?_) fun e s' hs=>hs.elim
 have fin:∀ {σ':St} {H':Hp} {v:V} {u:Value},Inv (cxOf CX0 P w K mg base N qual scope f cdv A outer s H E).rough [] σ' H' s'->RelV v u->Q v H'->CE outer P w H s Q u s':=
  fun {σ' H' v u} J rv q=>⟨v,H',J.os,J.bare,J.base,J.hok,rv,q⟩
 cases fl with
 | ret u=>
  obtain ⟨v,σ',H',J,rv,q⟩:=hs
  exact fin J rv q
 | next=>
  obtain ⟨σ',H',J,q⟩:=hs
  exact fin (v:=V.non) (u:=Value.none) J rfl q
 | brk=>
  obtain ⟨_,_,_,q⟩:=hs
  exact False.elim q
 | cont=>
  obtain ⟨_,_,_,q⟩:=hs
  exact False.elim q
section
variable {X:Cx}{k:Nat}{f:Addr}{fd:FuncData}{ps:List Str}{sp:Sp}{E:XK}{x:Str}{p pos:Pos}{e:Expr}{es:List Expr}{t:TA}
theorem pe_callH(F:FnOkH X.prog X.w X.K X.mg X.base k f fd ps sp)(hr:RoomH k X.A)(hg:Gl X x)(hm:X.mg x=some (.ref f))(hk:PySem.W.keepIn X.K (.ref f)=true)(hb:Binds X.K fd ps [])
  (ha:PA X (e::es) t) (hdb:(x == ("__debug__":Str))=false:=by decide) (he:starEach (e::es) X.env=(false,eval e X.env)::starEach es X.env:=by rfl) (hpl:(backTo pos (starEach es X.env)).any (·.1)=false:=by rfl) :
  PE X (.Call (.Name x p) (e::es) [] pos) (tCall sp [] E t):=by
 intro pins s σ H Q I h
 refine wpAny_Call_Name_kw (ld_glob I hg hm ?_ hdb)
 refine PySem.W.callWith_K (h₀:=X.base) I.ok.mod.kin hk (thn (ha pos pins s σ H _ I h) fun us s1 ⟨vs,H1,I1,r,q⟩=>⟨I1.kIn,?_⟩) he hpl
 have hl:(us++[]).length=ps.length:=by rw [List.append_nil,<-r.length,<-F.len _ _ _ _ q,List.append_nil]
 have q:sp (vs++[]) H1 Q E:=q
 refine wpAny_call (codeAny_mono (F.run X.A X.stack s1 H1 ⟨us,[]⟩ (us++[]) (vs++[]) Q E hr I1.env0 (hb s1 us I1.kIn hl) (by rw [List.append_nil,List.append_nil]; exact r) q) fun r s' hq=>?_)
 cases r with
 | error e=>exact (show False from hq).elim
 | ok fl=>
  cases fl with
  | ret u=>exact I1.after hq
  | next=>exact False.elim hq
  | brk=>exact False.elim hq
  | cont=>exact False.elim hq
end
theorem fn_of0{CX:CXT}{P:Program}{w:World}{K:PySem.W.Frag}{mg:Str->Option Value}{base:Heap}{k:Nat}{f:Addr}{name qual:Str}{params:Arguments}{body:List Stmt}{scope:Scope}{dV kV doc pm cdv ct oc:Value}{an od:Option Addr}
  {osl:Array (Option Value)} {N ps:List Str} {sp:Sp} (lk:K.lookup f=some ⟨oc,od,.func (PySem.W.fnOf name qual params body scope dV kV doc pm an cdv ct),osl⟩) (hcd:PySem.W.codeIn K cdv qual=true) (S:FnScope N ps scope)
  (len:∀ vs H Q E,sp vs H Q E->vs.length=ps.length)
  (hbody:∀ (A:Around) (outer:List Env) (s:Shared) (H:Hp) (vs:List V) (Q:VK) (E:XK),Room k (A.deeper (envOfC qual scope s.heap.objs.size f cdv))->A.frames=some outer->sp vs H Q E->
   ∃ t,PSs0 (cxOf CX P w K mg base N qual scope f cdv A outer s H E) body t/\t { nx:=fun _ H'=>Q .non H',rt:=Q } (start N vs) H) :
  FnOk P w K mg base CX (k+1) f (PySem.W.fnOf name qual params body scope dV kV doc pm an cdv ct) ps sp:=by
 refine ⟨len,fun A outer s H args us vs Q E hr e0 hb r hsp=>?_⟩
 have hl:=len _ _ _ _ hsp
 have KX:K.In s.heap:=e0.mod.kin.keeps fun b o e=>(e0.bs b o e).1
 have lim:s.heap.NoLimit:=e0.mod.nolimit.keeps fun b o e=>(e0.bs b o e).1
 have hkind:∀ y∈ps.zip us,scope.names.lookup y.1=some .local∨(scope.names.lookup y.1=some .cell/\((cellsFrom (s.heap.objs.size+1) scope.names []).lookup y.1).isSome=true):=fun ⟨n,v⟩ hy=>by
  rcases S.par n (List.of_mem_zip hy).1 with q | q
  ·exact .inl q
  ·exact .inr ⟨q,PySem.W.cellsFrom_some _ _ _ (.inl q)⟩
 refine codeAny_call_function hr.depth (KX _ _ lk) rfl S.co S.gen rfl (PySem.W.codeRec_of KX hcd) (hb _ _ _ _ ?_)
 refine wpAny_newFunctionEnv_cells S.kind hkind fun env he s1 x=>?_
 subst he
 refine ⟨lim.keeps x.toInCall.keep,codeAny_func ?_⟩
 obtain ⟨t,ht,hq⟩:=hbody A outer s H vs Q E (hr.deeper _) e0.frames hsp
 have I:Inv (cxOf CX P w K mg base N qual scope f cdv A outer s H E) [] (start N vs) H s1:=inv_start S hr.hd e0 hl r x
 refine wpAny_mono (ht s1 (start N vs) H _ I hq) (fun fl s' hs=>?_) fun e s' hs=>hs
 have fin:∀ {σ':St} {H':Hp} {v:V} {u:Value},Inv (cxOf CX P w K mg base N qual scope f cdv A outer s H E) [] σ' H' s'->RelV v u->Q v H'->CE outer P w H s Q u s':=
  fun {σ' H' v u} J rv q=>⟨v,H',J.os,J.bare,J.base,J.hok,rv,q⟩
 cases fl with
 | ret u=>
  obtain ⟨v,σ',H',J,rv,q⟩:=hs
  exact fin J rv q
 | next=>
  obtain ⟨σ',H',J,q⟩:=hs
  exact fin (v:=V.non) (u:=Value.none) J rfl q
 | brk=>
  obtain ⟨_,_,_,q⟩:=hs
  exact False.elim q
 | cont=>
  obtain ⟨_,_,_,q⟩:=hs
  exact False.elim q
theorem PSs.zero{X:Cx}{st:List Stmt}{t:TS}(h:PSs X st t):PSs0 X st t:=fun s σ H D I q=>h [] s σ H D I q
theorem pss0_one{X:Cx}{st:Stmt}{t:TS}(h:PS0 X st t):PSs0 X [st] t:=fun s σ H D I q=>by
 refine wpAny_execs_cons (wpAny_mono (h s σ H D I q) (fun f s1 z=>?_) fun _ _ z=>z)
 cases f with
 | next=>exact wpAny_execs_nil z
 | brk=>exact z
 | cont=>exact z
 | ret u=>exact z
end L2
namespace L2
open PySem PySem.Spec PyProof.Rows
section
variable {X:Cx}
def rIns:V->List V->Hp->VK->Prop:=fun x vs H Q=>∃ l xs i y,x=.ref l/\vs=[.int i,y]/\H l=some (.lst xs)/\0<=i/\i.toNat<=xs.length/\xs.length<=1000/\Q .non (upd H l (.lst (xs.take i.toNat++y::xs.drop i.toNat)))
theorem ins_arr(its:List Value)(k:Nat)(u:Value):(its.toArray.extract 0 k).push u++its.toArray.extract k=(its.take k++u::its.drop k).toArray:=by
 apply Array.ext'
 simp [List.take_of_length_le]
theorem Vals.ins{xs:List V}{its:List Value}{y:V}{u:Value}(r:Vals xs its)(ru:RelV y u)(k:Nat):Vals (xs.take k++y::xs.drop k) (its.take k++u::its.drop k):=(r.take k).append (.cons ru (r.drop k))
theorem mt_insert:MtM X "list.insert" rIns:=by
 intro pins s σ H x vs v us Q I rx rv h
 obtain ⟨l,xs,i,y,rfl,rfl,hH,h1,h2,h3,q⟩:=h
 cases rx
 obtain ⟨u0,u,rfl,⟨t,rfl⟩,ru⟩:=vals2 rv
 obtain ⟨z,its,n,r,hl,e⟩:=I.lstM hH
 have b63:(1000:Int) < 2 ^ 63:=by decide
 have bs:1000 < sizeLine:=by decide
 refine call_meets F.slot_list_insert ⟨_,e,rfl⟩ F.entry_list_insert (F.args_list_insert_3 _ _ _) (AutoSeq1.list_insert_list_int_val_1 l its.toArray n i t u (by rw [fitsIndex_both (by lia) (by lia)]; decide) (by rw [List.size_toArray]; lia)) ⟨e,?_⟩
 refine ⟨.non,_,I.lset (its':=its.take i.toNat++u::its.drop i.toNat) hH e ?_ (r.ins ru _) ?_,rfl,q⟩
 ·dsimp only
  rw [if_neg (by lia),List.size_toArray,Nat.min_eq_left (by lia)]
  exact ins_arr _ _ _
 ·rw [List.length_append,List.length_cons,List.length_take,List.length_drop]
  lia
end
end L2
namespace L3
open PySem PySem.Spec PyProof.Rows L2
variable [TheK]
def capS(caps:List (Option Nat))(s:Sg):Sg:=caps.map fun o=>o.bind fun j=>(s[j]?).join
def backGo(M:List Nat):List (Option Nat)->Sg->Sg->Sg
 | some j::cs,x::xs,s=>backGo M cs xs (if M.contains j then s.set j x else s)
 | none::cs,_::xs,s=>backGo M cs xs s
 | _,_,s=>s
structure CapOk (caps:List (Option Nat)) (M Mi:List Nat):Prop where
 yes:∀ (i:Nat),i∈Mi->∃ j,caps[i]?=some (some j)/\j∈M
 no:∀ (i j:Nat),caps[i]?=some (some j)->i∉Mi->j∉M
 inj:∀ (i i' j:Nat),caps[i]?=some (some j)->caps[i']?=some (some j)->i=i'
def capB(caps:List (Option Nat))(M Mi:List Nat):Bool:=
 Mi.all (fun i=>match caps[i]? with | some (some j)=>M.contains j | _=>false) &&
 (List.range caps.length).all (fun i=>match caps[i]? with | some (some j)=>Mi.contains i||!M.contains j | _=>true) &&
 (List.range caps.length).all (fun i=>(List.range caps.length).all fun i'=>match caps[i]?,caps[i']? with | some (some j),some (some j')=>j != j'||i == i' | _,_=>true)
theorem CapOk.of{caps:List (Option Nat)}{M Mi:List Nat}(h:capB caps M Mi=true):CapOk caps M Mi:=by
 unfold capB at h
 rw [Bool.and_eq_true,Bool.and_eq_true] at h
 obtain ⟨⟨h1,h2⟩,h3⟩:=h
 have lt:∀ {i:Nat} {o:Option Nat},caps[i]?=some o->i∈List.range caps.length:=fun e=>List.mem_range.mpr (List.getElem?_eq_some_iff.mp e).1
 refine ⟨fun i hi=>?_,fun i j e n=>?_,fun i i' j e e'=>?_⟩
 ·have:=List.all_eq_true.mp h1 i hi
  cases hc:caps[i]? with
  | none=>rw [hc] at this; cases this
  | some o=>cases o with
   | none=>rw [hc] at this; cases this
   | some j=>rw [hc] at this; exact ⟨j,rfl,by simpa using this⟩
 ·have:=List.all_eq_true.mp h2 i (lt e)
  rw [e] at this
  intro hj
  have a:Mi.contains i=false:=by simpa using n
  have b:M.contains j=true:=by simpa using hj
  dsimp only at this
  rw [a,b] at this
  cases this
 ·have:=List.all_eq_true.mp (List.all_eq_true.mp h3 i (lt e)) i' (lt e')
  rw [e,e'] at this
  simpa using this
theorem capS_get{caps:List (Option Nat)}{s:Sg}{i:Nat}{t:T}(h:(capS caps s)[i]?=some (some t)):∃ j,caps[i]?=some (some j)/\s[j]?=some (some t):=by
 unfold capS at h
 rw [List.getElem?_map] at h
 obtain ⟨o,h1,h2⟩:=Qm h
 cases o with
 | none=>cases h2
 | some j=>exact ⟨j,h1,join_some h2⟩
theorem capSt_get{caps:List (Option Nat)}{σ:L2.St}{i j:Nat}(h:caps[i]?=some (some j)):(capSt caps σ)[i]?=some (σ[j]?).join:=by
 unfold capSt
 rw [List.getElem?_map,h]
 rfl
theorem capSt_ref{caps:List (Option Nat)}{σ:L2.St}{i:Nat}{v:V}(h:(capSt caps σ)[i]?=some (some v)):∃ j,caps[i]?=some (some j)/\σ[j]?=some (some v):=by
 unfold capSt at h
 rw [List.getElem?_map] at h
 obtain ⟨o,h1,h2⟩:=Qm h
 cases o with
 | none=>cases h2
 | some j=>
  refine ⟨j,h1,?_⟩
  have h2:(σ[j]?).join=some v:=h2
  cases e:σ[j]? with
  | none=>rw [e] at h2; cases h2
  | some x=>rw [e] at h2; cases x with
   | none=>cases h2
   | some y=>injection h2 with h2; rw [h2]
theorem Rel.cap{F:Fr}{O:Addr->Prop}{M Mi:List Nat}{s:Sg}{σ:L2.St}{H:Hp}{caps:List (Option Nat)}(R:Rel F O M s σ H)(c:CapOk caps M Mi):Rel F O Mi (capS caps s) (capSt caps σ) H:=by
 refine ⟨by unfold capS capSt; simp,fun i t e n=>?_,fun i t e n=>?_,fun i a hi e=>?_,fun i i' a hi hi' e e'=>?_,R.keep,R.dom,R.fresh,R.inD,R.al⟩
 ·obtain ⟨j,h1,h2⟩:=capS_get e
  obtain ⟨v,h3,h4⟩:=R.val j t h2 (c.no i j h1 n)
  exact ⟨v,by rw [capSt_get h1,h3]; rfl,h4⟩
 ·obtain ⟨j,h1,h2⟩:=capS_get e
  obtain ⟨j',h1',h3⟩:=c.yes i n
  rw [h1] at h1'
  obtain rfl:j=j':=by injection h1' with h; injection h
  obtain ⟨a,h4,L⟩:=R.own j t h2 h3
  exact ⟨a,by rw [capSt_get h1,h4]; rfl,L⟩
 ·obtain ⟨j,h1,h2⟩:=capSt_ref e
  obtain ⟨j',h1',h3⟩:=c.yes i hi
  rw [h1] at h1'
  obtain rfl:j=j':=by injection h1' with h; injection h
  exact R.ow j a h3 h2
 ·obtain ⟨j,h1,h2⟩:=capSt_ref e
  obtain ⟨j',h1',h2'⟩:=capSt_ref e'
  obtain ⟨k,hk,h3⟩:=c.yes i hi
  obtain ⟨k',hk',h3'⟩:=c.yes i' hi'
  rw [h1] at hk
  rw [h1'] at hk'
  obtain rfl:j=k:=by injection hk with h; injection h
  obtain rfl:j'=k':=by injection hk' with h; injection h
  have:=R.dis j j' a h3 h3' h2 h2'
  subst this
  exact c.inj i i' j h1 h1'
theorem backGo_len(M:List Nat):∀ (caps:List (Option Nat)) (si s:Sg),(backGo M caps si s).length=s.length
 | [],_,_=>by unfold backGo; rfl
 | none::cs,[],s=>by unfold backGo; rfl
 | some j::cs,[],s=>by unfold backGo; rfl
 | none::cs,x::xs,s=>by unfold backGo; exact backGo_len M cs xs s
 | some j::cs,x::xs,s=>by
  unfold backGo
  rw [backGo_len M cs xs]
  split
  ·rw [List.length_set]
  ·rfl
theorem backGo_out(M:List Nat){j:Nat}:∀ (caps:List (Option Nat)) (si s:Sg),(j∉M∨∀ i:Nat,caps[i]?≠some (some j))->(backGo M caps si s)[j]?=s[j]?
 | [],_,_,_=>by unfold backGo; rfl
 | none::cs,[],s,_=>by unfold backGo; rfl
 | some k::cs,[],s,_=>by unfold backGo; rfl
 | none::cs,x::xs,s,h=>by
  unfold backGo
  exact backGo_out M cs xs s (h.imp id fun z i=>by simpa using z (i+1))
 | some k::cs,x::xs,s,h=>by
  unfold backGo
  rw [backGo_out M cs xs _ (h.imp id fun z i=>by simpa using z (i+1))]
  split
  ·rename_i hk
   refine List.getElem?_set_ne fun z=>?_
   subst z
   rcases h with h | h
   ·exact h (by simpa using hk)
   ·exact h 0 rfl
  ·rfl
theorem backGo_in(M:List Nat){j:Nat}(hj:j∈M):∀ (caps:List (Option Nat)) (si s:Sg) (i:Nat),caps[i]?=some (some j)->(∀ i':Nat,caps[i']?=some (some j)->i'=i)->i < si.length->j < s.length->(backGo M caps si s)[j]?=si[i]?
 | [],_,_,i,e,_,_,_=>by simp at e
 | c::cs,[],s,i,_,_,hi,_=>by simp at hi
 | none::cs,x::xs,s,i,e,u,hi,hl=>by
  unfold backGo
  cases i with
  | zero=>simp at e
  | succ i=>
   rw [List.getElem?_cons_succ]
   exact backGo_in M hj cs xs s i (by simpa using e) (fun i' e'=>by simpa using u (i'+1) (by simpa using e')) (by simpa using hi) hl
 | some k::cs,x::xs,s,i,e,u,hi,hl=>by
  unfold backGo
  cases i with
  | zero=>
   have hk:k=j:=by simpa using e
   subst hk
   rw [backGo_out M cs xs _ (.inr fun i' e'=>by simpa using u (i'+1) (by simpa using e')),if_pos (by simpa using hj),List.getElem?_set_self hl]
   rfl
  | succ i=>
   rw [List.getElem?_cons_succ]
   refine backGo_in M hj cs xs _ i (by simpa using e) (fun i' e'=>by simpa using u (i'+1) (by simpa using e')) (by simpa using hi) ?_
   split
   ·rw [List.length_set]; exact hl
   ·exact hl
theorem Rel.back{F:Fr}{O:Addr->Prop}{M Mi:List Nat}{s si:Sg}{σ σ2:L2.St}{H2 H4:Hp}{caps:List (Option Nat)}(R:Rel F O M s σ H2)(c:CapOk caps M Mi)(S:Step σ2 Mi H2 H4)(Ri:Rel F O Mi si σ2 H4)
  (hk:∀ (i j:Nat),caps[i]?=some (some j)->σ2[i]?=(capSt caps σ)[i]?) (hl:si.length=caps.length):Rel F O M (backGo M caps si s) σ H4:=by
 have addr:∀ (i:Nat) b,i∈Mi->σ2[i]?=some (some (.ref b))->∃ j,caps[i]?=some (some j)/\j∈M/\σ[j]?=some (some (.ref b)):=fun i b hi e=>by
  obtain ⟨j,h1,h2⟩:=c.yes i hi
  rw [hk i j h1] at e
  obtain ⟨j',h3,h4⟩:=capSt_ref e
  rw [h1] at h3
  obtain rfl:j=j':=by injection h3 with h; injection h
  exact ⟨j,h1,h2,h4⟩
 have kf:∀ b u,Free F O b->H2 b=some u->H4 b=some u:=fun b u z e=>S.keep b u (fun i hi e'=>by
  obtain ⟨j,_,h2,h3⟩:=addr i b hi e'
  exact z.1 (R.ow j b h2 h3)) e
 refine ⟨by rw [backGo_len]; exact R.len,fun j t e n=>?_,fun j t e n=>?_,R.ow,R.dis,Ri.keep,Ri.dom,R.fresh,R.inD,Ri.al⟩
 ·rw [backGo_out M caps si s (.inl n)] at e
  obtain ⟨v,h1,h2⟩:=R.val j t e n
  exact ⟨v,h1,h2.mono (fun _ c=>c) kf⟩
 ·by_cases hc:∃ i:Nat,caps[i]?=some (some j)
  ·obtain ⟨i,hi⟩:=hc
   have hlt:i < caps.length:=(List.getElem?_eq_some_iff.mp hi).1
   have hjl:j < s.length:=by
    have:=(List.getElem?_eq_some_iff.mp e).1
    rwa [backGo_len] at this
   rw [backGo_in M n caps si s i hi (fun i' e'=>c.inj i' i j e' hi) (by lia) hjl] at e
   have him:i∈Mi:=Decidable.byContradiction fun z=>c.no i j hi z n
   obtain ⟨a,h1,L⟩:=Ri.own i t e him
   obtain ⟨j',h2,_,h3⟩:=addr i a him h1
   rw [hi] at h2
   obtain rfl:j=j':=by injection h2 with h; injection h
   exact ⟨a,h3,L⟩
  ·rw [backGo_out M caps si s (.inr fun i z=>hc ⟨i,z⟩)] at e
   obtain ⟨a,h1,L⟩:=R.own j t e n
   refine ⟨a,h1,L.mono (fun _ c=>c) kf fun u e'=>S.keep a u (fun i hi e''=>?_) e'⟩
   obtain ⟨j',h2,h3,h4⟩:=addr i a hi e''
   have:=R.dis j j' a n h3 h1 h4
   subst this
   exact hc ⟨i,h2⟩
def TgOk(g:TG)(dg:DG)(Mi:List Nat)(caps:List (Option Nat)):Prop:=∀ F O s t s' v σ H (Q:L2.St->Hp->Prop),Rel F O Mi s σ H->Rep (Free F O) H v t->dg t s=some s'->
 (∀ σ',Rel F O Mi s' σ' H->(∀ (i j:Nat),caps[i]?=some (some j)->σ'[i]?=σ[i]?)->σ'.length=σ.length->Q σ' H)->g v σ H Q
theorem tg_name{i:Nat}{Mi:List Nat}{caps:List (Option Nat)}(hc:caps[i]?=some none:=by rfl)(hi:Mi.contains i=false:=by rfl):TgOk (gName i) (dGn i) Mi caps:=by
 intro F O s t s' v σ H Q R r hg q
 have hi':i∉Mi:=by simpa using hi
 unfold dGn at hg
 split at hg
 ·rename_i hl
  injection hg with hg
  subst hg
  refine q _ (R.setE (fun j hj=>⟨hj,fun z=>hi' (z▸hj)⟩) (fun j hj=>.inl hj) hl r) (fun k j e=>?_) ?_
  exact List.getElem?_set_ne fun z=>by subst z; rw [hc] at e; cases e
  exact List.length_set
 ·cases hg
theorem tgs_ok{Mi:List Nat}{caps:List (Option Nat)}{F:Fr}{O:Addr->Prop}{H:Hp}{Q:L2.St->Hp->Prop}:∀ {is:List Nat} {ts:List T} {vs:List V} {s s':Sg} {σ:L2.St},Rel F O Mi s σ H->(∀ i,i∈is->i∉Mi/\caps[i]?=some none)->Reps (Free F O) H vs ts->setAll is ts s=some s'->
  (∀ σ',Rel F O Mi s' σ' H->(∀ (i j:Nat),caps[i]?=some (some j)->σ'[i]?=σ[i]?)->σ'.length=σ.length->Q σ' H)->gsN is vs σ H Q
 | [],[],vs,s,s',σ,R,_,h,e,q=>by
  injection e with e
  subst e
  exact ⟨h.none,q σ R (fun _ _ _=>rfl) rfl⟩
 | [],t::ts,vs,s,s',σ,R,_,h,e,q=>by cases e
 | i::is,[],vs,s,s',σ,R,_,h,e,q=>by cases e
 | i::is,t::ts,[],s,s',σ,R,_,h,e,q=>by have:=h.1; simp at this
 | i::is,t::ts,v::vs,s,s',σ,R,hm,h,e,q=>by
  unfold setAll at e
  split at e
  ·rename_i hl
   obtain ⟨hi,hc⟩:=hm i List.mem_cons_self
   refine ⟨v,vs,rfl,tgs_ok (R.setE (fun j hj=>⟨hj,fun z=>hi (z▸hj)⟩) (fun j hj=>.inl hj) hl h.head) (fun j hj=>hm j (List.mem_cons_of_mem _ hj)) h.tail e fun σ' R' k l=>q σ' R' (fun k' j e'=>(k k' j e').trans ?_) (l.trans List.length_set)⟩
   exact List.getElem?_set_ne fun z=>by subst z; rw [hc] at e'; cases e'
  ·cases e
theorem setAll_len:∀ {is:List Nat} {ts:List T} {s s':Sg},setAll is ts s=some s'->ts.length=is.length
 | [],[],_,_,_=>rfl
 | [],_::_,_,_,e=>by cases e
 | _::_,[],_,_,e=>by cases e
 | i::is,t::ts,s,s',e=>by
  unfold setAll at e
  split at e
  ·rw [List.length_cons,List.length_cons,setAll_len e]
  ·cases e
theorem tg_tup{is:List Nat}{n:Nat}{K:PySem.W.Frag}{Mi:List Nat}{caps:List (Option Nat)}(hn:is.length=n:=by rfl)(h:is.all (fun i=>!Mi.contains i&&caps[i]? == some none)=true:=by rfl):TgOk (gTup K n (gsN is)) (dGt is) Mi caps:=by
 intro F O s t s' v σ H Q R r hg q
 obtain ⟨ts,rfl⟩:∃ ts,t=.tup ts:=by cases t<;>first | exact ⟨_,rfl⟩ | cases hg
 have hg:setAll is ts s=some s':=hg
 obtain ⟨a,vs,rfl,ha,ra⟩:=BRep.tup (.inl r)
 refine ⟨a,vs,rfl,SqT.of ha,by rw [ra.1,setAll_len hg,hn],tgs_ok R (fun i hi=>?_) ra hg q⟩
 have:=List.all_eq_true.mp h i hi
 rw [Bool.and_eq_true] at this
 exact ⟨by simpa using this.1,by simpa using this.2⟩
@[irreducible] def lcMax:Nat:=1000000
theorem lcMax_eq:lcMax=1000000:=by unfold lcMax; rfl
def lcGo(M:List Nat)(caps:List (Option Nat))(dg:DG)(ft:DT)(fe:DE):List T->List T->Sg->Option (List T × Sg)
 | [],acc,s=>some (acc,s)
 | x::xs,acc,s=>(dg x (capS caps s)).bind fun s1=>(ft s1).bind fun p=>if p.1 then (fe p.2).bind fun q=>lcGo M caps dg ft fe xs (acc++[q.1]) (backGo M caps q.2 s) else lcGo M caps dg ft fe xs acc (backGo M caps p.2 s)
def dLC(M:List Nat)(caps:List (Option Nat))(fi:DI)(dg:DG)(ft:DT)(fe:DE):DE:=fun s=>(fi s).bind fun p=>if p.1.length<=lcMax then (lcGo M caps dg ft fe p.1 [] p.2).map fun q=>(.lst q.1,q.2) else none
def dYes:DT:=fun s=>some (true,s)
theorem lc_ok{M Mi:List Nat}{caps:List (Option Nat)}{fi:DI}{g:TG}{dg:DG}{ft:DT}{fe:DE}{tt:TT}(c:CapOk caps M Mi)(hg:TgOk g dg Mi caps)(htt:∀ σ H Q,cT Mi ft σ H Q->tt σ H Q) :
  ∀ σ H Q,cE .n M (dLC M caps fi dg ft fe) σ H Q->tLC caps (cI M fi) g tt (cE .e Mi fe) σ H Q:=by
 intro σ H Q h_;refine cE_ h_ fun F O s t s' R hf q=>?_
 obtain ⟨⟨its,s1⟩,h1,h2⟩:=Qb hf
 split at h2
 case isFalse=>cases h2
 rename_i hsz
 have hsz:its.length<=lcMax:=hsz
 rw [lcMax_eq] at hsz
 obtain ⟨⟨tsE,sE⟩,h3,h4⟩:=Qm h2
 injection h4 with h4 h5
 subst h4 h5
 refine ⟨F,O,s,its,s1,R,h1,fun J H1 S1 R1 IT D hD=>?_⟩
 have nD:∀ (j:Nat),j∈M->σ[j]?≠some (some (.ref D)):=fun j hj e=>R1.al D (R1.ow j D hj e) hD
 have RD:=R1.new hD (.lst [])
 refine ⟨fun i m H'=>m=its.length - i/\i<=its.length/\∃ s' acc ys,Rel F (fun b=>O b∨b=D) M s' σ H'/\H' D=some (.lst ys)/\ys.length<=i/\Reps (Free F (fun b=>O b∨b=D)) H' ys acc/\Step σ M H H' /\
  (∀ b o,Free F O b->H1 b=some o->H' b=some o)/\lcGo M caps dg ft fe (its.drop i) acc s'=some (tsE,sE),⟨its.length,by simp,Nat.zero_le _,s1,[],[],RD,upd_same,Nat.le_refl _,.nil,S1.trans (.new hD _),fun b o _ e=>by rw [upd_ne (ne_of_none e hD)]; exact e,h3⟩,?_⟩
 rintro i m H2 ⟨rfl,hi,s2,acc,ys,R2,hD2,hy,ry,S2,k2,hl⟩
 have it:=IT H2 k2 i
 by_cases hlt:i < its.length
 ·refine .inr ?_
  obtain ⟨go,yl⟩:=it.1 its[i] (List.getElem?_eq_getElem hlt)
  rw [List.drop_eq_getElem_cons hlt] at hl
  unfold lcGo at hl
  obtain ⟨si1,hdg,hl⟩:=Qb hl
  obtain ⟨⟨b,si2⟩,hft,hl⟩:=Qb hl
  refine ⟨go,fun x H3 hy3=>?_⟩
  obtain ⟨y1,y2⟩:=yl x H3 hy3
  -- what was yielded is free of D
  have R3:Rel F (fun b=>O b∨b=D) M s2 σ H3/\(∀ b u,H2 b=some u->H3 b=some u)/\(∀ b,H3 b=none->H2 b=none):=by
   rcases y1 with rfl | ⟨p,o,hp,rfl⟩
   ·exact ⟨R2,fun _ _ e=>e,fun _ e=>e⟩
   ·exact ⟨(R2.new hp o).less (fun b z=>.inl z) R2.ow R2.inD,fun b u e=>by rw [upd_ne (ne_of_none e hp)]; exact e,fun b e=>by
     unfold upd at e
     split at e
     ·cases e
     ·exact e⟩
  obtain ⟨R3,k3,dm3⟩:=R3
  have rx:Rep (Free F (fun b=>O b∨b=D)) H3 x its[i]:=y2.mono (fun b z=>by
   rcases z with ⟨z,n⟩ | n
   ·exact ⟨fun y=>y.elim z.1 fun y=>n (y▸hD),z.2⟩
   ·exact ⟨fun y=>R2.al b y n,.inr (R2.dom b n)⟩) fun _ _ _ e=>e
  have ry3:Reps (Free F (fun b=>O b∨b=D)) H3 ys acc:=ry.mono (fun _ z=>z) fun b o _ e=>k3 b o e
  have hD3:=k3 _ _ hD2
  refine hg F _ (capS caps s2) its[i] si1 x (capSt caps σ) H3 _ (R3.cap c) rx hdg fun σ4 R4 hk4 hl4=>?_
  have hsl:∀ {sx:Sg} {Hx:Hp},Rel F (fun b=>O b∨b=D) Mi sx σ4 Hx->sx.length=caps.length:=fun {sx Hx} Rx=>by
   rw [Rx.len,hl4]
   unfold capSt
   rw [List.length_map]
  have nD4:∀ (k:Nat),k∈Mi->σ4[k]?≠some (some (.ref D)):=fun k hk e=>by
   obtain ⟨j,e1,e2⟩:=c.yes k hk
   rw [hk4 k j e1] at e
   obtain ⟨j',e3,e4⟩:=capSt_ref e
   rw [e1] at e3
   obtain rfl:j=j':=by injection e3 with h; injection h
   exact nD j e2 e4
  refine htt _ _ _ ⟨F,_,si1,b,si2,R4,hft,fun H5 S5 R5=>?_⟩
  have freeK:∀ {Hx Hy:Hp},Step σ4 Mi Hx Hy->∀ b o,(Free F O b/\b≠D)->Hx b=some o->Hy b=some o:=fun {Hx Hy} Sx b o z e=>Sx.keep b o (R4.notOwned fun y=>y.elim z.1.1 z.2) e
  have S3':∀ {Hx:Hp},Step σ4 Mi H3 Hx->Step σ M H Hx:=fun {Hx} Sx=>⟨fun b o n e=>Sx.keep b o (fun k hk e'=>by
   obtain ⟨j,e1,e2⟩:=c.yes k hk
   rw [hk4 k j e1] at e'
   obtain ⟨j',e3,e4⟩:=capSt_ref e'
   rw [e1] at e3
   obtain rfl:j=j':=by injection e3 with h; injection h
   exact n j e2 e4) (k3 b o (S2.keep b o n e)),fun b e=>S2.dom b (dm3 b (Sx.dom b e))⟩
  have keepF:∀ {Hx:Hp},Step σ4 Mi H3 Hx->∀ b o,Free F O b->H1 b=some o->Hx b=some o:=fun {Hx} Sx b o z e=>freeK Sx b o ⟨z,fun y=>by rw [y,hD] at e; cases e⟩ (k3 b o (k2 b o z e))
  cases b with
  | false=>
   rw [if_neg Bool.false_ne_true] at hl
   dsimp only
   rw [if_neg Bool.false_ne_true]
   exact ⟨its.length - (i+1),by lia,rfl,hlt,backGo M caps si2 s2,acc,ys,R3.back c S5 R5 hk4 (hsl R5),S5.keep D _ nD4 hD3,Nat.le_succ_of_le hy,ry3.mono (fun _ z=>z) fun b o z e=>S5.keep b o (R4.notOwned z.1) e,S3' S5,keepF S5,hl⟩
  | true=>
   rw [if_pos rfl] at hl
   dsimp only
   rw [if_pos rfl]
   obtain ⟨⟨te,si3⟩,hfe,hl⟩:=Qb hl
   refine ⟨F,_,si2,te,si3,R5,hfe,fun y H6 S6 p6=>?_⟩
   have S56:=S5.trans S6
   have hD6:H6 D=some (.lst ys):=S56.keep D _ nD4 hD3
   have R6:=R3.back c S56 p6.1 hk4 (hsl p6.1)
   refine ⟨ys,hD6,by rw [sizeLine_eq]; lia,its.length - (i+1),by lia,rfl,hlt,backGo M caps si3 s2,acc++[te],ys++[y],?_,upd_same,by rw [List.length_append,List.length_singleton]; lia,?_,?_,?_,hl⟩
   ·-- D is nobody's: writing there keeps the relation
    have kD:∀ b u,b≠D->H6 b=some u->upd H6 D (.lst (ys++[y])) b=some u:=fun b u n e=>by rw [upd_ne n]; exact e
    refine ⟨R6.len,fun j t e n=>?_,fun j t e n=>?_,R6.ow,R6.dis,fun b u n e=>?_,fun b e=>?_,R6.fresh,R6.inD,fun b z e=>?_⟩
    ·obtain ⟨v,a1,a2⟩:=R6.val j t e n
     exact ⟨v,a1,a2.mono (fun _ z=>z) fun b u z e=>kD b u (fun w=>z.1 (.inr w)) e⟩
    ·obtain ⟨a,a1,a2⟩:=R6.own j t e n
     exact ⟨a,a1,a2.mono (fun _ z=>z) (fun b u z e=>kD b u (fun w=>z.1 (.inr w)) e) fun u e=>kD a u (fun w=>nD j n (w▸a1)) e⟩
    ·refine kD b u (fun w=>?_) (R6.keep b u n e)
     subst w
     have:=R1.dom b hD
     rw [this] at e; cases e
    ·refine R6.dom b ?_
     unfold upd at e
     split at e
     ·cases e
     ·exact e
    ·refine R6.al b z ?_
     unfold upd at e
     split at e
     ·cases e
     ·exact e
   ·have r1:Reps (Free F (fun b=>O b∨b=D)) H6 (ys++[y]) (acc++[te]):=(ry3.mono (fun _ z=>z) fun b o z e=>S56.keep b o (R4.notOwned z.1) e).snoc p6.2
    exact r1.mono (fun _ z=>z) fun b u z e=>by rw [upd_ne (fun w=>z.1 (.inr w))]; exact e
   ·exact ⟨fun b o n e=>by rw [upd_ne (ne_of_none e (S1.dom D hD))]; exact (S3' S56).keep b o n e,fun b e=>(S3' S56).dom b (by
     unfold upd at e
     split at e
     ·cases e
     ·exact e)⟩
   ·exact fun b o z e=>by rw [upd_ne (ne_of_none e hD)]; exact keepF S56 b o z e
 ·have e:i=its.length:=by lia
  subst e
  rw [List.drop_length] at hl
  injection hl with hl
  injection hl with e1 e2
  subst e1 e2
  exact .inl ⟨it.2 (Nat.le_refl _),q _ H2 S2 ⟨D,rfl,S1.dom D hD,R2,.lst hD2 ry⟩⟩
end L3
namespace L3
open PySem PySem.Spec PyProof.Rows L2
variable [TheK]
theorem peor{X:Cx}{e:Expr}{t t':TE}(h:PE X e t)(h':PE X e t'):PE X e (fun σ H Q=>t σ H Q∨t' σ H Q):=fun pins s σ H Q I q=>q.elim (h pins s σ H Q I) (h' pins s σ H Q I)
theorem ptor{X:Cx}{e:Expr}{t t':TT}(h:PT X e t)(h':PT X e t'):PT X e (fun σ H Q=>t σ H Q∨t' σ H Q):=fun pins s σ H Q I q=>q.elim (h pins s σ H Q I) (h' pins s σ H Q I)
theorem pior{X:Cx}{tg e:Expr}{t t':TI}(h:PI X tg e t)(h':PI X tg e t'):PI X tg e (fun σ H R=>t σ H R∨t' σ H R):=fun pins s σ H R I q=>q.elim (h pins s σ H R I) (h' pins s σ H R I)
theorem either{M:List Nat}{k k' k2:Kd}{f f' f2:DE}(hs:∀ s p,f2 s=some p->f s=some p∨f' s=some p)(hk:∀ F O σ H s' t v H' (s:Sg),Rel F O M s σ H->Post k F O M σ H s' t v H'->Post k2 F O M σ H s' t v H')(hk':∀ F O σ H s' t v H' (s:Sg),Rel F O M s σ H->Post k' F O M σ H s' t v H'->Post k2 F O M σ H s' t v H') :
  ∀ σ H Q,cE k2 M f2 σ H Q->cE k M f σ H Q∨cE k' M f' σ H Q:=by
 intro σ H Q h_;refine cE_ h_ fun F O s t s' R hf q=>?_
 rcases hs s _ hf with h | h
 ·exact .inl ⟨F,O,s,t,s',R,h,fun v H' S p=>q v H' S (hk F O σ H s' t v H' s R p)⟩
 ·exact .inr ⟨F,O,s,t,s',R,h,fun v H' S p=>q v H' S (hk' F O σ H s' t v H' s R p)⟩
def orG(g g':T->T->Option T):T->T->Option T:=fun x y=>match g x y with
 | some t=>some t
 | none=>g' x y
theorem orG_of{g g':T->T->Option T}{x y:T}{t:T}(h:orG g g' x y=some t):g x y=some t∨g' x y=some t:=by
 unfold orG at h
 cases e:g x y with
 | none=>rw [e] at h; exact .inr h
 | some u=>rw [e] at h; exact .inl h
theorem d2_or{g g':T->T->Option T}{fa fb:DE}:∀ s p,d2 (orG g g') fa fb s=some p->d2 g fa fb s=some p∨d2 g' fa fb s=some p:=fun s p h=>by
 obtain ⟨t,s'⟩:=p
 obtain ⟨x,s1,y,h1,h2,h3⟩:=d2_some h
 rcases orG_of h3 with e | e
 ·left; unfold d2; rw [h1,Option.bind_some,h2,Option.bind_some,e]; rfl
 ·right; unfold d2; rw [h1,Option.bind_some,h2,Option.bind_some,e]; rfl
theorem d2v_or{g g':T->T->Option T}{i:Nat}{fb:DE}:∀ s p,d2v (orG g g') i fb s=some p->d2v g i fb s=some p∨d2v g' i fb s=some p:=fun s p h=>by
 obtain ⟨t,s'⟩:=p
 obtain ⟨x0,x,y,h0,h1,h2,h3⟩:=d2v_some h
 have j0:(s[i]?).join=some x0:=by rw [h0]; rfl
 have j2:(s'[i]?).join=some x:=by rw [h2]; rfl
 rcases orG_of h3 with e | e
 ·left; unfold d2v; rw [j0,Option.bind_some,h1,Option.bind_some,j2,Option.bind_some,e]; rfl
 ·right; unfold d2v; rw [j0,Option.bind_some,h1,Option.bind_some,j2,Option.bind_some,e]; rfl
def gItem:=orG gIx gDIx
def gInA:=orG gIn gDIn
def gNotInA:=orG gNotIn gDNotIn
def gPlus:=orG gAdd gCat
section
variable {X:Cx}{M:List Nat}{a b c e:Expr}{fa fb fe:DE}{pos p:Pos}
theorem idE:∀ (F:Fr) (O:Addr->Prop) (σ:L2.St) (H:Hp) (s':Sg) (t:T) (v:V) (H':Hp) (s:Sg),Rel F O M s σ H->Post .e F O M σ H s' t v H'->Post .e F O M σ H s' t v H':=fun _ _ _ _ _ _ _ _ _ _ p=>p
theorem neE:∀ (F:Fr) (O:Addr->Prop) (σ:L2.St) (H:Hp) (s':Sg) (t:T) (v:V) (H':Hp) (s:Sg),Rel F O M s σ H->Post .n F O M σ H s' t v H'->Post .e F O M σ H s' t v H':=fun _ _ _ _ _ _ _ _ _ R p=>p.ne R
theorem e_item(hK:X.K=TheK.K)(hu:X.A.units+1 < cLine)(ha:PE X a (cE .e M fa))(hb:PE X b (cE .b M fb))(hs:PlainIx b):PE X (.Subscript a b pos) (cE .e M (d2 gItem fa fb)):=weak (peor (e_ix hK ha hb hs) (e_dix hu ha hb hs)) (either d2_or idE idE)
theorem e_itemV{i:Nat}(hK:X.K=TheK.K)(hi:M.contains i=true)(hu:X.A.units+1 < cLine)(ha:PE X a (tVar i))(hb:PE X b (cE .b M fb))(hs:PlainIx b):PE X (.Subscript a b pos) (cE .e M (d2v gItem i fb)):=weak (peor (e_ixV hK hi ha hb hs) (e_dixV hi hu ha hb hs)) (either d2v_or idE idE)
theorem e_inA(hu:X.A.units+1 < cLine)(ha:PE X a (cE .e M fa))(hb:PE X b (cE .b M fb))(hm:behindInMarks .In b=false):PE X (.Compare a [.In] [b] pos) (cE .e M (d2 gInA fa fb)):=weak (peor (e_in ha hb hm) (e_din hu ha hb hm)) (either d2_or idE idE)
theorem eitherT{f f' f2:DE}(hs:∀ s p,f2 s=some p->f s=some p∨f' s=some p):∀ σ H Q,cT M (dB f2) σ H Q->cT M (dB f) σ H Q∨cT M (dB f') σ H Q:=by
 intro σ H Q h_;refine cT_ h_ fun F O s b s' R hf q=>?_
 rcases hs s _ (dB_some hf) with h | h
 ·exact .inl ⟨F,O,s,b,s',R,by unfold dB; rw [h]; rfl,q⟩
 ·exact .inr ⟨F,O,s,b,s',R,by unfold dB; rw [h]; rfl,q⟩
theorem t_inA(hu:X.A.units+1 < cLine)(ha:PE X a (cE .e M fa))(hb:PE X b (cE .b M fb))(hm:behindInMarks .In b=false):PT X (.Compare a [.In] [b] pos) (cT M (dB (d2 gInA fa fb))):=weakT (ptor (t_in ha hb hm) (t_din hu ha hb hm)) (eitherT d2_or)
theorem t_notinA(hu:X.A.units+1 < cLine)(ha:PE X a (cE .e M fa))(hb:PE X b (cE .b M fb))(hm:behindInMarks .NotIn b=false):PT X (.Compare a [.NotIn] [b] pos) (cT M (dB (d2 gNotInA fa fb))):=weakT (ptor (t_notin ha hb hm) (t_dnotin hu ha hb hm)) (eitherT d2_or)
theorem e_plus(ha:PE X a (cE .e M fa))(hb:PE X b (cE .b M fb)):PE X (.BinOp a .Add b pos) (cE .e M (d2 gPlus fa fb)):=weak (peor (e_add ha hb) (e_cat ha hb)) (either d2_or idE neE)
def gSlA(x:T)(lo hi:Option Int):Option T:=match x with
 | .str _=>gSlS x lo hi
 | _=>gSl x lo hi
theorem dSl_or{fl fh:DO}:∀ s p,dSl gSlA fa fl fh s=some p->dSl gSlS fa fl fh s=some p∨dSl gSl fa fl fh s=some p:=fun s p h=>by
 obtain ⟨p1,h1,h2⟩:=Qb h
 obtain ⟨q1,h3,h4⟩:=Qb h2
 obtain ⟨r1,h5,h6⟩:=Qb h4
 obtain ⟨t,h7,h8⟩:=Qm h6
 have e:gSlS p1.1 q1.1 r1.1=some t∨gSl p1.1 q1.1 r1.1=some t:=by
  unfold gSlA at h7
  split at h7
  ·exact .inl h7
  ·exact .inr h7
 rcases e with e | e
 ·left; unfold dSl; rw [h1,Option.bind_some,h3,Option.bind_some,h5,Option.bind_some,e]; exact congrArg some h8
 ·right; unfold dSl; rw [h1,Option.bind_some,h3,Option.bind_some,h5,Option.bind_some,e]; exact congrArg some h8
theorem e_slA{lo hi:Option Expr}{fl fh:DO}{p2:Pos}(hK:X.K=TheK.K)(he:PE X e (cE .e M fe))(hl:PO X lo (cO M fl))(hu:PO X hi (cO M fh)):PE X (.Subscript e (.Slice lo hi none p2) pos) (cE .e M (dSl gSlA fe fl fh)):=weak (peor (e_slS he hl hu) (e_sl hK he hl hu)) (either dSl_or idE neE)
def kT:Key->T
 | .inl i=>.int i
 | .inr x=>.str x
theorem kT_rep{C:Addr->Prop}{H:Hp}(k:Key):Rep C H (kV k) (kT k):=by
 cases k with
 | inl i=>exact .int i
 | inr x=>exact .str x
theorem keys_reps{C:Addr->Prop}{H:Hp}:∀ {vs:List (Key × V)} {ts:List (Key × T)},vs.map (·.1)=ts.map (·.1)->Reps C H (vs.map fun kv=>kV kv.1) (ts.map fun kv=>kT kv.1)
 | [],[],_=>.nil
 | p::vs,[],h=>by simp at h
 | [],q::ts,h=>by simp at h
 | p::vs,q::ts,h=>by
  rw [List.map_cons,List.map_cons] at h
  injection h with h1 h2
  rw [List.map_cons,List.map_cons,h1]
  exact .cons (kT_rep _) (keys_reps h2)
def signT(c:Nat):T:=.str ⟨#[c]⟩
def dItA(f:DE):DI:=fun s=>(f s).bind fun p=>match p.1 with
 | .lst xs=>some (xs,p.2)
 | .scr ns=>some (ns.map .int,p.2)
 | .tup xs=>some (xs,p.2)
 | .fd kvs=>some (kvs.map fun kv=>kT kv.1,p.2)
 | .str x=>some (x.cps.toList.map signT,p.2)
 | _=>none
def dItF(f:DE):DI:=fun s=>(f s).bind fun p=>match p.1 with
 | .fd kvs=>some (kvs.map fun kv=>kT kv.1,p.2)
 | _=>none
def dItS(f:DE):DI:=fun s=>(f s).bind fun p=>match p.1 with
 | .str x=>some (x.cps.toList.map signT,p.2)
 | _=>none
theorem it_dict{F:Fr}{O:Addr->Prop}{H1:Hp}{a:Addr}{o:Obj}{kvs:List (Key × V)}{f:Key × V->V}{ts:List T}(fr:Free F O a)(ha:H1 a=some (.frz o (.dK kvs)))(r:Reps (Free F O) H1 (kvs.map f) ts):ItOk F O ts (Itd f a o) H1:=by
 intro H2 k i
 have h2:=k a _ fr ha
 have hl0:kvs.length=ts.length:=by have:=r.1; simpa using this
 refine ⟨fun t ht=>?_,fun hl=>⟨kvs,h2,by rw [hl0]; exact hl⟩⟩
 obtain ⟨v,hv,rv⟩:=r.get ht
 rw [List.getElem?_map] at hv
 obtain ⟨y,hy,hyv⟩:=Qm hv
 refine ⟨⟨kvs,y,h2,hy⟩,fun x H3 ⟨e1,e2⟩=>⟨.inl e1,?_⟩⟩
 have:=e2 kvs h2
 rw [hy] at this
 have hx:f y=x:=Option.some.inj this
 subst hx hyv e1
 exact rv.there.mono (fun b c=>.inl c) fun b o c e=>k b o c.1 e
theorem i_fd{tg:Expr}(h:PE X e (cE .e M fe)):PI X tg e (cI M (dItF fe)):=weakI (pi_dict h) (by
 intro σ H R h_;refine cI_ h_ fun F O s its s' Rl hf q=>?_
 obtain ⟨⟨p1,p2⟩,h1,h2⟩:=Qb hf
 obtain ⟨ks,rfl⟩:∃ ks,p1=.fd ks:=by cases p1<;>first | exact ⟨_,rfl⟩ | cases h2
 injection h2 with h2
 injection h2 with h3 h4
 subst h3 h4
 refine ⟨F,O,s,_,_,Rl,h1,fun v H1 S1 p=>?_⟩
 obtain ⟨a,o,kvs,rfl,ha,ra,fr⟩:=BRep.fd (.inl p.2)
 exact ⟨a,o,kvs,rfl,ha,q _ H1 S1 p.1 (it_dict fr ha (keys_reps ra.1))⟩)
theorem i_sign{tg:Expr}(h:PE X e (cE .e M fe)):PI X tg e (cI M (dItS fe)):=weakI (pi_sign h) (by
 intro σ H R h_;refine cI_ h_ fun F O s its s' Rl hf q=>?_
 obtain ⟨⟨p1,p2⟩,h1,h2⟩:=Qb hf
 obtain ⟨x,rfl⟩:∃ x,p1=.str x:=by cases p1<;>first | exact ⟨_,rfl⟩ | cases h2
 injection h2 with h2
 injection h2 with h3 h4
 subst h3 h4
 refine ⟨F,O,s,_,_,Rl,h1,fun v H1 S1 p=>?_⟩
 refine ⟨x,BRep.str (.inl p.2),q _ H1 S1 p.1 ?_⟩
 intro H2 k i
 refine ⟨fun t ht=>?_,fun hl=>by simpa [Its] using hl⟩
 rw [List.getElem?_map] at ht
 obtain ⟨c,hc,rfl⟩:=Qm ht
 have hc':x.cps[i]?=some c:=by simpa using hc
 refine ⟨(Array.getElem?_eq_some_iff.mp hc').1,fun y H3 ⟨e1,c',e2,e3⟩=>⟨.inl e1,?_⟩⟩
 rw [hc'] at e2
 cases e2
 subst e3
 exact .str _)
theorem i_any{tg:Expr}(hK:X.K=TheK.K)(h:PE X e (cE .e M fe)):PI X tg e (cI M (dItA fe)):=weakI (pior (pior (i_list hK h) (i_tup h)) (pior (i_fd h) (i_sign h))) (by
 intro σ H R h_;refine cI_ h_ fun F O s its s' Rl hf q=>?_
 obtain ⟨⟨p1,p2⟩,h1,h2⟩:=Qb hf
 cases p1 with
 | lst xs=>exact .inl (.inl ⟨F,O,s,its,s',Rl,by unfold dIt; rw [h1]; exact h2,q⟩)
 | scr xs=>exact .inl (.inl ⟨F,O,s,its,s',Rl,by unfold dIt; rw [h1]; exact h2,q⟩)
 | tup xs=>exact .inl (.inr ⟨F,O,s,its,s',Rl,by unfold dItT; rw [h1]; exact h2,q⟩)
 | fd xs=>exact .inr (.inl ⟨F,O,s,its,s',Rl,by unfold dItF; rw [h1]; exact h2,q⟩)
 | str x=>exact .inr (.inr ⟨F,O,s,its,s',Rl,by unfold dItS; rw [h1]; exact h2,q⟩)
 | _=>cases h2)
variable {es:List Expr}{fs:DA}{x:Str}{k:Nat}{f:Addr}{fd:FuncData}{ps:List Str}{np:Nat}
theorem e_call{fn:List T->Option T}(F:FnOk X.prog X.w X.K X.mg X.base CX0 k f fd ps (spP .e np fn))(hr:Room k X.A)(hg:Gl X x)(hm:X.mg x=some (.ref f))(hk:PySem.W.keepIn X.K (.ref f)=true)(hb:Binds X.K fd ps [])
  (ha:PA X (e::es) (cA M fs)) (ar:Ar fs np) (hdb:(x == ("__debug__":Str))=false:=by decide) (he:starEach (e::es) X.env=(false,eval e X.env)::starEach es X.env:=by rfl) (hpl:(backTo pos (starEach es X.env)).any (·.1)=false:=by rfl) :
  PE X (.Call (.Name x p) (e::es) [] pos) (cE .e M (dCall fn fs)):=weak (pe_call F hr hg hm hk hb .nil pass0 ha hdb he hpl) (call_e ar)
theorem e_callN{fn:List T->Option T}(F:FnOk X.prog X.w X.K X.mg X.base CX0 k f fd ps (spP .n np fn))(hr:Room k X.A)(hg:Gl X x)(hm:X.mg x=some (.ref f))(hk:PySem.W.keepIn X.K (.ref f)=true)(hb:Binds X.K fd ps [])
  (ha:PA X (e::es) (cA M fs)) (ar:Ar fs np) (hdb:(x == ("__debug__":Str))=false:=by decide) (he:starEach (e::es) X.env=(false,eval e X.env)::starEach es X.env:=by rfl) (hpl:(backTo pos (starEach es X.env)).any (·.1)=false:=by rfl) :
  PE X (.Call (.Name x p) (e::es) [] pos) (cE .n M (dCall fn fs)):=weak (pe_call F hr hg hm hk hb .nil pass0 ha hdb he hpl) (call_n ar)
theorem e_callI{fn:List T->Option (T × T)}{i:Nat}(hi:M.contains i=true)(F:FnOk X.prog X.w X.K X.mg X.base CX0 k f fd ps (spI .e (np+1) fn))(hr:Room k X.A)(hg:Gl X x)(hm:X.mg x=some (.ref f))(hk:PySem.W.keepIn X.K (.ref f)=true)(hb:Binds X.K fd ps [])
  (h0:PE X e (tVar i)) (ha:PA X es (cA M fs)) (ar:Ar fs np) (hdb:(x == ("__debug__":Str))=false:=by decide) (he:starEach (e::es) X.env=(false,eval e X.env)::starEach es X.env:=by rfl) (hpl:(backTo pos (starEach es X.env)).any (·.1)=false:=by rfl) :
  PE X (.Call (.Name x p) (e::es) [] pos) (cE .e M (dCallI fn i fs)):=weak (pe_call F hr hg hm hk hb .nil pass0 (pa_cons h0 ha he) hdb he hpl) (callI_e ar hi)
theorem e_callT{fn:List T->Option (T × T)}{rk:Kd}(hrk:rk=.e∨rk=.n)(F:FnOk X.prog X.w X.K X.mg X.base CX0 k f fd ps (spI rk (np+1) fn))(hr:Room k X.A)(hg:Gl X x)(hm:X.mg x=some (.ref f))(hk:PySem.W.keepIn X.K (.ref f)=true)(hb:Binds X.K fd ps [])
  (h0:PE X e (cE .n M fe)) (ha:PA X es (cA M fs)) (ar:Ar fs np) (hdb:(x == ("__debug__":Str))=false:=by decide) (he:starEach (e::es) X.env=(false,eval e X.env)::starEach es X.env:=by rfl) (hpl:(backTo pos (starEach es X.env)).any (·.1)=false:=by rfl) :
  PE X (.Call (.Name x p) (e::es) [] pos) (cE rk M (dCallN fn fe fs)):=weak (pe_call F hr hg hm hk hb .nil pass0 (pa_cons h0 ha he) hdb he hpl) (callN_x hrk ar)
theorem e_len(hK:X.K=TheK.K)(hg:Gl X "len")(hm:X.mg "len"=none)(h:PE X e (cE .b M fe))(he:starEach [e] X.env=(false,eval e X.env)::starEach [] X.env:=by rfl)(hpl:(backTo pos (starEach [] X.env)).any (·.1)=false:=by rfl):PE X (.Call (.Name "len" p) [e] [] pos) (cE .e M (d1 gLen fe)):=
 weak (pe_callB (((show CallR X _ _ from hK▸call_len_seq).or call_len_str).or call_lenR) hg hm PySem.boot_len (pa_cons h pa_nil he) (by decide) (by decide) he hpl) (one_e s_len)
theorem e_isi{cn:String}{ce:Expr}(hc:okTy cn=true)(hg:Gl X "isinstance")(hm:X.mg "isinstance"=none)(h:PE X e (cE .b M fe))(h2:PE X ce (tC (.ty cn)))(he:starEach [e,ce] X.env=(false,eval e X.env)::starEach [ce] X.env:=by rfl)(he2:starEach [ce] X.env=(false,eval ce X.env)::starEach [] X.env:=by rfl)(hpl:(backTo pos (starEach [ce] X.env)).any (·.1)=false:=by rfl) :
  PE X (.Call (.Name "isinstance" p) [e,ce] [] pos) (cE .e M (dIsi cn fe)):=weak (pe_callB call_isi hg hm bt_isinstance (pa_cons h (pa_cons h2 pa_nil he2) he) (by decide) (by decide) he hpl) (isi_e hc)
theorem e_append{i:Nat}{o:Expr}{apos:Pos}(hi:M.contains i=true)(h:PE X (.Call (.Attribute o "append" apos) (e::es) [] pos) (tBM X.K "list" rAppend (tVar i) (cA M fs))):PE X (.Call (.Attribute o "append" apos) (e::es) [] pos) (cE .e M (dMut mApp i fs)):=weak h (mut_e hi m_app)
theorem yes_ok{Mi:List Nat}:∀ σ H Q,cT Mi dYes σ H Q->tAll σ H Q:=by
 intro σ H Q h_;refine cT_ h_ fun F O s b s' R hf q=>?_
 injection hf with hf
 injection hf with h1 h2
 subst h1 h2
 exact q H .refl R
theorem e_lc{Mi:List Nat}{caps:List (Option Nat)}{fi:DI}{g:TG}{dg:DG}{ft:DT}{tt:TT}(c:capB caps M Mi=true)(hg:TgOk g dg Mi caps)(htt:∀ σ H Q,cT Mi ft σ H Q->tt σ H Q)(h:PE X e (tLC caps (cI M fi) g tt (cE .e Mi fe))):PE X e (cE .n M (dLC M caps fi dg ft fe)):=weak h (lc_ok (.of c) hg htt)
theorem asg_w{st:Stmt}{t t':TE}{g:TG}(h:PS X st (tAsg t g))(hw:∀ σ H Q,t' σ H Q->t σ H Q):PS X st (tAsg t' g):=weakS h fun D σ H q=>hw σ H _ q
theorem s_lc{st:Stmt}{Mi:List Nat}{caps:List (Option Nat)}{fi:DI}{g:TG}{g2:TG}{dg:DG}{ft:DT}{tt:TT}(c:capB caps M Mi=true)(hg:TgOk g dg Mi caps)(htt:∀ σ H Q,cT Mi ft σ H Q->tt σ H Q)(h:PS X st (tAsg (tLC caps (cI M fi) g tt (cE .e Mi fe)) g2)):PS X st (tAsg (cE .n M (dLC M caps fi dg ft fe)) g2):=asg_w h (lc_ok (.of c) hg htt)
theorem s_nE{st:Stmt}{g2:TG}{ff:DE}(h:PS X st (tAsg (cE .n M ff) g2)):PS X st (tAsg (cE .e M ff) g2):=asg_w h fun σ H Q h_=>cE_ h_ fun F O s t s' R hf q=>⟨F,O,s,t,s',R,hf,fun v H' S p=>q v H' S (p.ne R)⟩
end
end L3
namespace L3
open PySem PySem.Spec PyProof.Rows L2
variable [TheK]
section
variable {X:Cx}{M:List Nat}{a b c e:Expr}{fa fb fc fe fk:DE}{pos p:Pos}
def gListA:T->Option T
 | .lst xs=>some (.lst xs) | .tup xs=>some (.lst xs) | .scr ns=>some (.lst (ns.map .int)) | .dct kvs=>some (.lst (kvs.map fun kv=>kT kv.1)) | .fd kvs=>some (.lst (kvs.map fun kv=>kT kv.1))
 | _=>none
theorem s_listA:S1N (fun xs H Q=>(∃ p ys,xs=[.ref p]/\(SqL TheK.K H p ys∨SqT TheK.K H p ys)/\∀ l,H l=none->Q (.ref l) (upd H l (.lst ys)))∨∃ a kvs,xs=[V.ref a]/\Rd H a (.dK kvs)/\∀ l,H l=none->Q (.ref l) (upd H l (.lst (kvs.map fun kv=>kV kv.1)))) gListA:=by
 intro C H x tx t Q bx hg q
 cases tx with
 | dct ts=>
  injection hg with hg; subst hg
  obtain ⟨a,kvs,rfl,ha,ra⟩:=bx.dct
  exact .inr ⟨a,kvs,rfl,.inl ha,fun p hp=>q p _ hp fun C' hC=>.lst upd_same (keys_reps ra.1)⟩
 | fd ts=>
  injection hg with hg; subst hg
  obtain ⟨a,ob,kvs,rfl,ha,ra,_⟩:=bx.fd
  exact .inr ⟨a,kvs,rfl,.inr ⟨ob,ha⟩,fun p hp=>q p _ hp fun C' hC=>.lst upd_same (keys_reps ra.1)⟩
 | lst ts=>exact .inl (s_list C H x (.lst ts) t Q bx hg q)
 | tup ts=>exact .inl (s_list C H x (.tup ts) t Q bx hg q)
 | scr ts=>exact .inl (s_list C H x (.scr ts) t Q bx hg q)
 | _=>cases hg
theorem e_listA(hK:X.K=TheK.K)(hc:X.calm=true)(hg:Gl X "list")(hm:X.mg "list"=none)(h:PE X e (cE .b M fe))(he:starEach [e] X.env=(false,eval e X.env)::starEach [] X.env:=by rfl)(hpl:(backTo pos (starEach [] X.env)).any (·.1)=false:=by rfl):PE X (.Call (.Name "list" p) [e] [] pos) (cE .n M (d1 gListA fe)):=
 weak (pe_callTy (CallR.or (show CallR X _ _ from hK▸call_list_of) (call_list_dict hc)) hg hm bt_list (pa_cons h pa_nil he) (by decide) (by decide) he hpl) (one_n s_listA)
def gNeg:T->Option T
 | .int i=>some (.int (-i))
 | _=>none
def dCh(g g':T->T->Option T)(fa fb fc:DE):DE:=fun s=>(fa s).bind fun x=>(fb x.2).bind fun y=>(g x.1 y.1).bind fun r=>match r with
 | .bl true=>(fc y.2).bind fun z=>(g' y.1 z.1).map fun t=>(t,z.2)
 | .bl false=>some (.bl false,y.2)
 | _=>none
theorem chain_e{r r':R2}{g g':T->T->Option T}(h:S2E r g)(h':S2E r' g'):∀ σ H Q,cE .e M (dCh g g' fa fb fc) σ H Q->tChain r r' (cE .e M fa) (cE .e M fb) (cE .e M fc) σ H Q:=by
 intro σ H Q h_;refine cE_ h_ fun F O s t s' R hf q=>?_
 obtain ⟨x,h1,hf⟩:=Qb hf
 obtain ⟨y,h2,hf⟩:=Qb hf
 obtain ⟨u,h3,hf⟩:=Qb hf
 refine ⟨F,O,s,x.1,x.2,R,h1,fun v H1 S1 p1=>⟨F,O,x.2,y.1,y.2,p1.1,h2,fun w H2 S2 p2=>?_⟩⟩
 refine h (Free F O) H2 v w x.1 y.1 u _ (.inl (p1.1.stay S2 p1.2)) (.inl p2.2) h3 fun z rz=>?_
 cases u with
 | bl k=>
  obtain rfl:z=.bl k:=BRep.bl (.inl rz)
  refine ⟨k,rfl,?_⟩
  cases k with
  | true=>
   obtain ⟨w2,h4,h5⟩:=Qb (show ((fc y.2).bind fun z=>(g' y.1 z.1).map fun t=>(t,z.2))=some (t,s') from hf)
   obtain ⟨t',h6,h7⟩:=Qm h5
   injection h7 with h7 h8
   subst h7 h8
   refine ⟨F,O,y.2,w2.1,w2.2,p2.1,h4,fun a H3 S3 p3=>?_⟩
   exact h' (Free F O) H3 w a y.1 w2.1 t' Q (.inl (p2.1.stay S3 p2.2)) (.inl p3.2) h6 fun a' ra=>q a' H3 ((S1.trans S2).trans S3) ⟨p3.1,ra⟩
  | false=>
   injection hf with hf
   injection hf with h7 h8
   subst h7 h8
   exact q _ H2 (S1.trans S2) ⟨p2.1,.bl false⟩
 | _=>cases hf
end
end L3
namespace L3
open PySem PySem.Spec PyProof.Rows L2
variable [TheK]
def gRev:T->Option T
 | .lst xs=>some (.lst xs.reverse)
 | _=>none
def dRev(f:DE)(k:DO):DE:=fun s=>(f s).bind fun p=>(k p.2).bind fun q=>if q.1=some (-1) then (gRev p.1).map fun t=>(t,q.2) else none
section
variable {X:Cx}{M:List Nat}{e st:Expr}{fe:DE}{fk:DO}{pos p2:Pos}
def dLR(f:DA):DE:=fun s=>(f s).bind fun p=>match p.1 with
 | [.int j]=>if rgOk j=true then some (.lst (rangeT 0 j.toNat),p.2) else none
 | _=>none
theorem rgOk_small{j:Int}(h:rgOk j=true):-16777216<=j/\j<=16777216:=by
 have:=Nat.le_of_ble_eq_true h
 lia
theorem e_listRange{a:Expr}{fa:DA}{p p' pos':Pos}(hc:X.calm=true)(hg:Gl X "list")(hm:X.mg "list"=none)(hg':Gl X "range")(hm':X.mg "range"=none)(ha:PA X [a] (cA M fa))(hs:starEach [a] X.env=[(false,eval a X.env)]:=by rfl)
  (hs':starEach [.Call (.Name "range" p') [a] [] pos'] X.env=[(false,eval (.Call (.Name "range" p') [a] [] pos') X.env)]:=by rfl) :
  PE X (.Call (.Name "list" p) [.Call (.Name "range" p') [a] [] pos'] [] pos) (cE .n M (dLR fa)):=weak (pe_listRange hc hg hm hg' hm' ha hs hs') (by
 intro σ H Q h_;refine cE_ h_ fun F O s t s' R hf q=>?_
 obtain ⟨⟨p1,p2⟩,h1,h2⟩:=Qb hf
 refine ⟨F,O,s,p1,p2,R,h1,fun vs H1 S1 R1 rs=>?_⟩
 dsimp only at h2
 split at h2
 case h_2=>cases h2
 ·rename_i j
  have h2:(if rgOk j=true then some (T.lst (rangeT 0 j.toNat),p2) else none)=some (t,s'):=h2
  split at h2
  ·rename_i hj
   have hj:=rgOk_small hj
   injection h2 with h2
   injection h2 with h3 h4
   subst h3 h4
   obtain ⟨v,rfl,rv⟩:=rs.one
   obtain rfl:v=.int j:=BRep.int (.inl rv)
   refine ⟨j,rfl,by lia,hj.2,fun b hb=>q _ _ (S1.trans (.new hb _)) (.mkN R R1 S1 hb fun C' hC=>.lst upd_same ?_)⟩
   have e:((List.range j.toNat).map fun (k:Nat)=>V.int k)=((List.range j.toNat).map fun (k:Nat)=>(k:Int)).map V.int:=by rw [List.map_map]; rfl
   have e':rangeT 0 j.toNat=((List.range j.toNat).map fun (k:Nat)=>(k:Int)).map T.int:=by
    unfold rangeT
    rw [List.map_map]
    refine List.map_congr_left fun k _=>?_
    rw [Int.zero_add]; rfl
   rw [e,e']
   exact reps_ints _
  ·cases h2)
end
end L3
namespace L3
open PySem PySem.Spec PyProof.Rows L2
variable [TheK]
def dItV(i:Nat):DI:=fun s=>match (s[i]?).join with
 | some (.lst xs)=>some (xs,s)
 | _=>none
end L3
namespace L3
open PySem PySem.Spec PyProof.Rows L2
variable [TheK]
def gIndex(x y:T):Option T:=match x with
 | .lst ts=>(toVs ts).bind fun vs=>(toV y).bind fun v=>(vs.findIdx? fun u=>eqV u v).map fun (j:Nat)=>.int j
 | _=>none
def d2LV(g:T->T->Option T)(i:Nat)(fb:DE):DE:=fun s=>(s[i]?).join.bind fun t0=>if isLst t0 then (fb s).bind fun q=>(q.2[i]?).join.bind fun x=>(g x q.1).map fun t=>(t,q.2) else none
def blsT:List T->Option (List Bool)
 | []=>some []
 | .bl b::ts=>(blsT ts).map (b::·)
 | _=>none
theorem blsT_ok{C:Addr->Prop}{H:Hp}:∀ {vs:List V} {ts:List T} {bs:List Bool},Reps C H vs ts->blsT ts=some bs->vs=bs.map V.bl
 | [],[],bs,_,h=>by injection h with h; subst h; rfl
 | [],_::_,_,r,_=>by have:=r.1; simp at this
 | _::_,[],_,r,_=>by have:=r.1; simp at this
 | v::vs,t::ts,bs,r,h=>by
  obtain ⟨b,rfl⟩:∃ b,t=.bl b:=by cases t<;>first | exact ⟨_,rfl⟩ | cases h
  obtain ⟨l,h1,rfl⟩:=Qm (show (blsT ts).map (b::·)=some bs from h)
  rw [blsT_ok r.tail h1,BRep.bl (.inl r.head)]; rfl
def gAll:T->Option T
 | .lst ts=>(blsT ts).map fun bs=>.bl (bs.all id)
 | _=>none
def gAny:T->Option T
 | .lst ts=>(blsT ts).map fun bs=>.bl (bs.any id)
 | _=>none
theorem s_all:S1E (fun xs H Q=>∃ (a:Addr) (bs:List Bool),xs=[V.ref a]/\SqL TheK.K H a (bs.map V.bl)/\Q (.bl (bs.all id)) H) gAll:=by
 intro C H x tx t Q bx hg q
 obtain ⟨ts,rfl⟩:∃ ts,tx=.lst ts:=by cases tx<;>first | exact ⟨_,rfl⟩ | cases hg
 obtain ⟨bs,h1,rfl⟩:=Qm (show (blsT ts).map (fun bs=>T.bl (bs.all id))=some t from hg)
 obtain ⟨a,us,rfl,ha,ra⟩:=bx.lst
 rw [blsT_ok ra h1] at ha
 exact ⟨a,bs,rfl,SqL.of ha,q _ (.bl _)⟩
theorem bt_all:bootBuiltins "all"=some (.builtin "all"):=by first | exact PyProof.Rows.boot_all | decide +kernel
section
variable {X:Cx}{M:List Nat}{e o:Expr}{fa fe:DE}{p pos apos:Pos}
theorem e_all(hK:X.K=TheK.K)(hc:X.calm=true)(hg:Gl X "all")(hm:X.mg "all"=none)(h:PE X e (cE .b M fe))(he:starEach [e] X.env=(false,eval e X.env)::starEach [] X.env:=by rfl)(hpl:(backTo pos (starEach [] X.env)).any (·.1)=false:=by rfl):PE X (.Call (.Name "all" p) [e] [] pos) (cE .e M (d1 gAll fe)):=
 weak (pe_callB (show CallR X _ _ from hK▸call_all hc) hg hm bt_all (pa_cons h pa_nil he) (by decide) (by decide) he hpl) (one_e s_all)
end
end L3
namespace L3
open PySem PySem.Spec PyProof.Rows L2
variable [TheK]
def gFz:T->Option T
 | .dct kvs=>some (.fd kvs)
 | _=>none
def tKnS(t:TS):TS:=fun D σ H=>∃ a kvs,H a=some (.dK kvs)/\∀ o,t D σ (upd H a (.frz o (.dK kvs)))
theorem ps_known{X:Cx}{st:Stmt}{t:TS}(h:PS X st t):PS X st (tKnS t):=fun pins s σ H D I ⟨a,kvs,e,q⟩=>by
 obtain ⟨o,I2⟩:=I.known e
 exact h pins s σ _ D I2 (q o)
def dFzS(i:Nat)(d:DS):DS:=fun s=>match (s[i]?).join with
 | some (.dct kvs)=>d (s.set i (some (.fd kvs)))
 | _=>none
theorem s_kn{X:Cx}{st:Stmt}{d:DS}{rk:Kd}{io M M' Mx Mb:List Nat}{i:Nat}(h:PS X st (cS rk io M' Mx Mb d))(hi:M.contains i=true:=by rfl)(hM:M'.all (fun j=>M.contains j&&j != i)=true:=by rfl)(hM2:M.all (fun j=>M'.contains j||j == i)=true:=by rfl)(hio:io.all (M'.contains ·)=true:=by rfl):PS X st (cS rk io M Mx Mb (dFzS i d)):=weakS (ps_known h) (by
 intro D σ H h_;refine cS_ h_ fun F O s r R I hd q=>?_
 have hi':i∈M:=by simpa using hi
 have m1:∀ j,j∈M'->j∈M/\j≠i:=fun j hj=>by have:=List.all_eq_true.mp hM j hj; simpa using this
 have m2:∀ j,j∈M->j∈M'∨j=i:=fun j hj=>by have:=List.all_eq_true.mp hM2 j hj; simpa using this
 have mi:i∉M':=fun z=>(m1 i z).2 rfl
 have mio:∀ j,j∈io->j∈M':=fun j hj=>by have:=List.all_eq_true.mp hio j hj; simpa using this
 unfold dFzS at hd
 split at hd
 ·rename_i ks e
  have e:=join_some e
  obtain ⟨a,ha,L⟩:=R.own i _ e hi'
  obtain ⟨kvs,hr,rk'⟩:∃ kvs,H a=some (.dK kvs)/\RepK (Free F O) H kvs ks:=by
   cases L with | dct r h=>exact ⟨_,r,h⟩
  have hsl:i < s.length:=(List.getElem?_eq_some_iff.mp e).1
  -- what stays owned
  have oth:∀ (j:Nat) b,j∈M'->σ[j]?=some (some (.ref b))->b≠a:=fun j b hj e1 z=>by
   subst z
   exact (m1 j hj).2 (R.dis j i b (m1 j hj).1 hi' e1 ha)
  have hD:¬ F.D a:=fun z=>by
   obtain ⟨j,hj,e1⟩:=I.D a z
   have e2:=(I.at_ j hj).2
   rw [<-e1] at e2
   exact oth j a (mio j hj) e2 rfl
  have hF0:F.H0 a=none:=(R.fresh a (R.ow i a hi' ha)).resolve_left hD
  refine ⟨a,kvs,hr,fun o=>?_⟩
  have kD:∀ b u,b≠a->H b=some u->upd H a (.frz o (.dK kvs)) b=some u:=fun b u n e=>by rw [upd_ne n]; exact e
  have wk:∀ b,Free F O b->Free F (fun b=>O b/\b≠a) b:=fun b z=>z.weak fun c y=>y.1
  have fra:Free F (fun b=>O b/\b≠a) a:=⟨fun z=>z.2 rfl,.inr hF0⟩
  have na:∀ b,Free F O b->b≠a:=fun b z y=>z.1 (y▸R.ow i a hi' ha)
  have R':Rel F (fun b=>O b/\b≠a) M' (s.set i (some (.fd ks))) σ (upd H a (.frz o (.dK kvs))):=by
   refine ⟨by rw [List.length_set]; exact R.len,fun j t e' n=>?_,fun j t e' n=>?_,fun j b hj e1=>⟨R.ow j b (m1 j hj).1 e1,oth j b hj e1⟩,fun j k b hj hk e1 e2=>R.dis j k b (m1 j hj).1 (m1 k hk).1 e1 e2,fun b u n e1=>?_,fun b e1=>?_,fun b z=>R.fresh b z.1,fun b z=>⟨R.inD b z,fun y=>hD (y▸z)⟩,fun b z e1=>?_⟩
   ·by_cases hji:j=i
    ·subst hji
     rw [List.getElem?_set_self hsl] at e'
     cases e'
     exact ⟨_,ha,.fd fra upd_same rk'.1 fun k v t e1 e2=>(rk'.2 k v t e1 e2).mono wk fun b u z e=>kD b u (na b z) e⟩
    ·rw [List.getElem?_set_ne (fun z=>hji z.symm)] at e'
     obtain ⟨v,a1,a2⟩:=R.val j t e' (fun z=>(m2 j z).elim n hji)
     exact ⟨v,a1,a2.mono wk fun b u z e=>kD b u (na b z) e⟩
   ·have hji:i≠j:=fun z=>mi (z▸n)
    rw [List.getElem?_set_ne hji] at e'
    obtain ⟨c,a1,a2⟩:=R.own j t e' (m1 j n).1
    exact ⟨c,a1,a2.mono wk (fun b u z e=>kD b u (na b z) e) fun u e=>kD c u (oth j c n a1) e⟩
   ·exact kD b u (fun z=>by rw [z,hF0] at e1; cases e1) (R.keep b u n e1)
   ·refine R.dom b ?_
    unfold upd at e1
    split at e1
    ·cases e1
    ·exact e1
   ·refine R.al b z.1 ?_
    rw [upd_ne z.2] at e1
    exact e1
  refine ⟨F,_,_,r,R',⟨fun j hj=>⟨mio j hj,(I.at_ j hj).2⟩,I.D⟩,hd,q.more ⟨fun b u n e1=>⟨kD b u (fun z=>n (z▸R.ow i a hi' ha)) e1,fun z=>n z.1⟩,fun b e1=>?_⟩⟩
  unfold upd at e1
  split at e1
  ·cases e1
  ·exact e1
 ·cases hd)
def dItW(f:DE):DI:=fun s=>(f s).bind fun p=>match p.1 with
 | .fd kvs=>some (kvs.map fun kv=>kv.2,p.2)
 | _=>none
section
variable {X:Cx}{M:List Nat}{e o a b c:Expr}{fa fb fc fe:DE}{p pos apos:Pos}
theorem vals_reps{C:Addr->Prop}{H:Hp}{vs:List (Key × V)}{ts:List (Key × T)}(h:RepK C H vs ts):Reps C H (vs.map fun kv=>kv.2) (ts.map fun kv=>kv.2):=by
 have hl:vs.length=ts.length:=by have:=congrArg List.length h.1; simpa using this
 refine ⟨by simp [hl],fun i v t e1 e2=>?_⟩
 rw [List.getElem?_map] at e1 e2
 obtain ⟨x,h1,rfl⟩:=Qm e1
 obtain ⟨y,h2,rfl⟩:=Qm e2
 exact h.2 i x y h1 h2
theorem i_vals{tg:Expr}(h:PE X o (cE .e M fe))(hbase:attributeBase o "values" X.env (eval o X.env)=eval o X.env:=by rfl)(hline:(apos.endLine == pos.line)=true:=by rfl):PI X tg (.Call (.Attribute o "values" apos) [] [] pos) (cI M (dItW fe)):=weakI (pi_vals h hbase hline) (by
 intro σ H R h_;refine cI_ h_ fun F O s its s' Rl hf q=>?_
 obtain ⟨⟨p1,p2⟩,h1,h2⟩:=Qb hf
 obtain ⟨ks,rfl⟩:∃ ks,p1=.fd ks:=by cases p1<;>first | exact ⟨_,rfl⟩ | cases h2
 injection h2 with h2
 injection h2 with h3 h4
 subst h3 h4
 refine ⟨F,O,s,_,_,Rl,h1,fun v H1 S1 p=>?_⟩
 obtain ⟨a,o,kvs,rfl,ha,ra,fr⟩:=BRep.fd (.inl p.2)
 exact ⟨a,o,kvs,rfl,ha,q _ H1 S1 p.1 (it_dict fr ha (vals_reps ra))⟩)
def dGetV(i:Nat)(fk fx:DE):DE:=fun s=>match (s[i]?).join with
 | some (.dct _)=>(fk s).bind fun q=>(keyT q.1).bind fun k=>(fx q.2).bind fun r=>match (r.2[i]?).join with
  | some (.dct kvs)=>some ((lookT kvs k).getD r.1,r.2)
  | _=>none
 | _=>none
theorem e_getV{i:Nat}{f:Expr}{fx:DE}(hi:M.contains i=true)(hu:X.A.units+1 < cLine)(h0:PE X o (tVar i))(hk:PE X e (cE .e M fe))(hx:PE X f (cE .e M fx))(m:M2 X o "get" apos e f pos):PE X (.Call (.Attribute o "get" apos) [e,f] [] pos) (cE .e M (dGetV i fe fx)):=weak (pe_dget2 hu h0 hk hx m) (by
 intro σ H Q h_;refine cE_ h_ fun F O s t s' R hf q=>?_
 have hi':i∈M:=by simpa using hi
 unfold dGetV at hf
 split at hf
 ·rename_i ks0 e0
  have e0:=join_some e0
  obtain ⟨⟨q1,q2⟩,h1,hf⟩:=Qb hf
  obtain ⟨k,h2,hf⟩:=Qb hf
  obtain ⟨⟨r1,r2⟩,h3,hf⟩:=Qb hf
  split at hf
  ·rename_i ks e1
   have e1:=join_some e1
   injection hf with hf
   injection hf with h4 h5
   subst h4 h5
   obtain ⟨a,ha,L⟩:=R.own i _ e0 hi'
   obtain ⟨kvs0,hr0,_⟩:∃ kvs,H a=some (.dK kvs)/\RepK (Free F O) H kvs ks0:=by
    cases L with | dct r h=>exact ⟨_,r,h⟩
   refine ⟨_,ha,a,rfl,.inl ⟨kvs0,.inl hr0⟩,F,O,s,q1,q2,R,h1,fun y H1 S1 p1=>⟨F,O,q2,r1,r2,p1.1,h3,fun z H2 S2 p2=>?_⟩⟩
   obtain ⟨b,hb,L2⟩:=p2.1.own i _ e1 hi'
   rw [ha] at hb
   injection hb with hb
   injection hb with hb
   injection hb with hb
   subst hb
   obtain ⟨kvs,hr,rk⟩:∃ kvs,H2 a=some (.dK kvs)/\RepK (Free F O) H2 kvs ks:=by
    cases L2 with | dct r h=>exact ⟨_,r,h⟩
   have hy:y=kV k:=keyT_ok (.inl p1.2) h2
   subst hy
   refine ⟨_,DGet.k hr,q _ H2 (S1.trans S2) ⟨p2.1,?_⟩⟩
   rcases rk.look k with ⟨g1,g2⟩ | ⟨v,t',g1,g2,g3⟩
   ·rw [g1,g2]; exact p2.2
   ·rw [g1,g2]; exact g3
  ·cases hf
 ·cases hf)
theorem op_le_str{X:Cx}:OpR X (compareOp .LtE) (fun x y H Q=>∃ i j,x=.str i/\y=.str j/\Q (.bl (!decide (j.cps.toList < i.cps.toList))) H):=by
 intro pins s σ H x y v u Q I rx ry h
 obtain ⟨i,j,rfl,rfl,q⟩:=h
 obtain ⟨t,rfl⟩:=rx
 obtain ⟨t',rfl⟩:=ry
 exact PySem.P.le_str ⟨.bl (!decide (j.cps.toList < i.cps.toList)),H,I,rfl,q⟩
def gLeA:=gCmp (fun i j=>decide (i<=j)) fun i j=>!decide (j.cps.toList < i.cps.toList)
theorem e_leLe(ha:PE X a (cE .e M fa))(hb:PE X b (cE .e M fb))(hc:PE X c (cE .e M fc))(hm:lastMarks [.LtE,.LtE] [b,c]=false:=by with_unfolding_all rfl):PE X (.Compare a [.LtE,.LtE] [b,c] pos) (cE .e M (dCh gLeA gLeA fa fb fc)):=weak (pe_chain (op_le.or op_le_str) (op_le.or op_le_str) ha hb hc hm) (chain_e s_cmp s_cmp)
theorem t_leLe(ha:PE X a (cE .e M fa))(hb:PE X b (cE .e M fb))(hc:PE X c (cE .e M fc))(hm:lastMarks [.LtE,.LtE] [b,c]=false:=by with_unfolding_all rfl):PT X (.Compare a [.LtE,.LtE] [b,c] pos) (cT M (dB (dCh gLeA gLeA fa fb fc))):=weakT (pt_chain (op_le.or op_le_str) (op_le.or op_le_str) ha hb hc hm) (tst (chain_e s_cmp s_cmp))
theorem e_ltLt(ha:PE X a (cE .e M fa))(hb:PE X b (cE .e M fb))(hc:PE X c (cE .e M fc))(hm:lastMarks [.Lt,.Lt] [b,c]=false:=by with_unfolding_all rfl):PE X (.Compare a [.Lt,.Lt] [b,c] pos) (cE .e M (dCh gLt gLt fa fb fc)):=weak (pe_chain (op_lt.or op_lt_str) (op_lt.or op_lt_str) ha hb hc hm) (chain_e s_cmp s_cmp)
end
end L3
namespace L3
open PySem PySem.Spec PyProof.Rows L2
variable [TheK]
def intsT:List T->Option (List Int)
 | []=>some []
 | .int i::ts=>(intsT ts).map (i::·)
 | _=>none
theorem intsT_ok{C:Addr->Prop}{H:Hp}:∀ {vs:List V} {ts:List T} {ns:List Int},Reps C H vs ts->intsT ts=some ns->vs=ns.map V.int
 | [],[],ns,_,h=>by injection h with h; subst h; rfl
 | [],_::_,_,r,_=>by have:=r.1; simp at this
 | _::_,[],_,r,_=>by have:=r.1; simp at this
 | v::vs,t::ts,ns,r,h=>by
  obtain ⟨b,rfl⟩:∃ b,t=.int b:=by cases t<;>first | exact ⟨_,rfl⟩ | cases h
  obtain ⟨l,h1,rfl⟩:=Qm (show (intsT ts).map (b::·)=some ns from h)
  rw [intsT_ok r.tail h1,BRep.int (.inl r.head)]; rfl
end L3
namespace L3
open PySem PySem.Spec PyProof.Rows L2
variable [TheK]
def dNever:DS:=fun _=>none
theorem s_never{X:Cx}{st:Stmt}{rk:Kd}{io M M' Mb:List Nat}:PS X st (cS rk io M M' Mb dNever):=fun pins s σ H D I ⟨F,O,s',r,R,Io,hd,q⟩=>by cases hd
def parts1(z y:Str):List Str:=Builtin.Str.partsBetween z (Builtin.Str.occurrences z y 0 z.length (z.length+1)) y.length
def gSplit(x y:T):Option T:=match x,y with
 | .str z,.str y=>if (y.length == 0)=false/\z.length<=sizeLine/\(Txt.split z y).length<=sizeLine/\(parts1 z y).length<=sizeLine then some (.lst ((Txt.split z y).map T.str)) else none
 | _,_=>none
def dSplit(fa fb:DE):DE:=fun s=>(fa s).bind fun p=>match p.1 with
 | .str z=>(fb p.2).bind fun q=>(gSplit (.str z) q.1).map fun t=>(t,q.2)
 | _=>none
def flatT:T->Bool
 | .non | .bl _ | .int _ | .str _=>true
 | _=>false
theorem flat_rep{C C':Addr->Prop}{H H':Hp}{v:V}{t:T}(h:Rep C H v t)(f:flatT t=true):Rep C' H' v t:=by
 cases h<;>first | exact .non | exact .bl _ | exact .int _ | exact .str _ | cases f
def dCallB(fn:List T->Option T)(i:Nat)(fa:DA):DE:=fun s=>(s[i]?).join.bind fun _=>(fa s).bind fun p=>(p.2[i]?).join.bind fun t0=>(fn (t0::p.1)).bind fun t=>if flatT t=true then some (t,p.2) else none
end L3
namespace L3
open PySem PySem.Spec PyProof.Rows L2
variable [TheK]
section
variable {X:Cx}{M:List Nat}{e:Expr}{fe:DE}{p p2 pos pos2:Pos}
def dItR(f:DE):DI:=fun s=>(f s).bind fun p=>match p.1 with
 | .lst xs=>some (xs.reverse,p.2)
 | _=>none
def stepT(i c:Int)(n:Nat):List T:=(List.range n).map fun (k:Nat)=>T.int (i+k*c)
def rg3(i j c:Int):Bool:=match j with
 | .ofNat n=>Nat.ble n 100&&(decide (i=2)&&decide (c=2))
 | _=>false
def dRg3(f:DA):DI:=fun s=>(f s).bind fun p=>match p.1 with
 | [.int i,.int j,.int c]=>if rg3 i j c=true then some (stepT 2 2 ((j.toNat - 1) / 2),p.2) else none
 | _=>none
end
end L3
namespace L3
open PySem PySem.Spec PyProof.Rows L2
variable [TheK]
def dPar(i j:Nat)(fa:DA):DS:=fun s=>(fa s).bind fun p=>match p.1 with
 | [t,u]=>if i < p.2.length/\j < p.2.length then some (.nx ((p.2.set i (some t)).set j (some u))) else none
 | _=>none
end L3
namespace L3
open PySem PySem.Spec PyProof.Rows L2
variable [TheK]
section
variable {X:Cx}{M:List Nat}{a b e:Expr}{fa fb fe:DE}{p pos:Pos}
def dSet0:DE:=fun s=>some (.set (fun _=>false) 0,s)
def dSAdd(i:Nat)(fe:DE):DE:=fun s=>(s[i]?).join.bind fun t0=>match t0 with
 | .set _ _=>(fe s).bind fun p=>(p.2[i]?).join.bind fun t1=>match p.1,t1 with
  | .int k,.set S n=>if n < 1000 then some (.non,p.2.set i (some (.set (fun j=>S j||decide (j=k)) (if S k then n else n+1)))) else none
  | _,_=>none
 | _=>none
end
end L3
namespace L3
open PySem PySem.Spec PyProof.Rows L2
variable [TheK]
def dCallB2(fn:List T->Option T)(i:Nat)(f0:DE)(fa:DA):DE:=fun s=>(f0 s).bind fun p=>(p.2[i]?).join.bind fun _=>(fa p.2).bind fun q=>(q.2[i]?).join.bind fun t0=>(fn (p.1::t0::q.1)).bind fun t=>if flatT t=true then some (t,q.2) else none
end L3
namespace L3
open PySem PySem.Spec PyProof.Rows L2
variable [TheK]
def gLtL:T->T->Option T
 | .lst xs,.lst ys=>(intsT xs).bind fun a=>(intsT ys).map fun b=>.bl (HT.lexLt a b)
 | _,_=>none
section
variable {X:Cx}{M:List Nat}{a b e:Expr}{fa fb fe:DE}{p pos:Pos}
def intsLs:List T->Option (List (List Int))
 | []=>some []
 | .lst xs::ts=>(intsT xs).bind fun a=>(intsLs ts).map (a::·)
 | _=>none
def gMinL:T->Option T
 | .lst ts=>(intsLs ts).bind fun rs=>if 0 < rs.length then ts[leastAt rs]? else none
 | _=>none
end
def flatL:T->Bool
 | .lst ts=>ts.all flatT
 | _=>false
theorem flat_reps{C C':Addr->Prop}{H H':Hp}{vs:List V}{ts:List T}(r:Reps C H vs ts)(f:ts.all flatT=true):Reps C' H' vs ts:=
 ⟨r.1,fun i v t hv ht=>flat_rep (r.2 i v t hv ht) (List.all_eq_true.mp f t (List.mem_of_getElem? ht))⟩
theorem flat_live{C C':Addr->Prop}{H:Hp}{a:Addr}{t:T}(h:Live C H a t)(f:flatL t=true):Live C' H a t:=by
 cases h with
 | lst r h=>exact .lst r (flat_reps h f)
 | _=>cases f
end L3
namespace L3
open PySem PySem.Spec PyProof.Rows L2
variable [TheK]
def lc2In(dg2:DG)(fe:DE):List T->List T->Sg->Option (List T)
 | [],acc,_=>some acc
 | y::ys,acc,s=>(dg2 y s).bind fun s1=>(fe s1).bind fun q=>lc2In dg2 fe ys (acc++[q.1]) q.2
def lc2Go(caps:List (Option Nat))(dg1 dg2:DG)(fi2:DI)(fe:DE):List T->List T->Sg->Option (List T)
 | [],acc,_=>some acc
 | x::xs,acc,s=>(dg1 x (capS caps s)).bind fun s1=>(fi2 s1).bind fun p=>if acc.length+p.1.length<=lcMax then (lc2In dg2 fe p.1 acc p.2).bind fun a=>lc2Go caps dg1 dg2 fi2 fe xs a s else none
def dLC2(caps:List (Option Nat))(fi:DI)(dg1:DG)(fi2:DI)(dg2:DG)(fe:DE):DE:=fun s=>(fi s).bind fun p=>(lc2Go caps dg1 dg2 fi2 fe p.1 [] p.2).map fun l=>(.lst l,p.2)
theorem Rel.but{F:Fr}{O:Addr->Prop}{M:List Nat}{s:Sg}{σ:L2.St}{H H':Hp}{D:Addr}(R:Rel F O M s σ H)(hO:O D)(nD:∀ (j:Nat),j∈M->σ[j]?≠some (some (.ref D)))(h0:F.H0 D=none)
  (k:∀ b u,b≠D->H b=some u->H' b=some u) (d:∀ b,H' b=none->H b=none):Rel F O M s σ H':=by
 refine ⟨R.len,fun j t e n=>?_,fun j t e n=>?_,R.ow,R.dis,fun b u n e=>?_,fun b e=>R.dom b (d b e),R.fresh,R.inD,fun b z e=>R.al b z (d b e)⟩
 ·obtain ⟨v,a1,a2⟩:=R.val j t e n
  exact ⟨v,a1,a2.mono (fun _ z=>z) fun b u z e=>k b u (fun w=>z.1 (w▸hO)) e⟩
 ·obtain ⟨a,a1,a2⟩:=R.own j t e n
  exact ⟨a,a1,a2.mono (fun _ z=>z) (fun b u z e=>k b u (fun w=>z.1 (w▸hO)) e) fun u e=>k a u (fun w=>nD j n (w▸a1)) e⟩
 ·refine k b u (fun w=>?_) (R.keep b u n e)
  subst w
  rw [h0] at e
  cases e
theorem upd_no{H:Hp}{p b:Addr}{o:HO}(e:upd H p o b=none):H b=none:=by
 unfold upd at e
 split at e
 ·cases e
 ·exact e
end L3
namespace L3
open PySem PySem.Spec PyProof.Rows L2
variable [TheK]
def gLZ:List T->Option T
 | [.lst _,.lst _]=>some .any
 | _=>none
def dLZ(f:DA):DE:=fun s=>(f s).bind fun p=>(gLZ p.1).map fun t=>(t,p.2)
section
variable {X:Cx}{M:List Nat}{a b:Expr}{fa:DA}{pos p p' pos':Pos}
def rgZ(i j c:Int):Bool:=decide (i=0)&&(decide (j=12)&&decide (c=2))
def dRgZ(f:DA):DI:=fun s=>(f s).bind fun p=>match p.1 with
 | [.int i,.int j,.int c]=>if rgZ i j c=true then some (stepT 0 2 6,p.2) else none
 | _=>none
end
end L3
namespace L3
open PySem PySem.Spec PyProof.Rows L2
variable [TheK]
def enumK(kvs:List (Key × T)):List T:=enumT (kvs.map fun kv=>kT kv.1)
def dEnK(f:DA):DI:=fun s=>(f s).bind fun p=>match p.1 with
 | [.fd kvs]=>some (enumK kvs,p.2)
 | _=>none
def zipT(xs ys:List T):List T:=(xs.zip ys).map fun p=>.tup [p.1,p.2]
def dZipK(f:DA):DI:=fun s=>(f s).bind fun p=>match p.1 with
 | [.lst xs,.fd kvs]=>some (zipT xs (kvs.map fun kv=>kT kv.1),p.2)
 | _=>none
end L3
namespace L3
open PySem PySem.Spec PyProof.Rows L2
variable [TheK]
def dCallBN(fn:List T->Option T)(i:Nat)(fa:DA):DE:=fun s=>(s[i]?).join.bind fun _=>(fa s).bind fun p=>(p.2[i]?).join.bind fun t0=>(fn (t0::p.1)).bind fun t=>if flatL t=true then some (t,p.2) else none
def FlatM(M:List Nat)(s:Sg):Prop:=∀ i:Nat,i∈M->∀ t,s[i]?=some (some t)->flatL t=true
structure DRel (F:Fr) (O W:Addr->Prop) (M:List Nat) (x:Nat) (s:Sg) (σ:L2.St) (H:Hp) (v:V) (t:T):Prop where
 R:Rel F O M (s.set x none) σ H
 sx:s[x]?=some (some t)
 vx:σ[x]?=some (some v)
 xM:x∉M
 rep:Rep W H v t
 wO:∀ b,W b->O b
 wM:∀ (i:Nat) b,i∈M->σ[i]?=some (some (.ref b))->¬ W b
 wD:∀ b,W b->¬ F.D b
section
variable {F:Fr}{O W:Addr->Prop}{M:List Nat}{x:Nat}{s:Sg}{σ:L2.St}{H H':Hp}{v:V}{t:T}
theorem DRel.rel(d:DRel F O W M x s σ H v t):Rel F (fun b=>O b/\¬ W b) M s σ H:=by
 have hx:x < s.length:=(List.getElem?_eq_some_iff.mp d.sx).1
 have R1:Rel F (fun b=>O b/\¬ W b) M (s.set x none) σ H:=d.R.less (fun b z=>z.1) (fun i a hi e=>⟨d.R.ow i a hi e,d.wM i a hi e⟩) fun a ha=>⟨d.R.inD a ha,fun z=>d.wD a z ha⟩
 have R2:=R1.setE (M':=M) (i:=x) (v:=v) (t:=t) (fun j hj=>⟨hj,fun z=>d.xM (z▸hj)⟩) (fun j hj=>.inl hj) (by rw [List.length_set]; exact hx) (d.rep.mono (fun b w=>⟨fun z=>z.2 w,.inr ((d.R.fresh b (d.wO b w)).resolve_left (d.wD b w))⟩) fun _ _ _ e=>e)
 have e1:(s.set x none).set x (some t)=s:=by
  rw [List.set_set]
  refine List.ext_getElem? fun j=>?_
  rw [List.getElem?_set]
  by_cases h:x=j
  ·subst h
   rw [if_pos rfl,if_pos hx,d.sx]
  ·rw [if_neg h]
 have e2:σ.set x (some v)=σ:=by
  refine List.ext_getElem? fun j=>?_
  rw [List.getElem?_set]
  by_cases h:x=j
  ·subst h
   rw [if_pos rfl,if_pos (List.getElem?_eq_some_iff.mp d.vx).1,d.vx]
  ·rw [if_neg h]
 rw [e1,e2] at R2
 exact R2
theorem DRel.back(d:DRel F O W M x s σ H v t)(S:Step σ M H H')(R1:Rel F (fun b=>O b/\¬ W b) M s σ H')(hf:FlatM M s):DRel F O W M x s σ H' v t:=by
 have wk:∀ b o,W b->H b=some o->H' b=some o:=fun b o w e=>S.keep b o (fun i hi z=>d.wM i b hi z w) e
 refine ⟨⟨d.R.len,fun j t' e n=>?_,fun j t' e n=>?_,d.R.ow,d.R.dis,R1.keep,R1.dom,d.R.fresh,d.R.inD,fun a z e=>d.R.al a z (S.dom a e)⟩,d.sx,d.vx,d.xM,d.rep.mono (fun _ w=>w) wk,d.wO,d.wM,d.wD⟩
 ·obtain ⟨u,h1,h2⟩:=d.R.val j t' e n
  exact ⟨u,h1,d.R.stay S h2⟩
 ·have hj:x≠j:=fun z=>d.xM (z▸n)
  rw [List.getElem?_set_ne hj] at e
  obtain ⟨a,h1,h2⟩:=R1.own j t' e n
  exact ⟨a,h1,flat_live h2 (hf j n t' e)⟩
end
def DEnd(F:Fr)(rk:Kd)(io M:List Nat)(x:Nat)(O:Addr->Prop)(H:Hp)(D:Ends):Fl->Prop
 | .nx s'=>∀ O' W' σ' H' v' t',KeepO O H O' H'->DRel F O' W' M x s' σ' H' v' t'->Ios F io M σ'->D.nx σ' H'
 | .rt t s'=>∀ v H',RetOk F rk io s' t v H'->D.rt v H'
 | _=>False
def cD(rk:Kd)(io M:List Nat)(x:Nat)(d:DS):TS:=fun D σ H=>∃ F O W s v t r,DRel F O W M x s σ H v t/\Ios F io M σ/\d s=some r/\DEnd F rk io M x O H D r
theorem DEnd.more{F:Fr}{rk:Kd}{io M:List Nat}{x:Nat}{O O':Addr->Prop}{H H':Hp}{D:Ends}{r:Fl}(h:DEnd F rk io M x O H D r)(k:KeepO O H O' H'):DEnd F rk io M x O' H' D r:=by
 cases r with
 | nx s'=>exact fun O2 W2 σ2 H2 v2 t2 k2=>h O2 W2 σ2 H2 v2 t2 (k.trans k2)
 | rt t s'=>exact h
 | bk s'=>exact h
 | ct s'=>exact h
noncomputable def dIfD(M:List Nat)(ft:DT)(d d':DS):DS:=fun s=>(ft s).bind fun p=>@ite _ (p.2=s/\FlatM M s) (Classical.propDecidable _) (if p.1 then d s else d' s) none
def dRtD(d:DS):DS:=fun s=>match d s with
 | some (.rt t s')=>some (.rt t s')
 | _=>none
section
variable {X:Cx}{rk:Kd}{io M M' Mb:List Nat}{x:Nat}{st:Stmt}{sts:List Stmt}{c:Expr}{a b:List Stmt}{d d':DS}{ft:DT}{fe:DE}{pos:Pos}
theorem ss_dnil:PSs X [] (cD rk io M x dNext):=weakSs pss_nil (by
 rintro D σ H ⟨F,O,W,s,v,t,r,R,I,hd,q⟩
 injection hd with hd
 subst hd
 exact q O W σ H v t .refl R I)
theorem ss_done(h:PS X st (cD rk io M x d)):PSs X [st] (cD rk io M x d):=pss_one h
theorem ss_dcons(h:PS X st (cD rk io M x d))(h2:PSs X sts (cD rk io M x d')):PSs X (st::sts) (cD rk io M x (dSeq d d')):=weakSs (pss_cons h h2) (by
 rintro D σ H ⟨F,O,W,s,v,t,r,R,I,hd,q⟩
 obtain ⟨r1,h1,h2⟩:=Qb hd
 refine ⟨F,O,W,s,v,t,r1,R,I,h1,?_⟩
 cases r1 with
 | nx s1=>exact fun O1 W1 σ1 H1 v1 t1 k1 R1 I1=>⟨F,O1,W1,s1,v1,t1,r,R1,I1,h2,q.more k1⟩
 | bk s1=>injection h2 with h2; subst h2; exact q
 | ct s1=>injection h2 with h2; subst h2; exact q
 | rt t s1=>injection h2 with h2; subst h2; exact q)
theorem s_dif(hc:PT X c (cT M ft))(ha:PSs X a (cD rk io M x d))(hb:PSs X b (cD rk io M x d')):PS X (.If c a b pos) (cD rk io M x (dIfD M ft d d')):=weakS (ps_if hc ha hb) (by
 rintro D σ H ⟨F,O,W,s,v,t,r,R,I,hd,q⟩
 obtain ⟨p,h1,h2⟩:=Qb hd
 split at h2
 case isFalse=>cases h2
 rename_i hp
 obtain ⟨hp1,hp2⟩:=hp
 refine ⟨F,_,s,p.1,p.2,R.rel,h1,fun H1 S1 R1=>?_⟩
 rw [hp1] at R1
 have R2:=R.back S1 R1 hp2
 have k:=S1.keepO R.R
 try dsimp only
 split at h2
 ·rename_i hp
  rw [if_pos hp]
  exact ⟨F,O,W,s,v,t,r,R2,I,h2,q.more k⟩
 ·rename_i hp
  rw [if_neg hp]
  exact ⟨F,O,W,s,v,t,r,R2,I,h2,q.more k⟩)
theorem ss_drt(h:PSs X sts (cS rk io M M' Mb d)):PSs X sts (cD rk io M x (dRtD d)):=weakSs h (by
 rintro D σ H ⟨F,O,W,s,v,t,r,R,I,hd,q⟩
 unfold dRtD at hd
 split at hd
 ·rename_i t' s' he
  injection hd with hd
  subst hd
  exact ⟨F,_,s,_,R.rel,I,he,q⟩
 ·cases hd)
end
end L3
namespace L3
open PySem PySem.Spec PyProof.Rows L2
variable [TheK]
def flatBut(k:Nat)(ts:List T):Bool:=(List.range ts.length).all fun j=>j == k||flatT (ts.getD j .non)
def dMutD(x k:Nat)(g:List T->List T):DS:=fun s=>match (s[x]?).join with
 | some (.tup ts)=>match ts[k]? with
  | some (.lst us)=>if flatBut k ts=true/\us.all flatT=true/\us.length < 100000 then some (.nx (s.set x (some (.tup (ts.set k (.lst (g us))))))) else none
  | _=>none
 | _=>none
def unD(x:Nat):Fl->Option Fl
 | .nx s=>some (.nx (s.set x none))
 | .rt t s=>some (.rt t s)
 | _=>none
def dDeep(fn:List T->Option (T × T))(i x:Nat)(d:DS):DS:=fun s=>(s[i]?).join.bind fun t0=>if flatL t0=true/\x < s.length then (fn [t0]).bind fun q=>if flatL q.2=true then (d ((s.set i (some q.2)).set x (some q.1))).bind (unD x) else none else none
end L3
namespace L3
open PySem PySem.Spec PyProof.Rows L2
variable [TheK]
def spD(np:Nat)(fn:List T->Option T):Sp:=fun vs H Q _=>∃ C ts t,ts.length=np/\Reps C H vs ts/\fn ts=some t/\∀ v H',(∀ b o,H b=some o->H' b=some o)->(∀ b,H' b=none->H b=none)->Rep (fun b=>H b=none) H' v t->Q v H'
def dDeep2(fn:List T->Option T)(fa:DA)(x:Nat)(d:DS):DS:=fun s=>(fa s).bind fun p=>(fn p.1).bind fun t=>if x < p.2.length then (d (p.2.set x (some t))).bind (unD x) else none
section
variable {X:Cx}{rk:Kd}{io M Mb:List Nat}{x np:Nat}{st:Stmt}{sts:List Stmt}{d:DS}{fn:List T->Option T}{fa:DA}
theorem ss_deep2(hxM:M.contains x=false)(hio:io.all (M.contains ·)=true)(ar:Ar fa np)(h:PS X st (tAsg (tCall (spD np fn) [] E0 (cA M fa)) (gName x)))(h2:PSs X sts (cD rk io M x d)) :
  PSs X (st::sts) (cS rk io M M Mb (dDeep2 fn fa x d)):=weakSs (pss_cons h h2) (by
 rintro D σ H ⟨F,O,s,r,R,I,hd,qe⟩
 have hx':x∉M:=by simpa using hxM
 obtain ⟨p,h1,hd⟩:=Qb hd
 obtain ⟨t,h3,hd⟩:=Qb hd
 split at hd
 case isFalse=>cases hd
 rename_i hxl
 obtain ⟨r0,hd0,hr0⟩:=Qb hd
 refine ⟨F,O,s,p.1,p.2,R,h1,fun vs H1 S1 R1 rs=>?_⟩
 show spD np fn (vs++[]) H1 _ E0
 rw [List.append_nil]
 refine ⟨Free F O,p.1,t,ar _ _ _ h1,rs,h3,fun v H2 k dm rep=>?_⟩
 show cD rk io M x d D (σ.set x (some v)) H2
 have W0:=rep.there
 generalize hWd:(fun b=>H1 b=none/\H2 b≠none)=W at W0
 have wH:∀ b,W b->H1 b=none:=fun b z=>by
  rw [<-hWd] at z
  exact z.1
 have wL:∀ b,W b->H2 b≠none:=fun b z=>by
  rw [<-hWd] at z
  exact z.2
 have nO:∀ b,W b->¬ O b:=fun b z y=>R1.al b y (wH b z)
 have fr:∀ b,Free F O b/\H1 b≠none->Free F (fun b=>O b∨W b) b:=fun b c=>⟨fun z=>z.elim c.1.1 fun z=>c.2 (wH b z),c.1.2⟩
 have R2:Rel F (fun b=>O b∨W b) M (p.2.set x none) (σ.set x (some v)) H2:=by
  refine ⟨by rw [List.length_set,List.length_set]; exact R1.len,fun j t e' n=>?_,fun j t e' n=>?_,fun j b hj e=>?_,fun j k' b hj hk e2 e3=>?_,fun b o n e=>k b o (R1.keep b o n e),fun b e=>R1.dom b (dm b e),fun b z=>?_,fun b z=>.inl (R1.inD b z),fun b z=>?_⟩
  ·have hij:x≠j:=fun z=>by
    subst z
    rw [List.getElem?_set_self hxl] at e'
    cases e'
   rw [List.getElem?_set_ne hij] at e'
   rw [List.getElem?_set_ne hij]
   obtain ⟨u,g1,g2⟩:=R1.val j t e' n
   exact ⟨u,g1,g2.there.mono fr fun b o _ e=>k b o e⟩
  ·have hij:x≠j:=fun z=>hx' (z▸n)
   rw [List.getElem?_set_ne hij] at e'
   rw [List.getElem?_set_ne hij]
   obtain ⟨b,g1,g2⟩:=R1.own j t e' n
   exact ⟨b,g1,g2.there.mono fr (fun b o _ e=>k b o e) fun o e=>k b o e⟩
  ·rw [List.getElem?_set_ne (fun z:x=j=>hx' (by rw [z]; exact hj))] at e
   exact .inl (R1.ow j b hj e)
  ·rw [List.getElem?_set_ne (fun z:x=j=>hx' (by rw [z]; exact hj))] at e2
   rw [List.getElem?_set_ne (fun z:x=k'=>hx' (by rw [z]; exact hk))] at e3
   exact R1.dis j k' b hj hk e2 e3
  ·rcases z with z | z
   ·exact R1.fresh b z
   ·exact .inr (R1.dom b (wH b z))
  ·rcases z with z | z
   ·exact fun e=>R1.al b z (dm b e)
   ·exact wL b z
 have KO:KeepO O H (fun b=>O b∨W b) H2:=(S1.keepO R).trans ⟨fun b o n e=>⟨k b o e,fun z=>z.elim n fun z=>by rw [wH b z] at e; cases e⟩,dm⟩
 have I2:Ios F io M (σ.set x (some v)):=I.set (fun z=>hx' (sub_of hio x z)) (sub_of hio)
 refine ⟨F,fun b=>O b∨W b,W,p.2.set x (some t),v,t,r0,⟨by rw [List.set_set]; exact R2,List.getElem?_set_self hxl,List.getElem?_set_self (by rw [<-R1.len]; exact hxl),hx',W0,fun b z=>.inr z,fun j b hj e z=>?_,fun b z y=>nO b z (R1.inD b y)⟩,I2,hd0,?_⟩
 ·rw [List.getElem?_set_ne (fun z:x=j=>hx' (by rw [z]; exact hj))] at e
  exact nO b z (R1.ow j b hj e)
 ·cases r0 with
  | nx s'=>
   injection hr0 with hr0
   subst hr0
   exact fun O' W' σ' H' v' t' k DR I'=>qe O' σ' H' (KO.trans k) DR.R I'
  | rt t s'=>
   injection hr0 with hr0
   subst hr0
   exact qe
  | bk s'=>cases hr0
  | ct s'=>cases hr0)
theorem e_deep2{e:Expr}{es:List Expr}{p pos:Pos}{k:Nat}{f:Addr}{fd:FuncData}{ps:List Str}{y:Str}(F:FnOk X.prog X.w X.K X.mg X.base CX0 k f fd ps (spD np fn))(hr:Room k X.A)(hg:Gl X y)(hm:X.mg y=some (.ref f))(hk:PySem.W.keepIn X.K (.ref f)=true)(hb:Binds X.K fd ps [])
  (ha:PA X (e::es) (cA M fa)) (hdb:(y == ("__debug__":Str))=false:=by decide) (he:starEach (e::es) X.env=(false,eval e X.env)::starEach es X.env:=by rfl) (hpl:(backTo pos (starEach es X.env)).any (·.1)=false:=by rfl) :
  PE X (.Call (.Name y p) (e::es) [] pos) (tCall (spD np fn) [] E0 (cA M fa)):=pe_call F hr hg hm hk hb .nil pass0 ha hdb he hpl
end
section
variable {X:Cx}{rk:Kd}{io M:List Nat}{x a y:Nat}{ft:DT}{tg xe c ae:Expr}{rb:List Stmt}{dr:DS}{p1 p2 pos:Pos}{z:Str}
noncomputable def dApxD(M:List Nat)(x:Nat)(fe:DE):DS:=fun s=>(fe s).bind fun p=>@ite _ (p.2=s/\FlatM M s/\∃ ts,s[x]?=some (some (.lst ts))/\ts.length<=10000) (Classical.propDecidable _) (some (.nx (s.set x (some T.any)))) none
theorem s_dapx{fe:DE}{st:Stmt}(h:PS X st (tDrop (tBM X.K "list" rAppend (tVar x) (tCons (cE .e M fe) tNil)))):PS X st (cD rk io M x (dApxD M x fe)):=weakS h (by
 rintro D σ H ⟨F,O,W,s,v,t,r,R,I,hd,q⟩
 obtain ⟨p,h1,h2⟩:=Qb hd
 split at h2
 case isFalse=>cases h2
 rename_i hp
 obtain ⟨p1,p2,ts,p3,p4⟩:=hp
 injection h2 with h2
 subst h2
 rw [R.sx] at p3
 obtain rfl:=Option.some.inj (Option.some.inj p3)
 have rp:=R.rep
 have hxl:x < s.length:=(List.getElem?_eq_some_iff.mp R.sx).1
 cases rp with
 | @lst rr vs _ wr hrr l hh=>
  refine ⟨_,R.vx,.inl ⟨rfl,vs,SqL.of hrr⟩,F,_,s,p.1,p.2,R.rel,h1,fun u H1 S1 po=>?_⟩
  have po1:=po.1
  rw [p1] at po1
  have R2:=R.back S1 po1 p2
  have hr1:H1 rr=some (.lst vs):=S1.keep rr _ (fun i hi z=>R.wM i rr hi z wr) hrr
  have orr:=R.wO rr wr
  have h0:F.H0 rr=none:=(R.R.fresh rr orr).resolve_left (R.wD rr wr)
  have kb:∀ b w,b≠rr->H1 b=some w->upd H1 rr (.lst (vs++[u])) b=some w:=fun b w nn e=>by rw [upd_ne nn]; exact e
  refine ⟨rr,vs,u,rfl,rfl,hr1,Nat.lt_of_lt_of_le (show vs.length < 100000 by lia) (by decide),?_⟩
  have R5:=R2.R.but orr (fun j hj e=>R.wM j rr hj e wr) h0 kb fun b e=>upd_no e
  refine q O W σ _ (.ref rr) T.any ((S1.keepO R.R).trans ⟨fun b o n e=>⟨kb b o (fun z=>n (z▸orr)) e,n⟩,fun b e=>upd_no e⟩) ⟨by rw [List.set_set]; exact R5,?_,R.vx,R.xM,.any,R.wO,R.wM,R.wD⟩ I
  rw [List.getElem?_set_self hxl])
end
end L3
namespace L3
open PySem PySem.Spec PyProof.Rows L2
variable [TheK]
def cED(M:List Nat)(f:DE):TE:=fun σ H Q=>∃ F O s t s',Rel F O M s σ H/\f s=some (t,s')/\∀ v H',Step σ M H H'->Rel F O M s' σ H'->Rep (fun b=>H b=none) H' v t->Q v H'
def dFl(fe:DE):DE:=fun s=>(fe s).bind fun p=>if flatT p.1=true then some p else none
def gLZs:List T->Option T
 | [.lst xs,.lst ys]=>if xs.all flatT=true/\ys.all flatT=true then some (.lst (List.zipWith (fun x y=>.tup [x,y]) xs ys)) else none
 | _=>none
def dLZs(f:DA):DE:=fun s=>(f s).bind fun p=>(gLZs p.1).map fun t=>(t,p.2)
def dT3(fa fb fc:DE):DE:=fun s=>(fa s).bind fun p=>(fb p.2).bind fun q=>(fc q.2).bind fun r=>if flatT p.1=true/\flatT q.1=true then some (.tup [p.1,q.1,r.1],r.2) else none
theorem d_imp{np:Nat}{fn:List T->Option T}:∀ vs H Q E,spP .e np fn vs H Q E->spD np fn vs H Q E:=fun vs H Q E ⟨C,ts,t,hl,r,hf,q⟩=>⟨C,ts,t,hl,r,hf,fun v H' k d rp=>q v H' ⟨k,d,rp.mono (fun b z=>.inr z) fun _ _ _ e=>e⟩⟩
section
variable {X:Cx}{rk:Kd}{io M M' Mb:List Nat}{x k:Nat}{st:Stmt}{e a b:Expr}{es:List Expr}{fe f1 f2 f3:DE}{fa:DA}{pos p p' pos':Pos}
theorem s_retD(he:PE X e (cED M fe)):PS X (.Return (some e) pos) (cS .b [] M M' Mb (dRetI [] fe)):=weakS (ps_ret he) (by
 intro D σ H h_;refine cS_ h_ fun F O s r R I hd q=>?_
 obtain ⟨p,h1,h2⟩:=Qb hd
 split at h2
 case isFalse=>cases h2
 injection h2 with h2
 subst h2
 exact ⟨F,O,s,p.1,p.2,R,h1,fun v H1 S1 R1 rp=>q v H1 ⟨R1.keep,R1.dom,rp.mono (fun b z=>R.dom b z) fun _ _ _ e=>e⟩⟩)
end
section
variable {rk:Kd}{M' Mb:List Nat}{d:DS}{N:List Str}{np:Nat}
theorem run_D(hN:np<=N.length){vs:List V}{H:Hp}{Q:VK}{E:XK}(h:spD np (fnPn N.length d) vs H Q E) :
  cS .b [] [] M' Mb d { nx:=fun _ H'=>Q .non H',rt:=Q } (L2.start N vs) H:=by
 obtain ⟨C,ts,t,hl,r,hf,q⟩:=h
 obtain ⟨l1,l2⟩:=start_get (N:=N) r (by lia)
 have w:∀ b,C b->Free ⟨H,C,fun _=>False,fun _=>0⟩ (fun _=>False) b:=fun b c=>⟨fun z=>z,.inl c⟩
 have R:Rel ⟨H,C,fun _=>False,fun _=>0⟩ (fun _=>False) [] (start3 N.length ts) (L2.start N vs) H:=by
  refine ⟨l1,fun i t e _=>?_,fun i t e n=>by simp at n,fun i a n=>by simp at n,fun i j a n=>by simp at n,fun b o _ e=>e,fun b e=>e,fun a z=>z.elim,fun a z=>z,fun a z=>z.elim⟩
  obtain ⟨v,h1,_,_,rv⟩:=l2 i t e
  exact ⟨v,h1,rv.mono w fun _ _ _ e=>e⟩
 have I:Ios ⟨H,C,fun _=>False,fun _=>0⟩ [] [] (L2.start N vs):=⟨fun i hi=>by simp at hi,fun a z=>z.elim⟩
 unfold fnPn at hf
 split at hf
 case h_2=>cases hf
 rename_i hd
 obtain rfl:=Option.some.inj hf
 exact ⟨_,_,_,_,R,I,hd,fun v H' ro=>q v H' (fun b o e=>ro.keep b o (fun z=>z) e) ro.dom ro.res⟩
end
end L3
namespace L3
open PySem PySem.Spec PyProof.Rows L2
variable [TheK]
def dZip(f:DA):DI:=fun s=>(f s).bind fun p=>match p.1 with
 | [.lst xs,.lst ys]=>some (zipT xs ys,p.2)
 | _=>none
end L3
namespace L3
open PySem PySem.Spec PyProof.Rows L2
variable [TheK]
def dZipD(f:DA):DI:=fun s=>(f s).bind fun p=>match p.1 with
 | [.fd kvs,.lst xs]=>some (zipT (kvs.map fun kv=>kT kv.1) xs,p.2)
 | _=>none
end L3
namespace L3
open PySem PySem.Spec PyProof.Rows L2
variable [TheK]
def dCallD(fn:List T->Option T)(fe:DE):DE:=fun s=>(fe s).bind fun p=>match p.1 with
 | .lst ts=>if ts.all flatT=true then (fn [.lst ts]).map fun t=>(t,p.2) else none
 | _=>none
def dNils(n:Nat):DE:=fun s=>some (.lst (List.replicate n (.lst [])),s)
section
variable {X:Cx}{M:List Nat}{e:Expr}{fe:DE}{pos p:Pos}{k:Nat}{x:Str}{ps:List Str}{fn:List T->Option T}
theorem callD_e:∀ σ H Q,cED M (dCallD fn fe) σ H Q->tCall (spP .e 1 fn) [] E0 (tCons (cE .n M fe) tNil) σ H Q:=by
 intro σ H Q hz; obtain ⟨F,O,s,t,s',R,hf,q⟩:=hz
 obtain ⟨⟨p1,p2⟩,h1,h2⟩:=Qb hf
 dsimp only at h2
 split at h2
 case h_2=>cases h2
 rename_i ts
 split at h2
 case isFalse=>cases h2
 rename_i hfl
 obtain ⟨t',h3,h4⟩:=Qm h2
 injection h4 with h4 h5
 subst h4 h5
 refine ⟨F,O,s,.lst ts,p2,R,h1,fun v H1 S1 po=>?_⟩
 have R1:=(po.ne R).1
 obtain ⟨a,rfl,ha0,_,L1⟩:=po
 obtain ⟨vs,hv,rv⟩:=L1.lst'
 have rr:Reps (fun b=>b=a) H1 [.ref a] [.lst ts]:=.cons (.lst rfl hv rv.1 (flat_reps rv hfl).2) .nil
 refine ⟨fun b=>b=a,[.lst ts],t',rfl,rr,h3,fun v2 H2 c=>q v2 H2 (S1.trans ⟨fun b o _ e=>c.keep b o e,c.dom⟩) (R1.ext c.keep c.dom) ?_⟩
 exact c.res.mono (fun b z=>z.elim (fun z=>z▸ha0) fun z=>S1.dom b z) fun _ _ _ e=>e
theorem e_dcall{f:Addr}{fd:FuncData}(F:FnOk X.prog X.w X.K X.mg X.base CX0 k f fd ps (spP .e 1 fn))(hr:Room k X.A)(hg:Gl X x)(hm:X.mg x=some (.ref f))(hk:PySem.W.keepIn X.K (.ref f)=true)(hb:Binds X.K fd ps [])(h:PE X e (cE .n M fe))(hdb:(x == ("__debug__":Str))=false:=by decide)(he:starEach [e] X.env=(false,eval e X.env)::starEach [] X.env:=by rfl)(hpl:(backTo pos (starEach [] X.env)).any (·.1)=false:=by rfl):PE X (.Call (.Name x p) [e] [] pos) (cED M (dCallD fn fe)):=
 weak (pe_call F hr hg hm hk hb .nil pass0 (pa_cons h pa_nil he) hdb he hpl) callD_e
end
end L3
namespace L3
open PySem PySem.Spec PyProof.Rows L2
variable [TheK]
structure ForB (M:List Nat) (x y:Nat) (z:Int) (ft:DT) (s:Sg) (ts:List T):Prop where
 yx:y≠x
 yM:y∉M
 yl:y < s.length
 fm:FlatM M s
 it:∀ t∈ts,∃ l,t=.lst l/\l.all flatT=true/\l.length<=10000/\∀ m,m<=10000->ft ((s.set x (some T.any)).set y (some (.lst (l++List.replicate m (.int z)))))=some (false,(s.set x (some T.any)).set y (some (.lst (l++List.replicate m (.int z)))))
 tl:ts.length<=10000
noncomputable def dForB(M:List Nat)(x y:Nat)(z:Int)(ft:DT):DS:=fun s=>match (s[x]?).join with
 | some (.lst ts)=>@ite _ (ForB M x y z ft s ts) (Classical.propDecidable _) (some (.nx ((s.set y none).set x (some (.lst (ts.map fun _=>T.any)))))) none
 | _=>none
def dClx(x:Nat):DS:=fun s=>match (s[x]?).join with
 | some (.lst _)=>some (.nx (s.set x (some (.lst []))))
 | _=>none
section
variable {X:Cx}{rk:Kd}{io M:List Nat}{x y:Nat}{ft:DT}{tg xe c ae:Expr}{rb:List Stmt}{dr:DS}{p1 p2 pos:Pos}{z:Int}
theorem s_dclx{st:Stmt}(h:PS X st (tDrop (tBM0 X.K "list" rClear (tVar x)))):PS X st (cD rk io M x (dClx x)):=weakS h (by
 rintro D σ H ⟨F,O,W,s,v,t,r,R,I,hd,q⟩
 unfold dClx at hd
 rw [R.sx] at hd
 have hd:(match (some t:Option T) with
  | some (.lst ts)=>some (Fl.nx (s.set x (some (.lst []))))
  | _=>none)=some r:=hd
 obtain ⟨ts,rfl⟩:∃ ts,t=.lst ts:=by cases t<;>first | exact ⟨_,rfl⟩ | cases hd
 obtain rfl:=Option.some.inj hd
 have rp:=R.rep
 have hxl:x < s.length:=(List.getElem?_eq_some_iff.mp R.sx).1
 cases rp with
 | @lst rr vs _ wr hrr l hh=>
  have orr:=R.wO rr wr
  have h0:F.H0 rr=none:=(R.R.fresh rr orr).resolve_left (R.wD rr wr)
  have kb:∀ b w,b≠rr->H b=some w->upd H rr (.lst []) b=some w:=fun b w nn e=>by rw [upd_ne nn]; exact e
  have R5:=R.R.but orr (fun j hj e=>R.wM j rr hj e wr) h0 kb fun b e=>upd_no e
  refine ⟨_,R.vx,.inl ⟨rfl,vs,SqL.of hrr⟩,rr,vs,rfl,rfl,hrr,?_⟩
  refine q O W σ _ (.ref rr) (.lst []) ⟨fun b o n e=>⟨kb b o (fun z=>n (z▸orr)) e,n⟩,fun b e=>upd_no e⟩ ⟨by rw [List.set_set]; exact R5,List.getElem?_set_self hxl,R.vx,R.xM,.lst wr upd_same rfl (fun i v t hv=>by simp at hv),R.wO,R.wM,R.wD⟩ I)
end
end L3
namespace L3
open PySem PySem.Spec PyProof.Rows L2
variable [TheK]
def gRev0:T->Option T
 | .lst xs=>some (.lst (xs.drop 1).reverse)
 | _=>none
def dRev0(f:DE)(fh fk:DO):DE:=fun s=>(f s).bind fun p=>(fh p.2).bind fun j=>(fk j.2).bind fun l=>if j.1=some 0/\l.1=some (-1) then (gRev0 p.1).map fun t=>(t,l.2) else none
end L3
namespace L3
open PySem PySem.Spec PyProof.Rows L2
variable [TheK]
def gOfI(f:List Int->Int):T->Option T
 | .lst ts=>(intsT ts).bind fun ns=>if 0 < ns.length then some (.int (f ns)) else none
 | _=>none
def gMaxI:=gOfI topI
theorem s_ofI{f:List Int->Int}:S1E (fun xs H Q=>∃ (a:Addr) (ns:List Int),xs=[V.ref a]/\SqL TheK.K H a (ns.map V.int)/\0 < ns.length/\Q (.int (f ns)) H) (gOfI f):=by
 intro C H x tx t Q bx hg q
 cases tx with
 | lst ts=>
  obtain ⟨ns,h1,h2⟩:=Qb (show ((intsT ts).bind fun ns=>if 0 < ns.length then some (T.int (f ns)) else none)=some t from hg)
  split at h2
  ·rename_i hn
   injection h2 with h2; subst h2
   obtain ⟨a,us,rfl,ha,ra⟩:=bx.lst
   rw [intsT_ok ra h1] at ha
   exact ⟨a,ns,rfl,SqL.of ha,hn,q _ (.int _)⟩
  ·cases h2
 | _=>cases hg
theorem bt_maxB:bootBuiltins "max"=some (.builtin "max"):=by first | exact PySem.boot_max | exact PyProof.Rows.boot_max | decide +kernel
section
variable {X:Cx}{M:List Nat}{e:Expr}{fe:DE}{p pos:Pos}
theorem e_maxI(hK:X.K=TheK.K)(hc:X.calm=true)(hg:Gl X "max")(hm:X.mg "max"=none)(h:PE X e (cE .b M fe))(he:starEach [e] X.env=(false,eval e X.env)::starEach [] X.env:=by rfl)(hpl:(backTo pos (starEach [] X.env)).any (·.1)=false:=by rfl):PE X (.Call (.Name "max" p) [e] [] pos) (cE .e M (d1 gMaxI fe)):=
 weak (pe_callB (show CallR X _ _ from hK▸call_maxI hc) hg hm bt_maxB (pa_cons h pa_nil he) (by decide) (by decide) he hpl) (one_e s_ofI)
end
def CMulB(i j:Int):Prop:=i.natAbs < 2 ^ 200/\j.natAbs < 2 ^ 200
theorem bits200{k:Int}(h:k.natAbs < 2 ^ 200):Builtin.Int.intBits k<=2 ^ 20:=by
 unfold Builtin.Int.intBits
 split
 ·exact Nat.zero_le _
 ·rename_i hne
  have h0:k.natAbs≠0:=by
   intro z
   exact hne (by simpa using z)
  have:=(Nat.log2_lt h0).mpr h
  have e:(2:Nat) ^ 20=1048576:=by decide
  lia
theorem op_mulB{X:Cx}:OpR X (binaryOp .Mult) (rI CMulB fun i j=>.int (i*j)):=opI fun _ _ _ _ _ _ _ hc q=>mul_int q (.of_bits (bits200 hc.1) (bits200 hc.2))
def bMulB(i j:Int):Bool:=Nat.ble i.natAbs 10000000000000000000000000000000000000000&&Nat.ble j.natAbs 10000000000000000000000000000000000000000
def gMulB:=gI bMulB fun i j=>i*j
section
variable {X:Cx}{M:List Nat}{a b:Expr}{fa fb:DE}{pos:Pos}
theorem e_mulB(ha:PE X a (cE .e M fa))(hb:PE X b (cE .b M fb)):PE X (.BinOp a .Mult b pos) (cE .e M (d2 gMulB fa fb)):=weak (pe_op op_mulB ha hb) (two_e (s_I fun i j h=>by
 unfold bMulB at h
 rw [Bool.and_eq_true] at h
 have h1:=Nat.le_of_ble_eq_true h.1
 have h2:=Nat.le_of_ble_eq_true h.2
 have e:(10000000000000000000000000000000000000000:Nat) < 2 ^ 200:=by decide
 exact ⟨Nat.lt_of_le_of_lt h1 e,Nat.lt_of_le_of_lt h2 e⟩))
end
end L3
namespace L3
open PySem PySem.Spec PyProof.Rows L2
variable [TheK]
def mIns:T->List T->Option (T × T)
 | .lst xs,[.int i,t]=>if 0<=i/\i.toNat<=xs.length/\xs.length<=1000 then some (.lst (xs.take i.toNat++t::xs.drop i.toNat),.non) else none
 | _,_=>none
theorem m_ins:SM rIns mIns:=by
 intro C H a tx vs ts t' tr Q hn L R hg q
 unfold mIns at hg
 split at hg
 case h_2=>cases hg
 rename_i xs i t
 split at hg
 case isFalse=>cases hg
 rename_i hi
 injection hg with hg
 injection hg with h1 h2
 subst h1 h2
 obtain ⟨us,h1,h2⟩:=L.lst'
 obtain ⟨v0,v1,rfl⟩:∃ v0 v1,vs=[v0,v1]:=by
  match vs,R.1 with
  | [v0,v1],_=>exact ⟨v0,v1,rfl⟩
 have e0:v0=.int i:=BRep.int (.inl R.head)
 subst e0
 have rv:Rep C H v1 t:=R.2 1 v1 t rfl rfl
 refine ⟨a,us,i,v1,rfl,rfl,h1,hi.1,by rw [h2.1]; exact hi.2.1,by rw [h2.1]; exact hi.2.2,q _ _ (fun H1 k e=>.lst e ?_) .non⟩
 exact ((h2.take i.toNat).append (.cons rv (h2.drop i.toNat))).mono (fun _ c=>c) k
section
variable {X:Cx}{M:List Nat}{fs:DA}{e:Expr}{es:List Expr}{pos:Pos}
theorem e_insert{i:Nat}{o:Expr}{apos:Pos}(hi:M.contains i=true)(h:PE X (.Call (.Attribute o "insert" apos) (e::es) [] pos) (tBM X.K "list" rIns (tVar i) (cA M fs))):PE X (.Call (.Attribute o "insert" apos) (e::es) [] pos) (cE .e M (dMut mIns i fs)):=weak h (mut_e hi m_ins)
end
def dFlN(fe:DE):DE:=fun s=>(fe s).bind fun p=>match p.1 with
 | .lst ts=>if ts.all flatT=true then some p else none
 | _=>none
section
variable {X:Cx}{M:List Nat}{fe:DE}{e:Expr}
theorem e_dnew(h:PE X e (cE .n M fe)):PE X e (cED M (dFlN fe)):=weak h (by
 intro σ H Q hz; obtain ⟨F,O,s,t,s',R,hf,q⟩:=hz
 obtain ⟨⟨p1,p2⟩,h1,h2⟩:=Qb hf
 dsimp only at h2
 split at h2
 case h_2=>cases h2
 rename_i ts
 split at h2
 case isFalse=>cases h2
 rename_i hfl
 obtain ⟨rfl,rfl⟩:=Prod.mk.inj (Option.some.inj h2)
 refine ⟨F,O,s,.lst ts,p2,R,h1,fun v H1 S1 po=>?_⟩
 have R1:=(po.ne R).1
 obtain ⟨a,rfl,ha0,_,L1⟩:=po
 obtain ⟨vs,hv,rv⟩:=L1.lst'
 exact q _ _ S1 R1 (.lst ha0 hv rv.1 (flat_reps rv hfl).2))
end
end L3
namespace L3
open PySem PySem.Spec PyProof.Rows L2
variable [TheK]
abbrev DR:=Sg->Bool
def cR(E:XK)(N:Addr)(d:DR):TS:=fun D σ H=>∃ F O s,Rel F O [] s σ H/\Ios F [] [] σ/\d s=true/\∀ O' H',KeepO O H O' H'->E (.ref N) none H'
def dIfR(ft:DT)(da db:DR):DR:=fun s=>match ft s with
 | some (b,s')=>if b then da s' else db s'
 | none=>false
def dSeqR(d1:DR)(dn:DS)(d2:DR):DR:=fun s=>d1 s||match dn s with
 | some (.nx s')=>d2 s'
 | _=>false
def dRetR(np:Nat)(rs:List T->Bool)(fa:DA):DR:=fun s=>match fa s with
 | some (ts,_)=>decide (ts.length=np)&&rs ts
 | none=>false
def spR(N:Addr)(np:Nat)(rs:List T->Bool):Sp:=fun vs H _ E=>∃ C ts,ts.length=np/\Reps C H vs ts/\rs ts=true/\∀ H',(∀ b o,H b=some o->H' b=some o)->(∀ b,H' b=none->H b=none)->E (.ref N) none H'
def dYesR:DR:=fun _=>true
def dNoR:DR:=fun _=>false
section
variable {X:Cx}{E:XK}{N:Addr}{da db d1 d2:DR}{dn:DS}{ft:DT}{c:Expr}{a b sts:List Stmt}{st:Stmt}{pos:Pos}
theorem r_if(hc:PT X c (cT [] ft))(ha:PSs X a (cR E N da))(hb:PSs X b (cR E N db)):PS X (.If c a b pos) (cR E N (dIfR ft da db)):=weakS (ps_if hc ha hb) (by
 intro D σ H hz; obtain ⟨F,O,s,R,I,hd,q⟩:=hz
 unfold dIfR at hd
 split at hd
 case h_2=>cases hd
 rename_i k s' hf
 refine ⟨F,O,s,k,s',R,hf,fun H1 S1 R1=>?_⟩
 have k1:=S1.keepO R
 cases k with
 | true=>exact ⟨F,O,s',R1,I,hd,fun O' H' k=>q O' H' (k1.trans k)⟩
 | false=>exact ⟨F,O,s',R1,I,hd,fun O' H' k=>q O' H' (k1.trans k)⟩)
theorem r_no:PSs X sts (cR E N dNoR):=fun pins s σ H D I hz=>by
 obtain ⟨F,O,s,R,I,hd,q⟩:=hz
 cases hd
theorem r_noS:PS X st (cR E N dNoR):=fun pins s σ H D I hz=>by
 obtain ⟨F,O,s,R,I,hd,q⟩:=hz
 cases hd
theorem r_one(h:PS X st (cR E N da)):PSs X [st] (cR E N da):=weakSs (pss_one h) (fun D σ H hz=>hz)
theorem r_seq{rk:Kd}(h1:PS X st (cR E N d1))(hn:PS X st (cS rk [] [] [] [] dn))(h2:PSs X sts (cR E N d2)):PSs X (st::sts) (cR E N (dSeqR d1 dn d2)):=by
 intro pins s0 σ H D I0 hz
 obtain ⟨F,O,s,R,I,hd,q⟩:=hz
 unfold dSeqR at hd
 rcases Bool.or_eq_true_iff.mp hd with hd | hd
 ·exact pss_cons h1 h2 pins s0 σ H D I0 ⟨F,O,s,R,I,hd,q⟩
 ·split at hd
  case h_2=>cases hd
  rename_i s' hf
  refine pss_cons hn h2 pins s0 σ H D I0 ⟨F,O,s,_,R,I,hf,fun O' σ' H' k R' I'=>⟨F,O',s',R',I',hd,fun O2 H2 k2=>q O2 H2 (k.trans k2)⟩⟩
theorem r_raise{C:Addr}{bm:List Value}{x:Str}{np cpos:Pos}{e0:Expr}{y:Str}(hR:Raises X E)(hc:X.calm=true)(xc:XCls X.base N bm)(hg:Gl X x)(hm:X.mg x=some (.ref N))(he0:PE X e0 (tC (.str y)))
  (he:starEach [e0] X.env=(false,eval e0 X.env)::starEach [] X.env:=by rfl) (hpl:(backTo cpos (starEach [] X.env)).any (·.1)=false:=by rfl) (hd:(x == ("__debug__":Str))=false:=by decide) :
  PS X (.Raise (some (.Call (.Name x np) [e0] [] cpos)) none pos) (cR E N dYesR):=weakS (ps_raise hR hc xc hg hm (pa_cons he0 pa_nil he) he hpl hd (by show 1<=100; decide)) (by
 intro D σ H hz; obtain ⟨F,O,s,R,I,hd,q⟩:=hz
 exact ⟨by show 1<=1000; decide,q _ _ .refl⟩)
theorem r_ret{CX:CXT}{k np:Nat}{f:Addr}{fd:FuncData}{ps:List Str}{rs:List T->Bool}{fa:DA}{x:Str}{p cpos:Pos}{e:Expr}{es:List Expr}(F:FnOk X.prog X.w X.K X.mg X.base CX k f fd ps (spR N np rs))(hr:Room k X.A)(hg:Gl X x)(hm:X.mg x=some (.ref f))(hk:PySem.W.keepIn X.K (.ref f)=true)(hb:Binds X.K fd ps [])(hx:Passes CX X E)
  (ha:PA X (e::es) (cA [] fa)) (hdb:(x == ("__debug__":Str))=false:=by decide) (he:starEach (e::es) X.env=(false,eval e X.env)::starEach es X.env:=by rfl) (hpl:(backTo cpos (starEach es X.env)).any (·.1)=false:=by rfl) :
  PS X (.Return (some (.Call (.Name x p) (e::es) [] cpos)) pos) (cR E N (dRetR np rs fa)):=weakS (ps_ret (pe_call F hr hg hm hk hb .nil hx ha hdb he hpl)) (by
 intro D σ H hz; obtain ⟨F,O,s,R,I,hd,q⟩:=hz
 unfold dRetR at hd
 split at hd
 case h_2=>cases hd
 rename_i ts s' hf
 obtain ⟨hl,hrs⟩:=Bool.and_eq_true_iff.mp hd
 refine ⟨F,O,s,ts,s',R,hf,fun vs H1 S1 R1 rr=>?_⟩
 refine ⟨Free F O,ts,of_decide_eq_true hl,by rw [List.append_nil]; exact rr,hrs,fun H' k1 k2=>q O H' ((S1.keepO R).trans ⟨fun b o n h=>⟨k1 b o h,n⟩,k2⟩)⟩)
end
end L3
namespace L3
open PySem PySem.Spec PyProof.Rows L2
def Here(K:PySem.W.Frag)(mg:Str->Option Value)(x:Str)(st:Stmt)(ps:List Str):Prop:=
 ∃ f fd,Fun K x x st f fd/\Binds K fd ps []/\PySem.W.keepIn K (.ref f)=true/\mg x=some (.ref f)
def Cal(P:Program)(w:World)(K:PySem.W.Frag)(mg:Str->Option Value)(base:Heap)(n:Nat)(x:Str)(ps:List Str)(sp:Sp):Prop:=
 ∃ f fd,FnOk P w K mg base CX0 n f fd ps sp/\Binds K fd ps []/\PySem.W.keepIn K (.ref f)=true/\mg x=some (.ref f)
theorem here_mk{K:PySem.W.Frag}{h:Heap}{mg:Str->Option Value}(X:K.In h)(G:h.Ns mainGlobals mg){x:Str}{st:Stmt}{ps:List Str}{f:Addr}{oc:Value}{od an:Option Addr}{osl:Array (Option Value)}{kV doc pm cdv ct:Value}
  (hb:∀ (kV doc pm:Value) (an:Option Addr) (cdv ct:Value) (us:List Value),us.length=ps.length->bindArgs (PySem.W.fnOf x x (defArgs st) (defBody st) (defScope st) .none kV doc pm an cdv ct) ⟨us,[]⟩=pure (ps.zip us))
  (a:PySem.W.nsIn K mainGlobals x=some (some (.ref f))) (l:K.lookup f=some ⟨oc,od,.func (PySem.W.fnOf x x (defArgs st) (defBody st) (defScope st) .none kV doc pm an cdv ct),osl⟩)
  (c:PySem.W.codeIn K cdv x=true) (k:PySem.W.keepIn K (.ref f)=true):Here K mg x st ps:=by
 have F:=fun_mk (st:=st) l c k
 exact ⟨f,_,F,F.binds hb,k,PySem.W.mg_of X G a⟩
section
variable {P:Program}{w:World}{K:PySem.W.Frag}{mg:Str->Option Value}{base:Heap}
theorem Here.ok{x:Str}{st:Stmt}{N ps:List Str}{k:Nat}{sp:Sp}(h:Here K mg x st ps)(S:FnScope N ps (defScope st))(len:∀ vs H Q E,sp vs H Q E->vs.length=ps.length)
  (hbody:∀ (f:Addr) (cdv:Value) (A:Around) (outer:List Env) (s:Shared) (H:Hp) (vs:List V) (Q:VK) (E:XK),Room k (A.deeper (envOfC x (defScope st) s.heap.objs.size f cdv))->sp vs H Q E->
   ∃ t,PSs (cxOf CX0 P w K mg base N x (defScope st) f cdv A outer s H E).nox (defBody st) t/\t { nx:=fun _ H'=>Q .non H',rt:=Q } (L2.start N vs) H):Cal P w K mg base (k+1) x ps sp:=by
 obtain ⟨f,fd,F,b,kp,m⟩:=h
 exact ⟨f,fd,F.ok S len fun cdv A outer s H vs Q E hr hs=>hbody f cdv A outer s H vs Q E hr hs,b,kp,m⟩
theorem Cal.mono{j k:Nat}{x:Str}{ps:List Str}{sp:Sp}(h:Cal P w K mg base j x ps sp)(hjk:j<=k):Cal P w K mg base k x ps sp:=by
 obtain ⟨f,fd,F,b,kp,m⟩:=h
 exact ⟨f,fd,F.mono hjk,b,kp,m⟩
end
def Body(tk:TheK)(P:Program)(w:World)(mg:Str->Option Value)(base:Heap)(k:Nat)(x:Str)(st:Stmt)(N:List Str)(t:TS):Prop:=
 ∀ (f:Addr) (cdv:Value) (A:Around) (outer:List Env) (s:Shared) (H:Hp) (E:XK),Room k (A.deeper (envOfC x (defScope st) s.heap.objs.size f cdv))->PSs (cxOf CX0 P w tk.K mg base N x (defScope st) f cdv A outer s H E).nox (defBody st) t
variable [tk:TheK]
section
variable {P:Program}{w:World}{mg:Str->Option Value}{base:Heap}{x:Str}{st:Stmt}{N ps:List Str}{k:Nat}{d:DS}{M' Mb:List Nat}
theorem Here.okP(h:Here tk.K mg x st ps)(S:FnScope N ps (defScope st))(hb:Body tk P w mg base k x st N (cS .e [] [] M' Mb d))(hN:ps.length<=N.length:=by decide):Cal P w tk.K mg base (k+1) x ps (spP .e ps.length (fnP N.length d)):=by
 refine h.ok S (fun vs H Q E ⟨C,ts,t,hl,r,_⟩=>by rw [r.1,hl]) fun f cdv A outer s H vs Q E hr hs=>⟨_,hb f cdv A outer s H E hr,?_⟩
 refine run_P (fun ts t e=>?_) (.inl rfl) hN hs
 unfold fnP at e
 split at e
 ·injection e with e; subst e; exact .inl ⟨_,by assumption⟩
 ·injection e with e; subst e; exact .inr ⟨rfl,rfl,_,by assumption⟩
 ·cases e
theorem Here.okN(h:Here tk.K mg x st ps)(S:FnScope N ps (defScope st))(hb:Body tk P w mg base k x st N (cS .n [] [] M' Mb d))(hN:ps.length<=N.length:=by decide):Cal P w tk.K mg base (k+1) x ps (spP .n ps.length (fnPn N.length d)):=by
 refine h.ok S (fun vs H Q E ⟨C,ts,t,hl,r,_⟩=>by rw [r.1,hl]) fun f cdv A outer s H vs Q E hr hs=>⟨_,hb f cdv A outer s H E hr,?_⟩
 refine run_P (fun ts t e=>?_) (.inr rfl) hN hs
 unfold fnPn at e
 split at e
 ·injection e with e; subst e; exact .inl ⟨_,by assumption⟩
 ·cases e
theorem Here.okD(h:Here tk.K mg x st ps)(S:FnScope N ps (defScope st))(hb:Body tk P w mg base k x st N (cS .b [] [] M' Mb d))(hN:ps.length<=N.length:=by decide):Cal P w tk.K mg base (k+1) x ps (spD ps.length (fnPn N.length d)):=
 h.ok S (fun vs H Q E ⟨C,ts,t,hl,r,_⟩=>by rw [r.1,hl]) fun f cdv A outer s H vs Q E hr hs=>⟨_,hb f cdv A outer s H E hr,run_D hN hs⟩
theorem spI_len{rk:Kd}{np:Nat}{fn:List T->Option (T × T)}{vs:List V}{H:Hp}{Q:VK}{E:XK}(h:spI rk np fn vs H Q E):vs.length=np:=by
 obtain ⟨C,a,us,t0,ts,t,t1,hl,rfl,_,_,r,_⟩:=h
 rw [<-hl,List.length_cons,List.length_cons,r.1]
theorem Here.okI(h:Here tk.K mg x st ps)(S:FnScope N ps (defScope st))(hb:Body tk P w mg base k x st N (cS .e [0] [0] M' Mb d))(hN:ps.length<=N.length:=by decide):Cal P w tk.K mg base (k+1) x ps (spI .e ps.length (fnI N.length d)):=
 h.ok S (fun vs H Q E h=>spI_len h) fun f cdv A outer s H vs Q E hr hs=>⟨_,hb f cdv A outer s H E hr,run_I (.inl rfl) hN hs⟩
def spLaw(K:PySem.W.Frag):Sp:=fun vs H Q _=>∃ (a:Addr) (ns:List Int),vs=[.ref a]/\Only H/\SqL K H a (ns.map V.int)/\ns.length<=63/\∀ H',Q (.bl true) H'
theorem law_fn{fw:Addr}{dw:FuncData}(F:Fun tk.K x x st fw dw)(S:FnScope N [ps0] (defScope st))(hb:Body tk P w mg base k x st N (cS .e [] [] M' Mb d))(hN:1<=N.length)(hd:∀ ns:List Int,ns.length<=63->fnP N.length d [.scr ns]=some (.bl true)):FnOk P w tk.K mg base CX0 (k+1) fw dw [ps0] (spLaw tk.K):=by
 refine F.ok S (fun vs H Q E ⟨a,ns,e,_⟩=>by rw [e]; rfl) fun cdv A outer s H vs Q E hr hs=>⟨_,hb fw cdv A outer s H E hr,?_⟩
 obtain ⟨a,ns,rfl,hO,hS,h63,q⟩:=hs
 have rp:Rep (fun _=>True) H (.ref a) (.scr ns):=by
  rcases hS with (hS | ⟨o,hS⟩) | hS
  ·rcases hO a with z | ⟨_,_,z⟩<;>rw [hS] at z<;>cases z
  ·exact .scr trivial hS
  ·exact .scrK fun H'=>.inr hS
 refine run_P (np:=1) (N:=N) (fn:=L3.fnP N.length d) (fun ts t e=>?_) (.inl rfl) hN (E:=E) ⟨fun _=>True,[.scr ns],.bl true,rfl,.cons rp .nil,hd ns h63,fun v H' c=>?_⟩
 ·unfold L3.fnP at e
  split at e
  ·injection e with e; subst e; exact .inl ⟨_,by assumption⟩
  ·injection e with e; subst e; exact .inr ⟨rfl,rfl,_,by assumption⟩
  ·cases e
 ·have:v=.bl true:=BRep.bl (.inl c.res)
  rw [this]
  exact q H'
end
theorem walk{l:PySem.W.OpenLaw}{q:Program}{loose:List Str}{XP:(Str->Option Value)->Heap->Prop}{YP:World->Heap->Prop}{d:DefRec}{K:Params->PySem.W.Frag}{x:Str}{k:Nat}(hn:l.most=some 63)(hdf:d.params.defaults=[])(hk:k < 60)
  (hY:∀ (w:World) (h:Heap),YP w h->(K w.params).In h)
  (F:∀ (w:World) (mg:Str->Option Value) (fa:Addr) (h:Heap),(K w.params).In h->h.Ns mainGlobals mg->mg d.name=some (.ref fa)->
   ∃ fd:FuncData,(∀ (s:Shared) (u:Value),BindsTo s fd ⟨[u],[]⟩ [(x,u)])/\∀ base:Heap,(K w.params).In base->base.Ns mainGlobals mg->FnOk l.prog w (K w.params) mg base CX0 k fa fd [x] (spLaw (K w.params))) :
  PySem.W.WalkO q loose XP YP l.row.toRowW d [] (fun f vs=>PySem.call f vs):=
 L2.walk_of (n:=63) (k:=k) (x:=x) (CX:=fun _=>CX0) (sp:=fun w=>spLaw (K w.params)) hn (by decide) hdf (Room.mono (k:=60) ⟨rfl,by decide,by decide⟩ (by lia)) hY F (fun _ _ a ns hl hO hS=>⟨a,ns,rfl,hO,hS,hl,fun _=>rfl⟩) fun _ _ _ _ _ z=>z
end L3
namespace L3
open PySem PySem.Spec PyProof.Rows L2
theorem hu8_of{A:Around}{k:Nat}(hr:Room k A):A.units+8 < cLine:=by have:=hr.un; lia
end L3
namespace L3
open PySem PySem.Spec PyProof.Rows L2
structure QE (X:Cx) (e:Expr) (t:TE):Prop where
 un:L2.PE X e t
structure QT (X:Cx) (e:Expr) (t:TT):Prop where
 un:L2.PT X e t
structure QW (X:Cx) (e:Expr) (t:TT):Prop where
 un:L2.PW X e t
structure QA (X:Cx) (e:List Expr) (t:TA):Prop where
 un:L2.PA X e t
structure QSs (X:Cx) (e:List Stmt) (t:TS):Prop where
 un:L2.PSs X e t
structure QS (X:Cx) (e:Stmt) (t:TS):Prop where
 un:L2.PS X e t
structure QI (X:Cx) (tg iter:Expr) (t:TI):Prop where
 un:L2.PI X tg iter t
structure QGs (X:Cx) (e:List Expr) (t:TGs):Prop where
 un:L2.PGs X e t
structure QG (X:Cx) (e:Expr) (t:TG):Prop where
 un:L2.PG X e t
structure QTs (X:Cx) (e:List Expr) (t:TT):Prop where
 un:L2.PTs X e t
structure QO (X:Cx) (e:Option Expr) (t:TO):Prop where
 un:L2.PO X e t
section
variable {X:Cx}
theorem qpe_str{x j pos}:QE X (.Constant (.str x) j pos) (tC (.str x)):=⟨L2.pe_str ⟩
end
section
variable {X:Cx}
theorem qpe_glob{x:Str}{v:V}{u:Value}{pos:Pos}(hg:Gl X x)(hm:X.mg x=some u)(r:RelV v u)(hd:(x == ("__debug__":Str))=false:=by decide):QE X (.Name x pos) (tC v):=⟨L2.pe_glob hg hm r hd⟩
end
section
variable {X:Cx}
theorem qpe_bltn{x:Str}{v:V}{u:Value}{pos:Pos}(hg:Gl X x)(hm:X.mg x=none)(hv:bootBuiltins x=some u)(r:RelV v u)(hn:x≠"__name__":=by decide)(hd:(x == ("__debug__":Str))=false:=by decide):QE X (.Name x pos) (tC v):=⟨L2.pe_bltn hg hm hv r hn hd⟩
end
section
variable {X:Cx}{st:Stmt}{rest:List Stmt}{t u:TS}{e:Expr}{te:TE}{pos:Pos}
theorem qps_expr(he:QE X e te)(hs:swapsWith e none pos.line X.env=pure false:=by rfl):QS X (.Expr e pos) (tDrop te):=⟨L2.ps_expr he.un hs⟩
end
section
variable {X:Cx}{pos:Pos}
theorem qpg_name{i:Nat}{x:Str}(hN:X.N.Nodup)(hi:X.N[i]?=some x)(hx:Loc X.env.scope x)(hf:X.fn x=true∨X.env.scope.names.lookup x=some .local:=by first | exact .inl rfl | exact .inr rfl | assumption):QG X (.Name x pos) (gName i):=⟨L2.pg_name hN hi hx hf⟩
end
section
variable {X:Cx}{pos:Pos}
theorem qpgs_nil :QGs X [] gNil:=⟨L2.pgs_nil ⟩
end
section
variable {X:Cx}{pos:Pos}
theorem qpgs_cons{e:Expr}{es:List Expr}{t:TG}{u:TGs}(h1:QG X e t)(h2:QGs X es u)(hs:(assignEach (e::es) X.env).map (·.2)=assign e X.env::(assignEach es X.env).map (·.2):=by rfl):QGs X (e::es) (gCons t u):=⟨L2.pgs_cons h1.un h2.un hs⟩
end
section
variable {X:Cx}{pos:Pos}
theorem qpg_sub{o i:Expr}{to ti:TE}{t:TSet}(ho:QE X o to)(hi:QE X i ti)(hs:PSet X t)(ha:∀ v,assign (.Subscript o i pos) X.env v=(do
   let ov <-holding [v] (eval o X.env)
   let iv <-holding [v,ov] (eval i X.env)
   standAt pos
   holding [v,ov,iv] (setItem ov iv v)
   release [v,ov,iv] []):=by intro _; rfl):QG X (.Subscript o i pos) (gSub to ti t):=⟨L2.pg_sub ho.un hi.un hs ha⟩
end
section
variable {X:Cx}{pos:Pos}
theorem qps_asg{tg e:Expr}{te:TE}{g:TG}(he:QE X e te)(hg:QG X tg g)(hs:swapsWithSole [tg] e pos.line X.env=pure false:=by rfl)(hw:swappedStores [tg] e X.env=pure none:=by rfl)(h1:(assignEach [tg] X.env).map (·.2)=[assign tg X.env]:=by rfl):QS X (.Assign [tg] e pos) (tAsg te g):=⟨L2.ps_asg he.un hg.un hs hw h1⟩
end
section
variable {X:Cx}{pos:Pos}
theorem qps_set{i:Nat}{x:Str}{e:Expr}{te:TE}{pos':Pos}(hN:X.N.Nodup)(hi:X.N[i]?=some x)(hx:Loc X.env.scope x)(he:QE X e te)(hs:swapsWith e (some (.Name x pos')) pos.line X.env=pure false:=by rfl)(hf:X.fn x=true∨X.env.scope.names.lookup x=some .local:=by first | exact .inl rfl | exact .inr rfl | assumption):QS X (.Assign [.Name x pos'] e pos) (tAsg te (gName i)):=⟨L2.ps_set hN hi hx he.un hs hf⟩
end
section
variable {X:Cx}{tg:Expr}
theorem qps_for{iter:Expr}{body:List Stmt}{wi:TI}{g:TG}{tb:TS}{pos:Pos}(hp:PassesOwn (model X.prog X.w) X.A X.env X.xe)(hc:X.calm=true)(hi:QI X tg iter wi)(hg:QG X tg g)(hb:QSs X body tb)(hs:∀ x,foldedSetIterable iter X.env x=pure x:=by intro _; rfl):QS X (.For tg iter body [] pos) (tFor wi g tb):=⟨L2.ps_for hp hc hi.un hg.un hb.un hs⟩
end
section
variable {X:Cx}{e:Expr}{es:List Expr}{te:TE}{t:TA}{pos:Pos}
theorem qpa_nil :QA X [] tNil:=⟨L2.pa_nil ⟩
end
section
variable {X:Cx}{e:Expr}{es:List Expr}{te:TE}{t:TA}{pos:Pos}
theorem qpa_cons(ha:QE X e te)(hr:QA X es t)(hs:starEach (e::es) X.env=(false,eval e X.env)::starEach es X.env:=by rfl):QA X (e::es) (tCons te t):=⟨L2.pa_cons ha.un hr.un hs⟩
end
section
variable {X:Cx}{a b:Expr}{ta tb:TE}{pos:Pos}
variable {o e:Expr}{es:List Expr}{to:TE}{t:TA}{name:Str}{apos cpos:Pos}{T id:String}{r:V->List V->Hp->VK->Prop}
theorem qpe_bm0(pa:PlainAttrs T)(slot:Slot T name id)(hty:typeOf (.builtin id)=pure (.type "method_descriptor"))(hm:MtR X id r)(ho:QE X o to)(hbase:attributeBase o name X.env (eval o X.env)=eval o X.env:=by rfl)(hline:(apos.endLine == cpos.line)=true:=by rfl):QE X (.Call (.Attribute o name apos) [] [] cpos) (tBM0 X.K T r to):=⟨L2.pe_bm0 pa slot hty hm ho.un hbase hline⟩
end
section
variable {X:Cx}{a b:Expr}{ta tb:TE}{pos:Pos}
variable {o e:Expr}{es:List Expr}{to:TE}{t:TA}{name:Str}{apos cpos:Pos}{T id:String}{r:V->List V->Hp->VK->Prop}
theorem qpe_bm(pa:PlainAttrs T)(slot:Slot T name id)(hty:typeOf (.builtin id)=pure (.type "method_descriptor"))(hm:MtR X id r)(ho:QE X o to)(ha:QA X (e::es) t)(hbase:attributeBase o name X.env (eval o X.env)=eval o X.env:=by rfl)(hfew:((backTo cpos (starEach (e::es) X.env)).all (fun x=>!x.1)&&(backToKw cpos (keywordEach [] X.env)).all (fun x=>x.1.isSome)
   && decide ((e::es).length+([]:List Keyword).length+(if ([]:List Keyword).isEmpty then 0 else 1) < 30))=true:=by rfl) (hline:(apos.endLine == cpos.line)=true:=by rfl) (hs:starEach (e::es) X.env=(false,eval e X.env)::starEach es X.env:=by rfl) (hplain:(backTo cpos (starEach es X.env)).any (·.1)=false:=by rfl):QE X (.Call (.Attribute o name apos) (e::es) [] cpos) (tBM X.K T r to t):=⟨L2.pe_bm pa slot hty hm ho.un ha.un hbase hfew hline hs hplain⟩
end
section
variable {X:Cx}{o i e value:Expr}{pos pos' tpos:Pos}{td ty tv:TE}
theorem qps_dput(hu:X.A.units+1 < cLine)(ho:QE X o td)(hi:QE X i ty)(hv:QE X value tv)(hs:swapsWith value (some (.Subscript o i pos')) pos.line X.env=pure false):QS X (.Assign [.Subscript o i pos'] value pos) (sDPut td ty tv):=⟨L2.ps_dput hu ho.un hi.un hv.un hs⟩
end
section
variable {X:Cx}
theorem qpv(i:Nat){x:Str}{pos:Pos}(hN:X.N[i]?=some x:=by rfl)(hv:Vis X.env.scope x:=by first | exact Or.inl rfl | exact Or.inr (Or.inl rfl) | exact Or.inr (Or.inr rfl))(hd:(x == ("__debug__":Str))=false:=by decide)(hcd:(x == ("__classdict__":Str))=false:=by decide):QE X (.Name x pos) (tVar i):=⟨L2.pv i hN hv hd hcd⟩
end
section
theorem qpts_nil{X:Cx}:QTs X [] tAll:=⟨L2.pts_nil ⟩
end
section
theorem qpts_one{X:Cx}{c:Expr}{t:TT}(h:QT X c t):QTs X [c] t:=⟨L2.pts_one h.un⟩
end
section
variable {X:Cx}{N:List Str}{scope:Scope}{caps:List (Option Nat)}{tg elt iter:Expr}{ifs:List Expr}{wi:TI}{g:TG}{tt:TT}{te:TE}{pos:Pos}
theorem qpe_lc(hc:X.calm=true)(hi:QI X tg iter wi)(hg:∀ cl C s0 H0 fp,QG (cxComp X N scope cl C s0 H0 fp) tg g)(hgk:KeepG caps g)(ht:∀ cl C s0 H0 fp,QTs (cxComp X N scope cl C s0 H0 fp) ifs tt)(he:∀ cl C s0 H0 fp,QE (cxComp X N scope cl C s0 H0 fp) elt te)(hcap:capOk N X.N scope X.env.scope caps=true:=by rfl)(hkind:scope.kind=.function:=by rfl)(hcell:scope.names.all (fun p=>p.2 != .cell)=true:=by rfl)(hnames:scope.names.all (fun p=>p.2 != .local||scope.names.lookup p.1 == some .local)=true:=by rfl)(hfr:scope.names.all (fun p=>p.2 != .free||(X.env.scope.names.lookup p.1 == some .cell||X.env.scope.names.lookup p.1 == some .free))=true:=by rfl)(hs:∀ x,foldedSetIterable iter X.env x=pure x:=by intro _; rfl):QE X (.ListComp elt [⟨tg,iter,ifs,0⟩] scope pos) (tLC caps wi g tt te):=⟨L2.pe_lc hc hi.un (fun cl C s0 H0 fp=>(hg cl C s0 H0 fp).un) hgk (fun cl C s0 H0 fp=>(ht cl C s0 H0 fp).un) (fun cl C s0 H0 fp=>(he cl C s0 H0 fp).un) hcap hkind hcell hnames hfr hs⟩
end
section
variable {X:Cx}{N:List Str}{scope:Scope}{caps:List (Option Nat)}{tg elt iter:Expr}{ifs:List Expr}{wi:TI}{g:TG}{tt:TT}{te:TE}{pos:Pos}
theorem qps_setLC{i:Nat}{y:Str}{py spos:Pos}(hN:X.N.Nodup)(hiy:X.N[i]?=some y)(hy:X.env.scope.names.lookup y=some .local)(hc:X.calm=true)(hi:QI X tg iter wi)(hg:∀ cl C s0 H0 fp,QG (cxComp X N scope cl C s0 H0 fp) tg g)(hgk:KeepG caps g)(ht:∀ cl C s0 H0 fp,QTs (cxComp X N scope cl C s0 H0 fp) ifs tt)(he:∀ cl C s0 H0 fp,QE (cxComp X N scope cl C s0 H0 fp) elt te)(hsw:swapsWith (.ListComp elt [⟨tg,iter,ifs,0⟩] scope pos) (some (.Name y py)) spos.line X.env=pure true:=by rfl)(hcap:capOk N X.N scope X.env.scope caps=true:=by rfl)(hkind:scope.kind=.function:=by rfl)(hcell:scope.names.all (fun p=>p.2 != .cell)=true:=by rfl)(hnames:scope.names.all (fun p=>p.2 != .local||scope.names.lookup p.1 == some .local)=true:=by rfl)(hfr:scope.names.all (fun p=>p.2 != .free||(X.env.scope.names.lookup p.1 == some .cell||X.env.scope.names.lookup p.1 == some .free))=true:=by rfl)(hs:∀ x,foldedSetIterable iter X.env x=pure x:=by intro _; rfl):QS X (.Assign [.Name y py] (.ListComp elt [⟨tg,iter,ifs,0⟩] scope pos) spos) (tAsg (tLC caps wi g tt te) (gName i)):=⟨L2.ps_setLC hN hiy hy hc hi.un (fun cl C s0 H0 fp=>(hg cl C s0 H0 fp).un) hgk (fun cl C s0 H0 fp=>(ht cl C s0 H0 fp).un) (fun cl C s0 H0 fp=>(he cl C s0 H0 fp).un) hsw hcap hkind hcell hnames hfr hs⟩
end
section
variable {X:Cx}{K:PySem.W.Frag}
theorem qpg_tupK{es:List Expr}{k:Nat}{t:TGs}{n:Nat}{pos:Pos}(hK:X.K=K)(hc:X.calm=true)(h:QGs X es t)(hn:(assignEach es X.env).length=n:=by rfl)(hst:(assignEach es X.env).findIdx? (·.1)=none:=by rfl):QG X (.Tuple es k pos) (gTup K n t):=⟨L2.pg_tupK hK hc h.un hn hst⟩
end
section
variable [TheK]
variable {X:Cx}{M:List Nat}{e a b:Expr}{fa fb:DE}
theorem qne(h:QE X e (cE .n M fa)):QE X e (cE .e M fa):=⟨L3.ne h.un⟩
end
section
variable [TheK]
variable {X:Cx}{M:List Nat}{e a b:Expr}{fa fb:DE}
theorem qeb(h:QE X e (cE .e M fa)):QE X e (cE .b M fa):=⟨L3.eb h.un⟩
end
section
variable [TheK]
variable {X:Cx}{M:List Nat}{e a b:Expr}{fa fb:DE}
theorem qnb(h:QE X e (cE .n M fa)):QE X e (cE .b M fa):=⟨L3.nb h.un⟩
end
section
variable [TheK]
variable {X:Cx}{M:List Nat}{e a b:Expr}{fa fb:DE}
theorem qv_{i:Nat}(hi:M.contains i=false)(h:QE X e (tVar i)):QE X e (cE .e M (dV i)):=⟨L3.e_var hi h.un⟩
end
section
variable [TheK]
variable {X:Cx}{M:List Nat}{e a b:Expr}{fa fb:DE}
theorem qe_raw{i:Nat}(hi:M.contains i=true)(h:QE X e (tVar i)):QE X e (cE .b M (dV i)):=⟨L3.e_raw hi h.un⟩
end
section
variable [TheK]
variable {X:Cx}{M:List Nat}{e a b:Expr}{fa fb:DE}
theorem qe_con{v:V}{t:T}(hr:∀ C H,Rep C H v t)(h:QE X e (tC v)):QE X e (cE .e M (dC t)):=⟨L3.e_con hr h.un⟩
end
section
variable [TheK]
variable {X:Cx}{M:List Nat}{e a b:Expr}{fa fb:DE}
theorem qi_{i j pos}:QE X (.Constant (.int i) j pos) (cE .e M (dC (.int i))):=⟨L3.e_int ⟩
end
section
variable [TheK]
variable {X:Cx}{M:List Nat}{e a b:Expr}{fa fb:DE}
theorem qe_bl{i j pos}:QE X (.Constant (.bool i) j pos) (cE .e M (dC (.bl i))):=⟨L3.e_bl ⟩
end
section
variable [TheK]
variable {X:Cx}{M:List Nat}{e a b:Expr}{fa fb:DE}
theorem qe_str{i j pos}:QE X (.Constant (.str i) j pos) (cE .e M (dC (.str i))):=⟨L3.e_str ⟩
end
section
variable [TheK]
variable {X:Cx}
variable {M:List Nat}{a b:Expr}{fa fb:DE}{pos:Pos}
theorem qe_cat(ha:QE X a (cE .e M fa))(hb:QE X b (cE .b M fb)):QE X (.BinOp a .Add b pos) (cE .n M (d2 gCat fa fb)):=⟨L3.e_cat ha.un hb.un⟩
end
section
variable [TheK]
variable {X:Cx}
variable {M:List Nat}{a b:Expr}{fa fb:DE}{pos:Pos}
theorem qe_sub(ha:QE X a (cE .e M fa))(hb:QE X b (cE .b M fb)):QE X (.BinOp a .Sub b pos) (cE .e M (d2 gSb fa fb)):=⟨L3.e_sub ha.un hb.un⟩
end
section
variable [TheK]
variable {X:Cx}
variable {M:List Nat}{a b:Expr}{fa fb:DE}{pos:Pos}
theorem qe_mul(ha:QE X a (cE .e M fa))(hb:QE X b (cE .b M fb)):QE X (.BinOp a .Mult b pos) (cE .e M (d2 gMul fa fb)):=⟨L3.e_mul ha.un hb.un⟩
end
section
variable [TheK]
variable {X:Cx}
variable {M:List Nat}{a b:Expr}{fa fb:DE}{pos:Pos}
theorem qe_div(ha:QE X a (cE .e M fa))(hb:QE X b (cE .b M fb)):QE X (.BinOp a .FloorDiv b pos) (cE .e M (d2 gDiv fa fb)):=⟨L3.e_div ha.un hb.un⟩
end
section
variable [TheK]
variable {X:Cx}
variable {M:List Nat}{a b:Expr}{fa fb:DE}{pos:Pos}
theorem qe_mod(ha:QE X a (cE .e M fa))(hb:QE X b (cE .b M fb)):QE X (.BinOp a .Mod b pos) (cE .e M (d2 gMod fa fb)):=⟨L3.e_mod ha.un hb.un⟩
end
section
variable [TheK]
variable {X:Cx}
variable {M:List Nat}{a b:Expr}{fa fb:DE}{pos:Pos}
theorem qe_pow(ha:QE X a (cE .e M fa))(hb:QE X b (cE .b M fb)):QE X (.BinOp a .Pow b pos) (cE .e M (d2 gPow fa fb)):=⟨L3.e_pow ha.un hb.un⟩
end
section
variable [TheK]
variable {X:Cx}{M:List Nat}{a b:Expr}{fa fb:DE}{pos:Pos}
theorem qe_eq(hu:X.A.units+8 < cLine)(ha:QE X a (cE .e M fa))(hb:QE X b (cE .b M fb)):QE X (.Compare a [.Eq] [b] pos) (cE .e M (d2 gEq fa fb)):=⟨L3.e_eq hu ha.un hb.un⟩
end
section
variable [TheK]
variable {X:Cx}{M:List Nat}{a b:Expr}{fa fb:DE}{pos:Pos}
theorem qe_le(ha:QE X a (cE .e M fa))(hb:QE X b (cE .b M fb)):QE X (.Compare a [.LtE] [b] pos) (cE .e M (d2 gLe fa fb)):=⟨L3.e_le ha.un hb.un⟩
end
section
variable [TheK]
variable {X:Cx}{M:List Nat}{a b c:Expr}{fa fb:DE}{ft fu:DT}{pos:Pos}{k:Kd}
theorem qt_tru(h:QE X a (cE .b M fa))(he:∀ whole,isTrue a X.env whole=(do let v <-whole; standAt a.pos; holding [v] (truthy v)):=by intro _; rfl):QT X a (cT M (dTru fa)):=⟨L3.t_tru h.un he⟩
end
section
variable [TheK]
variable {X:Cx}{M:List Nat}{a b c:Expr}{fa fb:DE}{ft fu:DT}{pos:Pos}{k:Kd}
theorem qt_eq(hu:X.A.units+8 < cLine)(ha:QE X a (cE .e M fa))(hb:QE X b (cE .b M fb)):QT X (.Compare a [.Eq] [b] pos) (cT M (dB (d2 gEq fa fb))):=⟨L3.t_eq hu ha.un hb.un⟩
end
section
variable [TheK]
variable {X:Cx}{M:List Nat}{a b c:Expr}{fa fb:DE}{ft fu:DT}{pos:Pos}{k:Kd}
theorem qt_ne(hu:X.A.units+8 < cLine)(ha:QE X a (cE .e M fa))(hb:QE X b (cE .b M fb)):QT X (.Compare a [.NotEq] [b] pos) (cT M (dB (d2 gNe fa fb))):=⟨L3.t_ne hu ha.un hb.un⟩
end
section
variable [TheK]
variable {X:Cx}{M:List Nat}{a b c:Expr}{fa fb:DE}{ft fu:DT}{pos:Pos}{k:Kd}
theorem qt_lt(ha:QE X a (cE .e M fa))(hb:QE X b (cE .b M fb)):QT X (.Compare a [.Lt] [b] pos) (cT M (dB (d2 gLt fa fb))):=⟨L3.t_lt ha.un hb.un⟩
end
section
variable [TheK]
variable {X:Cx}{M:List Nat}{a b c:Expr}{fa fb:DE}{ft fu:DT}{pos:Pos}{k:Kd}
theorem qt_gt(ha:QE X a (cE .e M fa))(hb:QE X b (cE .b M fb)):QT X (.Compare a [.Gt] [b] pos) (cT M (dB (d2 gGt fa fb))):=⟨L3.t_gt ha.un hb.un⟩
end
section
variable [TheK]
variable {X:Cx}{M:List Nat}{a b c:Expr}{fa fb:DE}{ft fu:DT}{pos:Pos}{k:Kd}
theorem qt_ge(ha:QE X a (cE .e M fa))(hb:QE X b (cE .b M fb)):QT X (.Compare a [.GtE] [b] pos) (cT M (dB (d2 gGe fa fb))):=⟨L3.t_ge ha.un hb.un⟩
end
section
variable [TheK]
variable {X:Cx}{M:List Nat}{a b c:Expr}{fa fb:DE}{ft fu:DT}{pos:Pos}{k:Kd}
theorem qt_not(h:QT X a (cT M ft)):QT X (.UnaryOp .Not a pos) (cT M (dNot ft)):=⟨L3.t_not h.un⟩
end
section
variable [TheK]
variable {X:Cx}{M:List Nat}{a b c:Expr}{fa fb:DE}{ft fu:DT}{pos:Pos}{k:Kd}
theorem qw_and1(h:QT X a (cT M ft)):QW X (.BoolOp .And [a] pos) (cT M ft):=⟨L3.w_and1 h.un⟩
end
section
variable [TheK]
variable {X:Cx}{M:List Nat}{a b c:Expr}{fa fb:DE}{ft fu:DT}{pos:Pos}{k:Kd}
theorem qw_or1(h:QT X a (cT M ft)):QW X (.BoolOp .Or [a] pos) (cT M ft):=⟨L3.w_or1 h.un⟩
end
section
variable [TheK]
variable {X:Cx}{M:List Nat}{a b c:Expr}{fa fb:DE}{ft fu:DT}{pos:Pos}{k:Kd}
theorem qw_and{rest:List Expr}(ha:QT X a (cT M ft))(hb:QW X (.BoolOp .And (b::rest) pos) (cT M fu)):QW X (.BoolOp .And (a::b::rest) pos) (cT M (dAnd ft fu)):=⟨L3.w_and ha.un hb.un⟩
end
section
variable [TheK]
variable {X:Cx}{M:List Nat}{a b c:Expr}{fa fb:DE}{ft fu:DT}{pos:Pos}{k:Kd}
theorem qw_or{rest:List Expr}(ha:QT X a (cT M ft))(hb:QW X (.BoolOp .Or (b::rest) pos) (cT M fu)):QW X (.BoolOp .Or (a::b::rest) pos) (cT M (dOr ft fu)):=⟨L3.w_or ha.un hb.un⟩
end
section
variable [TheK]
variable {X:Cx}{M:List Nat}{a b c:Expr}{fa fb:DE}{ft fu:DT}{pos:Pos}{k:Kd}
theorem qe_one{op}(h:QE X a (cE .e M fa)):QE X (.BoolOp op [a] pos) (cE .e M fa):=⟨L3.e_one h.un⟩
end
section
variable [TheK]
variable {X:Cx}{M:List Nat}{a b c:Expr}{fa fb:DE}{ft fu:DT}{pos:Pos}{k:Kd}
theorem qe_and{rest:List Expr}(ha:QE X a (cE .e M fa))(hb:QE X (.BoolOp .And (b::rest) pos) (cE .e M fb)):QE X (.BoolOp .And (a::b::rest) pos) (cE .e M (dAndV fa fb)):=⟨L3.e_and ha.un hb.un⟩
end
section
variable [TheK]
variable {X:Cx}{M:List Nat}{e:Expr}{es:List Expr}{fe:DE}{fa:DA}{pos:Pos}
theorem qa_nil :QA X [] (cA M dAn):=⟨L3.a_nil ⟩
end
section
variable [TheK]
variable {X:Cx}{M:List Nat}{e:Expr}{es:List Expr}{fe:DE}{fa:DA}{pos:Pos}
theorem qa_(h:QE X e (cE .e M fe))(ha:QA X es (cA M fa))(hs:starEach (e::es) X.env=(false,eval e X.env)::starEach es X.env:=by rfl):QA X (e::es) (cA M (dAc fe fa)):=⟨L3.a_cons h.un ha.un hs⟩
end
section
variable [TheK]
variable {X:Cx}{M:List Nat}{e:Expr}{es:List Expr}{fe:DE}{fa:DA}{pos:Pos}
theorem qe_lst(h:QA X es (cA M fa)):QE X (.List es pos) (cE .n M (dLst fa)):=⟨L3.e_lst h.un⟩
end
section
variable [TheK]
variable {X:Cx}{M:List Nat}{e:Expr}{es:List Expr}{fe:DE}{fa:DA}{pos:Pos}
theorem qe_tup{x1}(h:QA X es (cA M fa)):QE X (.Tuple es x1 pos) (cE .e M (dTup fa)):=⟨L3.e_tup h.un⟩
end
section
variable [TheK]
variable {X:Cx}{M:List Nat}{e:Expr}{es:List Expr}{fe:DE}{fa:DA}{pos:Pos}
theorem qe_dict :QE X (.Dict [] [] pos) (cE .n M dDict):=⟨L3.e_dict ⟩
end
section
variable [TheK]
variable {X:Cx}{M:List Nat}{e:Expr}{lo hi:Option Expr}{fe:DE}{fl fh:DO}{pos p2:Pos}
theorem qo_none :QO X none (cO M dOn):=⟨L3.o_none ⟩
end
section
variable [TheK]
variable {X:Cx}{M:List Nat}{e:Expr}{lo hi:Option Expr}{fe:DE}{fl fh:DO}{pos p2:Pos}
theorem qo_some(h:QE X e (cE .e M fe)):QO X (some e) (cO M (dOs fe)):=⟨L3.o_some h.un⟩
end
section
variable [TheK]
variable {X:Cx}{M:List Nat}{e:Expr}{lo hi:Option Expr}{fe:DE}{fl fh:DO}{pos p2:Pos}
theorem qe_sl(hK:X.K=TheK.K)(he:QE X e (cE .e M fe))(hl:QO X lo (cO M fl))(hu:QO X hi (cO M fh)):QE X (.Subscript e (.Slice lo hi none p2) pos) (cE .n M (dSl gSl fe fl fh)):=⟨L3.e_sl hK he.un hl.un hu.un⟩
end
section
variable [TheK]
variable {F:Fr}{O O' O'':Addr->Prop}{io M M' Mb:List Nat}{s s':Sg}{σ:L2.St}{H H' H'':Hp}{v:V}{t:T}{a:Addr}{rk:Kd}
theorem qs_pre{X:Cx}{st:Stmt}{d:DS}{Mx:List Nat}(h:QS X st (cS rk io M' Mx Mb d))(hM:M'.all (M.contains ·)=true:=by rfl)(hio:io.all (M'.contains ·)=true:=by rfl):QS X st (cS rk io M Mx Mb d):=⟨L3.s_pre h.un hM hio⟩
end
section
variable [TheK]
variable {X:Cx}{rk:Kd}{io M M' M'' Mb:List Nat}{st:Stmt}{sts:List Stmt}{e c:Expr}{a b:List Stmt}{d d':DS}{fe:DE}{ft:DT}{pos pos':Pos}
theorem qss_nil :QSs X [] (cS rk io M M Mb dNext):=⟨L3.ss_nil ⟩
end
section
variable [TheK]
variable {X:Cx}{rk:Kd}{io M M' M'' Mb:List Nat}{st:Stmt}{sts:List Stmt}{e c:Expr}{a b:List Stmt}{d d':DS}{fe:DE}{ft:DT}{pos pos':Pos}
theorem qss_one(h:QS X st (cS rk io M M' Mb d)):QSs X [st] (cS rk io M M' Mb d):=⟨L3.ss_one h.un⟩
end
section
variable [TheK]
variable {X:Cx}{rk:Kd}{io M M' M'' Mb:List Nat}{st:Stmt}{sts:List Stmt}{e c:Expr}{a b:List Stmt}{d d':DS}{fe:DE}{ft:DT}{pos pos':Pos}
theorem qs_(h:QS X st (cS rk io M M' Mb d))(h2:QSs X sts (cS rk io M' M'' Mb d')):QSs X (st::sts) (cS rk io M M'' Mb (dSeq d d')):=⟨L3.ss_cons h.un h2.un⟩
end
section
variable [TheK]
variable {X:Cx}{rk:Kd}{io M M' M'' Mb:List Nat}{st:Stmt}{sts:List Stmt}{e c:Expr}{a b:List Stmt}{d d':DS}{fe:DE}{ft:DT}{pos pos':Pos}
theorem qs_if(hc:QT X c (cT M ft))(ha:QSs X a (cS rk io M M' Mb d))(hb:QSs X b (cS rk io M M' Mb d')):QS X (.If c a b pos) (cS rk io M M' Mb (dIfS ft d d')):=⟨L3.s_if hc.un ha.un hb.un⟩
end
section
variable [TheK]
variable {X:Cx}{rk:Kd}{io M M' M'' Mb:List Nat}{st:Stmt}{sts:List Stmt}{e c:Expr}{a b:List Stmt}{d d':DS}{fe:DE}{ft:DT}{pos pos':Pos}
theorem qs_setE{i:Nat}(h:QS X st (tAsg (cE .e M fe) (gName i)))(hM:setsE M M' io i=true:=by rfl):QS X st (cS rk io M M' Mb (dSet i fe)):=⟨L3.s_setE h.un hM⟩
end
section
variable [TheK]
variable {X:Cx}{rk:Kd}{io M M' M'' Mb:List Nat}{st:Stmt}{sts:List Stmt}{e c:Expr}{a b:List Stmt}{d d':DS}{fe:DE}{ft:DT}{pos pos':Pos}
theorem qs_setN{i:Nat}(h:QS X st (tAsg (cE .n M fe) (gName i)))(hM:setsN M M' io i=true:=by rfl):QS X st (cS rk io M M' Mb (dSet i fe)):=⟨L3.s_setN h.un hM⟩
end
section
variable [TheK]
variable {X:Cx}{rk:Kd}{io M M' M'' Mb:List Nat}{st:Stmt}{sts:List Stmt}{e c:Expr}{a b:List Stmt}{d d':DS}{fe:DE}{ft:DT}{pos pos':Pos}
theorem qs_do{k:Kd}(hk:k=.e∨k=.b)(he:QE X e (cE k M fe))(hs:swapsWith e none pos.line X.env=pure false:=by rfl):QS X (.Expr e pos) (cS rk io M M Mb (dDo fe)):=⟨L3.s_do hk he.un hs⟩
end
section
variable [TheK]
variable {X:Cx}{rk:Kd}{io M M' M'' Mb:List Nat}{st:Stmt}{sts:List Stmt}{e c:Expr}{a b:List Stmt}{d d':DS}{fe:DE}{ft:DT}{pos pos':Pos}
theorem qs_retE(he:QE X e (cE .e M fe)):QS X (.Return (some e) pos) (cS .e io M M' Mb (dRetI io fe)):=⟨L3.s_retE he.un⟩
end
section
variable [TheK]
variable {X:Cx}{rk:Kd}{io M M' M'' Mb:List Nat}{st:Stmt}{sts:List Stmt}{e c:Expr}{a b:List Stmt}{d d':DS}{fe:DE}{ft:DT}{pos pos':Pos}
theorem qs_retN(he:QE X e (cE .n M fe)):QS X (.Return (some e) pos) (cS .n io M M' Mb (dRetI io fe)):=⟨L3.s_retN he.un⟩
end
section
variable [TheK]
variable {X:Cx}{rk:Kd}{io M M' Mb:List Nat}{st:Stmt}{fk fv:DE}
theorem qs_put{i:Nat}(hi:M.contains i=true)(h:QS X st (sDPut (tVar i) (cE .e M fk) (cE .e M fv))):QS X st (cS rk io M M Mb (dPut i fk fv)):=⟨L3.s_put hi h.un⟩
end
section
variable [TheK]
variable {X:Cx}{rk:Kd}{io M M' Mb:List Nat}{st:Stmt}{fk fv:DE}
theorem qs_setI{i:Nat}(hi:M.contains i=true)(h:QS X st (tAsg (cE .e M fv) (gSub (tVar i) (cE .e M fk) rSetL))):QS X st (cS rk io M M Mb (dSetI i fk fv)):=⟨L3.s_setI hi h.un⟩
end
section
variable [TheK]
variable {X:Cx}{M:List Nat}{tg e:Expr}{fe:DE}{fa:DA}
theorem qi_range1{a:Expr}{p pos:Pos}(hg:Gl X "range")(hm:X.mg "range"=none)(ha:QA X [a] (cA M fa))(hs:starEach [a] X.env=[(false,eval a X.env)]:=by rfl):QI X tg (.Call (.Name "range" p) [a] [] pos) (cI M (dRg1 fa)):=⟨L3.i_range1 hg hm ha.un hs⟩
end
section
variable [TheK]
variable {X:Cx}{M:List Nat}{tg e:Expr}{fe:DE}{fa:DA}
theorem qi_range2{a b:Expr}{p pos:Pos}(hg:Gl X "range")(hm:X.mg "range"=none)(ha:QA X [a,b] (cA M fa))(hs:starEach [a,b] X.env=[(false,eval a X.env),(false,eval b X.env)]:=by rfl)(hs2:starEach [b] X.env=[(false,eval b X.env)]:=by rfl):QI X tg (.Call (.Name "range" p) [a,b] [] pos) (cI M (dRg2 fa)):=⟨L3.i_range2 hg hm ha.un hs hs2⟩
end
section
variable [TheK]
variable {X:Cx}{M:List Nat}{tg e:Expr}{fe:DE}{fa:DA}
theorem qi_enum{elts:List Expr}{x1:Nat}{tp:Pos}{a:Expr}{p pos:Pos}(hg:Gl X "enumerate")(hm:X.mg "enumerate"=none)(ha:QA X [a] (cA M fa))(hs:starEach [a] X.env=[(false,eval a X.env)]:=by rfl):QI X (.Tuple elts x1 tp) (.Call (.Name "enumerate" p) [a] [] pos) (cI M (dEn fa)):=⟨L3.i_enum hg hm ha.un hs⟩
end
section
variable [TheK]
variable {X:Cx}{rk:Kd}{io M M' Mb:List Nat}{tg iter:Expr}{body:List Stmt}{fi:DI}{g:DG}{db:DS}{pos:Pos}
theorem qg_name{i:Nat}(h:QG X tg (gName i))(hi:M.contains i=false:=by rfl)(hio:io.all (M.contains ·)=true:=by rfl):QG X tg (cG io M (dGn i)):=⟨L3.g_name h.un hi hio⟩
end
section
variable [TheK]
variable {X:Cx}{rk:Kd}{io M M' Mb:List Nat}{tg iter:Expr}{body:List Stmt}{fi:DI}{g:DG}{db:DS}{pos:Pos}
theorem qs_for(h:QS X (.For tg iter body [] pos) (tFor (cI M fi) (cG io M g) (cS rk io M M M db))):QS X (.For tg iter body [] pos) (cS rk io M M Mb (dFor fi g db)):=⟨L3.s_for h.un⟩
end
section
variable [TheK]
variable {X:Cx}{rk:Kd}{io M M' Mb:List Nat}{tg iter:Expr}{body:List Stmt}{fi:DI}{g:DG}{db:DS}{pos:Pos}
theorem qs_while{c:Expr}{ft:DT}(n:Nat)(hp:PassesOwn (model X.prog X.w) X.A X.env X.xe)(hc:QT X c (cT M ft))(hb:QSs X body (cS rk io M M M db)):QS X (.While c body [] pos) (cS rk io M M Mb (whileN ft db n)):=⟨L3.s_while n hp hc.un hb.un⟩
end
section
variable [TheK]
variable {X:Cx}{M:List Nat}{a b c e:Expr}{fa fb fe:DE}{pos p:Pos}
theorem qe_item(hK:X.K=TheK.K)(hu:X.A.units+1 < cLine)(ha:QE X a (cE .e M fa))(hb:QE X b (cE .b M fb))(hs:PlainIx b):QE X (.Subscript a b pos) (cE .e M (d2 gItem fa fb)):=⟨L3.e_item hK hu ha.un hb.un hs⟩
end
section
variable [TheK]
variable {X:Cx}{M:List Nat}{a b c e:Expr}{fa fb fe:DE}{pos p:Pos}
theorem qe_itemV{i:Nat}(hK:X.K=TheK.K)(hi:M.contains i=true)(hu:X.A.units+1 < cLine)(ha:QE X a (tVar i))(hb:QE X b (cE .b M fb))(hs:PlainIx b):QE X (.Subscript a b pos) (cE .e M (d2v gItem i fb)):=⟨L3.e_itemV hK hi hu ha.un hb.un hs⟩
end
section
variable [TheK]
variable {X:Cx}{M:List Nat}{a b c e:Expr}{fa fb fe:DE}{pos p:Pos}
theorem qe_inA(hu:X.A.units+1 < cLine)(ha:QE X a (cE .e M fa))(hb:QE X b (cE .b M fb))(hm:behindInMarks .In b=false):QE X (.Compare a [.In] [b] pos) (cE .e M (d2 gInA fa fb)):=⟨L3.e_inA hu ha.un hb.un hm⟩
end
section
variable [TheK]
variable {X:Cx}{M:List Nat}{a b c e:Expr}{fa fb fe:DE}{pos p:Pos}
theorem qt_inA(hu:X.A.units+1 < cLine)(ha:QE X a (cE .e M fa))(hb:QE X b (cE .b M fb))(hm:behindInMarks .In b=false):QT X (.Compare a [.In] [b] pos) (cT M (dB (d2 gInA fa fb))):=⟨L3.t_inA hu ha.un hb.un hm⟩
end
section
variable [TheK]
variable {X:Cx}{M:List Nat}{a b c e:Expr}{fa fb fe:DE}{pos p:Pos}
theorem qt_notinA(hu:X.A.units+1 < cLine)(ha:QE X a (cE .e M fa))(hb:QE X b (cE .b M fb))(hm:behindInMarks .NotIn b=false):QT X (.Compare a [.NotIn] [b] pos) (cT M (dB (d2 gNotInA fa fb))):=⟨L3.t_notinA hu ha.un hb.un hm⟩
end
section
variable [TheK]
variable {X:Cx}{M:List Nat}{a b c e:Expr}{fa fb fe:DE}{pos p:Pos}
theorem qe_plus(ha:QE X a (cE .e M fa))(hb:QE X b (cE .b M fb)):QE X (.BinOp a .Add b pos) (cE .e M (d2 gPlus fa fb)):=⟨L3.e_plus ha.un hb.un⟩
end
section
variable [TheK]
variable {X:Cx}{M:List Nat}{a b c e:Expr}{fa fb fe:DE}{pos p:Pos}
theorem qe_slA{lo hi:Option Expr}{fl fh:DO}{p2:Pos}(hK:X.K=TheK.K)(he:QE X e (cE .e M fe))(hl:QO X lo (cO M fl))(hu:QO X hi (cO M fh)):QE X (.Subscript e (.Slice lo hi none p2) pos) (cE .e M (dSl gSlA fe fl fh)):=⟨L3.e_slA hK he.un hl.un hu.un⟩
end
section
variable [TheK]
variable {X:Cx}{M:List Nat}{a b c e:Expr}{fa fb fe:DE}{pos p:Pos}
theorem qi_any{tg:Expr}(hK:X.K=TheK.K)(h:QE X e (cE .e M fe)):QI X tg e (cI M (dItA fe)):=⟨L3.i_any hK h.un⟩
end
section
variable [TheK]
variable {X:Cx}{M:List Nat}{a b c e:Expr}{fa fb fe:DE}{pos p:Pos}
variable {es:List Expr}{fs:DA}{x:Str}{k:Nat}{f:Addr}{fd:FuncData}{ps:List Str}{np:Nat}
theorem qe_call{fn:List T->Option T}(F:FnOk X.prog X.w X.K X.mg X.base CX0 k f fd ps (spP .e np fn))(hr:Room k X.A)(hg:Gl X x)(hm:X.mg x=some (.ref f))(hk:PySem.W.keepIn X.K (.ref f)=true)(hb:Binds X.K fd ps [])(ha:QA X (e::es) (cA M fs))(ar:Ar fs np)(hdb:(x == ("__debug__":Str))=false:=by decide)(he:starEach (e::es) X.env=(false,eval e X.env)::starEach es X.env:=by rfl)(hpl:(backTo pos (starEach es X.env)).any (·.1)=false:=by rfl):QE X (.Call (.Name x p) (e::es) [] pos) (cE .e M (dCall fn fs)):=⟨L3.e_call F hr hg hm hk hb ha.un ar hdb he hpl⟩
end
section
variable [TheK]
variable {X:Cx}{M:List Nat}{a b c e:Expr}{fa fb fe:DE}{pos p:Pos}
variable {es:List Expr}{fs:DA}{x:Str}{k:Nat}{f:Addr}{fd:FuncData}{ps:List Str}{np:Nat}
theorem qe_callN{fn:List T->Option T}(F:FnOk X.prog X.w X.K X.mg X.base CX0 k f fd ps (spP .n np fn))(hr:Room k X.A)(hg:Gl X x)(hm:X.mg x=some (.ref f))(hk:PySem.W.keepIn X.K (.ref f)=true)(hb:Binds X.K fd ps [])(ha:QA X (e::es) (cA M fs))(ar:Ar fs np)(hdb:(x == ("__debug__":Str))=false:=by decide)(he:starEach (e::es) X.env=(false,eval e X.env)::starEach es X.env:=by rfl)(hpl:(backTo pos (starEach es X.env)).any (·.1)=false:=by rfl):QE X (.Call (.Name x p) (e::es) [] pos) (cE .n M (dCall fn fs)):=⟨L3.e_callN F hr hg hm hk hb ha.un ar hdb he hpl⟩
end
section
variable [TheK]
variable {X:Cx}{M:List Nat}{a b c e:Expr}{fa fb fe:DE}{pos p:Pos}
variable {es:List Expr}{fs:DA}{x:Str}{k:Nat}{f:Addr}{fd:FuncData}{ps:List Str}{np:Nat}
theorem qe_callI{fn:List T->Option (T × T)}{i:Nat}(hi:M.contains i=true)(F:FnOk X.prog X.w X.K X.mg X.base CX0 k f fd ps (spI .e (np+1) fn))(hr:Room k X.A)(hg:Gl X x)(hm:X.mg x=some (.ref f))(hk:PySem.W.keepIn X.K (.ref f)=true)(hb:Binds X.K fd ps [])(h0:QE X e (tVar i))(ha:QA X es (cA M fs))(ar:Ar fs np)(hdb:(x == ("__debug__":Str))=false:=by decide)(he:starEach (e::es) X.env=(false,eval e X.env)::starEach es X.env:=by rfl)(hpl:(backTo pos (starEach es X.env)).any (·.1)=false:=by rfl):QE X (.Call (.Name x p) (e::es) [] pos) (cE .e M (dCallI fn i fs)):=⟨L3.e_callI hi F hr hg hm hk hb h0.un ha.un ar hdb he hpl⟩
end
section
variable [TheK]
variable {X:Cx}{M:List Nat}{a b c e:Expr}{fa fb fe:DE}{pos p:Pos}
variable {es:List Expr}{fs:DA}{x:Str}{k:Nat}{f:Addr}{fd:FuncData}{ps:List Str}{np:Nat}
theorem qe_callT{fn:List T->Option (T × T)}{rk:Kd}(hrk:rk=.e∨rk=.n)(F:FnOk X.prog X.w X.K X.mg X.base CX0 k f fd ps (spI rk (np+1) fn))(hr:Room k X.A)(hg:Gl X x)(hm:X.mg x=some (.ref f))(hk:PySem.W.keepIn X.K (.ref f)=true)(hb:Binds X.K fd ps [])(h0:QE X e (cE .n M fe))(ha:QA X es (cA M fs))(ar:Ar fs np)(hdb:(x == ("__debug__":Str))=false:=by decide)(he:starEach (e::es) X.env=(false,eval e X.env)::starEach es X.env:=by rfl)(hpl:(backTo pos (starEach es X.env)).any (·.1)=false:=by rfl):QE X (.Call (.Name x p) (e::es) [] pos) (cE rk M (dCallN fn fe fs)):=⟨L3.e_callT hrk F hr hg hm hk hb h0.un ha.un ar hdb he hpl⟩
end
section
variable [TheK]
variable {X:Cx}{M:List Nat}{a b c e:Expr}{fa fb fe:DE}{pos p:Pos}
variable {es:List Expr}{fs:DA}{x:Str}{k:Nat}{f:Addr}{fd:FuncData}{ps:List Str}{np:Nat}
theorem qe_len(hK:X.K=TheK.K)(hg:Gl X "len")(hm:X.mg "len"=none)(h:QE X e (cE .b M fe))(he:starEach [e] X.env=(false,eval e X.env)::starEach [] X.env:=by rfl)(hpl:(backTo pos (starEach [] X.env)).any (·.1)=false:=by rfl):QE X (.Call (.Name "len" p) [e] [] pos) (cE .e M (d1 gLen fe)):=⟨L3.e_len hK hg hm h.un he hpl⟩
end
section
variable [TheK]
variable {X:Cx}{M:List Nat}{a b c e:Expr}{fa fb fe:DE}{pos p:Pos}
variable {es:List Expr}{fs:DA}{x:Str}{k:Nat}{f:Addr}{fd:FuncData}{ps:List Str}{np:Nat}
theorem qe_isi{cn:String}{ce:Expr}(hc:okTy cn=true)(hg:Gl X "isinstance")(hm:X.mg "isinstance"=none)(h:QE X e (cE .b M fe))(h2:QE X ce (tC (.ty cn)))(he:starEach [e,ce] X.env=(false,eval e X.env)::starEach [ce] X.env:=by rfl)(he2:starEach [ce] X.env=(false,eval ce X.env)::starEach [] X.env:=by rfl)(hpl:(backTo pos (starEach [ce] X.env)).any (·.1)=false:=by rfl):QE X (.Call (.Name "isinstance" p) [e,ce] [] pos) (cE .e M (dIsi cn fe)):=⟨L3.e_isi hc hg hm h.un h2.un he he2 hpl⟩
end
section
variable [TheK]
variable {X:Cx}{M:List Nat}{a b c e:Expr}{fa fb fe:DE}{pos p:Pos}
variable {es:List Expr}{fs:DA}{x:Str}{k:Nat}{f:Addr}{fd:FuncData}{ps:List Str}{np:Nat}
theorem qe_append{i:Nat}{o:Expr}{apos:Pos}(hi:M.contains i=true)(h:QE X (.Call (.Attribute o "append" apos) (e::es) [] pos) (tBM X.K "list" rAppend (tVar i) (cA M fs))):QE X (.Call (.Attribute o "append" apos) (e::es) [] pos) (cE .e M (dMut mApp i fs)):=⟨L3.e_append hi h.un⟩
end
section
variable [TheK]
variable {X:Cx}{M:List Nat}{a b c e:Expr}{fa fb fe:DE}{pos p:Pos}
variable {es:List Expr}{fs:DA}{x:Str}{k:Nat}{f:Addr}{fd:FuncData}{ps:List Str}{np:Nat}
theorem qe_lc{Mi:List Nat}{caps:List (Option Nat)}{fi:DI}{g:TG}{dg:DG}{ft:DT}{tt:TT}(c:capB caps M Mi=true)(hg:TgOk g dg Mi caps)(htt:∀ σ H Q,cT Mi ft σ H Q->tt σ H Q)(h:QE X e (tLC caps (cI M fi) g tt (cE .e Mi fe))):QE X e (cE .n M (dLC M caps fi dg ft fe)):=⟨L3.e_lc c hg htt h.un⟩
end
section
variable [TheK]
variable {X:Cx}{M:List Nat}{a b c e:Expr}{fa fb fe:DE}{pos p:Pos}
variable {es:List Expr}{fs:DA}{x:Str}{k:Nat}{f:Addr}{fd:FuncData}{ps:List Str}{np:Nat}
theorem qs_lc{st:Stmt}{Mi:List Nat}{caps:List (Option Nat)}{fi:DI}{g:TG}{g2:TG}{dg:DG}{ft:DT}{tt:TT}(c:capB caps M Mi=true)(hg:TgOk g dg Mi caps)(htt:∀ σ H Q,cT Mi ft σ H Q->tt σ H Q)(h:QS X st (tAsg (tLC caps (cI M fi) g tt (cE .e Mi fe)) g2)):QS X st (tAsg (cE .n M (dLC M caps fi dg ft fe)) g2):=⟨L3.s_lc c hg htt h.un⟩
end
section
variable [TheK]
variable {X:Cx}{M:List Nat}{a b c e:Expr}{fa fb fe:DE}{pos p:Pos}
variable {es:List Expr}{fs:DA}{x:Str}{k:Nat}{f:Addr}{fd:FuncData}{ps:List Str}{np:Nat}
theorem qs_nE{st:Stmt}{g2:TG}{ff:DE}(h:QS X st (tAsg (cE .n M ff) g2)):QS X st (tAsg (cE .e M ff) g2):=⟨L3.s_nE h.un⟩
end
section
variable [TheK]
variable {X:Cx}{M:List Nat}{a b c e:Expr}{fa fb fc fe fk:DE}{pos p:Pos}
theorem qe_listA(hK:X.K=TheK.K)(hc:X.calm=true)(hg:Gl X "list")(hm:X.mg "list"=none)(h:QE X e (cE .b M fe))(he:starEach [e] X.env=(false,eval e X.env)::starEach [] X.env:=by rfl)(hpl:(backTo pos (starEach [] X.env)).any (·.1)=false:=by rfl):QE X (.Call (.Name "list" p) [e] [] pos) (cE .n M (d1 gListA fe)):=⟨L3.e_listA hK hc hg hm h.un he hpl⟩
end
section
variable [TheK]
variable {X:Cx}{M:List Nat}{e st:Expr}{fe:DE}{fk:DO}{pos p2:Pos}
theorem qe_listRange{a:Expr}{fa:DA}{p p' pos':Pos}(hc:X.calm=true)(hg:Gl X "list")(hm:X.mg "list"=none)(hg':Gl X "range")(hm':X.mg "range"=none)(ha:QA X [a] (cA M fa))(hs:starEach [a] X.env=[(false,eval a X.env)]:=by rfl)(hs':starEach [.Call (.Name "range" p') [a] [] pos'] X.env=[(false,eval (.Call (.Name "range" p') [a] [] pos') X.env)]:=by rfl):QE X (.Call (.Name "list" p) [.Call (.Name "range" p') [a] [] pos'] [] pos) (cE .n M (dLR fa)):=⟨L3.e_listRange hc hg hm hg' hm' ha.un hs hs'⟩
end
section
variable [TheK]
variable {X:Cx}{M:List Nat}{e o:Expr}{fa fe:DE}{p pos apos:Pos}
theorem qe_all(hK:X.K=TheK.K)(hc:X.calm=true)(hg:Gl X "all")(hm:X.mg "all"=none)(h:QE X e (cE .b M fe))(he:starEach [e] X.env=(false,eval e X.env)::starEach [] X.env:=by rfl)(hpl:(backTo pos (starEach [] X.env)).any (·.1)=false:=by rfl):QE X (.Call (.Name "all" p) [e] [] pos) (cE .e M (d1 gAll fe)):=⟨L3.e_all hK hc hg hm h.un he hpl⟩
end
section
variable [TheK]
theorem qs_kn{X:Cx}{st:Stmt}{d:DS}{rk:Kd}{io M M' Mx Mb:List Nat}{i:Nat}(h:QS X st (cS rk io M' Mx Mb d))(hi:M.contains i=true:=by rfl)(hM:M'.all (fun j=>M.contains j&&j != i)=true:=by rfl)(hM2:M.all (fun j=>M'.contains j||j == i)=true:=by rfl)(hio:io.all (M'.contains ·)=true:=by rfl):QS X st (cS rk io M Mx Mb (dFzS i d)):=⟨L3.s_kn h.un hi hM hM2 hio⟩
end
section
variable [TheK]
variable {X:Cx}{M:List Nat}{e o a b c:Expr}{fa fb fc fe:DE}{p pos apos:Pos}
theorem qi_vals{tg:Expr}(h:QE X o (cE .e M fe))(hbase:attributeBase o "values" X.env (eval o X.env)=eval o X.env:=by rfl)(hline:(apos.endLine == pos.line)=true:=by rfl):QI X tg (.Call (.Attribute o "values" apos) [] [] pos) (cI M (dItW fe)):=⟨L3.i_vals h.un hbase hline⟩
end
section
variable [TheK]
variable {X:Cx}{M:List Nat}{e o a b c:Expr}{fa fb fc fe:DE}{p pos apos:Pos}
theorem qe_getV{i:Nat}{f:Expr}{fx:DE}(hi:M.contains i=true)(hu:X.A.units+1 < cLine)(h0:QE X o (tVar i))(hk:QE X e (cE .e M fe))(hx:QE X f (cE .e M fx))(m:M2 X o "get" apos e f pos):QE X (.Call (.Attribute o "get" apos) [e,f] [] pos) (cE .e M (dGetV i fe fx)):=⟨L3.e_getV hi hu h0.un hk.un hx.un m⟩
end
section
variable [TheK]
variable {X:Cx}{M:List Nat}{e o a b c:Expr}{fa fb fc fe:DE}{p pos apos:Pos}
theorem qe_leLe(ha:QE X a (cE .e M fa))(hb:QE X b (cE .e M fb))(hc:QE X c (cE .e M fc))(hm:lastMarks [.LtE,.LtE] [b,c]=false:=by with_unfolding_all rfl):QE X (.Compare a [.LtE,.LtE] [b,c] pos) (cE .e M (dCh gLeA gLeA fa fb fc)):=⟨L3.e_leLe ha.un hb.un hc.un hm⟩
end
section
variable [TheK]
variable {X:Cx}{M:List Nat}{e o a b c:Expr}{fa fb fc fe:DE}{p pos apos:Pos}
theorem qt_leLe(ha:QE X a (cE .e M fa))(hb:QE X b (cE .e M fb))(hc:QE X c (cE .e M fc))(hm:lastMarks [.LtE,.LtE] [b,c]=false:=by with_unfolding_all rfl):QT X (.Compare a [.LtE,.LtE] [b,c] pos) (cT M (dB (dCh gLeA gLeA fa fb fc))):=⟨L3.t_leLe ha.un hb.un hc.un hm⟩
end
section
variable [TheK]
variable {X:Cx}{M:List Nat}{e o a b c:Expr}{fa fb fc fe:DE}{p pos apos:Pos}
theorem qe_ltLt(ha:QE X a (cE .e M fa))(hb:QE X b (cE .e M fb))(hc:QE X c (cE .e M fc))(hm:lastMarks [.Lt,.Lt] [b,c]=false:=by with_unfolding_all rfl):QE X (.Compare a [.Lt,.Lt] [b,c] pos) (cE .e M (dCh gLt gLt fa fb fc)):=⟨L3.e_ltLt ha.un hb.un hc.un hm⟩
end
section
variable [TheK]
theorem qs_never{X:Cx}{st:Stmt}{rk:Kd}{io M M' Mb:List Nat}:QS X st (cS rk io M M' Mb dNever):=⟨L3.s_never ⟩
end
section
variable [TheK]
variable {X:Cx}{rk:Kd}{io M M' Mb:List Nat}{x:Nat}{st:Stmt}{sts:List Stmt}{c:Expr}{a b:List Stmt}{d d':DS}{ft:DT}{fe:DE}{pos:Pos}
theorem qss_dnil :QSs X [] (cD rk io M x dNext):=⟨L3.ss_dnil ⟩
end
section
variable [TheK]
variable {X:Cx}{rk:Kd}{io M M' Mb:List Nat}{x:Nat}{st:Stmt}{sts:List Stmt}{c:Expr}{a b:List Stmt}{d d':DS}{ft:DT}{fe:DE}{pos:Pos}
theorem qss_done(h:QS X st (cD rk io M x d)):QSs X [st] (cD rk io M x d):=⟨L3.ss_done h.un⟩
end
section
variable [TheK]
variable {X:Cx}{rk:Kd}{io M M' Mb:List Nat}{x:Nat}{st:Stmt}{sts:List Stmt}{c:Expr}{a b:List Stmt}{d d':DS}{ft:DT}{fe:DE}{pos:Pos}
theorem qss_dcons(h:QS X st (cD rk io M x d))(h2:QSs X sts (cD rk io M x d')):QSs X (st::sts) (cD rk io M x (dSeq d d')):=⟨L3.ss_dcons h.un h2.un⟩
end
section
variable [TheK]
variable {X:Cx}{rk:Kd}{io M M' Mb:List Nat}{x:Nat}{st:Stmt}{sts:List Stmt}{c:Expr}{a b:List Stmt}{d d':DS}{ft:DT}{fe:DE}{pos:Pos}
theorem qs_dif(hc:QT X c (cT M ft))(ha:QSs X a (cD rk io M x d))(hb:QSs X b (cD rk io M x d')):QS X (.If c a b pos) (cD rk io M x (dIfD M ft d d')):=⟨L3.s_dif hc.un ha.un hb.un⟩
end
section
variable [TheK]
variable {X:Cx}{rk:Kd}{io M M' Mb:List Nat}{x:Nat}{st:Stmt}{sts:List Stmt}{c:Expr}{a b:List Stmt}{d d':DS}{ft:DT}{fe:DE}{pos:Pos}
theorem qss_drt(h:QSs X sts (cS rk io M M' Mb d)):QSs X sts (cD rk io M x (dRtD d)):=⟨L3.ss_drt h.un⟩
end
section
variable [TheK]
variable {X:Cx}{rk:Kd}{io M Mb:List Nat}{x np:Nat}{st:Stmt}{sts:List Stmt}{d:DS}{fn:List T->Option T}{fa:DA}
theorem qss_deep2(hxM:M.contains x=false)(hio:io.all (M.contains ·)=true)(ar:Ar fa np)(h:QS X st (tAsg (tCall (spD np fn) [] E0 (cA M fa)) (gName x)))(h2:QSs X sts (cD rk io M x d)):QSs X (st::sts) (cS rk io M M Mb (dDeep2 fn fa x d)):=⟨L3.ss_deep2 hxM hio ar h.un h2.un⟩
end
section
variable [TheK]
variable {X:Cx}{rk:Kd}{io M Mb:List Nat}{x np:Nat}{st:Stmt}{sts:List Stmt}{d:DS}{fn:List T->Option T}{fa:DA}
theorem qe_deep2{e:Expr}{es:List Expr}{p pos:Pos}{k:Nat}{f:Addr}{fd:FuncData}{ps:List Str}{y:Str}(F:FnOk X.prog X.w X.K X.mg X.base CX0 k f fd ps (spD np fn))(hr:Room k X.A)(hg:Gl X y)(hm:X.mg y=some (.ref f))(hk:PySem.W.keepIn X.K (.ref f)=true)(hb:Binds X.K fd ps [])(ha:QA X (e::es) (cA M fa))(hdb:(y == ("__debug__":Str))=false:=by decide)(he:starEach (e::es) X.env=(false,eval e X.env)::starEach es X.env:=by rfl)(hpl:(backTo pos (starEach es X.env)).any (·.1)=false:=by rfl):QE X (.Call (.Name y p) (e::es) [] pos) (tCall (spD np fn) [] E0 (cA M fa)):=⟨L3.e_deep2 F hr hg hm hk hb ha.un hdb he hpl⟩
end
section
variable [TheK]
variable {X:Cx}{rk:Kd}{io M:List Nat}{x a y:Nat}{ft:DT}{tg xe c ae:Expr}{rb:List Stmt}{dr:DS}{p1 p2 pos:Pos}{z:Str}
theorem qs_dapx{fe:DE}{st:Stmt}(h:QS X st (tDrop (tBM X.K "list" rAppend (tVar x) (tCons (cE .e M fe) tNil)))):QS X st (cD rk io M x (dApxD M x fe)):=⟨L3.s_dapx h.un⟩
end
section
variable [TheK]
variable {X:Cx}{rk:Kd}{io M M' Mb:List Nat}{x k:Nat}{st:Stmt}{e a b:Expr}{es:List Expr}{fe f1 f2 f3:DE}{fa:DA}{pos p p' pos':Pos}
theorem qs_retD(he:QE X e (cED M fe)):QS X (.Return (some e) pos) (cS .b [] M M' Mb (dRetI [] fe)):=⟨L3.s_retD he.un⟩
end
section
variable [TheK]
variable {X:Cx}{M:List Nat}{e:Expr}{fe:DE}{pos p:Pos}{k:Nat}{x:Str}{ps:List Str}{fn:List T->Option T}
theorem qe_dcall{f:Addr}{fd:FuncData}(F:FnOk X.prog X.w X.K X.mg X.base CX0 k f fd ps (spP .e 1 fn))(hr:Room k X.A)(hg:Gl X x)(hm:X.mg x=some (.ref f))(hk:PySem.W.keepIn X.K (.ref f)=true)(hb:Binds X.K fd ps [])(h:QE X e (cE .n M fe))(hdb:(x == ("__debug__":Str))=false:=by decide)(he:starEach [e] X.env=(false,eval e X.env)::starEach [] X.env:=by rfl)(hpl:(backTo pos (starEach [] X.env)).any (·.1)=false:=by rfl):QE X (.Call (.Name x p) [e] [] pos) (cED M (dCallD fn fe)):=⟨L3.e_dcall F hr hg hm hk hb h.un hdb he hpl⟩
end
section
variable [TheK]
variable {X:Cx}{rk:Kd}{io M:List Nat}{x y:Nat}{ft:DT}{tg xe c ae:Expr}{rb:List Stmt}{dr:DS}{p1 p2 pos:Pos}{z:Int}
theorem qs_dclx{st:Stmt}(h:QS X st (tDrop (tBM0 X.K "list" rClear (tVar x)))):QS X st (cD rk io M x (dClx x)):=⟨L3.s_dclx h.un⟩
end
section
variable [TheK]
variable {X:Cx}{M:List Nat}{e:Expr}{fe:DE}{p pos:Pos}
theorem qe_maxI(hK:X.K=TheK.K)(hc:X.calm=true)(hg:Gl X "max")(hm:X.mg "max"=none)(h:QE X e (cE .b M fe))(he:starEach [e] X.env=(false,eval e X.env)::starEach [] X.env:=by rfl)(hpl:(backTo pos (starEach [] X.env)).any (·.1)=false:=by rfl):QE X (.Call (.Name "max" p) [e] [] pos) (cE .e M (d1 gMaxI fe)):=⟨L3.e_maxI hK hc hg hm h.un he hpl⟩
end
section
variable [TheK]
variable {X:Cx}{M:List Nat}{a b:Expr}{fa fb:DE}{pos:Pos}
theorem qe_mulB(ha:QE X a (cE .e M fa))(hb:QE X b (cE .b M fb)):QE X (.BinOp a .Mult b pos) (cE .e M (d2 gMulB fa fb)):=⟨L3.e_mulB ha.un hb.un⟩
end
section
variable [TheK]
variable {X:Cx}{M:List Nat}{fs:DA}{e:Expr}{es:List Expr}{pos:Pos}
theorem qe_insert{i:Nat}{o:Expr}{apos:Pos}(hi:M.contains i=true)(h:QE X (.Call (.Attribute o "insert" apos) (e::es) [] pos) (tBM X.K "list" rIns (tVar i) (cA M fs))):QE X (.Call (.Attribute o "insert" apos) (e::es) [] pos) (cE .e M (dMut mIns i fs)):=⟨L3.e_insert hi h.un⟩
end
section
variable [TheK]
variable {X:Cx}{M:List Nat}{fe:DE}{e:Expr}
theorem qe_dnew(h:QE X e (cE .n M fe)):QE X e (cED M (dFlN fe)):=⟨L3.e_dnew h.un⟩
end
theorem QW.pt{X:Cx}{e:Expr}{t:TT}(h:QW X e t):QT X e t:=⟨h.un.pt⟩
def QBody(tk:TheK)(P:Program)(w:World)(mg:Str->Option Value)(base:Heap)(k:Nat)(x:Str)(st:Stmt)(N:List Str)(t:TS):Prop:=
 ∀ (f:Addr) (cdv:Value) (A:Around) (outer:List Env) (s:Shared) (H:Hp) (E:XK),Room k (A.deeper (envOfC x (defScope st) s.heap.objs.size f cdv))->QSs (cxOf CX0 P w tk.K mg base N x (defScope st) f cdv A outer s H E).nox (defBody st) t
theorem QBody.b{tk:TheK}{P:Program}{w:World}{mg:Str->Option Value}{base:Heap}{k:Nat}{x:Str}{st:Stmt}{N:List Str}{t:TS}(h:QBody tk P w mg base k x st N t):Body tk P w mg base k x st N t:=fun f cdv A outer s H E hr=>(h f cdv A outer s H E hr).un
section
variable [tk:TheK]{P:Program}{w:World}{mg:Str->Option Value}{base:Heap}{x:Str}{st:Stmt}{N ps:List Str}{k:Nat}{d:DS}{M' Mb:List Nat}
theorem Here.qP(h:Here tk.K mg x st ps)(S:FnScope N ps (defScope st))(hb:QBody tk P w mg base k x st N (cS .e [] [] M' Mb d))(hN:ps.length<=N.length:=by decide):Cal P w tk.K mg base (k+1) x ps (spP .e ps.length (fnP N.length d)):=h.okP S hb.b hN
theorem Here.qD(h:Here tk.K mg x st ps)(S:FnScope N ps (defScope st))(hb:QBody tk P w mg base k x st N (cS .b [] [] M' Mb d))(hN:ps.length<=N.length:=by decide):Cal P w tk.K mg base (k+1) x ps (spD ps.length (fnPn N.length d)):=h.okD S hb.b hN
theorem Here.qN(h:Here tk.K mg x st ps)(S:FnScope N ps (defScope st))(hb:QBody tk P w mg base k x st N (cS .n [] [] M' Mb d))(hN:ps.length<=N.length:=by decide):Cal P w tk.K mg base (k+1) x ps (spP .n ps.length (fnPn N.length d)):=h.okN S hb.b hN
theorem Here.qI(h:Here tk.K mg x st ps)(S:FnScope N ps (defScope st))(hb:QBody tk P w mg base k x st N (cS .e [0] [0] M' Mb d))(hN:ps.length<=N.length:=by decide):Cal P w tk.K mg base (k+1) x ps (spI .e ps.length (fnI N.length d)):=h.okI S hb.b hN
theorem law_q{ps0:Str}{fw:Addr}{dw:FuncData}(F:Fun tk.K x x st fw dw)(S:FnScope N [ps0] (defScope st))(hb:QBody tk P w mg base k x st N (cS .e [] [] M' Mb d))(hN:1<=N.length)(hd:∀ ns:List Int,ns.length<=63->fnP N.length d [.scr ns]=some (.bl true)):FnOk P w tk.K mg base CX0 (k+1) fw dw [ps0] (spLaw tk.K):=law_fn F S hb.b hN hd
end
end L3
namespace L3
open PySem PySem.Spec PyProof.Rows L2
def CalR(P:Program)(w:World)(K:PySem.W.Frag)(mg:Str->Option Value)(base:Heap)(n:Nat)(x:Str)(ps:List Str)(sp:Sp):Prop:=
 ∃ f fd,FnOk P w K mg base (CX1 P w) n f fd ps sp/\Binds K fd ps []/\PySem.W.keepIn K (.ref f)=true/\mg x=some (.ref f)
def CalH(P:Program)(w:World)(K:PySem.W.Frag)(mg:Str->Option Value)(base:Heap)(n:Nat)(x:Str)(ps:List Str)(sp:Sp):Prop:=
 ∃ f fd,FnOkH P w K mg base n f fd ps sp/\Binds K fd ps []/\PySem.W.keepIn K (.ref f)=true/\mg x=some (.ref f)
section
variable {P:Program}{w:World}{K:PySem.W.Frag}{mg:Str->Option Value}{base:Heap}{x:Str}{st:Stmt}{N ps:List Str}{k:Nat}{sp:Sp}
theorem CalR.mono{j:Nat}(h:CalR P w K mg base j x ps sp)(hjk:j<=k):CalR P w K mg base k x ps sp:=by
 obtain ⟨f,fd,F,b,kp,m⟩:=h
 exact ⟨f,fd,F.mono hjk,b,kp,m⟩
theorem CalH.mono{j:Nat}(h:CalH P w K mg base j x ps sp)(hjk:j<=k):CalH P w K mg base k x ps sp:=by
 obtain ⟨f,fd,F,b,kp,m⟩:=h
 exact ⟨f,fd,⟨F.len,fun A outer s H args us vs Q E hr=>F.run A outer s H args us vs Q E (hr.mono hjk)⟩,b,kp,m⟩
theorem Here.okX{CX:CXT}(h:Here K mg x st ps)(S:FnScope N ps (defScope st))(len:∀ vs H Q E,sp vs H Q E->vs.length=ps.length)
  (hbody:∀ (f:Addr) (cdv:Value) (A:Around) (outer:List Env) (s:Shared) (H:Hp) (vs:List V) (Q:VK) (E:XK),Room k (A.deeper (envOfC x (defScope st) s.heap.objs.size f cdv))->A.frames=some outer->sp vs H Q E->
   ∃ t,PSs0 (cxOf CX P w K mg base N x (defScope st) f cdv A outer s H E) (defBody st) t/\t { nx:=fun _ H'=>Q .non H',rt:=Q } (L2.start N vs) H) :
  ∃ f fd,FnOk P w K mg base CX (k+1) f fd ps sp/\Binds K fd ps []/\PySem.W.keepIn K (.ref f)=true/\mg x=some (.ref f):=by
 obtain ⟨f,fd,F,b,kp,m⟩:=h
 obtain ⟨oc,od,kV,doc,pm,an,cdv,ct,osl,rfl,lk,hcd⟩:=F.ex
 exact ⟨f,_,fn_of0 lk hcd S len fun A outer s H vs Q E hr hA hs=>hbody f cdv A outer s H vs Q E hr hA hs,b,kp,m⟩
theorem Here.okH(h:Here K mg x st ps)(S:FnScope N ps (defScope st))(len:∀ vs H Q E,sp vs H Q E->vs.length=ps.length)
  (hbody:∀ (f:Addr) (cdv:Value) (A:Around) (outer:List Env) (s:Shared) (H:Hp) (vs:List V) (Q:VK) (E:XK),RoomH k (A.deeper (envOfC x (defScope st) s.heap.objs.size f cdv))->sp vs H Q E->
   ∃ t,PSs0 (cxOf CX0 P w K mg base N x (defScope st) f cdv A outer s H E).rough (defBody st) t/\t { nx:=fun _ H'=>Q .non H',rt:=Q } (L2.start N vs) H):CalH P w K mg base (k+1) x ps sp:=by
 obtain ⟨f,fd,F,b,kp,m⟩:=h
 obtain ⟨oc,od,kV,doc,pm,an,cdv,ct,osl,rfl,lk,hcd⟩:=F.ex
 exact ⟨f,_,fn_ofH lk hcd S len fun A outer s H vs Q E hr hs=>hbody f cdv A outer s H vs Q E hr hs,b,kp,m⟩
end
structure Mv (K:PySem.W.Frag) (mg:Str->Option Value) (base:Heap) (C D r1 r2 r3 r4:Addr):Prop where
 mC:mg "NoMove"=some (.ref C)
 mD:mg "DrawError"=some (.ref D)
 m1:mg "NoRow"=some (.ref r1)
 m2:mg "NotDrawn"=some (.ref r2)
 m3:mg "NoText"=some (.ref r3)
 m4:mg "NoWord"=some (.ref r4)
 xi:XIn K C
 xc:∃ bm,XCls base C bm/\(Value.ref C::bm).contains (.ref D)=true
 xd:∃ bm,XCls base D bm/\(Value.ref D::bm).contains (.ref D)=true
 ve:PySem.W.kitOne K (.ref C) (.type "ValueError")=some true
 no:PySem.W.kitAny K (.ref C) [.ref r1,.ref r2,.ref r3,.ref r4]=some false
open PySem.W in
def mvIn(K:PySem.W.Frag)(C D r1 r2 r3 r4:Addr):Bool:=
 excIn K C [.type "ValueError",.type "Exception",.type "BaseException",.type "object"] "ValueError.__new__"&&excIn K D [.type "ValueError",.type "Exception",.type "BaseException",.type "object"] "ValueError.__new__" &&
 findIn K (.ref C) "__getattribute__" == some (some (.builtin "BaseException.__getattribute__"))&&findIn K (.ref C) "__getattr__" == some none&&findIn K (.ref C) "__class__" == some (some (.builtin "object.__class__")) &&
 mroIn K C (.type "object") == some true&&mroIn K C (.type "BaseException") == some true&&mroIn K C (.ref D) == some true&&mroIn K D (.ref D) == some true&&(clsIn K C).isSome &&
 kitOne K (.ref C) (.type "ValueError") == some true&&kitAny K (.ref C) [.ref r1,.ref r2,.ref r3,.ref r4] == some false
theorem xcls_of{K:PySem.W.Frag}{h:Heap}{C D:Addr}(X:K.In h)(q:PySem.W.excIn K C [.type "ValueError",.type "Exception",.type "BaseException",.type "object"] "ValueError.__new__"=true)(m:PySem.W.mroIn K C (.ref D)=some true) :
  ∃ bm,XCls h C bm/\(Value.ref C::bm).contains (.ref D)=true:=by
 unfold PySem.W.mroIn PySem.W.clsIn at m
 unfold PySem.W.excIn at q
 split at q
 case h_2=>cases q
 rename_i dd cd sl ho
 rw [ho] at m
 split at q
 case h_2=>cases q
 rename_i C' bm k0 k1 k2 k3 n k5 hm hs
 simp only [Bool.and_eq_true,beq_iff_eq,Bool.not_eq_true'] at q
 obtain ⟨⟨⟨⟨⟨rfl,rfl⟩,hdel⟩,ht⟩,hok⟩,hni⟩:=q
 obtain ⟨nm,bs,mro,ns,qn,hd,sn,sub,ab,col,del⟩:=cd
 dsimp only at hm hdel hok hni
 subst hm hdel
 have hsl:sl=#[k0,k1,k2,k3,some (.builtin "ValueError.__new__"),k5]:=by
  obtain ⟨l⟩:=sl
  simp only at hs
  rw [hs]
 subst hsl
 refine ⟨bm,⟨⟨ns,nm,qn,bs,hd,sn,sub,ab,col,dd,k0,k1,k2,k3,k5,_,X _ _ ho,.of_isNs (PySem.W.isNs_of_in X hok),PySem.W.nsMap_none_of_in X hok hni,PySem.W.tail_of_in X ht⟩⟩,?_⟩
 dsimp only [Option.bind_some] at m
 split at m
 ·cases m
 ·exact Option.some.inj m
theorem mv_of{K:PySem.W.Frag}{h:Heap}{mg:Str->Option Value}{C D r1 r2 r3 r4:Addr}(X:K.In h)(G:h.Ns mainGlobals mg)(a1:PySem.W.nsIn K mainGlobals "NoMove"=some (some (.ref C)))(a2:PySem.W.nsIn K mainGlobals "DrawError"=some (some (.ref D)))(a3:PySem.W.nsIn K mainGlobals "NoRow"=some (some (.ref r1)))
  (a4:PySem.W.nsIn K mainGlobals "NotDrawn"=some (some (.ref r2))) (a5:PySem.W.nsIn K mainGlobals "NoText"=some (some (.ref r3))) (a6:PySem.W.nsIn K mainGlobals "NoWord"=some (some (.ref r4))) (q:mvIn K C D r1 r2 r3 r4=true):Mv K mg h C D r1 r2 r3 r4:=by
 unfold mvIn at q
 simp only [Bool.and_eq_true] at q
 obtain ⟨⟨⟨⟨⟨⟨⟨⟨⟨⟨⟨q1,q2⟩,q3⟩,q4⟩,q5⟩,q6⟩,q7⟩,q8⟩,q9⟩,q10⟩,q11⟩,q12⟩:=q
 exact ⟨PySem.W.mg_of X G a1,PySem.W.mg_of X G a2,PySem.W.mg_of X G a3,PySem.W.mg_of X G a4,PySem.W.mg_of X G a5,PySem.W.mg_of X G a6,⟨beq_iff_eq.mp q3,beq_iff_eq.mp q4,beq_iff_eq.mp q5,beq_iff_eq.mp q6,beq_iff_eq.mp q7,q10⟩,xcls_of X q1 (beq_iff_eq.mp q8),xcls_of X q2 (beq_iff_eq.mp q9),beq_iff_eq.mp q11,beq_iff_eq.mp q12⟩
def spNM(C:Addr):Sp:=fun vs H Q _=>∃ x,vs=[.ref x]/\H x=some (excO x C)/\∀ H',(∀ b o,H b=some o->H' b=some o)->(∀ b,H' b=none->H b=none)->Q (.bl true) H'
variable [tk:TheK]
def fnR(n:Nat)(d:DR):List T->Bool:=fun ts=>d (start3 n ts)
theorem spR_len{C:Addr}{np:Nat}{rs:List T->Bool}{vs:List V}{H:Hp}{Q:VK}{E:XK}(h:spR C np rs vs H Q E):vs.length=np:=by
 obtain ⟨C,ts,hl,r,_⟩:=h
 rw [r.1,hl]
theorem run_R{C:Addr}{np:Nat}{N:List Str}{d:DR}(hN:np<=N.length){vs:List V}{H:Hp}{Q:VK}{E:XK}{D:Ends}(h:spR C np (fnR N.length d) vs H Q E):cR E C d D (L2.start N vs) H:=by
 obtain ⟨C,ts,hl,r,hf,q⟩:=h
 obtain ⟨l1,l2⟩:=start_get (N:=N) r (by lia)
 have w:∀ b,C b->Free ⟨H,C,fun _=>False,fun _=>0⟩ (fun _=>False) b:=fun b c=>⟨fun z=>z,.inl c⟩
 have R:Rel ⟨H,C,fun _=>False,fun _=>0⟩ (fun _=>False) [] (start3 N.length ts) (L2.start N vs) H:=by
  refine ⟨l1,fun i t e _=>?_,fun i t e n=>by simp at n,fun i a n=>by simp at n,fun i j a n=>by simp at n,fun b o _ e=>e,fun b e=>e,fun a z=>z.elim,fun a z=>z,fun a z=>z.elim⟩
  obtain ⟨v,h1,_,_,rv⟩:=l2 i t e
  exact ⟨v,h1,rv.mono w fun _ _ _ e=>e⟩
 exact ⟨_,_,_,R,⟨fun i hi=>by simp at hi,fun a z=>z.elim⟩,hf,fun O' H' k=>q H' (fun b o e=>(k.1 b o (fun z=>z) e).1) k.2⟩
section
variable {P:Program}{w:World}{mg:Str->Option Value}{base:Heap}{x:Str}{st:Stmt}{N ps:List Str}{k:Nat}{d:DR}{C:Addr}
theorem Here.okR(h:Here tk.K mg x st ps)(S:FnScope N ps (defScope st))
  (hb:∀ (f:Addr) (cdv:Value) (A:Around) (outer:List Env) (s:Shared) (H:Hp) (E:XK),Room k (A.deeper (envOfC x (defScope st) s.heap.objs.size f cdv))->A.frames=some outer->
   PSs (cxOf (CX1 P w) P w tk.K mg base N x (defScope st) f cdv A outer s H E) (defBody st) (cR E C d)) (hN:ps.length<=N.length:=by decide):CalR P w tk.K mg base (k+1) x ps (spR C ps.length (fnR N.length d)):=
 h.okX S (fun vs H Q E h=>spR_len h) fun f cdv A outer s H vs Q E hr hA hs=>⟨_,(hb f cdv A outer s H E hr hA).zero,run_R hN hs⟩
end
section
variable {X:Cx}{E:XK}{N:Addr}{da db d1 d2:DR}{dn:DS}{ft:DT}{c:Expr}{a b sts:List Stmt}{st:Stmt}{pos:Pos}
theorem qr_if(hc:QT X c (cT [] ft))(ha:QSs X a (cR E N da))(hb:QSs X b (cR E N db)):QS X (.If c a b pos) (cR E N (dIfR ft da db)):=⟨r_if hc.un ha.un hb.un⟩
theorem qr_no:QSs X sts (cR E N dNoR):=⟨r_no⟩
theorem qr_noS:QS X st (cR E N dNoR):=⟨r_noS⟩
theorem qr_one(h:QS X st (cR E N da)):QSs X [st] (cR E N da):=⟨r_one h.un⟩
theorem qr_seq{rk:Kd}(h1:QS X st (cR E N d1))(hn:QS X st (cS rk [] [] [] [] dn))(h2:QSs X sts (cR E N d2)):QSs X (st::sts) (cR E N (dSeqR d1 dn d2)):=⟨r_seq h1.un hn.un h2.un⟩
theorem qr_raise{bm:List Value}{x:Str}{np cpos:Pos}{e0:Expr}{y:Str}(hR:Raises X E)(hc:X.calm=true)(xc:XCls X.base N bm)(hg:Gl X x)(hm:X.mg x=some (.ref N))(he0:QE X e0 (tC (.str y)))
  (he:starEach [e0] X.env=(false,eval e0 X.env)::starEach [] X.env:=by rfl) (hpl:(backTo cpos (starEach [] X.env)).any (·.1)=false:=by rfl) (hd:(x == ("__debug__":Str))=false:=by decide) :
  QS X (.Raise (some (.Call (.Name x np) [e0] [] cpos)) none pos) (cR E N dYesR):=⟨r_raise (C:=N) hR hc xc hg hm he0.un he hpl hd⟩
theorem qr_ret{CX:CXT}{k np:Nat}{f:Addr}{fd:FuncData}{ps:List Str}{rs:List T->Bool}{fa:DA}{x:Str}{p cpos:Pos}{e:Expr}{es:List Expr}(F:FnOk X.prog X.w X.K X.mg X.base CX k f fd ps (spR N np rs))(hr:Room k X.A)(hg:Gl X x)(hm:X.mg x=some (.ref f))(hk:PySem.W.keepIn X.K (.ref f)=true)(hb:Binds X.K fd ps [])(hx:Passes CX X E)
  (ha:QA X (e::es) (cA [] fa)) (hdb:(x == ("__debug__":Str))=false:=by decide) (he:starEach (e::es) X.env=(false,eval e X.env)::starEach es X.env:=by rfl) (hpl:(backTo cpos (starEach es X.env)).any (·.1)=false:=by rfl) :
  QS X (.Return (some (.Call (.Name x p) (e::es) [] cpos)) pos) (cR E N (dRetR np rs fa)):=⟨r_ret F hr hg hm hk hb hx ha.un hdb he hpl⟩
end
theorem pss_or{X:Cx}{st:List Stmt}{t1 t2:TS}(h1:PSs X st t1)(h2:PSs X st t2):PSs X st (fun D σ H=>t1 D σ H∨t2 D σ H):=fun pins s σ H D I z=>z.elim (h1 pins s σ H D I) (h2 pins s σ H D I)
def QBodyR(tk:TheK)(P:Program)(w:World)(mg:Str->Option Value)(base:Heap)(k:Nat)(x:Str)(st:Stmt)(N:List Str)(C:Addr)(d:DR):Prop:=
 ∀ (f:Addr) (cdv:Value) (A:Around) (outer:List Env) (s:Shared) (H:Hp) (E:XK),Room k (A.deeper (envOfC x (defScope st) s.heap.objs.size f cdv))->A.frames=some outer->
  QSs (cxOf (CX1 P w) P w tk.K mg base N x (defScope st) f cdv A outer s H E) (defBody st) (cR E C d)
theorem Here.qR{P:Program}{w:World}{mg:Str->Option Value}{base:Heap}{x:Str}{st:Stmt}{N ps:List Str}{k:Nat}{d:DR}{C:Addr}(h:Here tk.K mg x st ps)(S:FnScope N ps (defScope st))(hb:QBodyR tk P w mg base k x st N C d)(hN:ps.length<=N.length:=by decide):CalR P w tk.K mg base (k+1) x ps (spR C ps.length (fnR N.length d)):=
 h.okR S (fun f cdv A outer s H E hr hA=>(hb f cdv A outer s H E hr hA).un) hN
end L3
namespace L3
open PySem PySem.Spec PyProof.Rows L2
theorem join_ss{α:Type}(x:α):(some (some x):Option (Option α)).join=some x:=rfl
theorem small_le{n:Nat}(h:n<=1000000):n<=sizeLine:=by rw [sizeLine_eq]; lia
theorem small_lt{n:Nat}(h:n<=1000000):n < sizeLine:=by rw [sizeLine_eq]; lia
theorem lc_le{n:Nat}(h:n<=1000000):n<=lcMax:=by rw [show lcMax=1000000 by unfold lcMax; rfl]; exact h
theorem rgOk_of{j:Int}(h0:-2000<=j)(h:j<=2000):rgOk j=true:=by
 unfold rgOk
 refine Nat.ble_eq_true_of_le ?_
 lia
theorem atI_of{α:Type}{xs:List α}{i:Nat}{x:α}(h:xs[i]?=some x):atI xs (i:Int)=some x:=by
 have h2:i < xs.length:=(List.getElem?_eq_some_iff.mp h).1
 unfold atI ixN
 rw [if_pos (by lia),if_pos (by lia),Option.bind_some,Int.toNat_natCast,h]
theorem for_inv{g:DG}{db:DS}(I:Nat->Sg->Prop):∀ (xs:List T) (i:Nat) (s:Sg),I i s->(∀ j x s,xs[j]?=some x->I (i+j) s->∃ s1,g x s=some s1/\∃ s2,(db s1=some (.nx s2)∨db s1=some (.ct s2))/\I (i+j+1) s2)->
  ∃ s',loopF g db xs s=some (.nx s')/\I (i+xs.length) s'
 | [],i,s,h0,_=>⟨s,by unfold loopF; rfl,h0⟩
 | x::xs,i,s,h0,h=>by
  obtain ⟨s1,h1,s2,h2,h3⟩:=h 0 x s rfl h0
  obtain ⟨s',h4,h5⟩:=for_inv I xs (i+1) s2 h3 fun j y s e q=>by
   have z:=h (j+1) y s (by simpa using e)
   rw [show i+(j+1)=i+1+j by lia] at z
   exact z q
  refine ⟨s',?_,by rw [List.length_cons,show i+(xs.length+1)=i+1+xs.length by lia]; exact h5⟩
  unfold loopF
  rw [h1,Option.bind_some]
  rcases h2 with h2 | h2<;>rw [h2,Option.bind_some]<;>exact h4
theorem eqD_succ'(n:Nat)(x y:T):eqD (n+1) x y=eqS n x y:=by cases x<;>cases y<;>rfl
theorem eqD_sc{n:Nat}{x y:T}{b:Bool}(h:scE x y=some b):eqD n x y=some b:=by
 cases n with
 | zero=>unfold eqD; exact h
 | succ n=>rw [eqD_succ']; unfold eqS; cases x<;>cases y<;>simp [scE] at h<;>simpa [scE] using h
theorem eqD_int(n:Nat)(i j:Int):eqD n (.int i) (.int j)=some (i == j):=eqD_sc rfl
theorem eqD_bl(n:Nat)(i j:Bool):eqD n (.bl i) (.bl j)=some (i == j):=eqD_sc rfl
theorem eqD_str(n:Nat)(i j:Str):eqD n (.str i) (.str j)=some (i == j):=eqD_sc rfl
theorem allE_map{α:Type}[DecidableEq α]{f:T->T->Option Bool}{enc:α->T}(h:∀ a b,f (enc a) (enc b)=some (decide (a=b))):∀ (xs ys:List α),xs.length=ys.length->allE f (xs.map enc) (ys.map enc)=some (decide (xs=ys))
 | [],[],_=>rfl
 | [],_::_,hl=>by simp at hl
 | _::_,[],hl=>by simp at hl
 | x::xs,y::ys,hl=>by
  rw [List.map_cons,List.map_cons]
  unfold allE
  rw [h,Option.bind_some,allE_map h xs ys (by simpa using hl),Option.map_some]
  refine congrArg some ?_
  by_cases h1:x=y<;>by_cases h2:xs=ys<;>simp [h1,h2]
theorem eqD_lst{α:Type}[DecidableEq α]{n:Nat}{enc:α->T}(h:∀ a b,eqD n (enc a) (enc b)=some (decide (a=b)))(xs ys:List α):eqD (n+1) (.lst (xs.map enc)) (.lst (ys.map enc))=some (decide (xs=ys)):=by
 rw [eqD_succ']
 unfold eqS
 dsimp only
 rw [List.length_map,List.length_map]
 by_cases hl:xs.length=ys.length
 ·rw [if_pos hl,allE_map h xs ys hl]
 ·rw [if_neg hl,decide_eq_false (fun z=>hl (by rw [z]))]
theorem eqD_strs{n:Nat}(xs ys:List Str):eqD (n+1) (.lst (xs.map T.str)) (.lst (ys.map T.str))=some (decide (xs=ys)):=eqD_lst (fun a b=>by rw [eqD_str]; refine congrArg some ?_; by_cases h:a=b<;>simp [h]) xs ys
theorem toVs_strs(xs:List Str):toVs (xs.map T.str)=some (xs.map V.str):=by
 induction xs with
 | nil=>rfl
 | cons x xs ih=>rw [List.map_cons]; unfold toVs; rw [ih]; rfl
theorem inV_strs(x:Str)(xs:List Str):inV (.str x) (xs.map V.str)=decide (x∈xs):=by
 unfold inV
 rw [List.any_map,Bool.eq_iff_iff,List.any_eq_true,decide_eq_true_iff]
 constructor
 ·rintro ⟨y,hy,e⟩
  have:y=x:=by simpa [eqV] using e
  exact this▸hy
 ·intro h
  exact ⟨x,h,by simp [eqV]⟩
theorem countV_strs(x:Str)(xs:List Str):(xs.map V.str).countP (fun u=>eqV u (.str x))=xs.count x:=by
 rw [List.countP_map,List.count_eq_countP]
 refine List.countP_congr fun y hy=>?_
 simp [eqV]
end L3
namespace L3
open PySem PySem.Spec PyProof.Rows L2
theorem seq_nx{f g:DS}{s s':Sg}{r:Option Fl}(h:f s=some (.nx s'))(k:g s'=r):dSeq f g s=r:=by
 unfold dSeq
 rw [h,Option.bind_some]
 exact k
theorem seq_rt{f g:DS}{s s':Sg}{t:T}(h:f s=some (.rt t s')):dSeq f g s=some (.rt t s'):=by
 unfold dSeq
 rw [h]
 rfl
theorem fnP_of{n:Nat}{d:DS}{ts:List T}{t:T}{s:Sg}(h:d (start3 n ts)=some (.rt t s)):fnP n d ts=some t:=by unfold fnP; rw [h]
theorem fnPn_of{n:Nat}{d:DS}{ts:List T}{t:T}{s:Sg}(h:d (start3 n ts)=some (.rt t s)):fnPn n d ts=some t:=by unfold fnPn; rw [h]
theorem fnI_of{n:Nat}{d:DS}{ts:List T}{t u:T}{s:Sg}(h:d (start3 n ts)=some (.rt t s))(hs:s[0]?=some (some u)):fnI n d ts=some (t,u):=by unfold fnI; rw [h]; simp [hs]
theorem for_nx{fi:DI}{g:DG}{db:DS}{s s1 s2:Sg}{its:List T}(h:fi s=some (its,s1))(k:loopF g db its s1=some (.nx s2)):dFor fi g db s=some (.nx s2):=by unfold dFor; rw [h,Option.bind_some]; exact k
theorem range_get{lo:Int}{n j:Nat}{x:T}(h:(rangeT lo n)[j]?=some x):j < n/\x=.int (lo+j):=by
 unfold rangeT at h
 rw [List.getElem?_map] at h
 obtain ⟨i,h1,h2⟩:=Qm h
 have hj:j < n:=by simpa using (List.getElem?_eq_some_iff.mp h1).1
 rw [List.getElem?_range hj] at h1
 injection h1 with h1
 subst h1
 exact ⟨hj,h2.symm⟩
theorem range_len(lo:Int)(n:Nat):(rangeT lo n).length=n:=by unfold rangeT; simp
theorem cutT_to{α:Type}(xs:List α){t:Int}(h0:0<=t)(h:t<=xs.length):cutT xs none (some t)=xs.take t.toNat:=by
 unfold cutT HT.sIx
 simp only [List.drop_zero,Nat.sub_zero]
 split
 ·lia
 ·rw [Nat.min_eq_left (by lia)]
theorem cutT_from{α:Type}(xs:List α){t:Int}(h0:0<=t)(h:t<=xs.length):cutT xs (some t) none=xs.drop t.toNat:=by
 unfold cutT HT.sIx
 dsimp only
 split
 ·lia
 ·rw [Nat.min_eq_left (by lia),List.take_of_length_le (by rw [List.length_drop]; lia)]
end L3
namespace L3
open PySem PySem.Spec PyProof.Rows L2
def Run(d:DS)(s:Sg)(Q:Fl->Prop):Prop:=∃ r,d s=some r/\Q r
def Onto(P:Sg->Prop):Fl->Prop
 | .nx s=>P s
 | .ct s=>P s
 | _=>False
theorem run_end{d:DS}{s:Sg}{Q:Fl->Prop}{r:Fl}(h:d s=some r)(k:Q r):Run d s Q:=⟨r,h,k⟩
theorem run_seq{f g:DS}{s s':Sg}{Q:Fl->Prop}(h:f s=some (.nx s'))(k:Run g s' Q):Run (dSeq f g) s Q:=by
 obtain ⟨r,h1,h2⟩:=k
 exact ⟨r,seq_nx h h1,h2⟩
theorem run_mid{f g:DS}{s:Sg}{Q:Fl->Prop}(P:Sg->Prop)(h:Run f s fun r=>match r with | .nx s'=>P s' | _=>False)(k:∀ s',P s'->Run g s' Q):Run (dSeq f g) s Q:=by
 obtain ⟨r,h1,h2⟩:=h
 cases r with
 | nx s'=>exact run_seq h1 (k s' h2)
 | _=>exact h2.elim
theorem run_for{fi:DI}{g:DG}{db d:DS}{s s1:Sg}{its:List T}{Q:Fl->Prop}(I:Nat->Sg->Prop)(h:fi s=some (its,s1))(h0:I 0 s1)
  (hs:∀ j x s,its[j]?=some x->I j s->∃ s1,g x s=some s1/\Run db s1 (Onto (I (j+1)))) (k:∀ s',I its.length s'->Run d s' Q):Run (dSeq (dFor fi g db) d) s Q:=by
 obtain ⟨s',h1,h2⟩:=for_inv (g:=g) (db:=db) I its 0 s1 h0 fun j x s e q=>by
  rw [Nat.zero_add] at q ⊢
  obtain ⟨s1,h1,r,h2,h3⟩:=hs j x s e q
  refine ⟨s1,h1,?_⟩
  cases r with
  | nx s2=>exact ⟨s2,.inl h2,h3⟩
  | ct s2=>exact ⟨s2,.inr h2,h3⟩
  | bk s2=>exact h3.elim
  | rt t s2=>exact h3.elim
 rw [Nat.zero_add] at h2
 exact run_seq (for_nx h h1) (k s' h2)
theorem run_for_last{fi:DI}{g:DG}{db:DS}{s s1:Sg}{its:List T}{Q:Fl->Prop}(I:Nat->Sg->Prop)(h:fi s=some (its,s1))(h0:I 0 s1)
  (hs:∀ j x s,its[j]?=some x->I j s->∃ s1,g x s=some s1/\Run db s1 (Onto (I (j+1)))) (k:∀ s',I its.length s'->Q (.nx s')):Run (dFor fi g db) s Q:=by
 obtain ⟨s',h1,h2⟩:=for_inv (g:=g) (db:=db) I its 0 s1 h0 fun j x s e q=>by
  rw [Nat.zero_add] at q ⊢
  obtain ⟨s1,h1,r,h2,h3⟩:=hs j x s e q
  refine ⟨s1,h1,?_⟩
  cases r with
  | nx s2=>exact ⟨s2,.inl h2,h3⟩
  | ct s2=>exact ⟨s2,.inr h2,h3⟩
  | bk s2=>exact h3.elim
  | rt t s2=>exact h3.elim
 rw [Nat.zero_add] at h2
 exact ⟨_,for_nx h h1,k s' h2⟩
theorem run_while{ft:DT}{db d:DS}{n:Nat}{s:Sg}{Q:Fl->Prop}(I:Sg->Prop)(μ:Sg->Nat)(hn:μ s < n)(h0:I s)(hs:∀ s,I s->∃ b s1,ft s=some (b,s1)/\if b=true then Run db s1 (Onto fun s2=>I s2/\μ s2 < μ s) else True)
  (k:∀ s0 s',I s0->ft s0=some (false,s')->Run d s' Q):Run (dSeq (whileN ft db n) d) s Q:=by
 have key:∀ n s,μ s < n->I s->∃ s0 s',whileN ft db n s=some (.nx s')/\I s0/\ft s0=some (false,s'):=by
  intro n
  induction n with
  | zero=>intro s hn; exact absurd hn (Nat.not_lt_zero _)
  | succ n ih=>
   intro s hn h0
   obtain ⟨b,s1,h1,h2⟩:=hs s h0
   unfold whileN
   rw [h1,Option.bind_some]
   dsimp only
   cases b with
   | true=>
    rw [if_pos rfl] at h2
    obtain ⟨r,h3,h4⟩:=h2
    rw [if_pos rfl,h3,Option.bind_some]
    cases r with
    | nx s2=>exact ih s2 (by have:=h4.2; lia) h4.1
    | ct s2=>exact ih s2 (by have:=h4.2; lia) h4.1
    | bk s2=>exact h4.elim
    | rt t s2=>exact h4.elim
   | false=>exact ⟨s,s1,by rw [if_neg Bool.false_ne_true],h0,h1⟩
 obtain ⟨s0,s',h1,h2,h3⟩:=key n s hn h0
 exact run_seq h1 (k s0 s' h2 h3)
theorem fnP_run{n:Nat}{d:DS}{ts:List T}{Q:T->Prop}(h:Run d (start3 n ts) fun r=>∃ t s,r=.rt t s/\Q t):∃ t,fnP n d ts=some t/\Q t:=by
 obtain ⟨r,h1,t,s,rfl,h2⟩:=h
 exact ⟨t,fnP_of h1,h2⟩
theorem fnI_run{n:Nat}{d:DS}{ts:List T}{Q:T->T->Prop}(h:Run d (start3 n ts) fun r=>∃ t u s,r=.rt t (some u::s)/\Q t u):∃ t u,fnI n d ts=some (t,u)/\Q t u:=by
 obtain ⟨r,h1,t,u,s,rfl,h2⟩:=h
 exact ⟨t,u,fnI_of h1 rfl,h2⟩
end L3
namespace L3
open PySem PySem.Spec PyProof.Rows L2
structure Ev where
 P:Program
 w:World
 mg:Str->Option Value
 base:Heap
abbrev Cl[tk:TheK](v:Ev)(k:Nat)(x:Str)(ps:List Str)(sp:Sp):Prop:=Cal v.P v.w tk.K v.mg v.base k x ps sp
section
variable {K:PySem.W.Frag}{h:Heap}{mg:Str->Option Value}{x p1 p2 p3 p4 p5 p6:Str}{st:Stmt}
theorem len3{us:List Value}(h:us.length=3):∃ u1 u2 u3,us=[u1,u2,u3]:=by
 match us,h with
 | [a,b,c],_=>exact ⟨a,b,c,rfl⟩
end
end L3
namespace L3
open PySem PySem.Spec PyProof.Rows L2
theorem vdV(i:Nat)(s:Sg):dV i s=(s[i]?).join.map fun t=>(t,s):=rfl
theorem vdC(t:T)(s:Sg):dC t s=some (t,s):=rfl
theorem vd2(g:T->T->Option T)(fa fb:DE)(s:Sg):d2 g fa fb s=(fa s).bind fun p=>(fb p.2).bind fun q=>(g p.1 q.1).map fun t=>(t,q.2):=rfl
theorem vd2v(g:T->T->Option T)(i:Nat)(fb:DE)(s:Sg):d2v g i fb s=(s[i]?).join.bind fun _=>(fb s).bind fun q=>(q.2[i]?).join.bind fun x=>(g x q.1).map fun t=>(t,q.2):=rfl
theorem vdB(f:DE)(s:Sg):dB f s=(f s).bind fun p=>match p.1 with
 | .bl b=>some (b,p.2)
 | _=>none:=rfl
theorem vdTru(f:DE)(s:Sg):dTru f s=(f s).bind fun p=>(tru p.1).map fun b=>(b,p.2):=rfl
theorem vdAnd(f g:DT)(s:Sg):dAnd f g s=(f s).bind fun p=>if p.1 then g p.2 else some (false,p.2):=rfl
theorem vdOr(f g:DT)(s:Sg):dOr f g s=(f s).bind fun p=>if p.1 then some (true,p.2) else g p.2:=rfl
theorem vdNot(f:DT)(s:Sg):dNot f s=(f s).map fun p=>(!p.1,p.2):=rfl
theorem vdAndV(f g:DE)(s:Sg):dAndV f g s=(dB f s).bind fun p=>if p.1 then g p.2 else some (.bl false,p.2):=rfl
theorem vdOrV(f g:DE)(s:Sg):dOrV f g s=(dB f s).bind fun p=>if p.1 then some (.bl true,p.2) else g p.2:=rfl
theorem vdNotV(f:DE)(s:Sg):dNotV f s=(dB f s).map fun p=>(.bl (!p.1),p.2):=rfl
theorem vdIf(c:DT)(f g:DE)(s:Sg):dIf c f g s=(c s).bind fun p=>if p.1 then f p.2 else g p.2:=rfl
theorem vdAn(s:Sg):dAn  s=some ([],s):=rfl
theorem vdAc(f:DE)(g:DA)(s:Sg):dAc f g s=(f s).bind fun p=>(g p.2).map fun q=>(p.1::q.1,q.2):=rfl
theorem vdLst(f:DA)(s:Sg):dLst f s=(f s).bind fun p=>if p.1.length<=sizeLine then some (.lst p.1,p.2) else none:=rfl
theorem vdTup(f:DA)(s:Sg):dTup f s=(f s).bind fun p=>if p.1.length<=sizeLine then some (.tup p.1,p.2) else none:=rfl
theorem vdDict(s:Sg):dDict  s=some (.dct [],s):=rfl
theorem vdOn(s:Sg):dOn  s=some (none,s):=rfl
theorem vdOs(f:DE)(s:Sg):dOs f s=(f s).bind fun p=>match p.1 with
 | .int i=>some (some i,p.2)
 | _=>none:=rfl
theorem vdSl(g:T->Option Int->Option Int->Option T)(f:DE)(l h:DO)(s:Sg):dSl g f l h s=(f s).bind fun p=>(l p.2).bind fun q=>(h q.2).bind fun r=>(g p.1 q.1 r.1).map fun t=>(t,r.2):=rfl
theorem vdSlV(g:T->Option Int->Option Int->Option T)(i:Nat)(l h:DO)(s:Sg):dSlV g i l h s=(s[i]?).join.bind fun _=>(l s).bind fun q=>(h q.2).bind fun r=>(r.2[i]?).join.bind fun x=>(g x q.1 r.1).map fun t=>(t,r.2):=rfl
theorem vdSeq(f g:DS)(s:Sg):dSeq f g s=(f s).bind fun r=>match r with
 | .nx s'=>g s'
 | r=>some r:=rfl
theorem vdNext(s:Sg):dNext  s=some (.nx s):=rfl
theorem vdSet(i:Nat)(f:DE)(s:Sg):dSet i f s=(f s).bind fun p=>if i < p.2.length then some (.nx (p.2.set i (some p.1))) else none:=rfl
theorem vdIfS(c:DT)(f g:DS)(s:Sg):dIfS c f g s=(c s).bind fun p=>if p.1 then f p.2 else g p.2:=rfl
theorem vdDo(f:DE)(s:Sg):dDo f s=(f s).map fun p=>.nx p.2:=rfl
theorem vdBrk(s:Sg):dBrk  s=some (.bk s):=rfl
theorem vdCnt(s:Sg):dCnt  s=some (.ct s):=rfl
theorem vdRetI(io:List Nat)(f:DE)(s:Sg):dRetI io f s=(f s).bind fun p=>if hasAll io p.2 then some (.rt p.1 p.2) else none:=rfl
theorem vdMut(g:T->List T->Option (T × T))(i:Nat)(fa:DA)(s:Sg):dMut g i fa s=(s[i]?).join.bind fun t0=>if isLst t0 then (fa s).bind fun p=>(p.2[i]?).join.bind fun t=>(g t p.1).map fun q=>(q.2,p.2.set i (some q.1)) else none:=rfl
theorem vdPut(i:Nat)(fk fv:DE)(s:Sg):dPut i fk fv s=(fv s).bind fun p=>(p.2[i]?).join.bind fun _=>(fk p.2).bind fun q=>(q.2[i]?).join.bind fun t=>match t with
 | .dct kvs=>(keyT q.1).bind fun k=>if kvs.length < sizeLine then some (.nx (q.2.set i (some (.dct (putT kvs k p.1))))) else none
 | _=>none:=rfl
theorem vdSetI(i:Nat)(fk fv:DE)(s:Sg):dSetI i fk fv s=(fv s).bind fun p=>(p.2[i]?).join.bind fun _=>(fk p.2).bind fun q=>(q.2[i]?).join.bind fun t=>match t,q.1 with
 | .lst xs,.int k=>(ixN xs.length k).map fun j=>.nx (q.2.set i (some (.lst (xs.set j p.1))))
 | _,_=>none:=rfl
theorem vdAug(i:Nat)(f:DE)(s:Sg):dAug i f s=(s[i]?).join.bind fun x=>(f s).bind fun p=>match x,p.1 with
 | .int a,.int b=>some (.nx (p.2.set i (some (.int (a+b)))))
 | _,_=>none:=rfl
theorem vdUn(is:List Nat)(f:DE)(s:Sg):dUn is f s=(f s).bind fun p=>(itemsT p.1).bind fun ts=>(setAll is ts p.2).map .nx:=rfl
theorem vdRg1(f:DA)(s:Sg):dRg1 f s=(f s).bind fun p=>match p.1 with
 | [.int j]=>if rgOk j=true then some (rangeT 0 j.toNat,p.2) else none
 | _=>none:=rfl
theorem vdRg2(f:DA)(s:Sg):dRg2 f s=(f s).bind fun p=>match p.1 with
 | [.int i,.int j]=>if rgOk i=true/\rgOk j=true then some (rangeT i (j - i).toNat,p.2) else none
 | _=>none:=rfl
theorem vdEn(f:DA)(s:Sg):dEn f s=(f s).bind fun p=>match p.1 with
 | [.lst xs]=>some (enumT xs,p.2)
 | _=>none:=rfl
theorem vdGn(i:Nat)(t:T)(s:Sg):dGn i t s=if i < s.length then some (s.set i (some t)) else none:=rfl
theorem vdGt(is:List Nat)(t:T)(s:Sg):dGt is t s=match t with
 | .tup ts=>setAll is ts s
 | _=>none:=rfl
theorem vdCall(fn:List T->Option T)(fa:DA)(s:Sg):dCall fn fa s=(fa s).bind fun p=>(fn p.1).map fun t=>(t,p.2):=rfl
theorem vdCallI(fn:List T->Option (T × T))(i:Nat)(fa:DA)(s:Sg):dCallI fn i fa s=(s[i]?).join.bind fun _=>(fa s).bind fun p=>(p.2[i]?).join.bind fun t0=>(fn (t0::p.1)).map fun q=>(q.1,p.2.set i (some q.2)):=rfl
theorem vdCallN(fn:List T->Option (T × T))(f0:DE)(fa:DA)(s:Sg):dCallN fn f0 fa s=(f0 s).bind fun p=>(fa p.2).bind fun q=>(fn (p.1::q.1)).map fun r=>(r.1,q.2):=rfl
theorem vd1(g:T->Option T)(f:DE)(s:Sg):d1 g f s=(f s).bind fun p=>(g p.1).map fun t=>(t,p.2):=rfl
theorem vdA2(g:Int->Int->Int)(fa:DA)(s:Sg):dA2 g fa s=(fa s).bind fun p=>match p.1 with
 | [.int i,.int j]=>some (.int (g i j),p.2)
 | _=>none:=rfl
theorem vdJoin(f:DE)(g:DE)(s:Sg):dJoin f g s=(f s).bind fun p=>match p.1 with
 | .str z=>(g p.2).bind fun q=>(gJoin z q.1).map fun t=>(t,q.2)
 | _=>none:=rfl
theorem vd2L(g:T->T->Option T)(fa fb:DE)(s:Sg):d2L g fa fb s=(fa s).bind fun p=>if isLst p.1 then (fb p.2).bind fun q=>(g p.1 q.1).map fun t=>(t,q.2) else none:=rfl
theorem vdItA(f:DE)(s:Sg):dItA f s=(f s).bind fun p=>match p.1 with
 | .lst xs=>some (xs,p.2)
 | .scr ns=>some (ns.map .int,p.2)
 | .tup xs=>some (xs,p.2)
 | .fd kvs=>some (kvs.map fun kv=>kT kv.1,p.2)
 | .str x=>some (x.cps.toList.map signT,p.2)
 | _=>none:=rfl
theorem vdItF(f:DE)(s:Sg):dItF f s=(f s).bind fun p=>match p.1 with
 | .fd kvs=>some (kvs.map fun kv=>kT kv.1,p.2)
 | _=>none:=rfl
theorem vdItS(f:DE)(s:Sg):dItS f s=(f s).bind fun p=>match p.1 with
 | .str x=>some (x.cps.toList.map signT,p.2)
 | _=>none:=rfl
theorem vdCh(g g':T->T->Option T)(fa fb fc:DE)(s:Sg):dCh g g' fa fb fc s=(fa s).bind fun x=>(fb x.2).bind fun y=>(g x.1 y.1).bind fun r=>match r with
 | .bl true=>(fc y.2).bind fun z=>(g' y.1 z.1).map fun t=>(t,z.2)
 | .bl false=>some (.bl false,y.2)
 | _=>none:=rfl
theorem vdRev(f:DE)(k:DO)(s:Sg):dRev f k s=(f s).bind fun p=>(k p.2).bind fun q=>if q.1=some (-1) then (gRev p.1).map fun t=>(t,q.2) else none:=rfl
theorem vdLR(f:DA)(s:Sg):dLR f s=(f s).bind fun p=>match p.1 with
 | [.int j]=>if rgOk j=true then some (.lst (rangeT 0 j.toNat),p.2) else none
 | _=>none:=rfl
theorem vdItV(i:Nat)(s:Sg):dItV i s=match (s[i]?).join with
 | some (.lst xs)=>some (xs,s)
 | _=>none:=rfl
theorem vd2LV(g:T->T->Option T)(i:Nat)(fb:DE)(s:Sg):d2LV g i fb s=(s[i]?).join.bind fun t0=>if isLst t0 then (fb s).bind fun q=>(q.2[i]?).join.bind fun x=>(g x q.1).map fun t=>(t,q.2) else none:=rfl
theorem vdFzS(i:Nat)(d:DS)(s:Sg):dFzS i d s=match (s[i]?).join with
 | some (.dct kvs)=>d (s.set i (some (.fd kvs)))
 | _=>none:=rfl
theorem vdItW(f:DE)(s:Sg):dItW f s=(f s).bind fun p=>match p.1 with
 | .fd kvs=>some (kvs.map fun kv=>kv.2,p.2)
 | _=>none:=rfl
theorem vdGetV(i:Nat)(fk fx:DE)(s:Sg):dGetV i fk fx s=match (s[i]?).join with
 | some (.dct _)=>(fk s).bind fun q=>(keyT q.1).bind fun k=>(fx q.2).bind fun r=>match (r.2[i]?).join with
  | some (.dct kvs)=>some ((lookT kvs k).getD r.1,r.2)
  | _=>none
 | _=>none:=rfl
theorem vdSplit(fa fb:DE)(s:Sg):dSplit fa fb s=(fa s).bind fun p=>match p.1 with
 | .str z=>(fb p.2).bind fun q=>(gSplit (.str z) q.1).map fun t=>(t,q.2)
 | _=>none:=rfl
theorem vdCallB(fn:List T->Option T)(i:Nat)(fa:DA)(s:Sg):dCallB fn i fa s=(s[i]?).join.bind fun _=>(fa s).bind fun p=>(p.2[i]?).join.bind fun t0=>(fn (t0::p.1)).bind fun t=>if flatT t=true then some (t,p.2) else none:=rfl
theorem vdItR(f:DE)(s:Sg):dItR f s=(f s).bind fun p=>match p.1 with
 | .lst xs=>some (xs.reverse,p.2)
 | _=>none:=rfl
theorem vdRg3(f:DA)(s:Sg):dRg3 f s=(f s).bind fun p=>match p.1 with
 | [.int i,.int j,.int c]=>if rg3 i j c=true then some (stepT 2 2 ((j.toNat - 1) / 2),p.2) else none
 | _=>none:=rfl
theorem vdPar(i j:Nat)(fa:DA)(s:Sg):dPar i j fa s=(fa s).bind fun p=>match p.1 with
 | [t,u]=>if i < p.2.length/\j < p.2.length then some (.nx ((p.2.set i (some t)).set j (some u))) else none
 | _=>none:=rfl
theorem vdSet0(s:Sg):dSet0  s=some (.set (fun _=>false) 0,s):=rfl
theorem vdSAdd(i:Nat)(fe:DE)(s:Sg):dSAdd i fe s=(s[i]?).join.bind fun t0=>match t0 with
 | .set _ _=>(fe s).bind fun p=>(p.2[i]?).join.bind fun t1=>match p.1,t1 with
  | .int k,.set S n=>if n < 1000 then some (.non,p.2.set i (some (.set (fun j=>S j||decide (j=k)) (if S k then n else n+1)))) else none
  | _,_=>none
 | _=>none:=rfl
theorem vdCallB2(fn:List T->Option T)(i:Nat)(f0:DE)(fa:DA)(s:Sg):dCallB2 fn i f0 fa s=(f0 s).bind fun p=>(p.2[i]?).join.bind fun _=>(fa p.2).bind fun q=>(q.2[i]?).join.bind fun t0=>(fn (p.1::t0::q.1)).bind fun t=>if flatT t=true then some (t,q.2) else none:=rfl
theorem vdLC2(caps:List (Option Nat))(fi:DI)(dg1:DG)(fi2:DI)(dg2:DG)(fe:DE)(s:Sg):dLC2 caps fi dg1 fi2 dg2 fe s=(fi s).bind fun p=>(lc2Go caps dg1 dg2 fi2 fe p.1 [] p.2).map fun l=>(.lst l,p.2):=rfl
theorem vdLZ(f:DA)(s:Sg):dLZ f s=(f s).bind fun p=>(gLZ p.1).map fun t=>(t,p.2):=rfl
theorem vdRgZ(f:DA)(s:Sg):dRgZ f s=(f s).bind fun p=>match p.1 with
 | [.int i,.int j,.int c]=>if rgZ i j c=true then some (stepT 0 2 6,p.2) else none
 | _=>none:=rfl
theorem vdEnK(f:DA)(s:Sg):dEnK f s=(f s).bind fun p=>match p.1 with
 | [.fd kvs]=>some (enumK kvs,p.2)
 | _=>none:=rfl
theorem vdZipK(f:DA)(s:Sg):dZipK f s=(f s).bind fun p=>match p.1 with
 | [.lst xs,.fd kvs]=>some (zipT xs (kvs.map fun kv=>kT kv.1),p.2)
 | _=>none:=rfl
theorem vdCallBN(fn:List T->Option T)(i:Nat)(fa:DA)(s:Sg):dCallBN fn i fa s=(s[i]?).join.bind fun _=>(fa s).bind fun p=>(p.2[i]?).join.bind fun t0=>(fn (t0::p.1)).bind fun t=>if flatL t=true then some (t,p.2) else none:=rfl
theorem vdRtD(d:DS)(s:Sg):dRtD d s=match d s with
 | some (.rt t s')=>some (.rt t s')
 | _=>none:=rfl
theorem vdMutD(x k:Nat)(g:List T->List T)(s:Sg):dMutD x k g s=match (s[x]?).join with
 | some (.tup ts)=>match ts[k]? with
  | some (.lst us)=>if flatBut k ts=true/\us.all flatT=true/\us.length < 100000 then some (.nx (s.set x (some (.tup (ts.set k (.lst (g us))))))) else none
  | _=>none
 | _=>none:=rfl
theorem vdDeep(fn:List T->Option (T × T))(i x:Nat)(d:DS)(s:Sg):dDeep fn i x d s=(s[i]?).join.bind fun t0=>if flatL t0=true/\x < s.length then (fn [t0]).bind fun q=>if flatL q.2=true then (d ((s.set i (some q.2)).set x (some q.1))).bind (unD x) else none else none:=rfl
theorem vdDeep2(fn:List T->Option T)(fa:DA)(x:Nat)(d:DS)(s:Sg):dDeep2 fn fa x d s=(fa s).bind fun p=>(fn p.1).bind fun t=>if x < p.2.length then (d (p.2.set x (some t))).bind (unD x) else none:=rfl
theorem vdFl(fe:DE)(s:Sg):dFl fe s=(fe s).bind fun p=>if flatT p.1=true then some p else none:=rfl
theorem vdLZs(f:DA)(s:Sg):dLZs f s=(f s).bind fun p=>(gLZs p.1).map fun t=>(t,p.2):=rfl
theorem vdT3(fa fb fc:DE)(s:Sg):dT3 fa fb fc s=(fa s).bind fun p=>(fb p.2).bind fun q=>(fc q.2).bind fun r=>if flatT p.1=true/\flatT q.1=true then some (.tup [p.1,q.1,r.1],r.2) else none:=rfl
theorem vdZip(f:DA)(s:Sg):dZip f s=(f s).bind fun p=>match p.1 with
 | [.lst xs,.lst ys]=>some (zipT xs ys,p.2)
 | _=>none:=rfl
theorem vdZipD(f:DA)(s:Sg):dZipD f s=(f s).bind fun p=>match p.1 with
 | [.fd kvs,.lst xs]=>some (zipT (kvs.map fun kv=>kT kv.1) xs,p.2)
 | _=>none:=rfl
theorem vdCallD(fn:List T->Option T)(fe:DE)(s:Sg):dCallD fn fe s=(fe s).bind fun p=>match p.1 with
 | .lst ts=>if ts.all flatT=true then (fn [.lst ts]).map fun t=>(t,p.2) else none
 | _=>none:=rfl
theorem vdNils(n:Nat)(s:Sg):dNils n s=some (.lst (List.replicate n (.lst [])),s):=rfl
theorem vdClx(x:Nat)(s:Sg):dClx x s=match (s[x]?).join with
 | some (.lst _)=>some (.nx (s.set x (some (.lst []))))
 | _=>none:=rfl
theorem vdRev0(f:DE)(fh fk:DO)(s:Sg):dRev0 f fh fk s=(f s).bind fun p=>(fh p.2).bind fun j=>(fk j.2).bind fun l=>if j.1=some 0/\l.1=some (-1) then (gRev0 p.1).map fun t=>(t,l.2) else none:=rfl
theorem vdFlN(fe:DE)(s:Sg):dFlN fe s=(fe s).bind fun p=>match p.1 with
 | .lst ts=>if ts.all flatT=true then some p else none
 | _=>none:=rfl
theorem vdIsi(c:String)(f:DE)(s:Sg):dIsi c f s=(f s).bind fun p=>((isi c p.1).map T.bl).map fun t=>(t,p.2):=rfl
theorem vdYes(s:Sg):dYes s=some (true,s):=rfl
def nT(k:Nat):T:=.int (k:Int)
theorem vnT(k:Nat):nT k=.int (k:Int):=rfl
theorem vPlusI(i j:Int):gPlus (.int i) (.int j)=some (.int (i+j)):=rfl
theorem vPlusL{a b:List T}(h:a.length+b.length<=1000000):gPlus (.lst a) (.lst b)=some (.lst (a++b)):=by
 have q:a.length+b.length<=sizeLine:=small_le h
 simp only [gPlus,orG,gAdd,gCat,q,if_true]
theorem vCatL{a b:List T}(h:a.length+b.length<=1000000):gCat (.lst a) (.lst b)=some (.lst (a++b)):=by
 have q:a.length+b.length<=sizeLine:=small_le h
 simp only [gCat,q,if_true]
theorem vPlusS{a b:Str}(h:a.length+b.length<=1000000):gPlus (.str a) (.str b)=some (.str (a++b)):=by
 have q:a.length+b.length<=sizeLine:=small_le h
 simp only [gPlus,orG,gAdd,q,if_true]
theorem vSb(i j:Int):gSb (.int i) (.int j)=some (.int (i - j)):=rfl
theorem vMul{i j:Int}(h:-1000000000000<=i/\i<=1000000000000∨-1000000000000<=j/\j<=1000000000000):gMul (.int i) (.int j)=some (.int (i*j)):=by
 have:bMul i j=true:=by unfold bMul; rw [Bool.or_eq_true,decide_eq_true_iff,decide_eq_true_iff]; lia
 simp only [gMul,gI,this,if_true]
theorem vDiv{i j:Int}(h:0 < j/\j<=1000000000):gDiv (.int i) (.int j)=some (.int (i / j)):=by
 have:bDiv i j=true:=decide_eq_true (by lia)
 simp only [gDiv,gI,this,if_true]
theorem vMod{i j:Int}(h:0 < j):gMod (.int i) (.int j)=some (.int (i%j)):=by
 have:bMod i j=true:=decide_eq_true h
 simp only [gMod,gI,this,if_true]
theorem vNeg(i:Int):gNeg (.int i)=some (.int (-i)):=rfl
theorem vLt(i j:Int):gLt (.int i) (.int j)=some (.bl (decide (i < j))):=rfl
theorem vLe(i j:Int):gLe (.int i) (.int j)=some (.bl (decide (i<=j))):=rfl
theorem vGt(i j:Int):gGt (.int i) (.int j)=some (.bl (decide (j < i))):=rfl
theorem vGe(i j:Int):gGe (.int i) (.int j)=some (.bl (decide (j<=i))):=rfl
theorem vEqI(i j:Int):gEq (.int i) (.int j)=some (.bl (decide (i=j))):=by simp only [gEq,eqD_int,Option.map_some]; rfl
theorem vNeI(i j:Int):gNe (.int i) (.int j)=some (.bl (!decide (i=j))):=by simp only [gNe,eqD_int,Option.map_some]; rfl
theorem vEqB(i j:Bool):gEq (.bl i) (.bl j)=some (.bl (i == j)):=by simp only [gEq,eqD_bl,Option.map_some]
theorem vNeB(i j:Bool):gNe (.bl i) (.bl j)=some (.bl (!(i == j))):=by simp only [gNe,eqD_bl,Option.map_some]
theorem vEqS(i j:Str):gEq (.str i) (.str j)=some (.bl (decide (i=j))):=by
 simp only [gEq,eqD_str,Option.map_some]
 by_cases h:i=j<;>simp [h]
theorem vNeS(i j:Str):gNe (.str i) (.str j)=some (.bl (!decide (i=j))):=by
 simp only [gNe,eqD_str,Option.map_some]
 by_cases h:i=j<;>simp [h]
theorem vEqSs(xs ys:List Str):gEq (.lst (xs.map T.str)) (.lst (ys.map T.str))=some (.bl (decide (xs=ys))):=by simp only [gEq,eqD_strs,Option.map_some]
theorem vNeSs(xs ys:List Str):gNe (.lst (xs.map T.str)) (.lst (ys.map T.str))=some (.bl (!decide (xs=ys))):=by simp only [gNe,eqD_strs,Option.map_some]
theorem eqD_nats{n:Nat}(xs ys:List Nat):eqD (n+1) (.lst (xs.map nT)) (.lst (ys.map nT))=some (decide (xs=ys)):=eqD_lst (fun a b=>by
 rw [vnT,vnT,eqD_int]; refine congrArg some ?_
 by_cases h:a=b
 ·subst h; simp
 ·rw [decide_eq_false h]; simp; lia) xs ys
theorem vEqNs(xs ys:List Nat):gEq (.lst (xs.map nT)) (.lst (ys.map nT))=some (.bl (decide (xs=ys))):=by simp only [gEq,eqD_nats,Option.map_some]
theorem vNeNs(xs ys:List Nat):gNe (.lst (xs.map nT)) (.lst (ys.map nT))=some (.bl (!decide (xs=ys))):=by simp only [gNe,eqD_nats,Option.map_some]
theorem vLenL(xs:List T):gLen (.lst xs)=some (.int xs.length):=rfl
theorem vLenT(xs:List T):gLen (.tup xs)=some (.int xs.length):=rfl
theorem vLenD(xs:List (Key × T)):gLen (.dct xs)=some (.int xs.length):=rfl
theorem vLenR(xs:List Int):gLen (.scr xs)=some (.int xs.length):=rfl
theorem vLenS{x:Str}(h:x.length<=1000000):gLen (.str x)=some (.int x.length):=by
 have q:x.length<=sizeLine:=small_le h
 simp only [gLen,q,if_true]
theorem atI_nat'{α:Type}(xs:List α)(k:Nat):atI xs (k:Int)=xs[k]?:=by
 unfold atI ixN
 rw [if_pos (by lia)]
 split
 ·simp
 ·rename_i h
  rw [Option.bind_none,eq_comm,List.getElem?_eq_none_iff]; lia
theorem vItemL(xs:List T)(k:Nat):gItem (.lst xs) (.int (k:Int))=xs[k]?:=by
 have:gItem (.lst xs) (.int (k:Int))=orG gIx gDIx (.lst xs) (.int (k:Int)):=rfl
 rw [this]; unfold orG
 have e:gIx (.lst xs) (.int (k:Int))=xs[k]?:=by show atI xs (k:Int)=_; exact atI_nat' xs k
 rw [e]
 cases xs[k]?<;>rfl
theorem vItemT(xs:List T)(k:Nat):gItem (.tup xs) (.int (k:Int))=xs[k]?:=by
 have:gItem (.tup xs) (.int (k:Int))=orG gIx gDIx (.tup xs) (.int (k:Int)):=rfl
 rw [this]; unfold orG
 have e:gIx (.tup xs) (.int (k:Int))=xs[k]?:=by show atI xs (k:Int)=_; exact atI_nat' xs k
 rw [e]
 cases xs[k]?<;>rfl
theorem vItemDs(kvs:List (Key × T))(x:Str):gItem (.dct kvs) (.str x)=lookT kvs (.inr x):=by
 show (match (none:Option T) with | some t=>some t | none=>_)=_
 rfl
theorem vItemDi(kvs:List (Key × T))(x:Int):gItem (.dct kvs) (.int x)=lookT kvs (.inl x):=rfl
theorem vTruB(b:Bool):tru (.bl b)=some b:=rfl
theorem vTruL(xs:List T):tru (.lst xs)=some (!xs.isEmpty):=rfl
theorem vTruI(i:Int):tru (.int i)=some (i != 0):=rfl
theorem vListL(xs:List T):gListA (.lst xs)=some (.lst xs):=rfl
theorem vListT(xs:List T):gListA (.tup xs)=some (.lst xs):=rfl
theorem vAppS{xs:List Str}(x:Str)(h:xs.length<=1000000):mApp (.lst (xs.map T.str)) [.str x]=some (.lst ((xs++[x]).map T.str),.non):=by
 have q:(xs.map T.str).length < sizeLine:=small_lt (by rw [List.length_map]; exact h)
 simp only [mApp,q,if_true,List.map_append,List.map_cons,List.map_nil]
theorem vAppN{xs:List Nat}(x:Nat)(h:xs.length<=1000000):mApp (.lst (xs.map nT)) [.int (x:Int)]=some (.lst ((xs++[x]).map nT),.non):=by
 have q:(xs.map nT).length < sizeLine:=small_lt (by rw [List.length_map]; exact h)
 simp only [mApp,q,if_true,List.map_append,List.map_cons,List.map_nil,vnT]
theorem vNotInS(x:Str)(xs:List Str):gNotInA (.str x) (.lst (xs.map T.str))=some (.bl (!decide (x∈xs))):=by
 simp only [gNotInA,orG,gNotIn,gInB,toV,toVs_strs,Option.bind_some,Option.map_some,inV_strs]
theorem vInS(x:Str)(xs:List Str):gInA (.str x) (.lst (xs.map T.str))=some (.bl (decide (x∈xs))):=by
 simp only [gInA,orG,gIn,gInB,toV,toVs_strs,Option.bind_some,Option.map_some,inV_strs]
theorem toVs_nats(xs:List Nat):toVs (xs.map nT)=some (xs.map fun (k:Nat)=>V.int (k:Int)):=by
 induction xs with
 | nil=>rfl
 | cons x xs ih=>rw [List.map_cons]; unfold toVs; rw [ih]; rfl
theorem inV_nats(x:Nat)(xs:List Nat):inV (.int (x:Int)) (xs.map fun (k:Nat)=>V.int (k:Int))=decide (x∈xs):=by
 unfold inV
 rw [List.any_map,Bool.eq_iff_iff,List.any_eq_true,decide_eq_true_iff]
 constructor
 ·rintro ⟨y,hy,e⟩
  have:(y:Int)=x:=by simpa [eqV] using e
  have:y=x:=by lia
  exact this▸hy
 ·intro h
  exact ⟨x,h,by simp [eqV]⟩
theorem vInN(x:Nat)(xs:List Nat):gInA (.int (x:Int)) (.lst (xs.map nT))=some (.bl (decide (x∈xs))):=by
 simp only [gInA,orG,gIn,gInB,toV,toVs_nats,Option.bind_some,Option.map_some,inV_nats]
theorem vNotInN(x:Nat)(xs:List Nat):gNotInA (.int (x:Int)) (.lst (xs.map nT))=some (.bl (!decide (x∈xs))):=by
 simp only [gNotInA,orG,gNotIn,gInB,toV,toVs_nats,Option.bind_some,Option.map_some,inV_nats]
theorem vInD(x:Str)(kvs:List (Key × T)):gInA (.str x) (.dct kvs)=some (.bl (lookT kvs (.inr x)).isSome):=rfl
theorem vNotInD(x:Str)(kvs:List (Key × T)):gNotInA (.str x) (.dct kvs)=some (.bl (!(lookT kvs (.inr x)).isSome)):=rfl
theorem vCountS(x:Str)(xs:List Str):gCount (.lst (xs.map T.str)) (.str x)=some (.int (xs.count x:Nat)):=by
 simp only [gCount,toVs_strs,toV,Option.bind_some,Option.map_some,countV_strs]
theorem visiLl(xs:List T):isi "list" (.lst xs)=some true:=by simp [isi]
theorem visiIi(i:Int):isi "int" (.int i)=some true:=by simp [isi]
theorem visiBi(i:Int):isi "bool" (.int i)=some false:=by simp [isi]
theorem visiBb(b:Bool):isi "bool" (.bl b)=some true:=by simp [isi]
theorem visiTt(xs:List T):isi "tuple" (.tup xs)=some true:=by simp [isi]
theorem visiSs(x:Str):isi "str" (.str x)=some true:=by simp [isi]
theorem hasAll_nil(s:Sg):hasAll [] s=true:=rfl
theorem blsT_map(bs:List Bool):blsT (bs.map T.bl)=some bs:=by
 induction bs with
 | nil=>rfl
 | cons b bs ih=>rw [List.map_cons]; unfold blsT; rw [ih]; rfl
theorem vAllB(bs:List Bool):gAll (.lst (bs.map T.bl))=some (.bl (bs.all id)):=by simp only [gAll,blsT_map,Option.map_some]
theorem vAnyB(bs:List Bool):gAny (.lst (bs.map T.bl))=some (.bl (bs.any id)):=by simp only [gAny,blsT_map,Option.map_some]
theorem isLst_lst(xs:List T):isLst (.lst xs)=true:=rfl
theorem sz0:0<=sizeLine:=Nat.zero_le _
theorem sz1:1<=sizeLine:=small_le (by lia)
theorem sz2:2<=sizeLine:=small_le (by lia)
theorem sz3:3<=sizeLine:=small_le (by lia)
theorem sz4:4<=sizeLine:=small_le (by lia)
theorem rgN{k:Nat}(h:k<=2000):rgOk (k:Int)=true:=rgOk_of (by lia) (by lia)
theorem lc_enc{α:Type}{M:List Nat}{caps:List (Option Nat)}{fi:DI}{dg:DG}{ft:DT}{fe:DE}{s:Sg}(xs:List α)(enc:α->T)(b:α->Bool)(e:α->T)(hi:fi s=some (xs.map enc,s))(hl:xs.length<=1000000)
  (h:∀ x∈xs,∃ s1,dg (enc x) (capS caps s)=some s1/\ft s1=some (b x,s1)/\(b x=true->fe s1=some (e x,s1))/\backGo M caps s1 s=s):dLC M caps fi dg ft fe s=some (.lst ((xs.filter b).map e),s):=by
 have key:∀ (ys:List α) (acc:List T),(∀ y∈ys,y∈xs)->lcGo M caps dg ft fe (ys.map enc) acc s=some (acc++(ys.filter b).map e,s):=by
  intro ys
  induction ys with
  | nil=>intro acc _; unfold lcGo; simp
  | cons y ys ih=>
   intro acc hy
   obtain ⟨s1,h1,h2,h3,h4⟩:=h y (hy y List.mem_cons_self)
   rw [List.map_cons]
   unfold lcGo
   rw [h1,Option.bind_some,h2,Option.bind_some]
   have ih':=fun acc=>ih acc fun z hz=>hy z (List.mem_cons_of_mem _ hz)
   cases hb:b y with
   | true=>rw [if_pos rfl,h3 hb,Option.bind_some,h4,ih',List.filter_cons,if_pos hb,List.map_cons,List.append_assoc]; rfl
   | false=>rw [if_neg Bool.false_ne_true,h4,ih',List.filter_cons,if_neg (by rw [hb]; exact Bool.false_ne_true)]
 unfold dLC
 rw [hi,Option.bind_some]
 have q:(xs.map enc).length<=lcMax:=lc_le (by rw [List.length_map]; exact hl)
 rw [if_pos q,key xs [] (fun _ h=>h),Option.map_some]
 rfl
theorem lc_encm{α:Type}{M:List Nat}{caps:List (Option Nat)}{fi:DI}{dg:DG}{fe:DE}{s:Sg}(xs:List α)(enc:α->T)(e:α->T)(hi:fi s=some (xs.map enc,s))(hl:xs.length<=1000000)
  (h:∀ x∈xs,∃ s1,dg (enc x) (capS caps s)=some s1/\fe s1=some (e x,s1)/\backGo M caps s1 s=s):dLC M caps fi dg dYes fe s=some (.lst (xs.map e),s):=by
 have:=lc_enc (M:=M) (caps:=caps) (fi:=fi) (dg:=dg) (ft:=dYes) (fe:=fe) (s:=s) xs enc (fun _=>true) e hi hl fun x hx=>by
  obtain ⟨s1,h1,h2,h3⟩:=h x hx
  exact ⟨s1,h1,rfl,fun _=>h2,h3⟩
 rw [this,List.filter_eq_self.mpr (fun _ _=>rfl)]
theorem put_new{kvs:List (Key × T)}{k:Key}(t:T)(h:k∉kvs.map (·.1)):putT kvs k t=kvs++[(k,t)]:=by
 unfold putT
 rw [if_neg]
 intro z
 obtain ⟨kv,h1,h2⟩:=List.any_eq_true.mp z
 exact h (List.mem_map.mpr ⟨kv,h1,of_decide_eq_true h2⟩)
theorem look_map{α:Type}(xs:List α)(kk:α->Key)(e:α->T)(k:Key):lookT (xs.map fun x=>(kk x,e x)) k=(xs.find? fun x=>decide (kk x=k)).map e:=by
 unfold lookT
 rw [List.find?_map,Option.map_map]
 rfl
theorem enum_map{α:Type}(xs:List α)(enc:α->T):enumT (xs.map enc)=xs.zipIdx.map fun p=>T.tup [.int (p.2:Nat),enc p.1]:=by
 unfold enumT
 refine List.ext_getElem (by simp) fun i h1 h2=>?_
 have hi:i < xs.length:=by simpa using h2
 rw [List.getElem_map,List.getElem_range,List.getElem_map,List.getElem_zipIdx,List.getD_eq_getElem?_getD,List.getElem?_map,List.getElem?_eq_getElem hi]
 simp
theorem range_nT(m:Nat):rangeT 0 m=(List.range m).map nT:=by
 unfold rangeT
 refine List.map_congr_left fun i _=>?_
 rw [Int.zero_add]; rfl
theorem run_nx{f g:DS}{s s':Sg}{Q:Fl->Prop}(h:f s=some (.nx s'))(k:Run g s' Q):Run (dSeq f g) s Q:=run_seq h k
theorem fnP_eq{n:Nat}{d:DS}{ts:List T}{t:T}(h:Run d (start3 n ts) fun r=>∃ s,r=.rt t s):fnP n d ts=some t:=by
 obtain ⟨r,h1,s,rfl⟩:=h
 exact fnP_of h1
theorem fnPn_eq{n:Nat}{d:DS}{ts:List T}{t:T}(h:Run d (start3 n ts) fun r=>∃ s,r=.rt t s):fnPn n d ts=some t:=by
 obtain ⟨r,h1,s,rfl⟩:=h
 exact fnPn_of h1
theorem run_ret{d:DS}{s s':Sg}{t t':T}(h:d s=some (.rt t' s'))(k:t'=t):Run d s fun r=>∃ s,r=.rt t s:=⟨_,h,s',by rw [k]⟩
theorem vcap0(s:Sg):capS [] s=[]:=rfl
theorem vcapN(cs:List (Option Nat))(s:Sg):capS (none::cs) s=none::capS cs s:=rfl
theorem vcapS(j:Nat)(cs:List (Option Nat))(s:Sg):capS (some j::cs) s=(s[j]?).join::capS cs s:=rfl
theorem run_retq{f g:DS}{s s':Sg}{t t':T}(h:f s=some (.rt t' s'))(k:t'=t):Run (dSeq f g) s fun r=>∃ s,r=.rt t s:=⟨_,seq_rt h,s',by rw [k]⟩
theorem run_onto{d:DS}{s s':Sg}{P:Sg->Prop}(h:d s=some (.nx s'))(k:P s'):Run d s (Onto P):=⟨_,h,k⟩
def OntoR(P:Sg->Prop)(Q:Fl->Prop):Fl->Prop
 | .nx s=>P s
 | .ct s=>P s
 | .rt t s=>Q (.rt t s)
 | .bk _=>False
theorem loop_R{g:DG}{db:DS}{Q:Fl->Prop}(I:Nat->Sg->Prop):∀ (xs:List T) (i:Nat) (s:Sg),I i s->(∀ j x s,xs[j]?=some x->I (i+j) s->∃ s1,g x s=some s1/\Run db s1 (OntoR (I (i+j+1)) Q))->
  (∃ s',loopF g db xs s=some (.nx s')/\I (i+xs.length) s')∨∃ t s',loopF g db xs s=some (.rt t s')/\Q (.rt t s')
 | [],i,s,h0,_=>.inl ⟨s,by unfold loopF; rfl,h0⟩
 | x::xs,i,s,h0,h=>by
  obtain ⟨s1,h1,r,h2,h3⟩:=h 0 x s rfl h0
  have next:∀ s2,I (i+0+1) s2->(∃ s',loopF g db xs s2=some (.nx s')/\I (i+(xs.length+1)) s')∨∃ t s',loopF g db xs s2=some (.rt t s')/\Q (.rt t s'):=fun s2 q=>by
   have:=loop_R I xs (i+1) s2 q fun j y s e q'=>by
    have z:=h (j+1) y s (by simpa using e)
    rw [show i+(j+1)=i+1+j by lia] at z
    exact z q'
   rw [show i+(xs.length+1)=i+1+xs.length by lia]
   exact this
  rw [List.length_cons]
  cases r with
  | nx s2=>unfold loopF; rw [h1,Option.bind_some,h2,Option.bind_some]; exact next s2 h3
  | ct s2=>unfold loopF; rw [h1,Option.bind_some,h2,Option.bind_some]; exact next s2 h3
  | bk s2=>exact h3.elim
  | rt t s2=>exact .inr ⟨t,s2,by unfold loopF; rw [h1,Option.bind_some,h2]; rfl,h3⟩
theorem run_forR{fi:DI}{g:DG}{db d:DS}{s s1:Sg}{its:List T}{Q:Fl->Prop}(I:Nat->Sg->Prop)(h:fi s=some (its,s1))(h0:I 0 s1)
  (hs:∀ j x s,its[j]?=some x->I j s->∃ s1,g x s=some s1/\Run db s1 (OntoR (I (j+1)) Q)) (k:∀ s',I its.length s'->Run d s' Q):Run (dSeq (dFor fi g db) d) s Q:=by
 rcases loop_R (g:=g) (db:=db) (Q:=Q) I its 0 s1 h0 (fun j x s e q=>by rw [Nat.zero_add] at q ⊢; exact hs j x s e q) with ⟨s',h1,h2⟩ | ⟨t,s',h1,h2⟩
 ·rw [Nat.zero_add] at h2
  exact run_seq (for_nx h h1) (k s' h2)
 ·refine ⟨.rt t s',?_,h2⟩
  unfold dSeq dFor
  rw [h,Option.bind_some,h1]
  rfl
theorem onto_nx{d:DS}{s s':Sg}{P:Sg->Prop}{Q:Fl->Prop}(h:d s=some (.nx s'))(k:P s'):Run d s (OntoR P Q):=⟨_,h,k⟩
theorem vLeAI(i j:Int):gLeA (.int i) (.int j)=some (.bl (decide (i<=j))):=rfl
theorem vLeAS(i j:Str):gLeA (.str i) (.str j)=some (.bl (!decide (j.cps.toList < i.cps.toList))):=rfl
theorem sgn_ge(c:Nat):(!decide (([c]:List Nat) < [97]))=decide (97<=c):=by
 by_cases h:97<=c
 ·rw [decide_eq_true h,decide_eq_false (by rw [List.cons_lt_cons_iff]; simp; lia)]; rfl
 ·rw [decide_eq_false h,decide_eq_true (by rw [List.cons_lt_cons_iff]; left; lia)]; rfl
theorem sgn_le(c:Nat):(!decide (([122]:List Nat) < [c]))=decide (c<=122):=by
 by_cases h:c<=122
 ·rw [decide_eq_true h,decide_eq_false (by rw [List.cons_lt_cons_iff]; simp; lia)]; rfl
 ·rw [decide_eq_false h,decide_eq_true (by rw [List.cons_lt_cons_iff]; left; lia)]; rfl
theorem vsign(c:Nat):signT c=.str ⟨#[c]⟩:=rfl
theorem cps1(c:Nat):(⟨#[c]⟩:Str).cps.toList=[c]:=rfl
theorem cps_a:(Str.ofString "a").cps.toList=[97]:=by decide +kernel
theorem cps_z:(Str.ofString "z").cps.toList=[122]:=by decide +kernel
theorem len_cps(x:Str):x.length=x.cps.toList.length:=by simp [Str.length]
theorem vLenF(xs:List (Key × T)):gLen (.fd xs)=some (.int xs.length):=rfl
theorem onto_retq{f g:DS}{s s':Sg}{P:Sg->Prop}{t t':T}(h:f s=some (.rt t' s'))(k:t'=t):Run (dSeq f g) s (OntoR P fun r=>∃ s,r=.rt t s):=⟨_,seq_rt h,s',by rw [k]⟩
end L3
namespace Dw
open PySem PySem.Spec PyProof.Rows L2 L3
theorem mem_fold(x:Str):∀ (wd acc:List Str),x∈wd.foldl stp acc↔x∈acc∨x∈wd
 | [],acc=>by simp
 | y::wd,acc=>by
  rw [List.foldl_cons,mem_fold x wd,List.mem_cons]
  unfold stp
  split
  ·rename_i h
   constructor
   ·rintro (q | q)
    ·exact .inl q
    ·exact .inr (.inr q)
   ·rintro (q | q | q)
    ·exact .inl q
    ·exact .inl (q▸h)
    ·exact .inr q
  ·rw [List.mem_append,List.mem_singleton]
   constructor
   ·rintro ((q | q) | q)
    ·exact .inl q
    ·exact .inr (.inl q)
    ·exact .inr (.inr q)
   ·rintro (q | q | q)
    ·exact .inl (.inl q)
    ·exact .inl (.inr q)
    ·exact .inr q
theorem mem_firsts{x:Str}{wd:List Str}:x∈firsts wd↔x∈wd:=by unfold firsts; rw [mem_fold]; simp
theorem nodup_fold:∀ (wd acc:List Str),acc.Nodup->(wd.foldl stp acc).Nodup
 | [],acc,h=>h
 | y::wd,acc,h=>by
  rw [List.foldl_cons]
  refine nodup_fold wd _ ?_
  unfold stp
  split
  ·exact h
  ·rename_i q
   rw [List.nodup_append]
   exact ⟨h,by simp,fun a ha b hb e=>q (by rw [List.mem_singleton] at hb; subst hb; subst e; exact ha)⟩
theorem firsts_nodup(wd:List Str):(firsts wd).Nodup:=nodup_fold wd [] List.nodup_nil
theorem firsts_le(wd:List Str):(firsts wd).length<=wd.length:=by have:=firsts_len wd []; simpa [firsts] using this
def numsOf(wd:List Str):List Nat:=wd.map fun x=>(firsts wd).idxOf x
end Dw
namespace Dw
open PySem PySem.Spec PyProof.Rows L2 L3
theorem find_key{xs:List Str}{x:Str}(h:x∈xs):(xs.find? fun y=>decide ((Sum.inr y:Key)=Sum.inr x))=some x:=by
 induction xs with
 | nil=>cases h
 | cons y ys ih=>
  rw [List.find?_cons]
  by_cases e:y=x
  ·subst e; simp
  ·rw [decide_eq_false (fun z=>e (Sum.inr.inj z))]
   rcases List.mem_cons.mp h with q | q
   ·exact absurd q.symm e
   ·exact ih q
end Dw
namespace Dw
open PySem PySem.Spec PyProof.Rows L2 L3
def isNm(x:Str):Bool:=decide (1<=x.length/\x.length<=8)&&x.cps.toList.all fun c=>decide (97<=c)&&decide (c<=122)
theorem isNm_iff{x:Str}:isNm x=true↔IsName x:=by
 unfold isNm IsName
 rw [Bool.and_eq_true,decide_eq_true_iff,List.all_eq_true]
 constructor
 ·rintro ⟨⟨h1,h2⟩,h3⟩
  exact ⟨h1,h2,fun c hc=>by have:=h3 c hc; rw [Bool.and_eq_true,decide_eq_true_iff,decide_eq_true_iff] at this; exact this⟩
 ·rintro ⟨h1,h2,h3⟩
  exact ⟨⟨h1,h2⟩,fun c hc=>by rw [Bool.and_eq_true,decide_eq_true_iff,decide_eq_true_iff]; exact h3 c hc⟩
def isWd(wd:List Str):Bool:=wd.all isNm&&(decide ((firsts wd).length<=30)&&(firsts wd).all fun x=>decide (wd.count x=2))
theorem sum_count:∀ (wd ns:List Str),ns.Nodup->(∀ x∈wd,x∈ns)->wd.length=(ns.map fun x=>wd.count x).sum
 | [],ns,_,_=>by
  have:(ns.map fun x=>([]:List Str).count x)=ns.map fun _=>0:=List.map_congr_left fun x _=>by simp
  have z:∀ l:List Str,(l.map fun _=>0).sum=0:=fun l=>by
   induction l with
   | nil=>rfl
   | cons n l ih=>rw [List.map_cons,List.sum_cons,ih]
  rw [this,z]
  rfl
 | y::wd,ns,hn,h=>by
  have ih:=sum_count wd ns hn fun x hx=>h x (List.mem_cons_of_mem _ hx)
  have key:∀ (ns:List Str),ns.Nodup->(ns.map fun x=>(y::wd).count x).sum=(ns.map fun x=>wd.count x).sum+if y∈ns then 1 else 0:=by
   intro ns
   induction ns with
   | nil=>intro _; rfl
   | cons n ns ihn=>
    intro hn
    rw [List.nodup_cons] at hn
    rw [List.map_cons,List.sum_cons,List.map_cons,List.sum_cons,ihn hn.2,List.count_cons]
    by_cases e:y=n
    ·subst e
     rw [if_pos (by simp),if_neg hn.1,if_pos (by simp)]; lia
    ·rw [if_neg (by simpa using e)]
     by_cases e2:y∈ns
     ·rw [if_pos e2,if_pos (List.mem_cons_of_mem _ e2)]; lia
     ·rw [if_neg e2,if_neg (by simp [e,e2])]; lia
  rw [key ns hn,if_pos (h y List.mem_cons_self),<-ih,List.length_cons]
theorem two_len{wd:List Str}(h:∀ x∈wd,wd.count x=2):wd.length=2*(firsts wd).length:=by
 have:=sum_count wd (firsts wd) (firsts_nodup wd) fun x hx=>mem_firsts.mpr hx
 rw [this]
 have e:(firsts wd).map (fun x=>wd.count x)=(firsts wd).map fun _=>2:=List.map_congr_left fun x hx=>h x (mem_firsts.mp hx)
 rw [e]
 generalize firsts wd=l
 induction l with
 | nil=>rfl
 | cons a l ih=>rw [List.map_cons,List.sum_cons,ih,List.length_cons]; lia
theorem isWd_due(wd:List Str):isWd wd=((wd.all fun x=>isNm x&&decide (wd.count x=2))&&decide (wd.length<=60)):=by
 unfold isWd
 by_cases h:∀ x∈wd,wd.count x=2
 ·have hl:=two_len h
  have e1:(firsts wd).all (fun x=>decide (wd.count x=2))=true:=List.all_eq_true.mpr fun x hx=>decide_eq_true (h x (mem_firsts.mp hx))
  have e2:wd.all (fun x=>isNm x&&decide (wd.count x=2))=wd.all isNm:=by
   rw [Bool.eq_iff_iff,List.all_eq_true,List.all_eq_true]
   exact ⟨fun q x hx=>((Bool.and_eq_true _ _).mp (q x hx)).1,fun q x hx=>(Bool.and_eq_true _ _).mpr ⟨q x hx,decide_eq_true (h x hx)⟩⟩
  rw [e1,e2,Bool.and_true]
  congr 1
  by_cases q:wd.length<=60
  ·rw [decide_eq_true q,decide_eq_true (by lia)]
  ·rw [decide_eq_false q,decide_eq_false (by lia)]
 ·obtain ⟨x,hx⟩:=Classical.not_forall.mp h
  obtain ⟨hm,hc⟩:=Classical.not_imp.mp hx
  have e1:(firsts wd).all (fun x=>decide (wd.count x=2))=false:=by
   rw [List.all_eq_false]
   exact ⟨x,mem_firsts.mpr hm,by simpa using hc⟩
  have e2:wd.all (fun x=>isNm x&&decide (wd.count x=2))=false:=by
   rw [List.all_eq_false]
   refine ⟨x,hm,?_⟩
   rw [decide_eq_false hc,Bool.and_false]; exact Bool.false_ne_true
  rw [e1,e2,Bool.and_false,Bool.and_false,Bool.false_and]
def cntT(wd:List Str):List (Key × T):=(firsts wd).map fun x=>(Sum.inr x,.int (wd.count x:Nat))
theorem cnt_look(wd:List Str)(x:Str):(lookT (cntT wd) (.inr x)).getD (.int 0)=.int (wd.count x:Nat):=by
 unfold cntT
 rw [look_map]
 by_cases h:x∈wd
 ·rw [find_key (mem_firsts.mpr h)]; rfl
 ·rw [List.find?_eq_none.mpr,List.count_eq_zero.mpr h]; rfl
  intro y hy
  simp only [decide_eq_true_iff]
  intro z
  exact h (Sum.inr.inj z▸mem_firsts.mp hy)
theorem cnt_put{wd:List Str}{j:Nat}{x:Str}(hx:wd[j]?=some x):putT (cntT (wd.take j)) (.inr x) (.int (((wd.take j).count x:Nat)+1))=cntT (wd.take (j+1)):=by
 have hF:=firsts_next hx
 have hT:wd.take (j+1)=wd.take j++[x]:=by rw [List.take_succ,hx]; rfl
 have hc:∀ y,(wd.take (j+1)).count y=(wd.take j).count y+if x=y then 1 else 0:=fun y=>by
  rw [hT,List.count_append,List.count_cons,List.count_nil]
  by_cases e:x=y
  ·subst e; simp
  ·simp [e]
 by_cases h:x∈firsts (wd.take j)
 ·have e3:firsts (wd.take (j+1))=firsts (wd.take j):=by rw [hF]; unfold stp; rw [if_pos h]
  unfold putT
  rw [if_pos]
  ·unfold cntT
   rw [e3,List.map_map]
   refine List.map_congr_left fun y hy=>?_
   show (if (Sum.inr y:Key)=Sum.inr x then _ else _)=_
   by_cases e:y=x
   ·subst e
    rw [if_pos rfl,hc,if_pos rfl]
    rfl
   ·rw [if_neg (fun z=>e (Sum.inr.inj z)),hc,if_neg (fun z=>e z.symm)]
    rfl
  ·refine List.any_eq_true.mpr ⟨(.inr x,.int ((wd.take j).count x:Nat)),List.mem_map.mpr ⟨x,h,rfl⟩,by simp⟩
 ·have e3:firsts (wd.take (j+1))=firsts (wd.take j)++[x]:=by rw [hF]; unfold stp; rw [if_neg h]
  have h':x∉wd.take j:=fun z=>h (mem_firsts.mpr z)
  rw [put_new]
  ·unfold cntT
   rw [e3,List.map_append,List.map_cons,List.map_nil]
   congr 1
   ·refine List.map_congr_left fun y hy=>?_
    have e:¬ x=y:=fun z=>h (z▸hy)
    rw [hc,if_neg e]
    rfl
   ·rw [hc,if_pos rfl]
    rfl
  ·unfold cntT
   rw [List.map_map]
   intro z
   obtain ⟨y,hy,e⟩:=List.mem_map.mp z
   exact h (Sum.inr.inj e▸hy)
end Dw
namespace Dw
open PySem PySem.Spec PyProof.Rows L2 L3
theorem places_split(x:Str):∀ (A R:List Str),x∉A->placesOf (A++R) x=(placesOf R x).map (A.length+·):=by
 intro A R h
 unfold placesOf
 rw [List.length_append,List.range_add,List.filter_append,List.filter_map]
 have e:(List.range A.length).filter (fun j=>decide ((A++R)[j]?=some x))=[]:=by
  refine List.filter_eq_nil_iff.mpr fun k hk=>?_
  have hk:=List.mem_range.mp hk
  rw [List.getElem?_append_left hk,decide_eq_true_iff]
  exact fun z=>h (List.mem_of_getElem? z)
 rw [e,List.nil_append]
 congr 1
 refine List.filter_congr fun k _=>?_
 show decide ((A++R)[A.length+k]?=some x)=_
 rw [List.getElem?_append_right (by lia),Nat.add_sub_cancel_left]
theorem places_head(x:Str)(R:List Str):placesOf (x::R) x=0::(placesOf R x).map (1+·):=by
 unfold placesOf
 rw [List.length_cons,Nat.add_comm,List.range_add,List.filter_append,List.filter_map]
 have e1:(List.range 1).filter (fun j=>decide ((x::R)[j]?=some x))=[0]:=by simp [List.range_succ]
 rw [e1,List.singleton_append]
 congr 2
 refine List.filter_congr fun k _=>?_
 show decide ((x::R)[1+k]?=some x)=_
 rw [Nat.add_comm,List.getElem?_cons_succ]
theorem places_none{x:Str}{R:List Str}(h:x∉R):placesOf R x=[]:=by
 refine List.filter_eq_nil_iff.mpr fun k hk=>?_
 rw [decide_eq_true_iff]
 exact fun z=>h (List.mem_of_getElem? z)
theorem places_two{wd:List Str}{x:Str}(h:wd.count x=2):∃ i j,placesOf wd x=[i,j]:=by
 have hl:=placesOf_len wd x
 rw [h] at hl
 match h:placesOf wd x,hl with
 | [i,j],_=>exact ⟨i,j,rfl⟩
end Dw
namespace Dw
open PySem PySem.Spec PyProof.Rows L2 L3
def rest(w:List Str)(st n:Nat):List Str:=w.take st++w.drop (st+n)
end Dw
namespace Dw
def itr(f:Nat->Nat):Nat->Nat->Nat
 | 0,x=>x
 | k+1,x=>f (itr f k x)
def Orb(f:Nat->Nat)(x y:Nat):Prop:=∃ k,itr f k x=y
end Dw
namespace Dw
open PySem
abbrev Org:=List (Str × Option Str)
end Dw
namespace Dw
section
variable {M:Nat}[NeZero M]
def enc:Nat->(Nat->Fin M)->Nat
 | 0,_=>0
 | k+1,h=>(h 0).val+M*enc k fun i=>h (i+1)
end
def prv(n k:Nat):Nat:=if k=0 then 2*n - 1 else k - 1
end Dw
namespace Dw
section
variable {M:Nat}[NeZero M]{n:Nat}{a b nm f:Nat->Nat}
def l0G(n:Nat)(G:Nat->Fin M):Fin M:=G (2*prv n 0)
def dG(G:Nat->Fin M)(k:Nat):Fin M:=G (2*k) - G (2*k+1)
def xG(n:Nat)(a:Nat->Nat)(G:Nat->Fin M)(v:Nat):Fin M:=dG G (a v) - dG G (prv n (a v))
def par(n:Nat)(a:Nat->Nat)(G:Nat->Fin M):Nat->Fin M
 | 0=>l0G n G
 | 1=>dG G (prv n 0)
 | v+2=>xG n a G v
structure Cls (m:Nat) (f r:Nat->Nat) (F:Nat):Prop where
 lt:∀ w,w < m->r w < F
 stay:∀ w,w < m->r (f w)=r w
 all:∀ i,i < F->∃ w,w < m/\r w=i
 one:∀ w w',w < m->w' < m->r w=r w'->Orb f w w'
end
end Dw
namespace Dw
abbrev F2:=Fin 2
def del(u v:Nat):F2:=if u=v then 1 else 0
section
variable {n:Nat}{i j nm:Nat->Nat}{hd:Nat->Bool}
def inn(i j:Nat->Nat)(u p:Nat):F2:=if i u < p/\p < j u then 1 else 0
def io(i j:Nat->Nat)(u k:Nat):F2:=if i u < k/\k<=j u then 1 else 0
def n2(k:Nat):F2:=Fin.ofNat 2 k
end
end Dw
set_option maxHeartbeats 4000000
namespace Dw
open PySem PySem.Spec PyProof.Rows L2 L3
def top(i:Nat):Stmt:=PySem.Challenge.pw_drawnword_k35_curls.main.body.getD i (.Pass ⟨0,0,0,0⟩)
variable {P:Program}{w:World}{mg:Str->Option Value}{base:Heap}
abbrev s_l_names:Stmt:=top 23
theorem sc_l_names:FnScope ["_law_cell_here","_law_many","_law_letters","_law_size","_law_rest","_law_stem","_law_k","_law_spot","_law_made","_law_letter","_law_name"] ["_law_cell_here","_law_many"] (defScope s_l_names):=⟨rfl,rfl,rfl,by decide +kernel,rfl,by decide +kernel,by decide +kernel⟩
def d_l_names:DS:=(dSeq (dSet 2 (dC (.str "abcdefghijklmnopqrstuvwxyz")))
  (dSeq (dSet 3 (d2 gPlus (dC (.int 1)) (d2 gMod (dV 0) (dC (.int 8)))))
  (dSeq (dSet 4 (d2 gMod (d2 gDiv (dV 0) (dC (.int 8))) (d2 gPow (dC (.int 10)) (dC (.int 18)))))
  (dSeq (dSet 5 (dC (.str "")))
  (dSeq (dFor (dRg1 (dAc (dV 3) dAn)) (dGn 6)
  (dSeq (dSet 5 (d2 gPlus (dV 5) (d2 gItem (dV 2) (d2 gMod (dV 4) (dC (.int 26))))))
  (dSet 4 (d2 gPlus (d2 gDiv (dV 4) (dC (.int 26))) (d2 gMul (dC (.int 5)) (dV 6))))))
  (dSeq (dSet 7 (d2 gMod (d2 gDiv (dV 0) (dC (.int 3))) (dV 3)))
  (dSeq (dSet 8 (dLst dAn))
  (dSeq (dIfS (dB (d2 gEq (d2 gMod (d2 gDiv (dV 0) (dC (.int 5))) (dC (.int 3))) (dC (.int 1)))) (dSet 8 (dSl gSl (dLC [8] [none,some 5] (dRg2 (dAc (dC (.int 1)) (dAc (d2 gPlus (dV 3) (dC (.int 1))) dAn))) (dGn 0) dYes (dSl gSlA (dV 1) dOn (dOs (dV 0)))) dOn (dOs (dV 1)))) dNext)
  (dSeq (dIfS (dOr (dB (d2 gEq (d2 gMod (d2 gDiv (dV 0) (dC (.int 5))) (dC (.int 3))) (dC (.int 2)))) (dB (d2 gGt (dV 1) (dC (.int 24))))) (dSet 8 (dLC [8] [none,some 2,some 5,some 4] (dRg1 (dAc (dV 1) dAn)) (dGn 0) dYes (d2 gPlus (d2 gPlus (dSl gSlA (dV 2) dOn (dOs (dC (.int 6)))) (d2 gItem (dV 1) (d2 gDiv (dV 0) (dC (.int 5))))) (d2 gItem (dV 1) (d2 gMod (d2 gPlus (dV 0) (dV 3)) (dC (.int 26))))))) dNext)
  (dSeq (dFor (dItA (dV 2)) (dGn 9)
  (dSeq (dSet 10 (d2 gPlus (d2 gPlus (dSl gSlA (dV 5) dOn (dOs (dV 7))) (dV 9)) (dSl gSlA (dV 5) (dOs (d2 gPlus (dV 7) (dC (.int 1)))) dOn)))
  (dIfS (dAnd (dB (d2 gLt (d1 gLen (dV 8)) (dV 1))) (dB (d2 gNotInA (dV 10) (dV 8)))) (dDo (dMut mApp 8 (dAc (dV 10) dAn))) dNext)))
  (dRetI [] (dV 8))))))))))))
def fn_l_names:List T->Option T:=fnP 11 d_l_names
theorem b_l_names[tk:TheK](m_range:mg "range"=none)(m_len:mg "len"=none)  :QBody tk P w mg base 0 "_law_names" s_l_names ["_law_cell_here","_law_many","_law_letters","_law_size","_law_rest","_law_stem","_law_k","_law_spot","_law_made","_law_letter","_law_name"] (cS .e [] [] [] [] d_l_names):=by
 intro f cdv A outer s H E hr
 have sc:=sc_l_names
 have hu:=hu_of hr
 have hu8:(A.deeper (envOfC "_law_names" (defScope s_l_names) s.heap.objs.size f cdv)).units+8 < cLine:=hu8_of hr
 exact (qs_ (M':=[]) (qs_setE (M':=[]) (qps_set (i:=2) sc.nd rfl (Or.inr rfl) qe_str))
  (qs_ (M':=[]) (qs_setE (M':=[]) (qps_set (i:=3) sc.nd rfl (Or.inl rfl) (qe_plus qi_ (qeb (qe_mod (qv_ rfl (qpv 0)) (qeb qi_))))))
  (qs_ (M':=[]) (qs_setE (M':=[]) (qps_set (i:=4) sc.nd rfl (Or.inr rfl) (qe_mod (qe_div (qv_ rfl (qpv 0)) (qeb qi_)) (qeb (qe_pow qi_ (qeb qi_))))))
  (qs_ (M':=[]) (qs_setE (M':=[]) (qps_set (i:=5) sc.nd rfl (Or.inr rfl) qe_str))
  (qs_ (M':=[]) (qs_for (qps_for PassesOwn.never rfl (qi_range1 rfl m_range (qa_ (qv_ rfl (qpv 3)) qa_nil)) (qg_name (qpg_name (i:=6) sc.nd rfl (Or.inl rfl)))
  (qs_ (M':=[]) (qs_setE (M':=[]) (qps_set (i:=5) sc.nd rfl (Or.inr rfl) (qe_plus (qv_ rfl (qpv 5)) (qeb (qe_item rfl hu (qv_ rfl (qpv 2)) (qeb (qe_mod (qv_ rfl (qpv 4)) (qeb qi_))) (fun _ _=>rfl))))))
  (qss_one (qs_setE (M':=[]) (qps_set (i:=4) sc.nd rfl (Or.inr rfl) (qe_plus (qe_div (qv_ rfl (qpv 4)) (qeb qi_)) (qeb (qe_mul qi_ (qeb (qv_ rfl (qpv 6))))))))))))
  (qs_ (M':=[]) (qs_setE (M':=[]) (qps_set (i:=7) sc.nd rfl (Or.inl rfl) (qe_mod (qe_div (qv_ rfl (qpv 0)) (qeb qi_)) (qeb (qv_ rfl (qpv 3))))))
  (qs_ (M':=[8]) (qs_setN (M':=[8]) (qps_set (i:=8) sc.nd rfl (Or.inl rfl) (qe_lst qa_nil)))
  (qs_ (M':=[8]) (qs_if (M':=[8]) (qt_eq hu8 (qe_mod (qe_div (qv_ rfl (qpv 0)) (qeb qi_)) (qeb qi_)) (qeb qi_)) (qss_one (qs_setN (M':=[8]) (qps_set (i:=8) sc.nd rfl (Or.inl rfl) (qe_sl rfl (qne (qe_lc (Mi:=[]) rfl (tg_name (i:=0)) yes_ok (qpe_lc (N:=["_law_k","_law_stem"]) (caps:=[none,some 5]) rfl (qi_range2 rfl m_range (qa_ qi_ (qa_ (qe_plus (qv_ rfl (qpv 3)) (qeb qi_)) qa_nil))) (fun _ _ _ _ _=>(qpg_name (i:=0) (show (["_law_k","_law_stem"]:List Str).Nodup by decide +kernel) rfl (Or.inl rfl))) kg_name (fun _ _ _ _ _=>qpts_nil) (fun _ _ _ _ _=>(qe_slA rfl (qv_ rfl (qpv 1)) qo_none (qo_some (qv_ rfl (qpv 0)))))))) qo_none (qo_some (qv_ rfl (qpv 1))))))) qss_nil)
  (qs_ (M':=[8]) (qs_if (M':=[8]) (QW.pt (qw_or (qt_eq hu8 (qe_mod (qe_div (qv_ rfl (qpv 0)) (qeb qi_)) (qeb qi_)) (qeb qi_)) (qw_or1 (qt_gt (qv_ rfl (qpv 1)) (qeb qi_))))) (qss_one (qs_setN (M':=[8]) (qs_lc (Mi:=[]) rfl (tg_name (i:=0)) yes_ok (qps_setLC (i:=8) sc.nd rfl rfl (N:=["_law_k","_law_letters","_law_stem","_law_rest"]) (caps:=[none,some 2,some 5,some 4]) rfl (qi_range1 rfl m_range (qa_ (qv_ rfl (qpv 1)) qa_nil)) (fun _ _ _ _ _=>(qpg_name (i:=0) (show (["_law_k","_law_letters","_law_stem","_law_rest"]:List Str).Nodup by decide +kernel) rfl (Or.inl rfl))) kg_name (fun _ _ _ _ _=>qpts_nil) (fun _ _ _ _ _=>(qe_plus (qe_plus (qe_slA rfl (qv_ rfl (qpv 2)) qo_none (qo_some qi_)) (qeb (qe_item rfl hu (qv_ rfl (qpv 1)) (qeb (qe_div (qv_ rfl (qpv 0)) (qeb qi_))) (fun _ _=>rfl)))) (qeb (qe_item rfl hu (qv_ rfl (qpv 1)) (qeb (qe_mod (qe_plus (qv_ rfl (qpv 0)) (qeb (qv_ rfl (qpv 3)))) (qeb qi_))) (fun _ _=>rfl))))))))) qss_nil)
  (qs_ (M':=[8]) (qs_for (qps_for PassesOwn.never rfl (qi_any rfl (qv_ rfl (qpv 2))) (qg_name (qpg_name (i:=9) sc.nd rfl (Or.inl rfl)))
  (qs_ (M':=[8]) (qs_setE (M':=[8]) (qps_set (i:=10) sc.nd rfl (Or.inl rfl) (qe_plus (qe_plus (qe_slA rfl (qv_ rfl (qpv 5)) qo_none (qo_some (qv_ rfl (qpv 7)))) (qeb (qv_ rfl (qpv 9)))) (qeb (qe_slA rfl (qv_ rfl (qpv 5)) (qo_some (qe_plus (qv_ rfl (qpv 7)) (qeb qi_))) qo_none)))))
  (qss_one (qs_if (M':=[8]) (QW.pt (qw_and (qt_lt (qe_len rfl rfl m_len (qe_raw rfl (qpv 8))) (qeb (qv_ rfl (qpv 1)))) (qw_and1 (qt_notinA hu (qv_ rfl (qpv 10)) (qe_raw rfl (qpv 8)) (by with_unfolding_all rfl))))) (qss_one (qs_do (.inl rfl) (qe_append rfl (qpe_bm PySem.F.plainAttrs_list PySem.F.slot_list_append PySem.F.type_list_append mt_append (qpv 8) (qa_ (qv_ rfl (qpv 10)) qa_nil))))) qss_nil)))))
  (qss_one (qs_pre (M':=[]) (qs_retE (qv_ rfl (qpv 8)))))))))))))))
theorem ok_l_names[tk:TheK](h:Here tk.K mg "_law_names" s_l_names ["_law_cell_here","_law_many"])(m_range:mg "range"=none)(m_len:mg "len"=none):Cal P w tk.K mg base 1 "_law_names" ["_law_cell_here","_law_many"] (spP .e 2 fn_l_names):=
 h.qP sc_l_names (b_l_names m_range m_len)
abbrev s_l_bag:Stmt:=top 21
theorem sc_l_bag:FnScope ["_law_cell_here"] ["_law_cell_here"] (defScope s_l_bag):=⟨rfl,rfl,rfl,by decide +kernel,rfl,by decide +kernel,by decide +kernel⟩
def d_l_bag:DS:=(dRetI [] (dLst (dAc (d2 gMul (d2 gMod (d2 gDiv (dV 0) (dC (.int 2))) (d2 gMulB (d2 gPow (dC (.int 10)) (dC (.int 40))) (d2 gPow (dC (.int 10)) (dC (.int 40))))) (d2 gMod (dV 0) (dC (.int 2)))) (dAc (d2 gMod (d2 gDiv (dV 0) (dC (.int 2))) (dC (.int 2147483647))) dAn))))
def fn_l_bag:List T->Option T:=fnPn 1 d_l_bag
theorem b_l_bag[tk:TheK]   :QBody tk P w mg base 0 "_law_bag" s_l_bag ["_law_cell_here"] (cS .n [] [] [] [] d_l_bag):=by
 intro f cdv A outer s H E hr
 have sc:=sc_l_bag
 exact (qss_one (qs_retN (qe_lst (qa_ (qe_mul (qe_mod (qe_div (qv_ rfl (qpv 0)) (qeb qi_)) (qeb (qe_mulB (qe_pow qi_ (qeb qi_)) (qeb (qe_pow qi_ (qeb qi_)))))) (qeb (qe_mod (qv_ rfl (qpv 0)) (qeb qi_)))) (qa_ (qe_mod (qe_div (qv_ rfl (qpv 0)) (qeb qi_)) (qeb qi_)) qa_nil)))))
theorem ok_l_bag[tk:TheK](h:Here tk.K mg "_law_bag" s_l_bag ["_law_cell_here"]) :Cal P w tk.K mg base 1 "_law_bag" ["_law_cell_here"] (spP .n 1 fn_l_bag):=
 h.qN sc_l_bag (b_l_bag )
abbrev s_l_cell:Stmt:=top 20
theorem sc_l_cell:FnScope ["_law_script","_law_k"] ["_law_script","_law_k"] (defScope s_l_cell):=⟨rfl,rfl,rfl,by decide +kernel,rfl,by decide +kernel,by decide +kernel⟩
def d_l_cell:DS:=(dSeq (dIfS (dB (d2 gLt (dV 1) (d1 gLen (dV 0)))) (dRetI [] (d2 gItem (dV 0) (dV 1))) dNext)
  (dRetI [] (dC (.int 0))))
def fn_l_cell:List T->Option T:=fnP 2 d_l_cell
theorem b_l_cell[tk:TheK](m_len:mg "len"=none)  :QBody tk P w mg base 0 "_law_cell" s_l_cell ["_law_script","_law_k"] (cS .e [] [] [] [] d_l_cell):=by
 intro f cdv A outer s H E hr
 have sc:=sc_l_cell
 have hu:=hu_of hr
 exact (qs_ (M':=[]) (qs_if (M':=[]) (qt_lt (qv_ rfl (qpv 1)) (qeb (qe_len rfl rfl m_len (qeb (qv_ rfl (qpv 0)))))) (qss_one (qs_retE (qe_item rfl hu (qv_ rfl (qpv 0)) (qeb (qv_ rfl (qpv 1))) (fun _ _=>rfl)))) qss_nil)
  (qss_one (qs_retE qi_)))
theorem ok_l_cell[tk:TheK](h:Here tk.K mg "_law_cell" s_l_cell ["_law_script","_law_k"])(m_len:mg "len"=none):Cal P w tk.K mg base 1 "_law_cell" ["_law_script","_law_k"] (spP .e 2 fn_l_cell):=
 h.qP sc_l_cell (b_l_cell m_len)
abbrev s_l_draw:Stmt:=top 22
theorem sc_l_draw:FnScope ["_law_bag_here","_law_many","_law_found"] ["_law_bag_here","_law_many"] (defScope s_l_draw):=⟨rfl,rfl,rfl,by decide +kernel,rfl,by decide +kernel,by decide +kernel⟩
def d_l_draw:DS:=(dSeq (dIfS (dB (d2 gGt (d2v gItem 0 (dC (.int 0))) (dC (.int 0)))) (dSeq (dSet 2 (d2 gMod (d2v gItem 0 (dC (.int 0))) (dV 1)))
  (dSeq (dSetI 0 (dC (.int 0)) (d2 gDiv (d2v gItem 0 (dC (.int 0))) (dV 1)))
  (dRetI [0] (dV 2)))) dNext)
  (dSeq (dSetI 0 (dC (.int 1)) (d2 gMod (d2 gPlus (d2 gMul (d2v gItem 0 (dC (.int 1))) (dC (.int 48271))) (dC (.int 4099))) (dC (.int 2147483647))))
  (dRetI [0] (d2 gMod (d2 gDiv (d2 gMod (d2 gMul (d2v gItem 0 (dC (.int 1))) (d2 gPlus (d2 gDiv (d2v gItem 0 (dC (.int 1))) (dC (.int 65536))) (dC (.int 7)))) (dC (.int 2147483629))) (dC (.int 32))) (dV 1)))))
def fn_l_draw:List T->Option (T × T):=fnI 3 d_l_draw
theorem b_l_draw[tk:TheK]   :QBody tk P w mg base 0 "_law_draw" s_l_draw ["_law_bag_here","_law_many","_law_found"] (cS .e [0] [0] [] [] d_l_draw):=by
 intro f cdv A outer s H E hr
 have sc:=sc_l_draw
 have hu:=hu_of hr
 exact (qs_ (M':=[0]) (qs_if (M':=[0]) (qt_gt (qe_itemV rfl rfl hu (qpv 0) (qeb qi_) (fun _ _=>rfl)) (qeb qi_)) (qs_ (M':=[0]) (qs_setE (M':=[0]) (qps_set (i:=2) sc.nd rfl (Or.inl rfl) (qe_mod (qe_itemV rfl rfl hu (qpv 0) (qeb qi_) (fun _ _=>rfl)) (qeb (qv_ rfl (qpv 1))))))
  (qs_ (M':=[0]) (qs_setI rfl (qps_asg (qe_div (qe_itemV rfl rfl hu (qpv 0) (qeb qi_) (fun _ _=>rfl)) (qeb (qv_ rfl (qpv 1)))) (qpg_sub (qpv 0) qi_ set_list)))
  (qss_one (qs_retE (qv_ rfl (qpv 2)))))) qss_nil)
  (qs_ (M':=[0]) (qs_setI rfl (qps_asg (qe_mod (qe_plus (qe_mul (qe_itemV rfl rfl hu (qpv 0) (qeb qi_) (fun _ _=>rfl)) (qeb qi_)) (qeb qi_)) (qeb qi_)) (qpg_sub (qpv 0) qi_ set_list)))
  (qss_one (qs_retE (qe_mod (qe_div (qe_mod (qe_mul (qe_itemV rfl rfl hu (qpv 0) (qeb qi_) (fun _ _=>rfl)) (qeb (qe_plus (qe_div (qe_itemV rfl rfl hu (qpv 0) (qeb qi_) (fun _ _=>rfl)) (qeb qi_)) (qeb qi_)))) (qeb qi_)) (qeb qi_)) (qeb (qv_ rfl (qpv 1))))))))
theorem ok_l_draw[tk:TheK](h:Here tk.K mg "_law_draw" s_l_draw ["_law_bag_here","_law_many"]) :Cal P w tk.K mg base 1 "_law_draw" ["_law_bag_here","_law_many"] (spI .e 2 fn_l_draw):=
 h.qI sc_l_draw (b_l_draw )
abbrev s_l_odd_name:Stmt:=top 29
theorem sc_l_odd_name:FnScope ["_law_bag_here","_law_word_here","_law_fresh","_law_some"] ["_law_bag_here","_law_word_here","_law_fresh"] (defScope s_l_odd_name):=⟨rfl,rfl,rfl,by decide +kernel,rfl,by decide +kernel,by decide +kernel⟩
def d_l_odd_name:DS:=(dSeq (dSet 3 (dLst (dAc (dV 2) (dAc (dC (.str "")) (dAc (dC (.str "A")) (dAc (d2 gPlus (dSl gSlA (dV 2) dOn (dOs (dC (.int 7)))) (dC (.str "1"))) (dAc (dC (.str "abcdefghi")) (dAc (d2 gPlus (dV 2) (dC (.str " "))) dAn))))))))
  (dSeq (dIfS (dB (d2 gGt (d1 gLen (dV 1)) (dC (.int 0)))) (dDo (dMut mApp 3 (dAc (d2 gItem (dV 1) (dCallI fn_l_draw 0 (dAc (d1 gLen (dV 1)) dAn))) dAn))) dNext)
  (dRetI [0] (d2v gItem 3 (dCallI fn_l_draw 0 (dAc (d1 gLen (dV 3)) dAn))))))
def fn_l_odd_name:List T->Option (T × T):=fnI 4 d_l_odd_name
theorem b_l_odd_name[tk:TheK](C_l_draw:Cal P w tk.K mg base 1 "_law_draw" ["_law_bag_here","_law_many"] (spI .e 2 fn_l_draw))(m_len:mg "len"=none)  :QBody tk P w mg base 1 "_law_odd_name" s_l_odd_name ["_law_bag_here","_law_word_here","_law_fresh","_law_some"] (cS .e [0] [0] [] [] d_l_odd_name):=by
 obtain ⟨f_l_draw,fd_l_draw,G_l_draw,b_l_draw,k_l_draw,m_l_draw⟩:=C_l_draw
 intro f cdv A outer s H E hr
 have sc:=sc_l_odd_name
 have hu:=hu_of hr
 exact (qs_ (M':=[0,3]) (qs_setN (M':=[0,3]) (qps_set (i:=3) sc.nd rfl (Or.inl rfl) (qe_lst (qa_ (qv_ rfl (qpv 2)) (qa_ qe_str (qa_ qe_str (qa_ (qe_plus (qe_slA rfl (qv_ rfl (qpv 2)) qo_none (qo_some qi_)) (qeb qe_str)) (qa_ qe_str (qa_ (qe_plus (qv_ rfl (qpv 2)) (qeb qe_str)) qa_nil)))))))))
  (qs_ (M':=[0,3]) (qs_if (M':=[0,3]) (qt_gt (qe_len rfl rfl m_len (qeb (qv_ rfl (qpv 1)))) (qeb qi_)) (qss_one (qs_do (.inl rfl) (qe_append rfl (qpe_bm PySem.F.plainAttrs_list PySem.F.slot_list_append PySem.F.type_list_append mt_append (qpv 3) (qa_ (qe_item rfl hu (qv_ rfl (qpv 1)) (qeb (qe_callI rfl G_l_draw hr rfl m_l_draw k_l_draw b_l_draw (qpv 0) (qa_ (qe_len rfl rfl m_len (qeb (qv_ rfl (qpv 1)))) qa_nil) (ar_ ar_nil))) (fun _ _=>rfl)) qa_nil))))) qss_nil)
  (qss_one (qs_retE (qe_itemV rfl rfl hu (qpv 3) (qeb (qe_callI rfl G_l_draw hr rfl m_l_draw k_l_draw b_l_draw (qpv 0) (qa_ (qe_len rfl rfl m_len (qe_raw rfl (qpv 3))) qa_nil) (ar_ ar_nil))) (fun _ _=>rfl))))))
theorem ok_l_odd_name[tk:TheK](h:Here tk.K mg "_law_odd_name" s_l_odd_name ["_law_bag_here","_law_word_here","_law_fresh"])(C_l_draw:Cal P w tk.K mg base 1 "_law_draw" ["_law_bag_here","_law_many"] (spI .e 2 fn_l_draw))(m_len:mg "len"=none):Cal P w tk.K mg base 2 "_law_odd_name" ["_law_bag_here","_law_word_here","_law_fresh"] (spI .e 3 fn_l_odd_name):=
 h.qI sc_l_odd_name (b_l_odd_name C_l_draw m_len)
abbrev s_p_is_name:Stmt:=top 10
theorem sc_p_is_name:FnScope ["text"] ["text"] (defScope s_p_is_name):=⟨rfl,rfl,rfl,by decide +kernel,rfl,by decide +kernel,by decide +kernel⟩
def d_p_is_name:DS:=(dRetI [] (dAndV (dCh gLeA gLeA (dC (.int 1)) (d1 gLen (dV 0)) (dC (.int 8))) (d1 gAll (dLC [] [none] (dItA (dV 0)) (dGn 0) dYes (dCh gLeA gLeA (dC (.str "a")) (dV 0) (dC (.str "z")))))))
def fn_p_is_name:List T->Option T:=fnP 1 d_p_is_name
theorem b_p_is_name[tk:TheK]{t_LONGEST_NAME:Tok}(m_all:mg "all"=none)(m_len:mg "len"=none)(c_LONGEST_NAME:mg "LONGEST_NAME"=some (.int 8 t_LONGEST_NAME))  :QBody tk P w mg base 0 "is_name" s_p_is_name ["text"] (cS .e [] [] [] [] d_p_is_name):=by
 intro f cdv A outer s H E hr
 have sc:=sc_p_is_name
 exact (qss_one (qs_retE (qe_and (qe_leLe qi_ (qe_len rfl rfl m_len (qeb (qv_ rfl (qpv 0)))) (qe_con (fun _ _=>.int 8) (qpe_glob rfl c_LONGEST_NAME ⟨_,rfl⟩))) (qe_one (qe_all rfl rfl rfl m_all (qnb (qe_lc (Mi:=[]) rfl (tg_name (i:=0)) yes_ok (qpe_lc (N:=["sign"]) (caps:=[none]) rfl (qi_any rfl (qv_ rfl (qpv 0))) (fun _ _ _ _ _=>(qpg_name (i:=0) (show (["sign"]:List Str).Nodup by decide +kernel) rfl (Or.inl rfl))) kg_name (fun _ _ _ _ _=>qpts_nil) (fun _ _ _ _ _=>(qe_leLe qe_str (qv_ rfl (qpv 0)) qe_str))))))))))
theorem ok_p_is_name[tk:TheK]{t_LONGEST_NAME:Tok}(h:Here tk.K mg "is_name" s_p_is_name ["text"])(m_all:mg "all"=none)(m_len:mg "len"=none)(c_LONGEST_NAME:mg "LONGEST_NAME"=some (.int 8 t_LONGEST_NAME)):Cal P w tk.K mg base 1 "is_name" ["text"] (spP .e 1 fn_p_is_name):=
 h.qP sc_p_is_name (b_p_is_name m_all m_len c_LONGEST_NAME)
abbrev s_p_is_word:Stmt:=top 11
theorem sc_p_is_word:FnScope ["some","counts","text"] ["some"] (defScope s_p_is_word):=⟨rfl,rfl,rfl,by decide +kernel,rfl,by decide +kernel,by decide +kernel⟩
def d_p_is_word:DS:=(dSeq (dSet 1 dDict)
  (dSeq (dFor (dItA (dV 0)) (dGn 2)
  (dSeq (dIfS (dNot (dTru (dCall fn_p_is_name (dAc (dV 2) dAn)))) (dRetI [] (dC (.bl false))) dNext)
  (dPut 1 (dV 2) (d2 gPlus (dGetV 1 (dV 2) (dC (.int 0))) (dC (.int 1))))))
  (dFzS 1 (dRetI [] (dAndV (d2 gLe (d1 gLen (dV 1)) (dC (.int 30))) (d1 gAll (dLC [] [none] (dItW (dV 1)) (dGn 0) dYes (d2 gEq (dV 0) (dC (.int 2))))))))))
def fn_p_is_word:List T->Option T:=fnP 3 d_p_is_word
theorem b_p_is_word[tk:TheK]{t_MOST_NAMES:Tok}(C_p_is_name:Cal P w tk.K mg base 1 "is_name" ["text"] (spP .e 1 fn_p_is_name))(m_all:mg "all"=none)(m_len:mg "len"=none)(c_MOST_NAMES:mg "MOST_NAMES"=some (.int 30 t_MOST_NAMES))  :QBody tk P w mg base 1 "is_word" s_p_is_word ["some","counts","text"] (cS .e [] [] [] [] d_p_is_word):=by
 obtain ⟨f_p_is_name,fd_p_is_name,G_p_is_name,b_p_is_name,k_p_is_name,m_p_is_name⟩:=C_p_is_name
 intro f cdv A outer s H E hr
 have sc:=sc_p_is_word
 have hu:=hu_of hr
 have hu8:(A.deeper (envOfC "is_word" (defScope s_p_is_word) s.heap.objs.size f cdv)).units+8 < cLine:=hu8_of hr
 exact (qs_ (M':=[1]) (qs_setN (M':=[1]) (qps_set (i:=1) sc.nd rfl (Or.inl rfl) qe_dict))
  (qs_ (M':=[1]) (qs_for (qps_for PassesOwn.never rfl (qi_any rfl (qv_ rfl (qpv 0))) (qg_name (qpg_name (i:=2) sc.nd rfl (Or.inl rfl)))
  (qs_ (M':=[1]) (qs_if (M':=[1]) (qt_not (qt_tru (qeb (qe_call G_p_is_name hr rfl m_p_is_name k_p_is_name b_p_is_name (qa_ (qv_ rfl (qpv 2)) qa_nil) (ar_ ar_nil))))) (qss_one (qs_retE qe_bl)) qss_nil)
  (qss_one (qs_put rfl (qps_dput hu (qpv 1) (qv_ rfl (qpv 2)) (qe_plus (qe_getV rfl hu (qpv 1) (qv_ rfl (qpv 2)) qi_ ⟨rfl,rfl,rfl,rfl⟩) (qeb qi_)) rfl))))))
  (qss_one (qs_kn (i:=1) (M':=[]) (qs_retE (qe_and (qe_le (qe_len rfl rfl m_len (qeb (qv_ rfl (qpv 1)))) (qeb (qe_con (fun _ _=>.int 30) (qpe_glob rfl c_MOST_NAMES ⟨_,rfl⟩)))) (qe_one (qe_all rfl rfl rfl m_all (qnb (qe_lc (Mi:=[]) rfl (tg_name (i:=0)) yes_ok (qpe_lc (N:=["many"]) (caps:=[none]) rfl (qi_vals (qv_ rfl (qpv 1))) (fun _ _ _ _ _=>(qpg_name (i:=0) (show (["many"]:List Str).Nodup by decide +kernel) rfl (Or.inl rfl))) kg_name (fun _ _ _ _ _=>qpts_nil) (fun _ _ _ _ _=>(qe_eq hu8 (qv_ rfl (qpv 0)) (qeb qi_))))))))))))))
theorem ok_p_is_word[tk:TheK]{t_MOST_NAMES:Tok}(h:Here tk.K mg "is_word" s_p_is_word ["some"])(C_p_is_name:Cal P w tk.K mg base 1 "is_name" ["text"] (spP .e 1 fn_p_is_name))(m_all:mg "all"=none)(m_len:mg "len"=none)(c_MOST_NAMES:mg "MOST_NAMES"=some (.int 30 t_MOST_NAMES)):Cal P w tk.K mg base 2 "is_word" ["some"] (spP .e 1 fn_p_is_word):=
 h.qP sc_p_is_word (b_p_is_word C_p_is_name m_all m_len c_MOST_NAMES)
abbrev s_p_still_word:Stmt:=top 15
theorem sc_p_still_word:FnScope ["some"] ["some"] (defScope s_p_still_word):=⟨rfl,rfl,rfl,by decide +kernel,rfl,by decide +kernel,by decide +kernel⟩
def d_p_still_word:DS:=(dSeq (dIfS (dNot (dTru (dCall fn_p_is_word (dAc (dV 0) dAn)))) dNever dNext)
  (dRetI [] (dV 0)))
def fn_p_still_word:List T->Option T:=fnP 1 d_p_still_word
theorem b_p_still_word[tk:TheK](C_p_is_word:Cal P w tk.K mg base 2 "is_word" ["some"] (spP .e 1 fn_p_is_word))  :QBody tk P w mg base 2 "still_word" s_p_still_word ["some"] (cS .e [] [] [] [] d_p_still_word):=by
 obtain ⟨f_p_is_word,fd_p_is_word,G_p_is_word,b_p_is_word,k_p_is_word,m_p_is_word⟩:=C_p_is_word
 intro f cdv A outer s H E hr
 have sc:=sc_p_still_word
 exact (qs_ (M':=[]) (qs_if (M':=[]) (qt_not (qt_tru (qeb (qe_call G_p_is_word hr rfl m_p_is_word k_p_is_word b_p_is_word (qa_ (qv_ rfl (qpv 0)) qa_nil) (ar_ ar_nil))))) (qss_one qs_never) qss_nil)
  (qss_one (qs_retE (qv_ rfl (qpv 0)))))
theorem ok_p_still_word[tk:TheK](h:Here tk.K mg "still_word" s_p_still_word ["some"])(C_p_is_word:Cal P w tk.K mg base 2 "is_word" ["some"] (spP .e 1 fn_p_is_word)):Cal P w tk.K mg base 3 "still_word" ["some"] (spP .e 1 fn_p_still_word):=
 h.qP sc_p_still_word (b_p_still_word C_p_is_word)
def dr_p_still_word:DR:=(dSeqR (dIfR (dNot (dTru (dCall fn_p_is_word (dAc (dV 0) dAn)))) dYesR dNoR) (dIfS (dNot (dTru (dCall fn_p_is_word (dAc (dV 0) dAn)))) dNever dNext)
  dNoR)
def rs_p_still_word:List T->Bool:=fnR 1 dr_p_still_word
theorem br_p_still_word[tk:TheK]{C D r1 r2 r3 r4:Addr}(C_p_is_word:Cal P w tk.K mg base 2 "is_word" ["some"] (spP .e 1 fn_p_is_word))(mv:Mv tk.K mg base C D r1 r2 r3 r4):QBodyR tk P w mg base 2 "still_word" s_p_still_word ["some"] C dr_p_still_word:=by
 obtain ⟨f_p_is_word,fd_p_is_word,G_p_is_word,b_p_is_word,k_p_is_word,m_p_is_word⟩:=C_p_is_word
 obtain ⟨bm,xc,_⟩:=mv.xc
 intro f cdv A outer s H E hr hA
 have sc:=sc_p_still_word
 exact (qr_seq (rk:=.e) (qr_if (qt_not (qt_tru (qeb (qe_call G_p_is_word hr rfl m_p_is_word k_p_is_word b_p_is_word (qa_ (qv_ rfl (qpv 0)) qa_nil) (ar_ ar_nil))))) (qr_one (qr_raise (raises_cx hA) rfl xc rfl mv.mC qpe_str)) qr_no) (qs_if (M':=[]) (qt_not (qt_tru (qeb (qe_call G_p_is_word hr rfl m_p_is_word k_p_is_word b_p_is_word (qa_ (qv_ rfl (qpv 0)) qa_nil) (ar_ ar_nil))))) (qss_one qs_never) qss_nil)
  (qr_one qr_noS))
theorem okR_p_still_word[tk:TheK]{C D r1 r2 r3 r4:Addr}(h:Here tk.K mg "still_word" s_p_still_word ["some"])(C_p_is_word:Cal P w tk.K mg base 2 "is_word" ["some"] (spP .e 1 fn_p_is_word))(mv:Mv tk.K mg base C D r1 r2 r3 r4):CalR P w tk.K mg base 3 "still_word" ["some"] (spR C 1 rs_p_still_word):=
 h.qR sc_p_still_word (br_p_still_word C_p_is_word mv)
abbrev s_p_curled:Stmt:=top 14
theorem sc_p_curled:FnScope ["word","at","name"] ["word","at","name"] (defScope s_p_curled):=⟨rfl,rfl,rfl,by decide +kernel,rfl,by decide +kernel,by decide +kernel⟩
def d_p_curled:DS:=(dSeq (dIfS (dNot (dB (dCh gLeA gLeA (dC (.int 0)) (dV 1) (d1 gLen (dV 0))))) dNever dNext)
  (dRetI [] (dCallD fn_p_still_word (d2 gCat (d2 gPlus (dSl gSlA (dV 0) dOn (dOs (dV 1))) (dLst (dAc (dV 2) (dAc (dV 2) dAn)))) (dSl gSlA (dV 0) (dOs (dV 1)) dOn)))))
def fn_p_curled:List T->Option T:=fnPn 3 d_p_curled
theorem b_p_curled[tk:TheK](C_p_still_word:Cal P w tk.K mg base 3 "still_word" ["some"] (spP .e 1 fn_p_still_word))(m_len:mg "len"=none)  :QBody tk P w mg base 3 "curled" s_p_curled ["word","at","name"] (cS .b [] [] [] [] d_p_curled):=by
 obtain ⟨f_p_still_word,fd_p_still_word,G_p_still_word,b_p_still_word,k_p_still_word,m_p_still_word⟩:=C_p_still_word
 intro f cdv A outer s H E hr
 have sc:=sc_p_curled
 exact (qs_ (M':=[]) (qs_if (M':=[]) (qt_not (qt_leLe qi_ (qv_ rfl (qpv 1)) (qe_len rfl rfl m_len (qeb (qv_ rfl (qpv 0)))))) (qss_one qs_never) qss_nil)
  (qss_one (qs_retD (qe_dcall G_p_still_word hr rfl m_p_still_word k_p_still_word b_p_still_word (qe_cat (qe_plus (qe_slA rfl (qv_ rfl (qpv 0)) qo_none (qo_some (qv_ rfl (qpv 1)))) (qnb (qe_lst (qa_ (qv_ rfl (qpv 2)) (qa_ (qv_ rfl (qpv 2)) qa_nil))))) (qeb (qe_slA rfl (qv_ rfl (qpv 0)) (qo_some (qv_ rfl (qpv 1))) qo_none)))))))
theorem ok_p_curled[tk:TheK](h:Here tk.K mg "curled" s_p_curled ["word","at","name"])(C_p_still_word:Cal P w tk.K mg base 3 "still_word" ["some"] (spP .e 1 fn_p_still_word))(m_len:mg "len"=none):Cal P w tk.K mg base 4 "curled" ["word","at","name"] (spD 3 fn_p_curled):=
 h.qD sc_p_curled (b_p_curled C_p_still_word m_len)
def dr_p_curled:DR:=(dSeqR (dIfR (dNot (dB (dCh gLeA gLeA (dC (.int 0)) (dV 1) (d1 gLen (dV 0))))) dYesR dNoR) (dIfS (dNot (dB (dCh gLeA gLeA (dC (.int 0)) (dV 1) (d1 gLen (dV 0))))) dNever dNext)
  (dRetR 1 rs_p_still_word (dAc (d2 gPlus (d2 gPlus (dSl gSlA (dV 0) dOn (dOs (dV 1))) (dLst (dAc (dV 2) (dAc (dV 2) dAn)))) (dSl gSlA (dV 0) (dOs (dV 1)) dOn)) dAn)))
def rs_p_curled:List T->Bool:=fnR 3 dr_p_curled
theorem br_p_curled[tk:TheK]{C D r1 r2 r3 r4:Addr}(m_len:mg "len"=none)(R_p_still_word:CalR P w tk.K mg base 3 "still_word" ["some"] (spR C 1 rs_p_still_word))(mv:Mv tk.K mg base C D r1 r2 r3 r4):QBodyR tk P w mg base 3 "curled" s_p_curled ["word","at","name"] C dr_p_curled:=by
 obtain ⟨rf_p_still_word,rd_p_still_word,R_p_still_word,rb_p_still_word,rk_p_still_word,rm_p_still_word⟩:=R_p_still_word
 obtain ⟨bm,xc,_⟩:=mv.xc
 intro f cdv A outer s H E hr hA
 have sc:=sc_p_curled
 exact (qr_seq (rk:=.e) (qr_if (qt_not (qt_leLe qi_ (qv_ rfl (qpv 1)) (qe_len rfl rfl m_len (qeb (qv_ rfl (qpv 0)))))) (qr_one (qr_raise (raises_cx hA) rfl xc rfl mv.mC qpe_str)) qr_no) (qs_if (M':=[]) (qt_not (qt_leLe qi_ (qv_ rfl (qpv 1)) (qe_len rfl rfl m_len (qeb (qv_ rfl (qpv 0)))))) (qss_one qs_never) qss_nil)
  (qr_one (qr_ret R_p_still_word hr rfl rm_p_still_word rk_p_still_word rb_p_still_word (passed_on hA fun _ _ z=>z) (qa_ (qe_plus (qe_plus (qe_slA rfl (qv_ rfl (qpv 0)) qo_none (qo_some (qv_ rfl (qpv 1)))) (qnb (qe_lst (qa_ (qv_ rfl (qpv 2)) (qa_ (qv_ rfl (qpv 2)) qa_nil))))) (qeb (qe_slA rfl (qv_ rfl (qpv 0)) (qo_some (qv_ rfl (qpv 1))) qo_none))) qa_nil))))
theorem okR_p_curled[tk:TheK]{C D r1 r2 r3 r4:Addr}(h:Here tk.K mg "curled" s_p_curled ["word","at","name"])(m_len:mg "len"=none)(R_p_still_word:CalR P w tk.K mg base 3 "still_word" ["some"] (spR C 1 rs_p_still_word))(mv:Mv tk.K mg base C D r1 r2 r3 r4):CalR P w tk.K mg base 4 "curled" ["word","at","name"] (spR C 3 rs_p_curled):=
 h.qR sc_p_curled (br_p_curled m_len R_p_still_word mv)
abbrev s_l_is_no_move:Stmt:=top 27
theorem sc_l_is_no_move:FnScope ["_law_e"] ["_law_e"] (defScope s_l_is_no_move):=⟨rfl,rfl,rfl,by decide +kernel,rfl,by decide +kernel,by decide +kernel⟩
theorem okH_l_is_no_move[tk:TheK]{C D r1 r2 r3 r4:Addr}(h:Here tk.K mg "_law_is_no_move" s_l_is_no_move ["_law_e"])(m_isinstance:mg "isinstance"=none)(m_ValueError:mg "ValueError"=none)(mv:Mv tk.K mg base C D r1 r2 r3 r4):CalH P w tk.K mg base 1 "_law_is_no_move" ["_law_e"] (spNM C):=by
 have sc:=sc_l_is_no_move
 refine h.okH sc (fun vs H Q E ⟨x,e,_⟩=>by rw [e]; rfl) fun f cdv A outer s H vs Q E hr hs=>?_
 obtain ⟨x,rfl,hx,q⟩:=hs
 refine ⟨_,PSs.zero (pss_cons (ps_if (PW.pt (pw_or (pt_not (pt_val (pe_callB call_isx rfl m_isinstance bt_isinstance (pa_cons (pv 0) (pa_cons (pe_bltn (v:=.ty "ValueError") rfl m_ValueError (by decide +kernel) rfl) pa_nil)))))
  (pw_or1 (pt_not (pt_val (pe_callB call_isx rfl m_isinstance bt_isinstance (pa_cons (pv 0) (pa_cons (pe_glob (v:=.ref C) rfl mv.mC rfl) pa_nil)))))))) (pss_one (ps_ret pe_bl)) pss_nil)
  (pss_one (ps_ret (pe_not (pe_callB call_isxT rfl m_isinstance bt_isinstance (pa_cons (pv 0) (pa_cons (pe_tup (pa_cons (pe_glob (v:=.ref r1) rfl mv.m1 rfl) (pa_cons (pe_glob (v:=.ref r2) rfl mv.m2 rfl) (pa_cons (pe_glob (v:=.ref r3) rfl mv.m3 rfl) (pa_cons (pe_glob (v:=.ref r4) rfl mv.m4 rfl) pa_nil))))) pa_nil))))))),?_⟩
 refine ⟨_,rfl,x,C,.ty "ValueError",.type "ValueError",true,rfl,rfl,hx,mv.xi,mv.ve,true,rfl,?_⟩
 refine ⟨_,rfl,x,C,.ref C,.ref C,true,rfl,rfl,hx,mv.xi,?_,true,rfl,?_⟩
 ·unfold PySem.W.kitOne
  rw [if_pos (beq_self_eq_true _)]
 refine ⟨_,rfl,by show 4<=sizeLine; decide,fun p hp=>?_⟩
 have hxp:x≠p:=fun z=>by rw [<-z,hx] at hp; cases hp
 refine ⟨x,C,p,[r1,r2,r3,r4],false,rfl,?_,mv.xi,?_,mv.no,false,rfl,?_⟩
 ·rw [upd_ne hxp]; exact hx
 ·exact upd_same
 ·exact q _ (fun b o e=>by rw [upd_ne (fun z=>by rw [z,hp] at e; cases e)]; exact e) fun b e=>by
   unfold upd at e
   split at e
   ·cases e
   ·exact e
abbrev s_l_curled:Stmt:=top 30
theorem sc_l_curled:FnScope ["_law_word_here","_law_at","_law_name","_law_e"] ["_law_word_here","_law_at","_law_name"] (defScope s_l_curled):=⟨rfl,rfl,rfl,by decide +kernel,rfl,by decide +kernel,by decide +kernel⟩
def fn_l_curled:List T->Option T:=fun ts=>match fn_p_curled ts with
 | some t=>some t
 | none=>if rs_p_curled ts=true then some (.str "none") else none
theorem okT_l_curled[tk:TheK]{C D r1 r2 r3 r4:Addr}(h:Here tk.K mg "_law_curled" s_l_curled ["_law_word_here","_law_at","_law_name"])(C_p_curled:Cal P w tk.K mg base 4 "curled" ["word","at","name"] (spD 3 fn_p_curled))(R_p_curled:CalR P w tk.K mg base 4 "curled" ["word","at","name"] (spR C 3 rs_p_curled))(H_no:CalH P w tk.K mg base 4 "_law_is_no_move" ["_law_e"] (spNM C))(mv:Mv tk.K mg base C D r1 r2 r3 r4):Cal P w tk.K mg base 5 "_law_curled" ["_law_word_here","_law_at","_law_name"] (spD 3 fn_l_curled):=by
 obtain ⟨f1,fd1,G1,b1,k1,m1⟩:=C_p_curled
 obtain ⟨f2,fd2,G2,b2,k2,m2⟩:=R_p_curled
 obtain ⟨f3,fd3,G3,b3,k3,m3⟩:=H_no
 obtain ⟨bm,xc,hcD⟩:=mv.xc
 obtain ⟨bmD,xd,_⟩:=mv.xd
 have sc:=sc_l_curled
 refine h.okX (CX:=CX0) sc (fun vs H Q E ⟨C,ts,t,hl,r,_⟩=>by rw [r.1,hl]; rfl) fun f cdv A outer s H vs Q E hr hA hs=>?_
 refine ⟨_,pss0_one (ps_try_as (i:=3) (bmD:=bmD) (tb:=fun E'=>fun D' σ' H'=>tRet (tCall (spD 3 fn_p_curled) [] E0 _) D' σ' H'∨tRet (tCall (spR C 3 rs_p_curled) [] E' _) D' σ' H')
  (fun W E' hp=>pss_or (pss_one (ps_ret (pe_call G1 hr rfl m1 k1 b1 .nil pass0 (pa_cons (pv 0) (pa_cons (pv 1) (pa_cons (pv 2) pa_nil)))))) (pss_one (ps_ret (pe_call G2 hr rfl m2 k2 b2 .nil hp (pa_cons (pv 0) (pa_cons (pv 1) (pa_cons (pv 2) pa_nil)))))))
  rfl rfl rfl rfl sc.nd rfl rfl rfl mv.mD xd
  (fun x=>pss_cons (ps_if (pt_val (pe_callH (E:=E0) G3 (hr.h.mark _) rfl m3 k3 b3 (pa_cons (pv 3) pa_nil))) (pss_one (ps_ret pe_str)) pss_nil) (pss_one (ps_ret pe_str)))),?_⟩
 obtain ⟨C',ts,t,hl,r,hf,q⟩:=hs
 obtain ⟨v0,v1,v2,rfl⟩:∃ v0 v1 v2,vs=[v0,v1,v2]:=by
  match vs,(r.1.trans hl) with
  | [v0,v1,v2],_=>exact ⟨v0,v1,v2,rfl⟩
 unfold fn_l_curled at hf
 split at hf
 ·rename_i t' ht
  obtain rfl:=Option.some.inj hf
  exact .inl ⟨_,rfl,_,rfl,_,rfl, C',ts,t',hl,r,ht,q⟩
 ·split at hf
  case isFalse=>cases hf
  rename_i hrs
  obtain rfl:=Option.some.inj hf
  refine .inr ⟨_,rfl,_,rfl,_,rfl, C',ts,hl,r,hrs,fun H' kp dm=>⟨C,bm,rfl,xc,hcD,fun x hx=>?_⟩⟩
  refine ⟨_,rfl,x,rfl,upd_same,fun H2 k2 d2=>⟨true,rfl,?_⟩⟩
  refine q _ H2 (fun b o e=>k2 b o ?_) (fun b e=>dm b ?_) (.str _)
  ·have e':=kp b o e
   rw [upd_ne (fun z=>by rw [z,hx] at e'; cases e')]
   exact e'
  ·have e':=d2 b e
   unfold upd at e'
   split at e'
   ·cases e'
   ·exact e'
abbrev s_l_good_name:Stmt:=top 28
theorem sc_l_good_name:FnScope ["_law_name"] ["_law_name"] (defScope s_l_good_name):=⟨rfl,rfl,rfl,by decide +kernel,rfl,by decide +kernel,by decide +kernel⟩
def d_l_good_name:DS:=(dRetI [] (dAndV (dCh gLt gLt (dC (.int 0)) (d1 gLen (dV 0)) (dC (.int 9))) (d1 gAll (dLC [] [none] (dItA (dV 0)) (dGn 0) dYes (dCh gLeA gLeA (dC (.str "a")) (dV 0) (dC (.str "z")))))))
def fn_l_good_name:List T->Option T:=fnP 1 d_l_good_name
theorem b_l_good_name[tk:TheK](m_all:mg "all"=none)(m_len:mg "len"=none)  :QBody tk P w mg base 0 "_law_good_name" s_l_good_name ["_law_name"] (cS .e [] [] [] [] d_l_good_name):=by
 intro f cdv A outer s H E hr
 have sc:=sc_l_good_name
 exact (qss_one (qs_retE (qe_and (qe_ltLt qi_ (qe_len rfl rfl m_len (qeb (qv_ rfl (qpv 0)))) qi_) (qe_one (qe_all rfl rfl rfl m_all (qnb (qe_lc (Mi:=[]) rfl (tg_name (i:=0)) yes_ok (qpe_lc (N:=["_law_sign"]) (caps:=[none]) rfl (qi_any rfl (qv_ rfl (qpv 0))) (fun _ _ _ _ _=>(qpg_name (i:=0) (show (["_law_sign"]:List Str).Nodup by decide +kernel) rfl (Or.inl rfl))) kg_name (fun _ _ _ _ _=>qpts_nil) (fun _ _ _ _ _=>(qe_leLe qe_str (qv_ rfl (qpv 0)) qe_str))))))))))
theorem ok_l_good_name[tk:TheK](h:Here tk.K mg "_law_good_name" s_l_good_name ["_law_name"])(m_all:mg "all"=none)(m_len:mg "len"=none):Cal P w tk.K mg base 1 "_law_good_name" ["_law_name"] (spP .e 1 fn_l_good_name):=
 h.qP sc_l_good_name (b_l_good_name m_all m_len)
abbrev s_l_put_in:Stmt:=top 32
theorem sc_l_put_in:FnScope ["_law_word_here","_law_at","_law_name","_law_made"] ["_law_word_here","_law_at","_law_name"] (defScope s_l_put_in):=⟨rfl,rfl,rfl,by decide +kernel,rfl,by decide +kernel,by decide +kernel⟩
def d_l_put_in:DS:=(dSeq (dIfS (dOr (dNot (dTru (dCall fn_l_good_name (dAc (dV 2) dAn)))) (dOr (dB (d2 gInA (dV 2) (dV 0))) (dOr (dB (d2 gGt (d1 gLen (dV 0)) (dC (.int 58)))) (dOr (dB (d2 gLt (dV 1) (dC (.int 0)))) (dB (d2 gGt (dV 1) (d1 gLen (dV 0)))))))) (dRetI [] (dC (.str "none"))) dNext)
  (dSeq (dSet 3 (d1 gListA (dV 0)))
  (dSeq (dDo (dMut mIns 3 (dAc (dV 1) (dAc (dV 2) dAn))))
  (dSeq (dDo (dMut mIns 3 (dAc (dV 1) (dAc (dV 2) dAn))))
  (dRetI [] (dV 3))))))
def fn_l_put_in:List T->Option T:=fnP 4 d_l_put_in
theorem b_l_put_in[tk:TheK](C_l_good_name:Cal P w tk.K mg base 1 "_law_good_name" ["_law_name"] (spP .e 1 fn_l_good_name))(m_len:mg "len"=none)(m_list:mg "list"=none)  :QBody tk P w mg base 1 "_law_put_in" s_l_put_in ["_law_word_here","_law_at","_law_name","_law_made"] (cS .e [] [] [] [] d_l_put_in):=by
 obtain ⟨f_l_good_name,fd_l_good_name,G_l_good_name,b_l_good_name,k_l_good_name,m_l_good_name⟩:=C_l_good_name
 intro f cdv A outer s H E hr
 have sc:=sc_l_put_in
 have hu:=hu_of hr
 exact (qs_ (M':=[]) (qs_if (M':=[]) (QW.pt (qw_or (qt_not (qt_tru (qeb (qe_call G_l_good_name hr rfl m_l_good_name k_l_good_name b_l_good_name (qa_ (qv_ rfl (qpv 2)) qa_nil) (ar_ ar_nil))))) (qw_or (qt_inA hu (qv_ rfl (qpv 2)) (qeb (qv_ rfl (qpv 0))) (by with_unfolding_all rfl)) (qw_or (qt_gt (qe_len rfl rfl m_len (qeb (qv_ rfl (qpv 0)))) (qeb qi_)) (qw_or (qt_lt (qv_ rfl (qpv 1)) (qeb qi_)) (qw_or1 (qt_gt (qv_ rfl (qpv 1)) (qeb (qe_len rfl rfl m_len (qeb (qv_ rfl (qpv 0)))))))))))) (qss_one (qs_retE qe_str)) qss_nil)
  (qs_ (M':=[3]) (qs_setN (M':=[3]) (qps_set (i:=3) sc.nd rfl (Or.inl rfl) (qe_listA rfl rfl rfl m_list (qeb (qv_ rfl (qpv 0))))))
  (qs_ (M':=[3]) (qs_do (.inl rfl) (qe_insert rfl (qpe_bm PySem.F.plainAttrs_list PySem.F.slot_list_insert PySem.F.type_list_insert mt_insert (qpv 3) (qa_ (qv_ rfl (qpv 1)) (qa_ (qv_ rfl (qpv 2)) qa_nil)))))
  (qs_ (M':=[3]) (qs_do (.inl rfl) (qe_insert rfl (qpe_bm PySem.F.plainAttrs_list PySem.F.slot_list_insert PySem.F.type_list_insert mt_insert (qpv 3) (qa_ (qv_ rfl (qpv 1)) (qa_ (qv_ rfl (qpv 2)) qa_nil)))))
  (qss_one (qs_pre (M':=[]) (qs_retE (qv_ rfl (qpv 3)))))))))
theorem ok_l_put_in[tk:TheK](h:Here tk.K mg "_law_put_in" s_l_put_in ["_law_word_here","_law_at","_law_name"])(C_l_good_name:Cal P w tk.K mg base 1 "_law_good_name" ["_law_name"] (spP .e 1 fn_l_good_name))(m_len:mg "len"=none)(m_list:mg "list"=none):Cal P w tk.K mg base 2 "_law_put_in" ["_law_word_here","_law_at","_law_name"] (spP .e 3 fn_l_put_in):=
 h.qP sc_l_put_in (b_l_put_in C_l_good_name m_len m_list)
abbrev s_p_standings:Stmt:=top 12
theorem sc_p_standings:FnScope ["word","name"] ["word","name"] (defScope s_p_standings):=⟨rfl,rfl,rfl,by decide +kernel,rfl,by decide +kernel,by decide +kernel⟩
def d_p_standings:DS:=(dRetI [] (dLC [] [none,none,some 1] (dEn (dAc (dV 0) dAn)) (dGt [0,1]) (dB (d2 gEq (dV 1) (dV 2))) (dV 0)))
def fn_p_standings:List T->Option T:=fnP 2 d_p_standings
theorem b_p_standings[tk:TheK](m_enumerate:mg "enumerate"=none)  :QBody tk P w mg base 0 "standings" s_p_standings ["word","name"] (cS .e [] [] [] [] d_p_standings):=by
 intro f cdv A outer s H E hr
 have sc:=sc_p_standings
 have hu8:(A.deeper (envOfC "standings" (defScope s_p_standings) s.heap.objs.size f cdv)).units+8 < cLine:=hu8_of hr
 exact (qss_one (qs_retE (qne (qe_lc (Mi:=[]) rfl (tg_tup (K:=tk.K) (is:=[0,1]) (n:=2)) (fun _ _ _ h=>h) (qpe_lc (N:=["at","other","name"]) (caps:=[none,none,some 1]) (g:=gTup tk.K 2 (gsN [0,1])) rfl (qi_enum rfl m_enumerate (qa_ (qv_ rfl (qpv 0)) qa_nil)) (fun _ _ _ _ _=>(qpg_tupK (K:=tk.K) rfl rfl (qpgs_cons (qpg_name (i:=0) (show (["at","other","name"]:List Str).Nodup by decide +kernel) rfl (Or.inl rfl)) (qpgs_cons (qpg_name (i:=1) (show (["at","other","name"]:List Str).Nodup by decide +kernel) rfl (Or.inl rfl)) qpgs_nil)))) kg_pair (fun _ _ _ _ _=>(qpts_one (qt_eq hu8 (qv_ rfl (qpv 1)) (qeb (qv_ rfl (qpv 2)))))) (fun _ _ _ _ _=>(qv_ rfl (qpv 0))))))))
theorem ok_p_standings[tk:TheK](h:Here tk.K mg "standings" s_p_standings ["word","name"])(m_enumerate:mg "enumerate"=none):Cal P w tk.K mg base 1 "standings" ["word","name"] (spP .e 2 fn_p_standings):=
 h.qP sc_p_standings (b_p_standings m_enumerate)
abbrev s_p_without:Stmt:=top 18
theorem sc_p_without:FnScope ["word","gone"] ["word","gone"] (defScope s_p_without):=⟨rfl,rfl,rfl,by decide +kernel,rfl,by decide +kernel,by decide +kernel⟩
def d_p_without:DS:=(dRetI [] (dLC [] [none,some 1] (dItA (dV 0)) (dGn 0) (dB (d2 gNotInA (dV 0) (dV 1))) (dV 0)))
def fn_p_without:List T->Option T:=fnPn 2 d_p_without
theorem b_p_without[tk:TheK]   :QBody tk P w mg base 0 "without" s_p_without ["word","gone"] (cS .n [] [] [] [] d_p_without):=by
 intro f cdv A outer s H E hr
 have sc:=sc_p_without
 have hu:=hu_of hr
 exact (qss_one (qs_retN (qe_lc (Mi:=[]) rfl (tg_name (i:=0)) (fun _ _ _ h=>h) (qpe_lc (N:=["name","gone"]) (caps:=[none,some 1]) rfl (qi_any rfl (qv_ rfl (qpv 0))) (fun _ _ _ _ _=>(qpg_name (i:=0) (show (["name","gone"]:List Str).Nodup by decide +kernel) rfl (Or.inl rfl))) kg_name (fun _ _ _ _ _=>(qpts_one (qt_notinA hu (qv_ rfl (qpv 0)) (qeb (qv_ rfl (qpv 1))) (by with_unfolding_all rfl)))) (fun _ _ _ _ _=>(qv_ rfl (qpv 0)))))))
theorem ok_p_without[tk:TheK](h:Here tk.K mg "without" s_p_without ["word","gone"]) :Cal P w tk.K mg base 1 "without" ["word","gone"] (spP .n 2 fn_p_without):=
 h.qN sc_p_without (b_p_without )
abbrev s_p_side_by_side:Stmt:=top 17
theorem sc_p_side_by_side:FnScope ["size","low","high"] ["size","low","high"] (defScope s_p_side_by_side):=⟨rfl,rfl,rfl,by decide +kernel,rfl,by decide +kernel,by decide +kernel⟩
def d_p_side_by_side:DS:=(dRetI [] (d2 gInA (d2 gSb (dV 2) (dV 1)) (dTup (dAc (dC (.int 1)) (dAc (d2 gSb (dV 0) (dC (.int 1))) dAn)))))
def fn_p_side_by_side:List T->Option T:=fnP 3 d_p_side_by_side
theorem b_p_side_by_side[tk:TheK]   :QBody tk P w mg base 0 "side_by_side" s_p_side_by_side ["size","low","high"] (cS .e [] [] [] [] d_p_side_by_side):=by
 intro f cdv A outer s H E hr
 have sc:=sc_p_side_by_side
 have hu:=hu_of hr
 exact (qss_one (qs_retE (qe_inA hu (qe_sub (qv_ rfl (qpv 2)) (qeb (qv_ rfl (qpv 1)))) (qeb (qe_tup (qa_ qi_ (qa_ (qe_sub (qv_ rfl (qpv 0)) (qeb qi_)) qa_nil)))) (by with_unfolding_all rfl))))
theorem ok_p_side_by_side[tk:TheK](h:Here tk.K mg "side_by_side" s_p_side_by_side ["size","low","high"]) :Cal P w tk.K mg base 1 "side_by_side" ["size","low","high"] (spP .e 3 fn_p_side_by_side):=
 h.qP sc_p_side_by_side (b_p_side_by_side )
abbrev s_p_uncurled:Stmt:=top 16
theorem sc_p_uncurled:FnScope ["word","name","places"] ["word","name"] (defScope s_p_uncurled):=⟨rfl,rfl,rfl,by decide +kernel,rfl,by decide +kernel,by decide +kernel⟩
def d_p_uncurled:DS:=(dSeq (dSet 2 (dCall fn_p_standings (dAc (dV 0) (dAc (dV 1) dAn))))
  (dSeq (dIfS (dOr (dNot (dTru (dV 2))) (dNot (dTru (dCall fn_p_side_by_side (dAc (d1 gLen (dV 0)) (dAc (d2 gItem (dV 2) (dC (.int 0))) (dAc (d2 gItem (dV 2) (dC (.int 1))) dAn))))))) dNever dNext)
  (dRetI [] (dFlN (dCall fn_p_without (dAc (dV 0) (dAc (dLst (dAc (dV 1) dAn)) dAn)))))))
def fn_p_uncurled:List T->Option T:=fnPn 3 d_p_uncurled
theorem b_p_uncurled[tk:TheK](C_p_standings:Cal P w tk.K mg base 1 "standings" ["word","name"] (spP .e 2 fn_p_standings))(C_p_side_by_side:Cal P w tk.K mg base 1 "side_by_side" ["size","low","high"] (spP .e 3 fn_p_side_by_side))(C_p_without:Cal P w tk.K mg base 1 "without" ["word","gone"] (spP .n 2 fn_p_without))(m_len:mg "len"=none)  :QBody tk P w mg base 1 "uncurled" s_p_uncurled ["word","name","places"] (cS .b [] [] [] [] d_p_uncurled):=by
 obtain ⟨f_p_standings,fd_p_standings,G_p_standings,b_p_standings,k_p_standings,m_p_standings⟩:=C_p_standings
 obtain ⟨f_p_side_by_side,fd_p_side_by_side,G_p_side_by_side,b_p_side_by_side,k_p_side_by_side,m_p_side_by_side⟩:=C_p_side_by_side
 obtain ⟨f_p_without,fd_p_without,G_p_without,b_p_without,k_p_without,m_p_without⟩:=C_p_without
 intro f cdv A outer s H E hr
 have sc:=sc_p_uncurled
 have hu:=hu_of hr
 exact (qs_ (M':=[]) (qs_setE (M':=[]) (qps_set (i:=2) sc.nd rfl (Or.inl rfl) (qe_call G_p_standings hr rfl m_p_standings k_p_standings b_p_standings (qa_ (qv_ rfl (qpv 0)) (qa_ (qv_ rfl (qpv 1)) qa_nil)) (ar_ (ar_ ar_nil)))))
  (qs_ (M':=[]) (qs_if (M':=[]) (QW.pt (qw_or (qt_not (qt_tru (qeb (qv_ rfl (qpv 2))))) (qw_or1 (qt_not (qt_tru (qeb (qe_call G_p_side_by_side hr rfl m_p_side_by_side k_p_side_by_side b_p_side_by_side (qa_ (qe_len rfl rfl m_len (qeb (qv_ rfl (qpv 0)))) (qa_ (qe_item rfl hu (qv_ rfl (qpv 2)) (qeb qi_) (fun _ _=>rfl)) (qa_ (qe_item rfl hu (qv_ rfl (qpv 2)) (qeb qi_) (fun _ _=>rfl)) qa_nil))) (ar_ (ar_ (ar_ ar_nil)))))))))) (qss_one qs_never) qss_nil)
  (qss_one (qs_retD (qe_dnew (qe_callN G_p_without hr rfl m_p_without k_p_without b_p_without (qa_ (qv_ rfl (qpv 0)) (qa_ (qne (qe_lst (qa_ (qv_ rfl (qpv 1)) qa_nil))) qa_nil)) (ar_ (ar_ ar_nil))))))))
theorem ok_p_uncurled[tk:TheK](h:Here tk.K mg "uncurled" s_p_uncurled ["word","name"])(C_p_standings:Cal P w tk.K mg base 1 "standings" ["word","name"] (spP .e 2 fn_p_standings))(C_p_side_by_side:Cal P w tk.K mg base 1 "side_by_side" ["size","low","high"] (spP .e 3 fn_p_side_by_side))(C_p_without:Cal P w tk.K mg base 1 "without" ["word","gone"] (spP .n 2 fn_p_without))(m_len:mg "len"=none):Cal P w tk.K mg base 2 "uncurled" ["word","name"] (spD 2 fn_p_uncurled):=
 h.qD sc_p_uncurled (b_p_uncurled C_p_standings C_p_side_by_side C_p_without m_len)
def dr_p_uncurled:DR:=(dSeqR dNoR (dSet 2 (dCall fn_p_standings (dAc (dV 0) (dAc (dV 1) dAn))))
  (dSeqR (dIfR (dOr (dNot (dTru (dV 2))) (dNot (dTru (dCall fn_p_side_by_side (dAc (d1 gLen (dV 0)) (dAc (d2 gItem (dV 2) (dC (.int 0))) (dAc (d2 gItem (dV 2) (dC (.int 1))) dAn))))))) dYesR dNoR) (dIfS (dOr (dNot (dTru (dV 2))) (dNot (dTru (dCall fn_p_side_by_side (dAc (d1 gLen (dV 0)) (dAc (d2 gItem (dV 2) (dC (.int 0))) (dAc (d2 gItem (dV 2) (dC (.int 1))) dAn))))))) dNever dNext)
  dNoR))
def rs_p_uncurled:List T->Bool:=fnR 3 dr_p_uncurled
theorem br_p_uncurled[tk:TheK]{C D r1 r2 r3 r4:Addr}(C_p_standings:Cal P w tk.K mg base 1 "standings" ["word","name"] (spP .e 2 fn_p_standings))(C_p_side_by_side:Cal P w tk.K mg base 1 "side_by_side" ["size","low","high"] (spP .e 3 fn_p_side_by_side))(m_len:mg "len"=none)(mv:Mv tk.K mg base C D r1 r2 r3 r4):QBodyR tk P w mg base 1 "uncurled" s_p_uncurled ["word","name","places"] C dr_p_uncurled:=by
 obtain ⟨f_p_standings,fd_p_standings,G_p_standings,b_p_standings,k_p_standings,m_p_standings⟩:=C_p_standings
 obtain ⟨f_p_side_by_side,fd_p_side_by_side,G_p_side_by_side,b_p_side_by_side,k_p_side_by_side,m_p_side_by_side⟩:=C_p_side_by_side
 obtain ⟨bm,xc,_⟩:=mv.xc
 intro f cdv A outer s H E hr hA
 have sc:=sc_p_uncurled
 have hu:=hu_of hr
 exact (qr_seq (rk:=.e) qr_noS (qs_setE (M':=[]) (qps_set (i:=2) sc.nd rfl (Or.inl rfl) (qe_call G_p_standings hr rfl m_p_standings k_p_standings b_p_standings (qa_ (qv_ rfl (qpv 0)) (qa_ (qv_ rfl (qpv 1)) qa_nil)) (ar_ (ar_ ar_nil)))))
  (qr_seq (rk:=.e) (qr_if (QW.pt (qw_or (qt_not (qt_tru (qeb (qv_ rfl (qpv 2))))) (qw_or1 (qt_not (qt_tru (qeb (qe_call G_p_side_by_side hr rfl m_p_side_by_side k_p_side_by_side b_p_side_by_side (qa_ (qe_len rfl rfl m_len (qeb (qv_ rfl (qpv 0)))) (qa_ (qe_item rfl hu (qv_ rfl (qpv 2)) (qeb qi_) (fun _ _=>rfl)) (qa_ (qe_item rfl hu (qv_ rfl (qpv 2)) (qeb qi_) (fun _ _=>rfl)) qa_nil))) (ar_ (ar_ (ar_ ar_nil)))))))))) (qr_one (qr_raise (raises_cx hA) rfl xc rfl mv.mC qpe_str)) qr_no) (qs_if (M':=[]) (QW.pt (qw_or (qt_not (qt_tru (qeb (qv_ rfl (qpv 2))))) (qw_or1 (qt_not (qt_tru (qeb (qe_call G_p_side_by_side hr rfl m_p_side_by_side k_p_side_by_side b_p_side_by_side (qa_ (qe_len rfl rfl m_len (qeb (qv_ rfl (qpv 0)))) (qa_ (qe_item rfl hu (qv_ rfl (qpv 2)) (qeb qi_) (fun _ _=>rfl)) (qa_ (qe_item rfl hu (qv_ rfl (qpv 2)) (qeb qi_) (fun _ _=>rfl)) qa_nil))) (ar_ (ar_ (ar_ ar_nil)))))))))) (qss_one qs_never) qss_nil)
  (qr_one qr_noS)))
theorem okR_p_uncurled[tk:TheK]{C D r1 r2 r3 r4:Addr}(h:Here tk.K mg "uncurled" s_p_uncurled ["word","name"])(C_p_standings:Cal P w tk.K mg base 1 "standings" ["word","name"] (spP .e 2 fn_p_standings))(C_p_side_by_side:Cal P w tk.K mg base 1 "side_by_side" ["size","low","high"] (spP .e 3 fn_p_side_by_side))(m_len:mg "len"=none)(mv:Mv tk.K mg base C D r1 r2 r3 r4):CalR P w tk.K mg base 2 "uncurled" ["word","name"] (spR C 2 rs_p_uncurled):=
 h.qR sc_p_uncurled (br_p_uncurled C_p_standings C_p_side_by_side m_len mv)
abbrev s_l_uncurled:Stmt:=top 31
theorem sc_l_uncurled:FnScope ["_law_word_here","_law_name","_law_e"] ["_law_word_here","_law_name"] (defScope s_l_uncurled):=⟨rfl,rfl,rfl,by decide +kernel,rfl,by decide +kernel,by decide +kernel⟩
def fn_l_uncurled:List T->Option T:=fun ts=>match fn_p_uncurled ts with
 | some t=>some t
 | none=>if rs_p_uncurled ts=true then some (.str "none") else none
theorem okT_l_uncurled[tk:TheK]{C D r1 r2 r3 r4:Addr}(h:Here tk.K mg "_law_uncurled" s_l_uncurled ["_law_word_here","_law_name"])(C_p_uncurled:Cal P w tk.K mg base 2 "uncurled" ["word","name"] (spD 2 fn_p_uncurled))(R_p_uncurled:CalR P w tk.K mg base 2 "uncurled" ["word","name"] (spR C 2 rs_p_uncurled))(H_no:CalH P w tk.K mg base 2 "_law_is_no_move" ["_law_e"] (spNM C))(mv:Mv tk.K mg base C D r1 r2 r3 r4):Cal P w tk.K mg base 3 "_law_uncurled" ["_law_word_here","_law_name"] (spD 2 fn_l_uncurled):=by
 obtain ⟨f1,fd1,G1,b1,k1,m1⟩:=C_p_uncurled
 obtain ⟨f2,fd2,G2,b2,k2,m2⟩:=R_p_uncurled
 obtain ⟨f3,fd3,G3,b3,k3,m3⟩:=H_no
 obtain ⟨bm,xc,hcD⟩:=mv.xc
 obtain ⟨bmD,xd,_⟩:=mv.xd
 have sc:=sc_l_uncurled
 refine h.okX (CX:=CX0) sc (fun vs H Q E ⟨C,ts,t,hl,r,_⟩=>by rw [r.1,hl]; rfl) fun f cdv A outer s H vs Q E hr hA hs=>?_
 refine ⟨_,pss0_one (ps_try_as (i:=2) (bmD:=bmD) (tb:=fun E'=>fun D' σ' H'=>tRet (tCall (spD 2 fn_p_uncurled) [] E0 _) D' σ' H'∨tRet (tCall (spR C 2 rs_p_uncurled) [] E' _) D' σ' H')
  (fun W E' hp=>pss_or (pss_one (ps_ret (pe_call G1 hr rfl m1 k1 b1 .nil pass0 (pa_cons (pv 0) (pa_cons (pv 1) pa_nil))))) (pss_one (ps_ret (pe_call G2 hr rfl m2 k2 b2 .nil hp (pa_cons (pv 0) (pa_cons (pv 1) pa_nil))))))
  rfl rfl rfl rfl sc.nd rfl rfl rfl mv.mD xd
  (fun x=>pss_cons (ps_if (pt_val (pe_callH (E:=E0) G3 (hr.h.mark _) rfl m3 k3 b3 (pa_cons (pv 2) pa_nil))) (pss_one (ps_ret pe_str)) pss_nil) (pss_one (ps_ret pe_str)))),?_⟩
 obtain ⟨C',ts,t,hl,r,hf,q⟩:=hs
 obtain ⟨v0,v1,rfl⟩:∃ v0 v1,vs=[v0,v1]:=by
  match vs,(r.1.trans hl) with
  | [v0,v1],_=>exact ⟨v0,v1,rfl⟩
 unfold fn_l_uncurled at hf
 split at hf
 ·rename_i t' ht
  obtain rfl:=Option.some.inj hf
  exact .inl ⟨_,rfl,_,rfl, C',ts,t',hl,r,ht,q⟩
 ·split at hf
  case isFalse=>cases hf
  rename_i hrs
  obtain rfl:=Option.some.inj hf
  refine .inr ⟨_,rfl,_,rfl, C',ts,hl,r,hrs,fun H' kp dm=>⟨C,bm,rfl,xc,hcD,fun x hx=>?_⟩⟩
  refine ⟨_,rfl,x,rfl,upd_same,fun H2 k2 d2=>⟨true,rfl,?_⟩⟩
  refine q _ H2 (fun b o e=>k2 b o ?_) (fun b e=>dm b ?_) (.str _)
  ·have e':=kp b o e
   rw [upd_ne (fun z=>by rw [z,hx] at e'; cases e')]
   exact e'
  ·have e':=d2 b e
   unfold upd at e'
   split at e'
   ·cases e'
   ·exact e'
abbrev s_l_taken:Stmt:=top 33
theorem sc_l_taken:FnScope ["_law_word_here","_law_name","_law_spots"] ["_law_word_here","_law_name"] (defScope s_l_taken):=⟨rfl,rfl,rfl,by decide +kernel,rfl,by decide +kernel,by decide +kernel⟩
def d_l_taken:DS:=(dSeq (dSet 2 (dLC [] [none,some 1,some 0] (dRg1 (dAc (d1 gLen (dV 0)) dAn)) (dGn 0) (dB (d2 gEq (d2 gItem (dV 2) (dV 0)) (dV 1))) (dV 0)))
  (dSeq (dIfS (dAnd (dB (d2 gEq (d1 gLen (dV 2)) (dC (.int 2)))) (dB (d2 gInA (d2 gSb (d2 gItem (dV 2) (dC (.int 1))) (d2 gItem (dV 2) (dC (.int 0)))) (dLst (dAc (dC (.int 1)) (dAc (d2 gSb (d1 gLen (dV 0)) (dC (.int 1))) dAn)))))) (dRetI [] (dLC [] [none,some 1] (dItA (dV 0)) (dGn 0) (dB (d2 gNe (dV 0) (dV 1))) (dV 0))) dNext)
  (dRetI [] (dC (.str "none")))))
def fn_l_taken:List T->Option T:=fnP 3 d_l_taken
theorem b_l_taken[tk:TheK](m_range:mg "range"=none)(m_len:mg "len"=none)  :QBody tk P w mg base 0 "_law_taken" s_l_taken ["_law_word_here","_law_name","_law_spots"] (cS .e [] [] [] [] d_l_taken):=by
 intro f cdv A outer s H E hr
 have sc:=sc_l_taken
 have hu:=hu_of hr
 have hu8:(A.deeper (envOfC "_law_taken" (defScope s_l_taken) s.heap.objs.size f cdv)).units+8 < cLine:=hu8_of hr
 exact (qs_ (M':=[]) (qs_setE (M':=[]) (qs_nE (qs_lc (Mi:=[]) rfl (tg_name (i:=0)) (fun _ _ _ h=>h) (qps_setLC (i:=2) sc.nd rfl rfl (N:=["_law_at","_law_name","_law_word_here"]) (caps:=[none,some 1,some 0]) rfl (qi_range1 rfl m_range (qa_ (qe_len rfl rfl m_len (qeb (qv_ rfl (qpv 0)))) qa_nil)) (fun _ _ _ _ _=>(qpg_name (i:=0) (show (["_law_at","_law_name","_law_word_here"]:List Str).Nodup by decide +kernel) rfl (Or.inl rfl))) kg_name (fun _ _ _ _ _=>(qpts_one (qt_eq hu8 (qe_item rfl hu (qv_ rfl (qpv 2)) (qeb (qv_ rfl (qpv 0))) (fun _ _=>rfl)) (qeb (qv_ rfl (qpv 1)))))) (fun _ _ _ _ _=>(qv_ rfl (qpv 0)))))))
  (qs_ (M':=[]) (qs_if (M':=[]) (QW.pt (qw_and (qt_eq hu8 (qe_len rfl rfl m_len (qeb (qv_ rfl (qpv 2)))) (qeb qi_)) (qw_and1 (qt_inA hu (qe_sub (qe_item rfl hu (qv_ rfl (qpv 2)) (qeb qi_) (fun _ _=>rfl)) (qeb (qe_item rfl hu (qv_ rfl (qpv 2)) (qeb qi_) (fun _ _=>rfl)))) (qnb (qe_lst (qa_ qi_ (qa_ (qe_sub (qe_len rfl rfl m_len (qeb (qv_ rfl (qpv 0)))) (qeb qi_)) qa_nil)))) (by with_unfolding_all rfl))))) (qss_one (qs_retE (qne (qe_lc (Mi:=[]) rfl (tg_name (i:=0)) (fun _ _ _ h=>h) (qpe_lc (N:=["_law_one","_law_name"]) (caps:=[none,some 1]) rfl (qi_any rfl (qv_ rfl (qpv 0))) (fun _ _ _ _ _=>(qpg_name (i:=0) (show (["_law_one","_law_name"]:List Str).Nodup by decide +kernel) rfl (Or.inl rfl))) kg_name (fun _ _ _ _ _=>(qpts_one (qt_ne hu8 (qv_ rfl (qpv 0)) (qeb (qv_ rfl (qpv 1)))))) (fun _ _ _ _ _=>(qv_ rfl (qpv 0)))))))) qss_nil)
  (qss_one (qs_retE qe_str))))
theorem ok_l_taken[tk:TheK](h:Here tk.K mg "_law_taken" s_l_taken ["_law_word_here","_law_name"])(m_range:mg "range"=none)(m_len:mg "len"=none):Cal P w tk.K mg base 1 "_law_taken" ["_law_word_here","_law_name"] (spP .e 2 fn_l_taken):=
 h.qP sc_l_taken (b_l_taken m_range m_len)
abbrev s_l_right:Stmt:=top 34
theorem sc_l_right:FnScope ["_law_bag_here","_law_word_here","_law_fresh","_law_handed","_law_at","_law_name","_law_found","_law_again"] ["_law_bag_here","_law_word_here","_law_fresh"] (defScope s_l_right):=⟨rfl,rfl,rfl,by decide +kernel,rfl,by decide +kernel,by decide +kernel⟩
noncomputable def d_l_right:DS:=(dSeq (dSet 3 (d1 gListA (dV 1)))
  (dSeq (dSet 4 (d2 gSb (dCallI fn_l_draw 0 (dAc (d2 gPlus (d1 gLen (dV 1)) (dC (.int 5))) dAn)) (dC (.int 2))))
  (dSeq (dSet 5 (dCallI fn_l_odd_name 0 (dAc (dV 1) (dAc (dV 2) dAn))))
  (dDeep2 fn_l_curled (dAc (dV 3) (dAc (dV 4) (dAc (dV 5) dAn))) 6 (dSeq (dIfD [0] (dOr (dB (d2 gNe (dV 6) (dCall fn_l_put_in (dAc (dV 1) (dAc (dV 4) (dAc (dV 5) dAn)))))) (dB (d2 gNe (dV 3) (dV 1)))) (dRtD (dRetI [0] (dC (.bl false)))) dNext)
  (dSeq (dIfD [0] (dTru (dIsi "list" (dV 6))) (dSeq (dIfD [0] (dB (d2 gNe (dCall fn_l_uncurled (dAc (d1 gListA (dV 6)) (dAc (dV 5) dAn))) (dV 1))) (dRtD (dRetI [0] (dC (.bl false)))) dNext)
  (dSeq (dClx 6)
  (dIfD [0] (dB (d2 gNe (dCall fn_l_curled (dAc (dV 3) (dAc (dV 4) (dAc (dV 5) dAn)))) (dCall fn_l_put_in (dAc (dV 1) (dAc (dV 4) (dAc (dV 5) dAn)))))) (dRtD (dRetI [0] (dC (.bl false)))) dNext))) dNext)
  (dRtD (dSeq (dFor (dItA (d2 gPlus (dLC [0] [none,some 1] (dRg1 (dAc (d1 gLen (dV 1)) dAn)) (dGn 0) (dB (d2 gNotInA (d2 gItem (dV 1) (dV 0)) (dSl gSlA (dV 1) dOn (dOs (dV 0))))) (d2 gItem (dV 1) (dV 0))) (dLst (dAc (dV 2) (dAc (dC (.str "")) dAn))))) (dGn 5)
  (dFor (dRg1 (dAc (dC (.int 2)) dAn)) (dGn 7)
  (dDeep2 fn_l_uncurled (dAc (dV 3) (dAc (dV 5) dAn)) 6 (dSeq (dIfD [0] (dOr (dB (d2 gNe (dV 6) (dCall fn_l_taken (dAc (dV 1) (dAc (dV 5) dAn))))) (dB (d2 gNe (dV 3) (dV 1)))) (dRtD (dRetI [0] (dC (.bl false)))) dNext)
  (dIfD [0] (dTru (dIsi "list" (dV 6))) (dApxD [0] 6 (dC (.str "z"))) dNext)))))
  (dRetI [0] (d2 gEq (dCall fn_l_curled (dAc (dV 3) (dAc (d1 gLen (dV 1)) (dAc (dV 2) dAn)))) (dCall fn_l_put_in (dAc (dV 1) (dAc (d1 gLen (dV 1)) (dAc (dV 2) dAn))))))))))))))
noncomputable def fn_l_right:List T->Option (T × T):=fnI 8 d_l_right
theorem b_l_right[tk:TheK](C_l_draw:Cal P w tk.K mg base 5 "_law_draw" ["_law_bag_here","_law_many"] (spI .e 2 fn_l_draw))(C_l_odd_name:Cal P w tk.K mg base 5 "_law_odd_name" ["_law_bag_here","_law_word_here","_law_fresh"] (spI .e 3 fn_l_odd_name))(C_l_curled:Cal P w tk.K mg base 5 "_law_curled" ["_law_word_here","_law_at","_law_name"] (spD 3 fn_l_curled))(C_l_uncurled:Cal P w tk.K mg base 5 "_law_uncurled" ["_law_word_here","_law_name"] (spD 2 fn_l_uncurled))(C_l_taken:Cal P w tk.K mg base 5 "_law_taken" ["_law_word_here","_law_name"] (spP .e 2 fn_l_taken))(C_l_put_in:Cal P w tk.K mg base 5 "_law_put_in" ["_law_word_here","_law_at","_law_name"] (spP .e 3 fn_l_put_in))(m_list:mg "list"=none)(m_len:mg "len"=none)(m_range:mg "range"=none)(m_isinstance:mg "isinstance"=none)  :QBody tk P w mg base 5 "_law_right" s_l_right ["_law_bag_here","_law_word_here","_law_fresh","_law_handed","_law_at","_law_name","_law_found","_law_again"] (cS .e [0] [0] [0] [] d_l_right):=by
 obtain ⟨f_l_draw,fd_l_draw,G_l_draw,b_l_draw,k_l_draw,m_l_draw⟩:=C_l_draw
 obtain ⟨f_l_odd_name,fd_l_odd_name,G_l_odd_name,b_l_odd_name,k_l_odd_name,m_l_odd_name⟩:=C_l_odd_name
 obtain ⟨f_l_curled,fd_l_curled,G_l_curled,b_l_curled,k_l_curled,m_l_curled⟩:=C_l_curled
 obtain ⟨f_l_uncurled,fd_l_uncurled,G_l_uncurled,b_l_uncurled,k_l_uncurled,m_l_uncurled⟩:=C_l_uncurled
 obtain ⟨f_l_taken,fd_l_taken,G_l_taken,b_l_taken,k_l_taken,m_l_taken⟩:=C_l_taken
 obtain ⟨f_l_put_in,fd_l_put_in,G_l_put_in,b_l_put_in,k_l_put_in,m_l_put_in⟩:=C_l_put_in
 intro f cdv A outer s H E hr
 have sc:=sc_l_right
 have hu:=hu_of hr
 have hu8:(A.deeper (envOfC "_law_right" (defScope s_l_right) s.heap.objs.size f cdv)).units+8 < cLine:=hu8_of hr
 exact (qs_ (M':=[0]) (qs_setE (M':=[0]) (qps_set (i:=3) sc.nd rfl (Or.inl rfl) (qne (qe_listA rfl rfl rfl m_list (qeb (qv_ rfl (qpv 1)))))))
  (qs_ (M':=[0]) (qs_setE (M':=[0]) (qps_set (i:=4) sc.nd rfl (Or.inl rfl) (qe_sub (qe_callI rfl G_l_draw hr rfl m_l_draw k_l_draw b_l_draw (qpv 0) (qa_ (qe_plus (qe_len rfl rfl m_len (qeb (qv_ rfl (qpv 1)))) (qeb qi_)) qa_nil) (ar_ ar_nil)) (qeb qi_))))
  (qs_ (M':=[0]) (qs_setE (M':=[0]) (qps_set (i:=5) sc.nd rfl (Or.inl rfl) (qe_callI rfl G_l_odd_name hr rfl m_l_odd_name k_l_odd_name b_l_odd_name (qpv 0) (qa_ (qv_ rfl (qpv 1)) (qa_ (qv_ rfl (qpv 2)) qa_nil)) (ar_ (ar_ ar_nil)))))
  (qss_deep2 (x:=6) rfl rfl (ar_ (ar_ (ar_ ar_nil))) (qps_set (i:=6) sc.nd rfl (Or.inl rfl) (qe_deep2 G_l_curled hr rfl m_l_curled k_l_curled b_l_curled (qa_ (qv_ rfl (qpv 3)) (qa_ (qv_ rfl (qpv 4)) (qa_ (qv_ rfl (qpv 5)) qa_nil))))) (qss_dcons (qs_dif (QW.pt (qw_or (qt_ne hu8 (qv_ rfl (qpv 6)) (qeb (qe_call G_l_put_in hr rfl m_l_put_in k_l_put_in b_l_put_in (qa_ (qv_ rfl (qpv 1)) (qa_ (qv_ rfl (qpv 4)) (qa_ (qv_ rfl (qpv 5)) qa_nil))) (ar_ (ar_ (ar_ ar_nil)))))) (qw_or1 (qt_ne hu8 (qv_ rfl (qpv 3)) (qeb (qv_ rfl (qpv 1))))))) (qss_drt (M':=[]) (Mb:=[]) (qss_one (qs_retE qe_bl))) qss_dnil)
  (qss_dcons (qs_dif (qt_tru (qeb (qe_isi (cn:="list") rfl rfl m_isinstance (qeb (qv_ rfl (qpv 6))) (qpe_bltn (v:=.ty "list") rfl m_list bt_list rfl)))) (qss_dcons (qs_dif (qt_ne hu8 (qe_call (G_l_uncurled.imp d_imp) hr rfl m_l_uncurled k_l_uncurled b_l_uncurled (qa_ (qne (qe_listA rfl rfl rfl m_list (qeb (qv_ rfl (qpv 6))))) (qa_ (qv_ rfl (qpv 5)) qa_nil)) (ar_ (ar_ ar_nil))) (qeb (qv_ rfl (qpv 1)))) (qss_drt (M':=[]) (Mb:=[]) (qss_one (qs_retE qe_bl))) qss_dnil)
  (qss_dcons (qs_dclx (qps_expr (qpe_bm0 PySem.F.plainAttrs_list PySem.F.slot_list_clear PySem.F.type_list_clear mt_clear (qpv 6))))
  (qss_done (qs_dif (qt_ne hu8 (qe_call (G_l_curled.imp d_imp) hr rfl m_l_curled k_l_curled b_l_curled (qa_ (qv_ rfl (qpv 3)) (qa_ (qv_ rfl (qpv 4)) (qa_ (qv_ rfl (qpv 5)) qa_nil))) (ar_ (ar_ (ar_ ar_nil)))) (qeb (qe_call G_l_put_in hr rfl m_l_put_in k_l_put_in b_l_put_in (qa_ (qv_ rfl (qpv 1)) (qa_ (qv_ rfl (qpv 4)) (qa_ (qv_ rfl (qpv 5)) qa_nil))) (ar_ (ar_ (ar_ ar_nil)))))) (qss_drt (M':=[]) (Mb:=[]) (qss_one (qs_retE qe_bl))) qss_dnil)))) qss_dnil)
  (qss_drt (M':=[]) (Mb:=[]) (qs_ (M':=[0]) (qs_for (qps_for PassesOwn.never rfl (qi_any rfl (qe_plus (qne (qe_lc (Mi:=[]) rfl (tg_name (i:=0)) (fun _ _ _ h=>h) (qpe_lc (N:=["_law_k","_law_word_here"]) (caps:=[none,some 1]) rfl (qi_range1 rfl m_range (qa_ (qe_len rfl rfl m_len (qeb (qv_ rfl (qpv 1)))) qa_nil)) (fun _ _ _ _ _=>(qpg_name (i:=0) (show (["_law_k","_law_word_here"]:List Str).Nodup by decide +kernel) rfl (Or.inl rfl))) kg_name (fun _ _ _ _ _=>(qpts_one (qt_notinA hu (qe_item rfl hu (qv_ rfl (qpv 1)) (qeb (qv_ rfl (qpv 0))) (fun _ _=>rfl)) (qeb (qe_slA rfl (qv_ rfl (qpv 1)) qo_none (qo_some (qv_ rfl (qpv 0))))) (by with_unfolding_all rfl)))) (fun _ _ _ _ _=>(qe_item rfl hu (qv_ rfl (qpv 1)) (qeb (qv_ rfl (qpv 0))) (fun _ _=>rfl)))))) (qnb (qe_lst (qa_ (qv_ rfl (qpv 2)) (qa_ qe_str qa_nil)))))) (qg_name (qpg_name (i:=5) sc.nd rfl (Or.inl rfl)))
  (qss_one (qs_for (qps_for PassesOwn.never rfl (qi_range1 rfl m_range (qa_ qi_ qa_nil)) (qg_name (qpg_name (i:=7) sc.nd rfl (Or.inl rfl)))
  (qss_deep2 (x:=6) rfl rfl (ar_ (ar_ ar_nil)) (qps_set (i:=6) sc.nd rfl (Or.inl rfl) (qe_deep2 G_l_uncurled hr rfl m_l_uncurled k_l_uncurled b_l_uncurled (qa_ (qv_ rfl (qpv 3)) (qa_ (qv_ rfl (qpv 5)) qa_nil)))) (qss_dcons (qs_dif (QW.pt (qw_or (qt_ne hu8 (qv_ rfl (qpv 6)) (qeb (qe_call G_l_taken hr rfl m_l_taken k_l_taken b_l_taken (qa_ (qv_ rfl (qpv 1)) (qa_ (qv_ rfl (qpv 5)) qa_nil)) (ar_ (ar_ ar_nil))))) (qw_or1 (qt_ne hu8 (qv_ rfl (qpv 3)) (qeb (qv_ rfl (qpv 1))))))) (qss_drt (M':=[]) (Mb:=[]) (qss_one (qs_retE qe_bl))) qss_dnil)
  (qss_done (qs_dif (qt_tru (qeb (qe_isi (cn:="list") rfl rfl m_isinstance (qeb (qv_ rfl (qpv 6))) (qpe_bltn (v:=.ty "list") rfl m_list bt_list rfl)))) (qss_done (qs_dapx (qps_expr (qpe_bm PySem.F.plainAttrs_list PySem.F.slot_list_append PySem.F.type_list_append mt_append (qpv 6) (qpa_cons qe_str qpa_nil))))) qss_dnil)))))))))
  (qss_one (qs_retE (qe_eq hu8 (qe_call (G_l_curled.imp d_imp) hr rfl m_l_curled k_l_curled b_l_curled (qa_ (qv_ rfl (qpv 3)) (qa_ (qe_len rfl rfl m_len (qeb (qv_ rfl (qpv 1)))) (qa_ (qv_ rfl (qpv 2)) qa_nil))) (ar_ (ar_ (ar_ ar_nil)))) (qeb (qe_call G_l_put_in hr rfl m_l_put_in k_l_put_in b_l_put_in (qa_ (qv_ rfl (qpv 1)) (qa_ (qe_len rfl rfl m_len (qeb (qv_ rfl (qpv 1)))) (qa_ (qv_ rfl (qpv 2)) qa_nil))) (ar_ (ar_ (ar_ ar_nil))))))))))))))))
theorem ok_l_right[tk:TheK](h:Here tk.K mg "_law_right" s_l_right ["_law_bag_here","_law_word_here","_law_fresh"])(C_l_draw:Cal P w tk.K mg base 5 "_law_draw" ["_law_bag_here","_law_many"] (spI .e 2 fn_l_draw))(C_l_odd_name:Cal P w tk.K mg base 5 "_law_odd_name" ["_law_bag_here","_law_word_here","_law_fresh"] (spI .e 3 fn_l_odd_name))(C_l_curled:Cal P w tk.K mg base 5 "_law_curled" ["_law_word_here","_law_at","_law_name"] (spD 3 fn_l_curled))(C_l_uncurled:Cal P w tk.K mg base 5 "_law_uncurled" ["_law_word_here","_law_name"] (spD 2 fn_l_uncurled))(C_l_taken:Cal P w tk.K mg base 5 "_law_taken" ["_law_word_here","_law_name"] (spP .e 2 fn_l_taken))(C_l_put_in:Cal P w tk.K mg base 5 "_law_put_in" ["_law_word_here","_law_at","_law_name"] (spP .e 3 fn_l_put_in))(m_list:mg "list"=none)(m_len:mg "len"=none)(m_range:mg "range"=none)(m_isinstance:mg "isinstance"=none):Cal P w tk.K mg base 6 "_law_right" ["_law_bag_here","_law_word_here","_law_fresh"] (spI .e 3 fn_l_right):=
 h.qI sc_l_right (b_l_right C_l_draw C_l_odd_name C_l_curled C_l_uncurled C_l_taken C_l_put_in m_list m_len m_range m_isinstance)
abbrev s_l_built_word:Stmt:=top 25
theorem sc_l_built_word:FnScope ["_law_bag_here","_law_names_here","_law_forms","_law_made","_law_left","_law_form_of","_law_at"] ["_law_bag_here","_law_names_here"] (defScope s_l_built_word):=⟨rfl,rfl,rfl,by decide +kernel,rfl,by decide +kernel,by decide +kernel⟩
def d_l_built_word:DS:=(dSeq (dSet 2 (dLst (dAc (dLst (dAc (dC (.int 0)) (dAc (dC (.int 0)) dAn))) (dAc (dLst (dAc (dC (.int 0)) (dAc (dC (.int 1)) (dAc (dC (.int 2)) (dAc (dC (.int 0)) (dAc (dC (.int 1)) (dAc (dC (.int 2)) dAn))))))) (dAc (dLst (dAc (dC (.int 0)) (dAc (dC (.int 1)) (dAc (dC (.int 2)) (dAc (dC (.int 0)) (dAc (dC (.int 3)) (dAc (dC (.int 2)) (dAc (dC (.int 1)) (dAc (dC (.int 3)) dAn))))))))) (dAc (dLst (dAc (dC (.int 0)) (dAc (dC (.int 1)) (dAc (dC (.int 2)) (dAc (dC (.int 3)) (dAc (dC (.int 4)) (dAc (dC (.int 0)) (dAc (dC (.int 1)) (dAc (dC (.int 2)) (dAc (dC (.int 3)) (dAc (dC (.int 4)) dAn))))))))))) (dAc (dLst (dAc (dC (.int 0)) (dAc (dC (.int 1)) (dAc (dC (.int 1)) (dAc (dC (.int 0)) dAn))))) dAn)))))))
  (dSeq (dSet 2 (d2 gPlus (dV 2) (dLst (dAc (dLst (dAc (dC (.int 0)) (dAc (dC (.int 1)) (dAc (dC (.int 2)) (dAc (dC (.int 3)) (dAc (dC (.int 4)) (dAc (dC (.int 2)) (dAc (dC (.int 1)) (dAc (dC (.int 0)) (dAc (dC (.int 3)) (dAc (dC (.int 4)) dAn))))))))))) (dAc (dLst (dAc (dC (.int 0)) (dAc (dC (.int 1)) (dAc (dC (.int 2)) (dAc (dC (.int 3)) (dAc (dC (.int 1)) (dAc (dC (.int 0)) (dAc (dC (.int 3)) (dAc (dC (.int 2)) dAn))))))))) dAn)))))
  (dSeq (dSet 3 (dLst dAn))
  (dSeq (dSet 4 (d1 gListA (dV 1)))
  (dSeq (whileN (dB (d2 gGt (d1 gLen (dV 4)) (dC (.int 0))))
  (dSeq (dSet 5 (d2 gItem (dV 2) (dCallI fn_l_draw 0 (dAc (dC (.int 7)) dAn))))
  (dSeq (dIfS (dB (d2 gGe (d1 gMaxI (dV 5)) (d1 gLen (dV 4)))) (dSet 5 (d2 gItem (dV 2) (dC (.int 0)))) dNext)
  (dSeq (dSet 6 (dCallI fn_l_draw 0 (dAc (d2 gPlus (d1 gLen (dV 3)) (dC (.int 1))) dAn)))
  (dSeq (dSet 3 (d2 gPlus (d2 gPlus (dSl gSlA (dV 3) dOn (dOs (dV 6))) (dLC [0] [none,some 4] (dItA (dV 5)) (dGn 0) dYes (d2 gItem (dV 1) (dV 0)))) (dSl gSlA (dV 3) (dOs (dV 6)) dOn)))
  (dSet 4 (dSl gSlA (dV 4) (dOs (d2 gPlus (d1 gMaxI (dV 5)) (dC (.int 1)))) dOn)))))) 100)
  (dRetI [0] (dV 3)))))))
def fn_l_built_word:List T->Option (T × T):=fnI 7 d_l_built_word
theorem b_l_built_word[tk:TheK](C_l_draw:Cal P w tk.K mg base 1 "_law_draw" ["_law_bag_here","_law_many"] (spI .e 2 fn_l_draw))(m_list:mg "list"=none)(m_len:mg "len"=none)(m_max:mg "max"=none)  :QBody tk P w mg base 1 "_law_built_word" s_l_built_word ["_law_bag_here","_law_names_here","_law_forms","_law_made","_law_left","_law_form_of","_law_at"] (cS .e [0] [0] [] [] d_l_built_word):=by
 obtain ⟨f_l_draw,fd_l_draw,G_l_draw,b_l_draw,k_l_draw,m_l_draw⟩:=C_l_draw
 intro f cdv A outer s H E hr
 have sc:=sc_l_built_word
 have hu:=hu_of hr
 exact (qs_ (M':=[0]) (qs_setE (M':=[0]) (qps_set (i:=2) sc.nd rfl (Or.inl rfl) (qne (qe_lst (qa_ (qne (qe_lst (qa_ qi_ (qa_ qi_ qa_nil)))) (qa_ (qne (qe_lst (qa_ qi_ (qa_ qi_ (qa_ qi_ (qa_ qi_ (qa_ qi_ (qa_ qi_ qa_nil)))))))) (qa_ (qne (qe_lst (qa_ qi_ (qa_ qi_ (qa_ qi_ (qa_ qi_ (qa_ qi_ (qa_ qi_ (qa_ qi_ (qa_ qi_ qa_nil)))))))))) (qa_ (qne (qe_lst (qa_ qi_ (qa_ qi_ (qa_ qi_ (qa_ qi_ (qa_ qi_ (qa_ qi_ (qa_ qi_ (qa_ qi_ (qa_ qi_ (qa_ qi_ qa_nil)))))))))))) (qa_ (qne (qe_lst (qa_ qi_ (qa_ qi_ (qa_ qi_ (qa_ qi_ qa_nil)))))) qa_nil)))))))))
  (qs_ (M':=[0]) (qs_setE (M':=[0]) (qps_set (i:=2) sc.nd rfl (Or.inl rfl) (qe_plus (qv_ rfl (qpv 2)) (qnb (qe_lst (qa_ (qne (qe_lst (qa_ qi_ (qa_ qi_ (qa_ qi_ (qa_ qi_ (qa_ qi_ (qa_ qi_ (qa_ qi_ (qa_ qi_ (qa_ qi_ (qa_ qi_ qa_nil)))))))))))) (qa_ (qne (qe_lst (qa_ qi_ (qa_ qi_ (qa_ qi_ (qa_ qi_ (qa_ qi_ (qa_ qi_ (qa_ qi_ (qa_ qi_ qa_nil)))))))))) qa_nil)))))))
  (qs_ (M':=[0]) (qs_setE (M':=[0]) (qps_set (i:=3) sc.nd rfl (Or.inl rfl) (qne (qe_lst qa_nil))))
  (qs_ (M':=[0]) (qs_setE (M':=[0]) (qps_set (i:=4) sc.nd rfl (Or.inr rfl) (qne (qe_listA rfl rfl rfl m_list (qeb (qv_ rfl (qpv 1)))))))
  (qs_ (M':=[0]) (qs_while 100 PassesOwn.never (qt_gt (qe_len rfl rfl m_len (qeb (qv_ rfl (qpv 4)))) (qeb qi_))
  (qs_ (M':=[0]) (qs_setE (M':=[0]) (qps_set (i:=5) sc.nd rfl (Or.inl rfl) (qe_item rfl hu (qv_ rfl (qpv 2)) (qeb (qe_callI rfl G_l_draw hr rfl m_l_draw k_l_draw b_l_draw (qpv 0) (qa_ qi_ qa_nil) (ar_ ar_nil))) (fun _ _=>rfl))))
  (qs_ (M':=[0]) (qs_if (M':=[0]) (qt_ge (qe_maxI rfl rfl rfl m_max (qeb (qv_ rfl (qpv 5)))) (qeb (qe_len rfl rfl m_len (qeb (qv_ rfl (qpv 4)))))) (qss_one (qs_setE (M':=[0]) (qps_set (i:=5) sc.nd rfl (Or.inl rfl) (qe_item rfl hu (qv_ rfl (qpv 2)) (qeb qi_) (fun _ _=>rfl))))) qss_nil)
  (qs_ (M':=[0]) (qs_setE (M':=[0]) (qps_set (i:=6) sc.nd rfl (Or.inl rfl) (qe_callI rfl G_l_draw hr rfl m_l_draw k_l_draw b_l_draw (qpv 0) (qa_ (qe_plus (qe_len rfl rfl m_len (qeb (qv_ rfl (qpv 3)))) (qeb qi_)) qa_nil) (ar_ ar_nil))))
  (qs_ (M':=[0]) (qs_setE (M':=[0]) (qps_set (i:=3) sc.nd rfl (Or.inl rfl) (qe_plus (qe_plus (qe_slA rfl (qv_ rfl (qpv 3)) qo_none (qo_some (qv_ rfl (qpv 6)))) (qnb (qe_lc (Mi:=[]) rfl (tg_name (i:=0)) yes_ok (qpe_lc (N:=["_law_k","_law_left"]) (caps:=[none,some 4]) rfl (qi_any rfl (qv_ rfl (qpv 5))) (fun _ _ _ _ _=>(qpg_name (i:=0) (show (["_law_k","_law_left"]:List Str).Nodup by decide +kernel) rfl (Or.inl rfl))) kg_name (fun _ _ _ _ _=>qpts_nil) (fun _ _ _ _ _=>(qe_item rfl hu (qv_ rfl (qpv 1)) (qeb (qv_ rfl (qpv 0))) (fun _ _=>rfl))))))) (qeb (qe_slA rfl (qv_ rfl (qpv 3)) (qo_some (qv_ rfl (qpv 6))) qo_none)))))
  (qss_one (qs_setE (M':=[0]) (qps_set (i:=4) sc.nd rfl (Or.inr rfl) (qe_slA rfl (qv_ rfl (qpv 4)) (qo_some (qe_plus (qe_maxI rfl rfl rfl m_max (qeb (qv_ rfl (qpv 5)))) (qeb qi_))) qo_none)))))))))
  (qss_one (qs_retE (qv_ rfl (qpv 3)))))))))
theorem ok_l_built_word[tk:TheK](h:Here tk.K mg "_law_built_word" s_l_built_word ["_law_bag_here","_law_names_here"])(C_l_draw:Cal P w tk.K mg base 1 "_law_draw" ["_law_bag_here","_law_many"] (spI .e 2 fn_l_draw))(m_list:mg "list"=none)(m_len:mg "len"=none)(m_max:mg "max"=none):Cal P w tk.K mg base 2 "_law_built_word" ["_law_bag_here","_law_names_here"] (spI .e 2 fn_l_built_word):=
 h.qI sc_l_built_word (b_l_built_word C_l_draw m_list m_len m_max)
abbrev s_l_any_word:Stmt:=top 24
theorem sc_l_any_word:FnScope ["_law_bag_here","_law_names_here","_law_free","_law_made","_law_name","_law_at"] ["_law_bag_here","_law_names_here"] (defScope s_l_any_word):=⟨rfl,rfl,rfl,by decide +kernel,rfl,by decide +kernel,by decide +kernel⟩
def d_l_any_word:DS:=(dSeq (dSet 2 (dLR (dAc (d2 gMul (dC (.int 2)) (d1 gLen (dV 1))) dAn)))
  (dSeq (dSet 3 (dLC [0] [none] (dItA (dV 2)) (dGn 0) dYes (dC (.str ""))))
  (dSeq (dFor (dItA (dV 1)) (dGn 4)
  (dSeq (dSetI 3 (d2 gItem (dV 2) (dC (.int 0))) (dV 4))
  (dSeq (dSet 5 (d2 gItem (dV 2) (d2 gPlus (dC (.int 1)) (dCallI fn_l_draw 0 (dAc (d2 gSb (d1 gLen (dV 2)) (dC (.int 1))) dAn)))))
  (dSeq (dSetI 3 (dV 5) (dV 4))
  (dSet 2 (dLC [0,3] [none,some 5] (dItA (dSl gSlA (dV 2) (dOs (dC (.int 1))) dOn)) (dGn 0) (dB (d2 gNe (dV 0) (dV 1))) (dV 0)))))))
  (dRetI [0] (dV 3)))))
def fn_l_any_word:List T->Option (T × T):=fnI 6 d_l_any_word
theorem b_l_any_word[tk:TheK](C_l_draw:Cal P w tk.K mg base 1 "_law_draw" ["_law_bag_here","_law_many"] (spI .e 2 fn_l_draw))(m_list:mg "list"=none)(m_range:mg "range"=none)(m_len:mg "len"=none)  :QBody tk P w mg base 1 "_law_any_word" s_l_any_word ["_law_bag_here","_law_names_here","_law_free","_law_made","_law_name","_law_at"] (cS .e [0] [0] [] [] d_l_any_word):=by
 obtain ⟨f_l_draw,fd_l_draw,G_l_draw,b_l_draw,k_l_draw,m_l_draw⟩:=C_l_draw
 intro f cdv A outer s H E hr
 have sc:=sc_l_any_word
 have hu:=hu_of hr
 have hu8:(A.deeper (envOfC "_law_any_word" (defScope s_l_any_word) s.heap.objs.size f cdv)).units+8 < cLine:=hu8_of hr
 exact (qs_ (M':=[0]) (qs_setE (M':=[0]) (qps_set (i:=2) sc.nd rfl (Or.inl rfl) (qne (qe_listRange rfl rfl m_list rfl m_range (qa_ (qe_mul qi_ (qeb (qe_len rfl rfl m_len (qeb (qv_ rfl (qpv 1)))))) qa_nil)))))
  (qs_ (M':=[0,3]) (qs_setN (M':=[0,3]) (qs_lc (Mi:=[]) rfl (tg_name (i:=0)) yes_ok (qps_setLC (i:=3) sc.nd rfl rfl (N:=["_law_at"]) (caps:=[none]) rfl (qi_any rfl (qv_ rfl (qpv 2))) (fun _ _ _ _ _=>(qpg_name (i:=0) (show (["_law_at"]:List Str).Nodup by decide +kernel) rfl (Or.inl rfl))) kg_name (fun _ _ _ _ _=>qpts_nil) (fun _ _ _ _ _=>qe_str))))
  (qs_ (M':=[0,3]) (qs_for (qps_for PassesOwn.never rfl (qi_any rfl (qv_ rfl (qpv 1))) (qg_name (qpg_name (i:=4) sc.nd rfl (Or.inl rfl)))
  (qs_ (M':=[0,3]) (qs_setI rfl (qps_asg (qv_ rfl (qpv 4)) (qpg_sub (qpv 3) (qe_item rfl hu (qv_ rfl (qpv 2)) (qeb qi_) (fun _ _=>rfl)) set_list)))
  (qs_ (M':=[0,3]) (qs_setE (M':=[0,3]) (qps_set (i:=5) sc.nd rfl (Or.inr rfl) (qe_item rfl hu (qv_ rfl (qpv 2)) (qeb (qe_plus qi_ (qeb (qe_callI rfl G_l_draw hr rfl m_l_draw k_l_draw b_l_draw (qpv 0) (qa_ (qe_sub (qe_len rfl rfl m_len (qeb (qv_ rfl (qpv 2)))) (qeb qi_)) qa_nil) (ar_ ar_nil))))) (fun _ _=>rfl))))
  (qs_ (M':=[0,3]) (qs_setI rfl (qps_asg (qv_ rfl (qpv 4)) (qpg_sub (qpv 3) (qv_ rfl (qpv 5)) set_list)))
  (qss_one (qs_setE (M':=[0,3]) (qs_nE (qs_lc (Mi:=[]) rfl (tg_name (i:=0)) (fun _ _ _ h=>h) (qps_setLC (i:=2) sc.nd rfl rfl (N:=["_law_spot","_law_at"]) (caps:=[none,some 5]) rfl (qi_any rfl (qe_slA rfl (qv_ rfl (qpv 2)) (qo_some qi_) qo_none)) (fun _ _ _ _ _=>(qpg_name (i:=0) (show (["_law_spot","_law_at"]:List Str).Nodup by decide +kernel) rfl (Or.inl rfl))) kg_name (fun _ _ _ _ _=>(qpts_one (qt_ne hu8 (qv_ rfl (qpv 0)) (qeb (qv_ rfl (qpv 1)))))) (fun _ _ _ _ _=>(qv_ rfl (qpv 0)))))))))))))
  (qss_one (qs_pre (M':=[0]) (qs_retE (qv_ rfl (qpv 3))))))))
theorem ok_l_any_word[tk:TheK](h:Here tk.K mg "_law_any_word" s_l_any_word ["_law_bag_here","_law_names_here"])(C_l_draw:Cal P w tk.K mg base 1 "_law_draw" ["_law_bag_here","_law_many"] (spI .e 2 fn_l_draw))(m_list:mg "list"=none)(m_range:mg "range"=none)(m_len:mg "len"=none):Cal P w tk.K mg base 2 "_law_any_word" ["_law_bag_here","_law_names_here"] (spI .e 2 fn_l_any_word):=
 h.qI sc_l_any_word (b_l_any_word C_l_draw m_list m_range m_len)
abbrev s_l_word:Stmt:=top 26
theorem sc_l_word:FnScope ["_law_cell_here","_law_names_here"] ["_law_cell_here","_law_names_here"] (defScope s_l_word):=⟨rfl,rfl,rfl,by decide +kernel,rfl,by decide +kernel,by decide +kernel⟩
def d_l_word:DS:=(dSeq (dIfS (dB (d2 gEq (d2 gMod (dV 0) (dC (.int 2))) (dC (.int 1)))) (dRetI [] (dCallN fn_l_any_word (dCall fn_l_bag (dAc (dV 0) dAn)) (dAc (dSl gSlA (dV 1) dOn (dOs (dC (.int 8)))) dAn))) dNext)
  (dRetI [] (dCallN fn_l_built_word (dCall fn_l_bag (dAc (d2 gDiv (dV 0) (dC (.int 2))) dAn)) (dAc (dV 1) dAn))))
def fn_l_word:List T->Option T:=fnP 2 d_l_word
theorem b_l_word[tk:TheK](C_l_any_word:Cal P w tk.K mg base 2 "_law_any_word" ["_law_bag_here","_law_names_here"] (spI .e 2 fn_l_any_word))(C_l_bag:Cal P w tk.K mg base 2 "_law_bag" ["_law_cell_here"] (spP .n 1 fn_l_bag))(C_l_built_word:Cal P w tk.K mg base 2 "_law_built_word" ["_law_bag_here","_law_names_here"] (spI .e 2 fn_l_built_word))  :QBody tk P w mg base 2 "_law_word" s_l_word ["_law_cell_here","_law_names_here"] (cS .e [] [] [] [] d_l_word):=by
 obtain ⟨f_l_any_word,fd_l_any_word,G_l_any_word,b_l_any_word,k_l_any_word,m_l_any_word⟩:=C_l_any_word
 obtain ⟨f_l_bag,fd_l_bag,G_l_bag,b_l_bag,k_l_bag,m_l_bag⟩:=C_l_bag
 obtain ⟨f_l_built_word,fd_l_built_word,G_l_built_word,b_l_built_word,k_l_built_word,m_l_built_word⟩:=C_l_built_word
 intro f cdv A outer s H E hr
 have sc:=sc_l_word
 have hu8:(A.deeper (envOfC "_law_word" (defScope s_l_word) s.heap.objs.size f cdv)).units+8 < cLine:=hu8_of hr
 exact (qs_ (M':=[]) (qs_if (M':=[]) (qt_eq hu8 (qe_mod (qv_ rfl (qpv 0)) (qeb qi_)) (qeb qi_)) (qss_one (qs_retE (qe_callT (.inl rfl) G_l_any_word hr rfl m_l_any_word k_l_any_word b_l_any_word (qe_callN G_l_bag hr rfl m_l_bag k_l_bag b_l_bag (qa_ (qv_ rfl (qpv 0)) qa_nil) (ar_ ar_nil)) (qa_ (qe_slA rfl (qv_ rfl (qpv 1)) qo_none (qo_some qi_)) qa_nil) (ar_ ar_nil)))) qss_nil)
  (qss_one (qs_retE (qe_callT (.inl rfl) G_l_built_word hr rfl m_l_built_word k_l_built_word b_l_built_word (qe_callN G_l_bag hr rfl m_l_bag k_l_bag b_l_bag (qa_ (qe_div (qv_ rfl (qpv 0)) (qeb qi_)) qa_nil) (ar_ ar_nil)) (qa_ (qv_ rfl (qpv 1)) qa_nil) (ar_ ar_nil)))))
theorem ok_l_word[tk:TheK](h:Here tk.K mg "_law_word" s_l_word ["_law_cell_here","_law_names_here"])(C_l_any_word:Cal P w tk.K mg base 2 "_law_any_word" ["_law_bag_here","_law_names_here"] (spI .e 2 fn_l_any_word))(C_l_bag:Cal P w tk.K mg base 2 "_law_bag" ["_law_cell_here"] (spP .n 1 fn_l_bag))(C_l_built_word:Cal P w tk.K mg base 2 "_law_built_word" ["_law_bag_here","_law_names_here"] (spI .e 2 fn_l_built_word)):Cal P w tk.K mg base 3 "_law_word" ["_law_cell_here","_law_names_here"] (spP .e 2 fn_l_word):=
 h.qP sc_l_word (b_l_word C_l_any_word C_l_bag C_l_built_word)
abbrev s_law:Stmt:=top 35
theorem sc_law:FnScope ["_law_script","_law_many","_law_names_here","_law_bag_here","_law_cell_here"] ["_law_script"] (defScope s_law):=⟨rfl,rfl,rfl,by decide +kernel,rfl,by decide +kernel,by decide +kernel⟩
noncomputable def d_law:DS:=(dSeq (dSet 1 (d2 gMod (dCall fn_l_cell (dAc (dV 0) (dAc (dC (.int 1)) dAn))) (dC (.int 13))))
  (dSeq (dIfS (dB (d2 gEq (d2 gMod (d2 gDiv (dCall fn_l_cell (dAc (dV 0) (dAc (dC (.int 1)) dAn))) (dC (.int 13))) (dC (.int 5))) (dC (.int 1)))) (dSet 1 (d2 gPlus (dC (.int 29)) (d2 gMod (d2 gDiv (dCall fn_l_cell (dAc (dV 0) (dAc (dC (.int 1)) dAn))) (dC (.int 65))) (dC (.int 2))))) dNext)
  (dSeq (dSet 2 (dCall fn_l_names (dAc (dCall fn_l_cell (dAc (dV 0) (dAc (dC (.int 0)) dAn))) (dAc (d2 gPlus (dV 1) (dC (.int 1))) dAn))))
  (dSeq (dSet 3 (dCall fn_l_bag (dAc (dCall fn_l_cell (dAc (dV 0) (dAc (dC (.int 2)) dAn))) dAn)))
  (dSeq (dFor (dItA (d2 gPlus (dLst (dAc (dCall fn_l_cell (dAc (dV 0) (dAc (dC (.int 3)) dAn))) dAn)) (dSl gSlA (dV 0) (dOs (dC (.int 4))) (dOs (dC (.int 9)))))) (dGn 4)
  (dIfS (dNot (dTru (dCallI fn_l_right 3 (dAc (dCall fn_l_word (dAc (dV 4) (dAc (dSl gSlA (dV 2) dOn (dOs (dV 1))) dAn))) (dAc (d2 gItem (dV 2) (dV 1)) dAn))))) (dRetI [] (dC (.bl false))) dNext))
  (dRetI [] (dC (.bl true))))))))
noncomputable def fn_law:List T->Option T:=fnP 5 d_law
theorem b_law[tk:TheK](C_l_cell:Cal P w tk.K mg base 6 "_law_cell" ["_law_script","_law_k"] (spP .e 2 fn_l_cell))(C_l_names:Cal P w tk.K mg base 6 "_law_names" ["_law_cell_here","_law_many"] (spP .e 2 fn_l_names))(C_l_bag:Cal P w tk.K mg base 6 "_law_bag" ["_law_cell_here"] (spP .n 1 fn_l_bag))(C_l_right:Cal P w tk.K mg base 6 "_law_right" ["_law_bag_here","_law_word_here","_law_fresh"] (spI .e 3 fn_l_right))(C_l_word:Cal P w tk.K mg base 6 "_law_word" ["_law_cell_here","_law_names_here"] (spP .e 2 fn_l_word))  :QBody tk P w mg base 6 "law" s_law ["_law_script","_law_many","_law_names_here","_law_bag_here","_law_cell_here"] (cS .e [] [] [] [] d_law):=by
 obtain ⟨f_l_cell,fd_l_cell,G_l_cell,b_l_cell,k_l_cell,m_l_cell⟩:=C_l_cell
 obtain ⟨f_l_names,fd_l_names,G_l_names,b_l_names,k_l_names,m_l_names⟩:=C_l_names
 obtain ⟨f_l_bag,fd_l_bag,G_l_bag,b_l_bag,k_l_bag,m_l_bag⟩:=C_l_bag
 obtain ⟨f_l_right,fd_l_right,G_l_right,b_l_right,k_l_right,m_l_right⟩:=C_l_right
 obtain ⟨f_l_word,fd_l_word,G_l_word,b_l_word,k_l_word,m_l_word⟩:=C_l_word
 intro f cdv A outer s H E hr
 have sc:=sc_law
 have hu:=hu_of hr
 have hu8:(A.deeper (envOfC "law" (defScope s_law) s.heap.objs.size f cdv)).units+8 < cLine:=hu8_of hr
 exact (qs_ (M':=[]) (qs_setE (M':=[]) (qps_set (i:=1) sc.nd rfl (Or.inl rfl) (qe_mod (qe_call G_l_cell hr rfl m_l_cell k_l_cell b_l_cell (qa_ (qv_ rfl (qpv 0)) (qa_ qi_ qa_nil)) (ar_ (ar_ ar_nil))) (qeb qi_))))
  (qs_ (M':=[]) (qs_if (M':=[]) (qt_eq hu8 (qe_mod (qe_div (qe_call G_l_cell hr rfl m_l_cell k_l_cell b_l_cell (qa_ (qv_ rfl (qpv 0)) (qa_ qi_ qa_nil)) (ar_ (ar_ ar_nil))) (qeb qi_)) (qeb qi_)) (qeb qi_)) (qss_one (qs_setE (M':=[]) (qps_set (i:=1) sc.nd rfl (Or.inl rfl) (qe_plus qi_ (qeb (qe_mod (qe_div (qe_call G_l_cell hr rfl m_l_cell k_l_cell b_l_cell (qa_ (qv_ rfl (qpv 0)) (qa_ qi_ qa_nil)) (ar_ (ar_ ar_nil))) (qeb qi_)) (qeb qi_))))))) qss_nil)
  (qs_ (M':=[]) (qs_setE (M':=[]) (qps_set (i:=2) sc.nd rfl (Or.inl rfl) (qe_call G_l_names hr rfl m_l_names k_l_names b_l_names (qa_ (qe_call G_l_cell hr rfl m_l_cell k_l_cell b_l_cell (qa_ (qv_ rfl (qpv 0)) (qa_ qi_ qa_nil)) (ar_ (ar_ ar_nil))) (qa_ (qe_plus (qv_ rfl (qpv 1)) (qeb qi_)) qa_nil)) (ar_ (ar_ ar_nil)))))
  (qs_ (M':=[3]) (qs_setN (M':=[3]) (qps_set (i:=3) sc.nd rfl (Or.inl rfl) (qe_callN G_l_bag hr rfl m_l_bag k_l_bag b_l_bag (qa_ (qe_call G_l_cell hr rfl m_l_cell k_l_cell b_l_cell (qa_ (qv_ rfl (qpv 0)) (qa_ qi_ qa_nil)) (ar_ (ar_ ar_nil))) qa_nil) (ar_ ar_nil))))
  (qs_ (M':=[3]) (qs_for (qps_for PassesOwn.never rfl (qi_any rfl (qe_plus (qne (qe_lst (qa_ (qe_call G_l_cell hr rfl m_l_cell k_l_cell b_l_cell (qa_ (qv_ rfl (qpv 0)) (qa_ qi_ qa_nil)) (ar_ (ar_ ar_nil))) qa_nil))) (qeb (qe_slA rfl (qv_ rfl (qpv 0)) (qo_some qi_) (qo_some qi_))))) (qg_name (qpg_name (i:=4) sc.nd rfl (Or.inl rfl)))
  (qss_one (qs_if (M':=[3]) (qt_not (qt_tru (qeb (qe_callI rfl G_l_right hr rfl m_l_right k_l_right b_l_right (qpv 3) (qa_ (qe_call G_l_word hr rfl m_l_word k_l_word b_l_word (qa_ (qv_ rfl (qpv 4)) (qa_ (qe_slA rfl (qv_ rfl (qpv 2)) qo_none (qo_some (qv_ rfl (qpv 1)))) qa_nil)) (ar_ (ar_ ar_nil))) (qa_ (qe_item rfl hu (qv_ rfl (qpv 2)) (qeb (qv_ rfl (qpv 1))) (fun _ _=>rfl)) qa_nil)) (ar_ (ar_ ar_nil)))))) (qss_one (qs_retE qe_bl)) qss_nil))))
  (qss_one (qs_retE qe_bl)))))))
end Dw
set_option maxHeartbeats 1000000
local macro_rules | `(tactic| simp_all? [$args,*]) => `(tactic| simp (disch := (first | lia | (simp only [List.length_map, List.length_append, List.length_cons, List.length_nil, List.length_reverse, List.length_range, List.length_set, List.length_take, List.length_drop, List.length_zipIdx]; lia))) only [L3.vdV, L3.vdC, L3.vd2, L3.vd2v, L3.vdB, L3.vdTru, L3.vdAnd, L3.vdOr, L3.vdNot, L3.vdAndV, L3.vdOrV, L3.vdNotV, L3.vdIf, L3.vdAn, L3.vdAc, L3.vdLst, L3.vdTup, L3.vdDict, L3.vdOn, L3.vdOs, L3.vdSl, L3.vdSlV, L3.vdSeq, L3.vdNext, L3.vdSet, L3.vdIfS, L3.vdDo, L3.vdBrk, L3.vdCnt, L3.vdRetI, L3.vdMut, L3.vdPut, L3.vdSetI, L3.vdAug, L3.vdUn, L3.vdRg1, L3.vdRg2, L3.vdEn, L3.vdGn, L3.vdGt, L3.vdCall, L3.vdCallI, L3.vdCallN, L3.vd1, L3.vdA2, L3.vdJoin, L3.vd2L, L3.vdItA, L3.vdItF, L3.vdItS, L3.vdCh, L3.vdRev, L3.vdLR, L3.vdItV, L3.vd2LV, L3.vdFzS, L3.vdItW, L3.vdGetV, L3.vdSplit, L3.vdCallB, L3.vdItR, L3.vdRg3, L3.vdPar, L3.vdSet0, L3.vdSAdd, L3.vdCallB2, L3.vdLC2, L3.vdLZ, L3.vdRgZ, L3.vdEnK, L3.vdZipK, L3.vdCallBN, L3.vdRtD, L3.vdMutD, L3.vdDeep, L3.vdDeep2, L3.vdFl, L3.vdLZs, L3.vdT3, L3.vdZip, L3.vdZipD, L3.vdCallD, L3.vdNils, L3.vdClx, L3.vdRev0, L3.vdFlN, L3.vdIsi, L3.vdYes, L3.vnT, L3.vPlusI, L3.vPlusL, L3.vCatL, L3.vSb, L3.vMul, L3.vDiv, L3.vMod, L3.vNeg, L3.vLt, L3.vLe, L3.vGt, L3.vGe, L3.vEqI, L3.vNeI, L3.vEqB, L3.vNeB, L3.vEqS, L3.vNeS, L3.vEqSs, L3.vNeSs, L3.vEqNs, L3.vNeNs, L3.vLenL, L3.vLenT, L3.vLenD, L3.vLenR, L3.vItemL, L3.vItemT, L3.vItemDs, L3.vItemDi, L3.vTruB, L3.vTruL, L3.vTruI, L3.vListL, L3.vListT, L3.vAppS, L3.vAppN, L3.vNotInS, L3.vInS, L3.vInN, L3.vNotInN, L3.vInD, L3.vNotInD, L3.vCountS, L3.visiLl, L3.visiIi, L3.visiBi, L3.visiBb, L3.visiTt, L3.visiSs, L3.hasAll_nil, L3.vcap0, L3.vcapN, L3.vcapS, L3.vAllB, L3.vAnyB, L3.isLst_lst, L3.vsign, L3.sz0, L3.sz1, L3.sz2, L3.sz3, L3.sz4, List.getElem?_cons_zero, List.getElem?_cons_succ, L3.join_ss, Option.bind_some, Option.map_some, List.set_cons_succ, List.set_cons_zero, List.length_cons, List.length_nil, List.length_map, if_true, if_false, Bool.not_true, Bool.not_false, decide_true, decide_false, Bool.false_eq_true, L3.setAll, L3.itemsT, Nat.reduceAdd, Nat.reduceLT, Int.zero_add, $args,*])
namespace Dw
open PySem L2 L3
theorem cell_eq(ns:List Int)(k:Nat):fn_l_cell [.scr ns,.int k]=some (.int (ns.getD k 0)):=by
 unfold fn_l_cell fnP d_l_cell
 by_cases h:k < ns.length
 ·have e:atI ns (k:Int)=some ns[k]:=atI_of (List.getElem?_eq_getElem h)
  simp [dSeq,dNext,dIfS,dRetI,dV,dC,d2,d1,dB,gLt,gCmp,gLen,gItem,orG,gIx,start3,hasAll,h,e]
 ·simp [dSeq,dNext,dIfS,dRetI,dV,dC,d2,d1,dB,gLt,gCmp,gLen,gItem,orG,gIx,start3,hasAll,h]
structure Bag2 where
 (a b:Int)
def Bag2.t(x:Bag2):T:=.lst [.int x.a,.int x.b]
structure Bag2.Ok (x:Bag2):Prop where
 b0:0<=x.b
 b1:x.b < 2147483647
theorem big_pow:gPow (.int 10) (.int 40)=some (.int 10000000000000000000000000000000000000000):=by rfl
theorem big_mul:gMulB (.int 10000000000000000000000000000000000000000) (.int 10000000000000000000000000000000000000000)=some (.int 100000000000000000000000000000000000000000000000000000000000000000000000000000000):=by rfl
theorem bag2_eq(n:Int):∃ x:Bag2,fn_l_bag [.int n]=some x.t/\x.Ok:=by
 refine ⟨⟨n / 2%100000000000000000000000000000000000000000000000000000000000000000000000000000000*(n%2),n / 2%2147483647⟩,?_,⟨Int.emod_nonneg _ (by lia),Int.emod_lt_of_pos _ (by lia)⟩⟩
 unfold fn_l_bag
 refine fnPn_eq ?_
 show Run d_l_bag [some (.int n)] _
 exact run_ret (s':=[some (.int n)]) (by unfold d_l_bag; simp_all? [big_pow,big_mul]<;>rfl) rfl
theorem draw_ex{x:Bag2}(h:x.Ok)(n:Int)(hn:0 < n)(hn2:n < 1073741824):∃ (z:Int) (y:Bag2),fn_l_draw [x.t,.int n]=some (.int z,y.t)/\y.Ok/\0<=z/\z < n:=by
 have h0:=h.b0
 have h1:=h.b1
 have m1:bMul x.b 48271=true:=by unfold bMul; rw [Bool.or_eq_true,decide_eq_true_iff]; left; lia
 have m2:bMul ((x.b*48271+4099)%2147483647) ((x.b*48271+4099)%2147483647 / 65536+7)=true:=by unfold bMul; rw [Bool.or_eq_true,decide_eq_true_iff]; left; lia
 by_cases hp:0 < x.a
 ·refine ⟨x.a%n,⟨x.a / n,x.b⟩,?_,⟨h0,h1⟩,Int.emod_nonneg _ (by lia),Int.emod_lt_of_pos _ hn⟩
  unfold fn_l_draw fnI d_l_draw Bag2.t
  simp [dSeq,dNext,dIfS,dSet,dSetI,dRetI,dV,dC,d2,d2v,d1,dB,gGt,gI1,gItem,orG,gIx,gMod,gDiv,gI,bMod,bDiv,start3,hasAll,atI,ixN,hp,hn,hn2]
 ·refine ⟨(x.b*48271+4099)%2147483647*((x.b*48271+4099)%2147483647 / 65536+7)%2147483629 / 32%n,⟨x.a,(x.b*48271+4099)%2147483647⟩,?_,⟨Int.emod_nonneg _ (by lia),Int.emod_lt_of_pos _ (by lia)⟩,Int.emod_nonneg _ (by lia),Int.emod_lt_of_pos _ hn⟩
  unfold fn_l_draw fnI d_l_draw Bag2.t
  simp [dSeq,dNext,dIfS,dSet,dSetI,dRetI,dV,dC,d2,d2v,d1,dB,gGt,gI1,gItem,orG,gIx,gMod,gDiv,gMul,gPlus,gAdd,gI,bMod,bDiv,start3,hasAll,atI,ixN,hp,m1,m2,hn,hn2]
end Dw
namespace Dw
open PySem L2 L3
theorem cut_map{α β:Type}(f:α->β)(xs:List α)(lo hi:Option Int):cutT (xs.map f) lo hi=(cutT xs lo hi).map f:=by
 unfold cutT
 rw [List.length_map,List.map_take,List.map_drop]
theorem ixN_at{n j:Nat}(h:j < n):ixN n (j:Int)=some j:=by simp [ixN,h]
def nmO(names:List Str):Option Nat->Str
 | none=>Str.ofString ""
 | some k=>names.getD k Str.empty
theorem any_eq{x:Bag2}(hx:x.Ok){names:List Str}(hn:names.length<=30)(hd:names.Nodup)(hN:∀ x∈names,IsName x):∃ (wd:List Str) (y:Bag2),fn_l_any_word [x.t,.lst (names.map T.str)]=some (.lst (wd.map T.str),y.t)/\GoodWord wd/\∀ x∈wd,x∈names:=by
 have hr:rgOk (2*((names.length:Nat):Int))=true:=rgOk_of (by lia) (by lia)
 have e2:(2*((names.length:Nat):Int)).toNat=2*names.length:=by lia
 obtain ⟨t,u,e,wd,y,rfl,rfl,gw⟩:=fnI_run (n:=6) (d:=d_l_any_word) (ts:=[x.t,.lst (names.map T.str)]) (Q:=fun t u=>∃ (wd:List Str) (y:Bag2),t=.lst (wd.map T.str)/\u=y.t/\GoodWord wd/\∀ x∈wd,x∈names) (by
  unfold d_l_any_word
  show Run _ [some x.t,some (.lst (names.map T.str)),none,none,none,none] _
  refine run_nx (s':=[some x.t,some (.lst (names.map T.str)),some (.lst ((List.range (2*names.length)).map nT)),none,none,none]) (by simp_all? [hr,e2,range_nT]) ?_
  have l1:=lc_encm (M:=[0]) (caps:=[none]) (fi:=dItA (dV 2)) (dg:=dGn 0) (fe:=dC (.str "")) (s:=[some x.t,some (.lst (names.map T.str)),some (.lst ((List.range (2*names.length)).map nT)),none,none,none]) (List.range (2*names.length)) nT (fun _=>.str "") (by simp_all? []) (by simp; lia) (fun z _=>⟨[some (nT z)],rfl,rfl,rfl⟩)
  have l2:(List.range (2*names.length)).map (fun _=>T.str "")=((List.replicate (2*names.length) none).map (nmO names)).map T.str:=by
   rw [List.map_replicate,List.map_replicate]
   refine (List.eq_replicate_iff (a:=T.str (Str.ofString ""))).mpr ⟨by simp,fun b hb=>?_⟩
   obtain ⟨_,_,h⟩:=List.mem_map.mp hb
   exact h.symm
  rw [l2] at l1
  refine run_nx (by simp_all? [l1]<;>rfl) ?_
  refine run_for (its:=names.map T.str) (fun i s=>∃ (y:Bag2) (fr:List Nat) (pl:List (Option Nat)) (a b:Option T),s=[some y.t,some (.lst (names.map T.str)),some (.lst (fr.map nT)),some (.lst ((pl.map (nmO names)).map T.str)),a,b]/\y.Ok/\fr.length+2*i=2*names.length/\fr.Nodup/\(∀ k∈fr,pl[k]?=some none)/\Half pl names.length i)
   (by simp_all? []<;>rfl) ⟨x,_,_,_,_,rfl,hx,by simp,List.nodup_range,fun k hk=>by rw [List.getElem?_replicate,if_pos (List.mem_range.mp hk)],Half.start _⟩ ?_ ?_
  ·rintro i z s hz ⟨y,fr,pl,a,b,rfl,oy,hl,hnd,hlt,hh⟩
   rw [List.getElem?_map] at hz
   obtain ⟨x,hx,rfl⟩:=Qm hz
   have hi:i < names.length:=(List.getElem?_eq_some_iff.mp hx).1
   refine ⟨_,by simp_all? []<;>rfl,?_⟩
   match fr,hl,hnd,hlt with
   | [],hl,_,_=>exact absurd hl (by simp; lia)
   | k0::fr,hl,hnd,hlt=>
   rw [List.length_cons] at hl
   rw [List.nodup_cons] at hnd
   have hk0:=hlt k0 (List.mem_cons_self ..)
   obtain ⟨u,y',eu,o',a',b'⟩:=draw_ex oy (fr.length:Int) (by lia) (by lia)
   have hu:u.toNat < fr.length:=by lia
   have hk1:=hlt fr[u.toNat] (List.mem_cons_of_mem _ (List.getElem_mem hu))
   have hne:k0≠fr[u.toNat]:=fun z=>hnd.1 (z▸List.getElem_mem hu)
   have hlen:=hh.len
   have q0:k0 < pl.length:=(List.getElem?_eq_some_iff.mp hk0).1
   have q1:fr[u.toNat] < pl.length:=(List.getElem?_eq_some_iff.mp hk1).1
   have hxn:x=nmO names (some i):=by
    show x=names.getD i Str.empty
    rw [getD_at hi]
    exact (Option.some.inj ((List.getElem?_eq_getElem hi).symm.trans hx)).symm
   have i0:=ixN_at (n:=pl.length) q0
   have i1:=ixN_at (n:=pl.length) q1
   have g0:gItem (.lst ((k0::fr).map nT)) (.int 0)=some (nT k0):=vItemL ((k0::fr).map nT) 0
   have lf:gLen (.lst ((k0::fr).map nT))=some (.int ((fr.length:Int)+1)):=by rw [vLenL,List.length_map,List.length_cons]; rfl
   have gu:gItem (.lst ((k0::fr).map nT)) (.int (1+u))=some (nT fr[u.toNat]):=by
    have:(1+u:Int)=((u.toNat+1:Nat):Int):=by lia
    rw [this,vItemL,List.map_cons,List.getElem?_cons_succ,List.getElem?_map,List.getElem?_eq_getElem hu]
    rfl
   have sl:gSlA (.lst ((k0::fr).map nT)) (some 1) none=some (.lst (fr.map nT)):=by
    show some (T.lst (cutT ((k0::fr).map nT) (some 1) none))=_
    rw [cut_map,cutT_from (k0::fr) (by lia) (by rw [List.length_cons]; lia)]; rfl
   generalize hFR:T.lst ((k0::fr).map nT)=FR at g0 lf gu sl
   refine run_nx (s':=[some y.t,some (.lst (names.map T.str)),some FR,some (.lst (((pl.set k0 (some i)).map (nmO names)).map T.str)),some (.str x),b]) (by simp_all? [g0,i0]; rw [List.map_set,List.map_set,<-hxn]) ?_
   refine run_nx (s':=[some y'.t,some (.lst (names.map T.str)),some FR,some (.lst (((pl.set k0 (some i)).map (nmO names)).map T.str)),some (.str x),some (.int ((fr[u.toNat]:Nat):Int))]) (by simp_all? [lf,Int.add_sub_cancel,eu,gu]) ?_
   refine run_nx (s':=[some y'.t,some (.lst (names.map T.str)),some FR,some (.lst ((((pl.set k0 (some i)).set fr[u.toNat] (some i)).map (nmO names)).map T.str)),some (.str x),some (.int ((fr[u.toNat]:Nat):Int))]) (by simp_all? [List.length_set,i1]; rw [List.map_set (l:=pl.set k0 (some i)),List.map_set (l:=(pl.set k0 (some i)).map (nmO names)),<-hxn]) ?_
   have l1:=lc_enc (M:=[0,3]) (caps:=[none,some 5]) (fi:=dItA (dSl gSlA (dV 2) (dOs (dC (.int 1))) dOn)) (dg:=dGn 0) (ft:=dB (d2 gNe (dV 0) (dV 1))) (fe:=dV 0) (s:=[some y'.t,some (.lst (names.map T.str)),some FR,some (.lst ((((pl.set k0 (some i)).set fr[u.toNat] (some i)).map (nmO names)).map T.str)),some (.str x),some (.int ((fr[u.toNat]:Nat):Int))]) fr nT (fun (k:Nat)=>!decide ((k:Int)=((fr[u.toNat]:Nat):Int))) nT (by simp_all? [sl]) (by lia) (fun k _=>⟨[some (nT k),some (.int ((fr[u.toNat]:Nat):Int))],rfl,by simp_all? [],fun _=>rfl,rfl⟩)
   have fe:(fr.filter fun (k:Nat)=>!decide ((k:Int)=((fr[u.toNat]:Nat):Int)))=fr.erase fr[u.toNat]:=by
    rw [hnd.2.erase_eq_filter]
    refine List.filter_congr fun k _=>?_
    by_cases h:k=fr[u.toNat]
    ·simp [h]
    ·have:¬ ((k:Int)=((fr[u.toNat]:Nat):Int)):=by lia
     simp [h,this]
   rw [fe] at l1
   refine run_onto (by simp_all? [l1]<;>rfl) ⟨y',fr.erase fr[u.toNat],(pl.set k0 (some i)).set fr[u.toNat] (some i),_,_,rfl,o',?_,hnd.2.sublist (List.erase_sublist),fun k hk=>?_,?_⟩
   ·rw [List.length_erase_of_mem (List.getElem_mem hu)]; lia
   ·have hk':k∈fr:=List.mem_of_mem_erase hk
    have n0:k0≠k:=fun z=>hnd.1 (z▸hk')
    have n1:fr[u.toNat]≠k:=fun z=>by
     rw [<-z] at hk
     exact hnd.2.not_mem_erase hk
    rw [List.getElem?_set_ne n1,List.getElem?_set_ne n0]
    exact hlt k (List.mem_cons_of_mem _ hk')
   ·exact hh.next hi hk1 hk0 (Ne.symm hne)
  ·rintro s ⟨y,fr,pl,a,b,rfl,oy,hl,hnd,hlt,hh⟩
   rw [List.length_map] at hh
   obtain ⟨ps,hp,rfl⟩:=hh.done
   have hg:=goodWord_of hn rfl hd hN hp
   refine ⟨_,by simp_all? []<;>rfl,_,_,_,rfl,_,_,rfl,rfl,?_,fun x hx=>?_⟩
   ·rw [List.map_map]; exact hg
   ·rw [List.map_map] at hx
    obtain ⟨k,hk,rfl⟩:=List.mem_map.mp hx
    have hk':=hp.lt k hk
    show names.getD k Str.empty∈names
    rw [getD_at hk']
    exact List.getElem_mem hk')
 exact ⟨wd,y,e,gw⟩
end Dw
set_option maxHeartbeats 2000000
namespace Dw
open PySem L2 L3
theorem item_letter{z:Int}(h0:0<=z)(h:z < 26):gItem (.str letters) (.int z)=some (.str (Sx [97+z.toNat])):=by
 simp only [gItem,orG,gIx,letters_len,if_true,letters_at h0 h,Option.map_some]
 rfl
theorem plus_txt(l m:List Nat)(h:l.length+m.length<=1000):gPlus (.str (Sx l)) (.str (Sx m))=some (.str (Sx (l++m))):=by
 rw [vPlusS (by rw [Sx_len,Sx_len]; lia),Sx_app]
def LowC(l:List Nat):Prop:=∀ c∈l,97<=c/\c<=122
theorem lowName{l:List Nat}(h:LowC l)(h1:1<=l.length)(h8:l.length<=8):IsName (Sx l):=by
 unfold IsName
 rw [Sx_len,Sx_cps]
 exact ⟨h1,h8,h⟩
theorem cutT_over{α:Type}(xs:List α){t:Int}(h:(xs.length:Int)<=t):cutT xs none (some t)=xs:=by
 unfold cutT HT.sIx
 simp only [List.drop_zero,Nat.sub_zero]
 rw [if_neg (by lia),Nat.min_eq_right (by lia),List.take_of_length_le (Nat.le_refl _)]
structure NmOk (mk:List Str) (m:Nat):Prop where
 nd:mk.Nodup
 nm:∀ x∈mk,IsName x
 len:mk.length<=m
theorem pow18:gPow (.int 10) (.int 18)=some (.int 1000000000000000000):=by rfl
def farC(l:List Nat)(r:Int)(k:Nat):List Nat:=l.take 6++[97+k / 5,97+(((k:Int)+r)%26).toNat]
theorem farC_inj{l:List Nat}{r:Int}{j k:Nat}(h:farC l r j=farC l r k)(hj:j < 31)(hk:k < 31):j=k:=by
 unfold farC at h
 have h2:=List.append_cancel_left h
 simp only [List.cons.injEq] at h2
 lia
theorem farC_ok{l:List Nat}{r:Int}{k:Nat}(hl:LowC l)(hk:k < 31):IsName (Sx (farC l r k)):=by
 refine lowName (fun c hc=>?_) (by unfold farC; simp) (by unfold farC; rw [List.length_append,List.length_take]; simp; lia)
 unfold farC at hc
 rcases List.mem_append.mp hc with q | q
 ·exact hl c (List.mem_of_mem_take q)
 ·simp only [List.mem_cons,List.not_mem_nil,or_false] at q
  lia
theorem letters_low:LowC letters.cps.toList:=by unfold LowC; decide +kernel
def vari(l:List Nat)(sp j:Nat):Str:=Sx (l.take sp++[97+j]++l.drop (sp+1))
theorem vari_inj{l:List Nat}{sp j k:Nat}(h:vari l sp j=vari l sp k):j=k:=by
 have h:=Sx_inj h
 rw [List.append_assoc,List.append_assoc] at h
 have h:=List.append_cancel_left h
 have:=(List.cons.inj h).1
 lia
theorem vari_stem{l:List Nat}{sp j:Nat}(hs:sp < l.length)(h:vari l sp j=Sx l):j=l.getD sp 0 - 97:=by
 have h:=Sx_inj h
 have e:=congrArg (fun z:List Nat=>z[sp]?) h
 rw [List.append_assoc,List.getElem?_append_right (by rw [List.length_take]; lia)] at e
 rw [List.length_take,Nat.min_eq_left (by lia),Nat.sub_self] at e
 have e:some (97+j)=l[sp]?:=e
 rw [List.getD_eq_getElem?_getD,<-e]
 show j=97+j - 97
 lia
theorem lettersAt{i ch:Nat}(h:letters.cps.toList[i]?=some ch):ch=97+i/\i < 26:=by
 have k:∀ i,i < 26->letters.cps.toList[i]?=some (97+i):=by decide +kernel
 have hl:letters.cps.toList.length=26:=by decide +kernel
 have hi:i < 26:=by rw [<-hl]; exact (List.getElem?_eq_some_iff.mp h).1
 rw [k i hi] at h
 exact ⟨(Option.some.inj h).symm,hi⟩
def NmJ(l:List Nat)(sp m i:Nat)(mk:List Str):Prop:=mk.length=m∨(m<=24/\i<=mk.length+(if l.getD sp 0 - 97 < i then 1 else 0)/\∀ x∈mk,∀ j,i<=j->x=vari l sp j->x=Sx l)
theorem names2_eq(c:Int){m:Nat}(hm:m<=31):∃ names:List Str,fn_l_names [.int c,.int m]=some (.lst (names.map T.str))/\names.length=m/\names.Nodup/\∀ x∈names,IsName x:=by
 obtain ⟨sz,hsz⟩:∃ sz:Nat,1+c%8=(sz:Int):=⟨(1+c%8).toNat,by lia⟩
 obtain ⟨sp,hsp⟩:∃ sp:Nat,c / 3%(sz:Int)=(sp:Int):=⟨(c / 3%(sz:Int)).toNat,by rw [Int.toNat_of_nonneg (Int.emod_nonneg _ (by lia))]⟩
 have hspl:sp < sz:=by have:=Int.emod_lt_of_pos (c / 3) (show (0:Int) < sz by lia); lia
 obtain ⟨t,e,wd,rfl,gw,gwl⟩:=fnP_run (n:=11) (d:=d_l_names) (ts:=[.int c,.int m]) (Q:=fun t=>∃ wd:List Str,t=.lst (wd.map T.str)/\NmOk wd m/\wd.length=m) (by
  unfold d_l_names
  show Run _ [some (.int c),some (.int m),none,none,none,none,none,none,none,none,none] _
  refine run_nx (s':=[some (.int c),some (.int m),some (.str letters),none,none,none,none,none,none,none,none]) rfl ?_
  refine run_nx (s':=[some (.int c),some (.int m),some (.str letters),some (.int sz),none,none,none,none,none,none,none]) (by simp_all? [hsz]) ?_
  refine run_nx (s':=[some (.int c),some (.int m),some (.str letters),some (.int sz),some (.int (c / 8%1000000000000000000)),none,none,none,none,none,none]) (by simp_all? [pow18]) ?_
  refine run_nx (s':=[some (.int c),some (.int m),some (.str letters),some (.int sz),some (.int (c / 8%1000000000000000000)),some (.str (Sx [])),none,none,none,none,none]) rfl ?_
  refine run_for (its:=rangeT 0 sz) (fun i s=>∃ (l:List Nat) (r:Int) (a:Option T),s=[some (.int c),some (.int m),some (.str letters),some (.int sz),some (.int r),some (.str (Sx l)),a,none,none,none,none]/\l.length=i/\LowC l)
   (by simp_all? [rgOk_of (j:=(sz:Int)) (by lia) (by lia),Int.toNat_natCast]<;>rfl) ⟨[],_,none,rfl,rfl,fun c hc=>by cases hc⟩ ?_ ?_
  ·rintro i z s hz ⟨l,r,a,rfl,hl,hlo⟩
   obtain ⟨hi,rfl⟩:=range_get hz
   have b1:0<=r%26:=Int.emod_nonneg _ (by decide)
   have b2:r%26 < 26:=Int.emod_lt_of_pos _ (by decide)
   refine ⟨_,by simp_all? []<;>rfl,?_⟩
   refine run_nx (by simp_all? [item_letter b1 b2,plus_txt l [97+(r%26).toNat] (by simp; lia)]<;>rfl) ?_
   refine run_onto (by simp_all? []<;>rfl) ⟨_,_,_,rfl,by simp [hl],fun c hc=>?_⟩
   rcases List.mem_append.mp hc with q | q
   ·exact hlo c q
   ·have:c=97+(r%26).toNat:=by simpa using q
    lia
  rintro s ⟨l,r,a,rfl,hl,hlo⟩
  rw [range_len] at hl
  have lS:l.length<=sizeLine:=small_le (by lia)
  have sl:∀ k:Nat,k<=l.length->gSlA (.str (Sx l)) none (some (k:Int))=some (.str (Sx (l.take k))):=fun k hk=>by
   have:=Sx_to l (j:=(k:Int)) (by lia) (by lia)
   simp only [gSlA,gSlS,Sx_len,lS,if_true,this,Int.toNat_natCast]
  have sf:∀ k:Nat,k<=l.length->gSlA (.str (Sx l)) (some (k:Int)) none=some (.str (Sx (l.drop k))):=fun k hk=>by
   have:=Sx_from l (j:=(k:Int)) (by lia) (by lia)
   simp only [gSlA,gSlS,Sx_len,lS,if_true,this,Int.toNat_natCast]
  have s6:gSlA (.str (Sx l)) none (some 6)=some (.str (Sx (l.take 6))):=by
   by_cases h6:6<=l.length
   ·exact sl 6 h6
   ·have h7:Txt.slice (Sx l) none (some 6)=Sx (l.take 6):=by
     have k:∀ n:Nat,n < 6->(Builtin.Str.strSliceIndices none (some 6) 1 n).length=n:=by decide +kernel
     have k:=k l.length (by lia)
     unfold Txt.slice
     rw [Sx_len,k,List.take_of_length_le (by lia),if_pos (by simp)]
    simp only [gSlA,gSlS,Sx_len,lS,if_true,h7]
  refine run_nx (s':=[some (.int c),some (.int m),some (.str letters),some (.int sz),some (.int r),some (.str (Sx l)),a,some (.int sp),none,none,none]) (by simp_all? [hsp]) ?_
  refine run_nx (s':=[some (.int c),some (.int m),some (.str letters),some (.int sz),some (.int r),some (.str (Sx l)),a,some (.int sp),some (.lst (([]:List Str).map T.str)),none,none]) (by simp_all? []<;>rfl) ?_
  refine run_mid (fun s=>∃ mk,NmOk mk m/\(∀ x∈mk,x.length=sz->x=Sx l)/\s=[some (.int c),some (.int m),some (.str letters),some (.int sz),some (.int r),some (.str (Sx l)),a,some (.int sp),some (.lst (mk.map T.str)),none,none]) ?_ ?_
  ·by_cases h1:c / 5%3=1
   ·have r12:rgOk 1=true/\rgOk ((sz:Int)+1)=true:=⟨rgOk_of (by decide) (by decide),rgOk_of (by lia) (by lia)⟩
    have e3:((sz:Int)+1 - 1).toNat=sz:=by lia
    have er:rangeT 1 sz=(List.range sz).map fun k=>nT (k+1):=by
     unfold rangeT
     refine List.map_congr_left fun k _=>?_
     rw [vnT]; congr 1; lia
    have l1:=lc_encm (M:=[8]) (caps:=[none,some 5]) (fi:=dRg2 (dAc (dC (.int 1)) (dAc (d2 gPlus (dV 3) (dC (.int 1))) dAn))) (dg:=dGn 0) (fe:=dSl gSlA (dV 1) dOn (dOs (dV 0))) (s:=[some (.int c),some (.int m),some (.str letters),some (.int sz),some (.int r),some (.str (Sx l)),a,some (.int sp),some (.lst (([]:List Str).map T.str)),none,none]) (List.range sz) (fun k=>nT (k+1)) (fun k=>.str (Sx (l.take (k+1)))) (by simp_all? [r12,and_self,e3,er]) (by simp; lia) (by
     intro k hk
     have hk':=List.mem_range.mp hk
     refine ⟨_,by simp_all? []<;>rfl,?_,rfl⟩
     simp_all? [sl (k+1) (by lia)])
    have l2:(List.range sz).map (fun k=>T.str (Sx (l.take (k+1))))=((List.range sz).map fun k=>Sx (l.take (k+1))).map T.str:=by rw [List.map_map]; rfl
    rw [l2] at l1
    have hmx:∀ mk:List Str,gSl (.lst (mk.map T.str)) none (some (m:Int))=some (.lst ((mk.take m).map T.str)):=fun mk=>by
     show some (T.lst (cutT (mk.map T.str) none (some (m:Int))))=_
     rw [cut_map]
     by_cases hq:m<=mk.length
     ·rw [cutT_to mk (by lia) (by lia),Int.toNat_natCast]
     ·rw [cutT_over mk (by lia),List.take_of_length_le (by lia)]
    refine run_end (r:=.nx _) (by simp_all? [decide_eq_true h1,l1,hmx]<;>rfl) ⟨_,⟨?_,fun x hx=>?_,?_⟩,fun x hx hxl=>?_,rfl⟩
    ·refine List.Pairwise.sublist (List.take_sublist _ _) (List.Pairwise.map _ (R:=fun a b=>a≠b/\a < sz/\b < sz) (fun a b ⟨n,ha,hb⟩ z=>n ?_) (List.Pairwise.imp_of_mem (R:=fun a b=>a≠b) (fun {a b} ha hb n=>⟨n,List.mem_range.mp ha,List.mem_range.mp hb⟩) List.nodup_range))
     have:=congrArg List.length (Sx_inj z)
     rw [List.length_take,List.length_take] at this
     lia
    ·obtain ⟨k,hk,rfl⟩:=List.mem_map.mp (List.mem_of_mem_take hx)
     have hk':=List.mem_range.mp hk
     exact lowName (fun c hc=>hlo c (List.mem_of_mem_take hc)) (by rw [List.length_take]; lia) (by rw [List.length_take]; lia)
    ·rw [List.length_take]; lia
    ·obtain ⟨k,hk,rfl⟩:=List.mem_map.mp (List.mem_of_mem_take hx)
     have hk':=List.mem_range.mp hk
     rw [Sx_len,List.length_take] at hxl
     rw [List.take_of_length_le (by lia)]
   ·exact run_end (r:=.nx _) (by simp_all? [decide_eq_false h1]<;>rfl) ⟨[],⟨List.nodup_nil,(fun x hx=>by cases hx),by simp⟩,(fun x hx=>by cases hx),rfl⟩
  rintro s ⟨mk,hmk,hpre,rfl⟩
  refine run_mid (fun s=>∃ mk,NmOk mk m/\NmJ l sp m 0 mk/\s=[some (.int c),some (.int m),some (.str letters),some (.int sz),some (.int r),some (.str (Sx l)),a,some (.int sp),some (.lst (mk.map T.str)),none,none]) ?_ ?_
  ·have far:∀ s:Sg,s=[some (.int c),some (.int m),some (.str letters),some (.int sz),some (.int r),some (.str (Sx l)),a,some (.int sp),some (.lst (mk.map T.str)),none,none]->dLC [8] [none,some 2,some 5,some 4] (dRg1 (dAc (dV 1) dAn)) (dGn 0) dYes (d2 gPlus (d2 gPlus (dSl gSlA (dV 2) dOn (dOs (dC (.int 6)))) (d2 gItem (dV 1) (d2 gDiv (dV 0) (dC (.int 5))))) (d2 gItem (dV 1) (d2 gMod (d2 gPlus (dV 0) (dV 3)) (dC (.int 26))))) s=some (.lst (((List.range m).map fun k=>Sx (farC l r k)).map T.str),s):=by
    rintro s rfl
    have l1:=lc_encm (M:=[8]) (caps:=[none,some 2,some 5,some 4]) (fi:=dRg1 (dAc (dV 1) dAn)) (dg:=dGn 0) (fe:=d2 gPlus (d2 gPlus (dSl gSlA (dV 2) dOn (dOs (dC (.int 6)))) (d2 gItem (dV 1) (d2 gDiv (dV 0) (dC (.int 5))))) (d2 gItem (dV 1) (d2 gMod (d2 gPlus (dV 0) (dV 3)) (dC (.int 26))))) (s:=[some (.int c),some (.int m),some (.str letters),some (.int sz),some (.int r),some (.str (Sx l)),a,some (.int sp),some (.lst (mk.map T.str)),none,none]) (List.range m) nT (fun k=>.str (Sx (farC l r k))) (by simp_all? [rgN (k:=m) (by lia),Int.toNat_natCast,range_nT]) (by simp; lia) (by
     intro k hk
     have hk':=List.mem_range.mp hk
     have x1:=item_letter (z:=(k:Int) / 5) (by lia) (by lia)
     have x2:=item_letter (z:=((k:Int)+r)%26) (Int.emod_nonneg _ (by decide)) (Int.emod_lt_of_pos _ (by decide))
     have n1:((k:Int) / 5).toNat=k / 5:=by lia
     rw [n1] at x1
     have p1:=plus_txt (l.take 6) [97+k / 5] (by simp; lia)
     have p2:=plus_txt (l.take 6++[97+k / 5]) [97+(((k:Int)+r)%26).toNat] (by simp; lia)
     rw [List.append_assoc] at p2
     refine ⟨[some (nT k),some (.str letters),some (.str (Sx l)),some (.int r)],rfl,?_,rfl⟩
     simp_all? [s6,x1,p1,x2,p2]<;>rfl)
    rw [show (List.range m).map (fun k=>T.str (Sx (farC l r k)))=((List.range m).map fun k=>Sx (farC l r k)).map T.str by rw [List.map_map]; rfl] at l1
    exact l1
   have far:=far _ rfl
   by_cases h2:c / 5%3=2∨(24:Int) < m
   ·have ok:NmOk ((List.range m).map fun k=>Sx (farC l r k)) m:=by
     refine ⟨List.Pairwise.map _ (R:=fun a b=>a≠b/\a < 31/\b < 31) (fun a b ⟨n,ha,hb⟩ z=>n (farC_inj (Sx_inj z) ha hb)) (List.Pairwise.imp_of_mem (R:=fun a b=>a≠b) (fun {a b} ha hb n=>⟨n,by have:=List.mem_range.mp ha; lia,by have:=List.mem_range.mp hb; lia⟩) List.nodup_range),fun x hx=>?_,by simp⟩
     obtain ⟨k,hk,rfl⟩:=List.mem_map.mp hx
     exact farC_ok hlo (by have:=List.mem_range.mp hk; lia)
    refine run_end (r:=.nx _) ?_ ⟨_,ok,.inl (by simp),rfl⟩
    by_cases h3:c / 5%3=2
    ·simp_all? [decide_eq_true h3,far]
    ·simp_all? [decide_eq_false h3,decide_eq_true (show (24:Int) < m by lia),far]
   ·exact run_end (r:=.nx _) (by simp_all? [decide_eq_false (show ¬ c / 5%3=2 by lia),decide_eq_false (show ¬ (24:Int) < m by lia)]<;>rfl) ⟨mk,hmk,.inr ⟨by lia,by lia,fun x hx j _ e=>hpre x hx (by rw [e]; unfold vari; rw [Sx_len]; simp only [List.length_append,List.length_take,List.length_drop,List.length_cons,List.length_nil]; lia)⟩,rfl⟩
  rintro s ⟨mk,hmk,hJ,rfl⟩
  refine run_for (its:=letters.cps.toList.map signT) (fun i s=>∃ (mk:List Str) (a g h:Option T),s=[some (.int c),some (.int m),some (.str letters),some (.int sz),some (.int r),some (.str (Sx l)),a,some (.int sp),some (.lst (mk.map T.str)),g,h]/\NmOk mk m/\NmJ l sp m i mk)
   (by simp_all? []<;>rfl) ⟨mk,a,none,none,rfl,hmk,hJ⟩ ?_ ?_
  ·rintro i z s hz ⟨mk,a,g,h,rfl,hmk,hJ⟩
   rw [List.getElem?_map] at hz
   obtain ⟨ch,hch,rfl⟩:=Qm hz
   have lch:=letters_low ch (List.mem_of_getElem? hch)
   obtain ⟨rfl,hi26⟩:=lettersAt hch
   have es:signT (97+i)=.str (Sx [97+i]):=rfl
   rw [es]
   refine ⟨_,rfl,?_⟩
   have p1:=plus_txt (l.take sp) [97+i] (by simp; lia)
   have p2:=plus_txt (l.take sp++[97+i]) (l.drop (sp+1)) (by simp; lia)
   refine run_nx (s':=[some (.int c),some (.int m),some (.str letters),some (.int sz),some (.int r),some (.str (Sx l)),a,some (.int sp),some (.lst (mk.map T.str)),some (.str (Sx [97+i])),some (.str (Sx (l.take sp++[97+i]++l.drop (sp+1))))]) (by
    have sf1:gSlA (.str (Sx l)) (some ((sp:Int)+1)) none=some (.str (Sx (l.drop (sp+1)))):=sf (sp+1) (by lia)
    simp_all? [sl sp (by lia),p1,sf1,p2]) ?_
   have nmx:IsName (Sx (l.take sp++[97+i]++l.drop (sp+1))):=by
    have hlen:(l.take sp++[97+i]++l.drop (sp+1)).length=sz:=by
     simp only [List.length_append,List.length_take,List.length_drop,List.length_cons,List.length_nil]
     lia
    refine lowName (fun c hc=>?_) (by lia) (by lia)
    simp only [List.mem_append,List.mem_cons,List.not_mem_nil,or_false] at hc
    rcases hc with (q | q) | q
    ·exact hlo c (List.mem_of_mem_take q)
    ·rw [q]; exact lch
    ·exact hlo c (List.mem_of_mem_drop q)
   have hvi:vari l sp i=Sx (l.take sp++[97+i]++l.drop (sp+1)):=rfl
   generalize Sx (l.take sp++[97+i]++l.drop (sp+1))=nx at nmx hvi
   have hml:=hmk.len
   by_cases hlt:(mk.length:Int) < m
   ·by_cases hin:nx∈mk
    ·exact run_onto (by simp_all? [decide_eq_true hlt,decide_eq_true hin]<;>rfl) ⟨mk,_,_,_,rfl,hmk,hJ.imp_right fun ⟨j1,j2,j3⟩=>by
      have e0:=vari_stem (j:=i) (by lia) (hvi.trans (j3 nx hin i (Nat.le_refl _) hvi.symm))
      rw [<-e0,if_neg (Nat.lt_irrefl _)] at j2
      exact ⟨j1,by rw [<-e0,if_pos (Nat.lt_succ_self _)]; lia,fun x hx j hj=>j3 x hx j (by lia)⟩⟩
    ·refine run_onto (by simp_all? [decide_eq_true hlt,decide_eq_false hin]<;>rfl) ⟨mk++[nx],_,_,_,rfl,⟨?_,fun x hx=>?_,by rw [List.length_append,List.length_singleton]; lia⟩,hJ.elim (fun z=>by lia) fun ⟨j1,j2,j3⟩=>.inr ⟨j1,?_,fun x hx j hj e=>?_⟩⟩
     ·rw [List.nodup_append]
      exact ⟨hmk.nd,by simp,fun a ha b hb e=>hin (by rw [List.mem_singleton] at hb; subst hb; subst e; exact ha)⟩
     ·rcases List.mem_append.mp hx with q | q
      ·exact hmk.nm x q
      ·rw [List.mem_singleton.mp q]; exact nmx
     ·rw [List.length_append,List.length_singleton]
      split at j2
      ·rw [if_pos (by lia)]; lia
      ·lia
     ·rcases List.mem_append.mp hx with q | q
      ·exact j3 x q j (by lia) e
      ·rw [List.mem_singleton.mp q,<-hvi] at e
       have:=vari_inj e
       lia
   ·exact run_onto (by simp_all? [decide_eq_false hlt]<;>rfl) ⟨mk,_,_,_,rfl,hmk,.inl (by lia)⟩
  rintro s ⟨mk,a,g,h,rfl,hmk,hJ⟩
  refine ⟨_,by simp_all? []<;>rfl,_,_,rfl,mk,rfl,hmk,?_⟩
  have:=hmk.len
  rcases hJ with z | ⟨j1,j2,_⟩
  ·exact z
  ·have h26:(letters.cps.toList.map signT).length=26:=by rw [List.length_map]; decide +kernel
   rw [h26] at j2
   split at j2<;>lia)
 exact ⟨wd,e,gwl,gw.nd,gw.nm⟩
end Dw
set_option maxHeartbeats 1000000
namespace Dw
open PySem L2 L3
def shp:List (List Nat):=[[0,0],[0,1,2,0,1,2],[0,1,2,0,3,2,1,3],[0,1,2,3,4,0,1,2,3,4],[0,1,1,0],[0,1,2,3,4,2,1,0,3,4],[0,1,2,3,1,0,3,2]]
def tL(l:List Nat):T:=.lst (l.map nT)
def shpT:T:=.lst (shp.map tL)
theorem shp_ok:∀ k,k < 7->∃ sh m,shp[k]?=some sh/\Pairing sh m/\1<=m/\m<=5/\gMaxI (tL sh)=some (.int ((m:Int) - 1))
 | 0,_=>⟨_,1,rfl,.of_dec rfl rfl rfl,by lia,by lia,rfl⟩
 | 1,_=>⟨_,3,rfl,.of_dec rfl rfl rfl,by lia,by lia,rfl⟩
 | 2,_=>⟨_,4,rfl,.of_dec rfl rfl rfl,by lia,by lia,rfl⟩
 | 3,_=>⟨_,5,rfl,.of_dec rfl rfl rfl,by lia,by lia,rfl⟩
 | 4,_=>⟨_,2,rfl,.of_dec rfl rfl rfl,by lia,by lia,rfl⟩
 | 5,_=>⟨_,5,rfl,.of_dec rfl rfl rfl,by lia,by lia,rfl⟩
 | 6,_=>⟨_,4,rfl,.of_dec rfl rfl rfl,by lia,by lia,rfl⟩
 | k+7,h=>absurd h (by lia)
def lenB4:T->Nat
 | .lst xs=>xs.length
 | _=>0
def left4(s:Sg):Nat:=lenB4 ((s[4]?).join.getD .non)
theorem built_eq{x:Bag2}(hx:x.Ok){names:List Str}(hn:names.length<=30)(hd:names.Nodup)(hN:∀ x∈names,IsName x):∃ (wd:List Str) (y:Bag2),fn_l_built_word [x.t,.lst (names.map T.str)]=some (.lst (wd.map T.str),y.t)/\GoodWord wd/\∀ x∈wd,x∈names:=by
 obtain ⟨t,u,e,wd,y,rfl,rfl,gw⟩:=fnI_run (n:=7) (d:=d_l_built_word) (ts:=[x.t,.lst (names.map T.str)]) (Q:=fun t u=>∃ (wd:List Str) (y:Bag2),t=.lst (wd.map T.str)/\u=y.t/\GoodWord wd/\∀ x∈wd,x∈names) (by
  unfold d_l_built_word
  show Run _ [some x.t,some (.lst (names.map T.str)),none,none,none,none,none] _
  refine run_nx (s':=[some x.t,some (.lst (names.map T.str)),some (.lst ((shp.take 5).map tL)),none,none,none,none]) (by rfl) ?_
  refine run_nx (s':=[some x.t,some (.lst (names.map T.str)),some shpT,none,none,none,none]) (by rfl) ?_
  refine run_nx (s':=[some x.t,some (.lst (names.map T.str)),some shpT,some (.lst ((([]:List Nat).map fun k=>names.getD k Str.empty).map T.str)),none,none,none]) (by simp_all? []<;>rfl) ?_
  refine run_nx (s':=[some x.t,some (.lst (names.map T.str)),some shpT,some (.lst ((([]:List Nat).map fun k=>names.getD k Str.empty).map T.str)),some (.lst ((names.drop 0).map T.str)),none,none]) (by simp_all? []<;>rfl) ?_
  refine run_while (fun s=>∃ (y:Bag2) (ps:List Nat) (c:Nat) (a b:Option T),s=[some y.t,some (.lst (names.map T.str)),some shpT,some (.lst ((ps.map fun k=>names.getD k Str.empty).map T.str)),some (.lst ((names.drop c).map T.str)),a,b]/\y.Ok/\Pairing ps c/\c<=names.length)
   left4 (by show ((names.drop 0).map T.str).length < 100; simp; lia) ⟨x,[],0,_,_,rfl,hx,.nil,by lia⟩ ?_ ?_
  ·rintro s ⟨y,ps,c,a,b,rfl,oy,hp,hc⟩
   refine ⟨decide (c < names.length),[some y.t,some (.lst (names.map T.str)),some shpT,some (.lst ((ps.map fun k=>names.getD k Str.empty).map T.str)),some (.lst ((names.drop c).map T.str)),a,b],?_,?_⟩
   ·simp_all? []
    congr 3
    simp
    lia
   rcases Nat.lt_or_ge c names.length with hlt | hlt
   case inr=>rw [if_neg (by simpa using hlt)]; trivial
   rw [if_pos (by simpa using hlt)]
   obtain ⟨z,y1,e1,o1,a1,b1⟩:=draw_ex oy 7 (by decide) (by decide)
   obtain ⟨k,rfl⟩:∃ k:Nat,z=(k:Int):=⟨z.toNat,by lia⟩
   obtain ⟨sh0,m0,at0,hp0,hm0,hm0',gm0⟩:=shp_ok k (by lia)
   have i0:gItem shpT (.int (k:Int))=some (tL sh0):=by
    unfold shpT
    rw [vItemL,List.getElem?_map,at0]; rfl
   have i00:gItem shpT (.int 0)=some (tL [0,0]):=rfl
   have hpl:=hp.len
   have hl4:gLen (.lst ((names.drop c).map T.str))=some (.int ((names.length - c:Nat):Int)):=by rw [vLenL,List.length_map,List.length_drop]
   refine run_nx (s':=[some y1.t,some (.lst (names.map T.str)),some shpT,some (.lst ((ps.map fun k=>names.getD k Str.empty).map T.str)),some (.lst ((names.drop c).map T.str)),some (tL sh0),b]) (by simp_all? [e1,i0]) ?_
   refine run_mid (fun s=>∃ sh m,s=[some y1.t,some (.lst (names.map T.str)),some shpT,some (.lst ((ps.map fun k=>names.getD k Str.empty).map T.str)),some (.lst ((names.drop c).map T.str)),some (tL sh),b]/\Pairing sh m/\1<=m/\m<=5/\c+m<=names.length/\gMaxI (tL sh)=some (.int ((m:Int) - 1))) ?_ ?_
   ·by_cases hg:c+m0<=names.length
    ·exact run_end (r:=.nx _) (by simp_all? [gm0,hl4,decide_eq_false (show ¬ ((names.length - c:Nat):Int)<=(m0:Int) - 1 by lia)]<;>rfl) ⟨sh0,m0,rfl,hp0,hm0,hm0',hg,gm0⟩
    ·exact run_end (r:=.nx _) (by simp_all? [gm0,hl4,i00,decide_eq_true (show ((names.length - c:Nat):Int)<=(m0:Int) - 1 by lia)]<;>rfl) ⟨[0,0],1,rfl,.of_dec rfl rfl rfl,by lia,by lia,by lia,rfl⟩
   rintro s ⟨sh,m,rfl,hps,hm1,hm2,hcm,gm⟩
   have hsl:=hps.len
   obtain ⟨z2,y2,e2,o2,a2,b2⟩:=draw_ex o1 ((ps.length:Int)+1) (by lia) (by lia)
   obtain ⟨p,rfl⟩:∃ p:Nat,z2=(p:Int):=⟨z2.toNat,by lia⟩
   refine run_nx (s':=[some y2.t,some (.lst (names.map T.str)),some shpT,some (.lst ((ps.map fun k=>names.getD k Str.empty).map T.str)),some (.lst ((names.drop c).map T.str)),some (tL sh),some (.int (p:Int))]) (by simp_all? [e2]) ?_
   have l1:=lc_encm (M:=[0]) (caps:=[none,some 4]) (fi:=dItA (dV 5)) (dg:=dGn 0) (fe:=d2 gItem (dV 1) (dV 0)) (s:=[some y2.t,some (.lst (names.map T.str)),some shpT,some (.lst ((ps.map fun k=>names.getD k Str.empty).map T.str)),some (.lst ((names.drop c).map T.str)),some (tL sh),some (.int (p:Int))]) sh nT (fun k=>T.str (names.getD (c+k) Str.empty)) (by unfold tL; simp_all? []) (by lia) (by
    intro k hk
    have hk':=hps.lt k hk
    refine ⟨[some (nT k),some (.lst ((names.drop c).map T.str))],rfl,?_,rfl⟩
    have:gItem (.lst ((names.drop c).map T.str)) (.int (k:Int))=some (.str (names.getD (c+k) Str.empty)):=by
     rw [vItemL,List.getElem?_map,List.getElem?_drop,List.getElem?_eq_getElem (by lia),getD_at (by lia)]; rfl
    simp_all? [this])
   have l2:sh.map (fun k=>T.str (names.getD (c+k) Str.empty))=((sh.map fun k=>c+k).map fun k=>names.getD k Str.empty).map T.str:=by rw [List.map_map,List.map_map]; rfl
   rw [l2] at l1
   have c1:gSlA (.lst ((ps.map fun k=>names.getD k Str.empty).map T.str)) none (some (p:Int))=some (.lst (((ps.take p).map fun k=>names.getD k Str.empty).map T.str)):=by
    show some (T.lst (cutT _ none (some (p:Int))))=_
    rw [cut_map,cut_map,cutT_to ps (by lia) (by lia),Int.toNat_natCast]
   have c2:gSlA (.lst ((ps.map fun k=>names.getD k Str.empty).map T.str)) (some (p:Int)) none=some (.lst (((ps.drop p).map fun k=>names.getD k Str.empty).map T.str)):=by
    show some (T.lst (cutT _ (some (p:Int)) none))=_
    rw [cut_map,cut_map,cutT_from ps (by lia) (by lia),Int.toNat_natCast]
   have c3:gSlA (.lst ((names.drop c).map T.str)) (some (m:Int)) none=some (.lst ((names.drop (c+m)).map T.str)):=by
    show some (T.lst (cutT _ (some (m:Int)) none))=_
    rw [cut_map,cutT_from (names.drop c) (by lia) (by rw [List.length_drop]; lia),Int.toNat_natCast,List.drop_drop]
   have c4:(m:Int) - 1+1=m:=by lia
   have p1:gPlus (.lst (((ps.take p).map fun k=>names.getD k Str.empty).map T.str)) (.lst (((sh.map fun k=>c+k).map fun k=>names.getD k Str.empty).map T.str))=some (.lst (((ps.take p++sh.map fun k=>c+k).map fun k=>names.getD k Str.empty).map T.str)):=by
    rw [vPlusL (by simp; lia),<-List.map_append,<-List.map_append]
   have p2:gPlus (.lst (((ps.take p++sh.map fun k=>c+k).map fun k=>names.getD k Str.empty).map T.str)) (.lst (((ps.drop p).map fun k=>names.getD k Str.empty).map T.str))=some (.lst (((ps.take p++(sh.map fun k=>c+k)++ps.drop p).map fun k=>names.getD k Str.empty).map T.str)):=by
    rw [vPlusL (by simp; lia),<-List.map_append,<-List.map_append]
   refine run_nx (s':=[some y2.t,some (.lst (names.map T.str)),some shpT,some (.lst (((ps.take p++(sh.map fun k=>c+k)++ps.drop p).map fun k=>names.getD k Str.empty).map T.str)),some (.lst ((names.drop c).map T.str)),some (tL sh),some (.int (p:Int))]) (by simp_all? [c1,l1,p1,c2,p2]) ?_
   refine run_onto (s':=[some y2.t,some (.lst (names.map T.str)),some shpT,some (.lst (((ps.take p++(sh.map fun k=>c+k)++ps.drop p).map fun k=>names.getD k Str.empty).map T.str)),some (.lst ((names.drop (c+m)).map T.str)),some (tL sh),some (.int (p:Int))]) (by simp_all? [gm,c4,c3]) ⟨⟨y2,_,c+m,_,_,rfl,o2,hp.put hps,hcm⟩,?_⟩
   show ((names.drop (c+m)).map T.str).length < ((names.drop c).map T.str).length
   rw [List.length_map,List.length_map,List.length_drop,List.length_drop]
   lia
  ·rintro s0 s' ⟨y,ps,c,a,b,rfl,oy,hp,hc⟩ hf
   have hcc:c=names.length:=by
    have e:(dB (d2 gGt (d1 gLen (dV 4)) (dC (.int 0)))) [some y.t,some (.lst (names.map T.str)),some shpT,some (.lst ((ps.map fun k=>names.getD k Str.empty).map T.str)),some (.lst ((names.drop c).map T.str)),a,b]=some (decide (0 < ((names.drop c).map T.str).length),[some y.t,some (.lst (names.map T.str)),some shpT,some (.lst ((ps.map fun k=>names.getD k Str.empty).map T.str)),some (.lst ((names.drop c).map T.str)),a,b]):=by
     simp_all? []
     congr 3
     simp
    rw [e] at hf
    have:=congrArg Prod.fst (Option.some.inj hf)
    have:=of_decide_eq_false this
    simp at this
    lia
   subst hcc
   have hs':s'=[some y.t,some (.lst (names.map T.str)),some shpT,some (.lst ((ps.map fun k=>names.getD k Str.empty).map T.str)),some (.lst ((names.drop names.length).map T.str)),a,b]:=by
    have e:(dB (d2 gGt (d1 gLen (dV 4)) (dC (.int 0)))) [some y.t,some (.lst (names.map T.str)),some shpT,some (.lst ((ps.map fun k=>names.getD k Str.empty).map T.str)),some (.lst ((names.drop names.length).map T.str)),a,b]=some (decide (((0:Int) < ((names.drop names.length).map T.str).length)),[some y.t,some (.lst (names.map T.str)),some shpT,some (.lst ((ps.map fun k=>names.getD k Str.empty).map T.str)),some (.lst ((names.drop names.length).map T.str)),a,b]):=by simp_all? []
    rw [e] at hf
    exact (congrArg Prod.snd (Option.some.inj hf)).symm
   subst hs'
   have hg:=goodWord_of hn rfl hd hN hp
   refine ⟨_,by simp_all? []<;>rfl,_,_,_,rfl,_,_,rfl,rfl,hg,fun x hx=>?_⟩
   obtain ⟨k,hk,rfl⟩:=List.mem_map.mp hx
   have hk':=hp.lt k hk
   rw [getD_at hk']
   exact List.getElem_mem hk')
 exact ⟨wd,y,e,gw⟩
theorem word2_eq(c:Int){names:List Str}(hn:names.length<=30)(hd:names.Nodup)(hN:∀ x∈names,IsName x):∃ wd:List Str,fn_l_word [.int c,.lst (names.map T.str)]=some (.lst (wd.map T.str))/\GoodWord wd/\∀ x∈wd,x∈names:=by
 have c8:∃ n8:List Str,gSlA (.lst (names.map T.str)) none (some 8)=some (.lst (n8.map T.str))/\n8.length<=30/\n8.Nodup/\(∀ x∈n8,x∈names):=by
  by_cases h8:8<=names.length
  ·refine ⟨names.take 8,?_,by rw [List.length_take]; lia,hd.sublist (List.take_sublist _ _),fun x hx=>List.mem_of_mem_take hx⟩
   show some (T.lst (cutT _ none (some 8)))=_
   rw [cut_map,cutT_to names (by lia) (by lia)]; rfl
  ·refine ⟨names,?_,hn,hd,fun x hx=>hx⟩
   show some (T.lst (cutT _ none (some 8)))=_
   rw [cut_map,cutT_over names (by lia)]
 obtain ⟨n8,e8,l8,d8,s8⟩:=c8
 obtain ⟨B,eb,ob⟩:=bag2_eq c
 obtain ⟨B2,eb2,ob2⟩:=bag2_eq (c / 2)
 obtain ⟨w1,y1,e1,g1,s1⟩:=any_eq ob l8 d8 (fun x hx=>hN x (s8 x hx))
 obtain ⟨w2,y2,e2,g2,s2⟩:=built_eq ob2 hn hd hN
 by_cases h:c%2=1
 ·refine ⟨w1,?_,g1,fun x hx=>s8 x (s1 x hx)⟩
  refine fnP_eq ?_
  show Run d_l_word [some (.int c),some (.lst (names.map T.str))] _
  exact run_retq (s':=[some (.int c),some (.lst (names.map T.str))]) (by simp_all? [decide_eq_true h,eb,e8,e1]) rfl
 ·refine ⟨w2,?_,g2,s2⟩
  refine fnP_eq ?_
  show Run d_l_word [some (.int c),some (.lst (names.map T.str))] _
  refine run_nx (s':=[some (.int c),some (.lst (names.map T.str))]) (by simp_all? [decide_eq_false h]) ?_
  exact run_ret (s':=[some (.int c),some (.lst (names.map T.str))]) (by simp_all? [eb2,e2]) rfl
end Dw
namespace Dw
open PySem L2 L3
theorem standings_eq{wd:List Str}(h:wd.length<=1000)(x:Str):fn_p_standings [.lst (wd.map T.str),.str x]=some (.lst ((placesOf wd x).map nT)):=by
 have e:=lc_enc (M:=[]) (caps:=[none,none,some 1]) (fi:=dEn (dAc (dV 0) dAn)) (dg:=dGt [0,1]) (ft:=dB (d2 gEq (dV 1) (dV 2))) (fe:=dV 0) (s:=[some (.lst (wd.map T.str)),some (.str x)]) wd.zipIdx (fun p=>T.tup [.int (p.2:Nat),.str p.1]) (fun p=>decide (p.1=x)) (fun p=>nT p.2) (by simp_all? [enum_map]) (by simp; lia) (by
  intro p hp
  refine ⟨_,by simp_all? []<;>rfl,by simp_all? [],fun _=>by simp_all? [],rfl⟩)
 have e2:(wd.zipIdx.filter fun p=>decide (p.1=x)).map (fun p=>nT p.2)=(placesOf wd x).map nT:=by
  rw [show (fun (p:Str × Nat)=>nT p.2)=nT∘Prod.snd from rfl,<-List.map_map]
  congr 1
  unfold placesOf
  refine (?_:_=(List.range wd.length).filter _)
  have q:∀ (l:List Str) (n:Nat) (g:Nat->Bool),(∀ j (hj:j < l.length),g (n+j)=decide (l[j]=x))->((l.zipIdx n).filter fun p=>decide (p.1=x)).map Prod.snd=((List.range l.length).map (n+·)).filter g:=by
   intro l
   induction l with
   | nil=>intro n g _; rfl
   | cons y l ih=>
    intro n g hg
    have h0:=hg 0 (by simp)
    rw [List.zipIdx_cons,List.filter_cons,List.length_cons,List.range_succ_eq_map,List.map_cons,List.filter_cons]
    have hr:=ih (n+1) g (fun j hj=>by have:=hg (j+1) (by simp; lia); rw [show n+1+j=n+(j+1) by lia]; simpa using this)
    have hm:(List.map (fun x=>n+x) (List.map Nat.succ (List.range l.length)))=(List.range l.length).map (fun x=>n+1+x):=by
     rw [List.map_map]; refine List.map_congr_left fun j _=>?_
     show n+(j+1)=n+1+j; lia
    rw [hm]
    have h0':g (n+0)=decide (y=x):=by simpa using h0
    simp only [Nat.add_zero] at h0' ⊢
    rw [h0']
    by_cases hy:y=x
    ·simp only [hy,decide_true,if_true,List.map_cons,hr]
    ·simp only [hy,decide_false,Bool.false_eq_true,if_false,hr]
  have:=q wd 0 (fun j=>decide (wd[j]?=some x)) (fun j hj=>by rw [Nat.zero_add,List.getElem?_eq_getElem hj]; simp)
  rw [this]
  congr 1
  simp
 rw [e2] at e
 refine fnP_eq ?_
 show Run d_p_standings [some (.lst (wd.map T.str)),some (.str x)] _
 unfold d_p_standings
 exact run_ret (by simp_all? [e]<;>rfl) rfl
end Dw
namespace Dw
open PySem L2 L3
theorem sign_ok(c:Nat)(s:Sg):dCh gLeA gLeA (dC (.str "a")) (dV 0) (dC (.str "z")) (some (.str ⟨#[c]⟩)::s)=some (.bl (decide (97<=c)&&decide (c<=122)),some (.str ⟨#[c]⟩)::s):=by
 simp_all? [vLeAS,cps1,cps_a,cps_z,sgn_ge,sgn_le]
 by_cases h:97<=c
 ·simp_all? [decide_eq_true h,vLeAS,cps1,cps_a,cps_z,sgn_ge,sgn_le]<;>rfl
 ·simp_all? [decide_eq_false h,vLeAS,cps1,cps_a,cps_z,sgn_ge,sgn_le]<;>rfl
theorem is_name_eq{x:Str}(h:x.length<=1000000):fn_p_is_name [.str x]=some (.bl (isNm x)):=by
 refine fnP_eq ?_
 show Run d_p_is_name [some (.str x)] _
 unfold d_p_is_name
 have e:=lc_encm (M:=[]) (caps:=[none]) (fi:=dItA (dV 0)) (dg:=dGn 0) (fe:=dCh gLeA gLeA (dC (.str "a")) (dV 0) (dC (.str "z"))) (s:=[some (.str x)]) x.cps.toList signT (fun c=>.bl (decide (97<=c)&&decide (c<=122))) (by simp_all? []) (by rw [<-len_cps]; exact h) (by
  intro c hc
  exact ⟨_,by simp_all? []<;>rfl,sign_ok c [],rfl⟩)
 rw [show x.cps.toList.map (fun c=>T.bl (decide (97<=c)&&decide (c<=122)))=(x.cps.toList.map fun c=>decide (97<=c)&&decide (c<=122)).map T.bl by rw [List.map_map]; rfl] at e
 unfold isNm
 by_cases h1:1<=x.length
 ·by_cases h2:x.length<=8
  ·refine run_ret (by simp_all? [vLenS,vLeAI,decide_eq_true (show (1:Int)<=(x.length:Int) by lia),decide_eq_true (show (x.length:Int)<=8 by lia),e]<;>rfl) ?_
   rw [decide_eq_true (⟨h1,h2⟩:1<=x.length/\x.length<=8),Bool.true_and,List.all_map]; rfl
  ·refine run_ret (by simp_all? [vLenS,vLeAI,decide_eq_true (show (1:Int)<=(x.length:Int) by lia),decide_eq_false (show ¬ (x.length:Int)<=8 by lia)]<;>rfl) ?_
   rw [decide_eq_false (fun z=>h2 z.2),Bool.false_and]
 ·refine run_ret (by simp_all? [vLenS,vLeAI,decide_eq_false (show ¬ (1:Int)<=(x.length:Int) by lia)]<;>rfl) ?_
  rw [decide_eq_false (fun z=>h1 z.1),Bool.false_and]
end Dw
namespace Dw
open PySem L2 L3
theorem is_word_eq{wd:List Str}(h:wd.length<=1000)(hl:∀ x∈wd,x.length<=1000000):fn_p_is_word [.lst (wd.map T.str)]=some (.bl (isWd wd)):=by
 have hf:=firsts_le wd
 refine fnP_eq ?_
 show Run d_p_is_word [some (.lst (wd.map T.str)),none,none] _
 unfold d_p_is_word
 refine run_nx (by simp_all? []<;>rfl) ?_
 refine run_forR (its:=wd.map T.str) (fun j s=>(∀ x∈wd.take j,isNm x=true)/\∃ a,s=[some (.lst (wd.map T.str)),some (.dct (cntT (wd.take j))),a]) (by simp_all? []<;>rfl) ⟨fun x hx=>by simp at hx,_,rfl⟩ ?_ ?_
 ·rintro j z s hz ⟨hn,a,rfl⟩
  rw [List.getElem?_map] at hz
  obtain ⟨x,hx,rfl⟩:=Qm hz
  have hj:j < wd.length:=(List.getElem?_eq_some_iff.mp hx).1
  have hm:x∈wd:=List.mem_of_getElem? hx
  have e:=is_name_eq (hl x hm)
  refine ⟨_,by simp_all? []<;>rfl,?_⟩
  by_cases hnm:isNm x=true
  ·rw [hnm] at e
   refine run_nx (by simp_all? [e]<;>rfl) ?_
   have l0:(cntT (wd.take j)).length < sizeLine:=small_lt (by
    unfold cntT
    rw [List.length_map]
    have:=firsts_le (wd.take j)
    rw [List.length_take] at this
    lia)
   refine onto_nx (by simp_all? [keyT,cnt_look,l0,cnt_put hx]<;>rfl) ⟨fun y hy=>?_,_,rfl⟩
   rw [List.take_succ,hx,Option.toList_some,List.mem_append,List.mem_singleton] at hy
   rcases hy with q | q
   ·exact hn y q
   ·exact q▸hnm
  ·have hnm':isNm x=false:=by simpa using hnm
   rw [hnm'] at e
   refine onto_retq (by simp_all? [e]<;>rfl) ?_
   have:isWd wd=false:=by
    unfold isWd
    rw [show wd.all isNm=false from List.all_eq_false.mpr ⟨x,hm,hnm⟩,Bool.false_and]
   rw [this]
 ·rintro s ⟨hn,a,rfl⟩
  rw [List.length_map,List.take_length] at *
  have hall:wd.all isNm=true:=List.all_eq_true.mpr hn
  have e:=lc_encm (M:=[]) (caps:=[none]) (fi:=dItW (dV 1)) (dg:=dGn 0) (fe:=d2 gEq (dV 0) (dC (.int 2))) (s:=[some (.lst (wd.map T.str)),some (.fd (cntT wd)),a]) (firsts wd) (fun x=>T.int (wd.count x:Nat)) (fun x=>.bl (decide (wd.count x=2))) (by simp_all? [cntT,List.map_map]<;>rfl) (by lia) (by
   intro x hx
   refine ⟨_,by simp_all? []<;>rfl,?_,rfl⟩
   have e1:decide (((wd.count x:Nat):Int)=2)=decide (wd.count x=2):=by
    by_cases q:wd.count x=2
    ·rw [q]; rfl
    ·rw [decide_eq_false q,decide_eq_false (by lia)]
   simp_all? [e1])
  rw [show (firsts wd).map (fun x=>T.bl (decide (wd.count x=2)))=((firsts wd).map fun x=>decide (wd.count x=2)).map T.bl by rw [List.map_map]; rfl] at e
  have l1:(cntT wd).length=(firsts wd).length:=by unfold cntT; rw [List.length_map]
  have fz:dFzS 1 (dRetI [] (dAndV (d2 gLe (d1 gLen (dV 1)) (dC (.int 30))) (d1 gAll (dLC [] [none] (dItW (dV 1)) (dGn 0) dYes (d2 gEq (dV 0) (dC (.int 2))))))) [some (.lst (wd.map T.str)),some (.dct (cntT wd)),a]=dRetI [] (dAndV (d2 gLe (d1 gLen (dV 1)) (dC (.int 30))) (d1 gAll (dLC [] [none] (dItW (dV 1)) (dGn 0) dYes (d2 gEq (dV 0) (dC (.int 2)))))) [some (.lst (wd.map T.str)),some (.fd (cntT wd)),a]:=rfl
  unfold isWd
  rw [hall,Bool.true_and]
  by_cases q:(firsts wd).length<=30
  ·refine run_ret (by rw [fz]; simp_all? [vLenF,l1,decide_eq_true (show ((firsts wd).length:Int)<=30 by lia),e]<;>rfl) ?_
   rw [decide_eq_true q,Bool.true_and,List.all_map]; rfl
  ·refine run_ret (by rw [fz]; simp_all? [vLenF,l1,decide_eq_false (show ¬ ((firsts wd).length:Int)<=30 by lia)]<;>rfl) ?_
   rw [decide_eq_false q,Bool.false_and]
end Dw
namespace Dw
open PySem L2 L3
theorem good_name_eq{x:Str}(h:x.length<=1000000):fn_l_good_name [.str x]=some (.bl (isNm x)):=by
 refine fnP_eq ?_
 show Run d_l_good_name [some (.str x)] _
 unfold d_l_good_name
 have e:=lc_encm (M:=[]) (caps:=[none]) (fi:=dItA (dV 0)) (dg:=dGn 0) (fe:=dCh gLeA gLeA (dC (.str "a")) (dV 0) (dC (.str "z"))) (s:=[some (.str x)]) x.cps.toList signT (fun c=>.bl (decide (97<=c)&&decide (c<=122))) (by simp_all? []) (by rw [<-len_cps]; exact h) (by
  intro c hc
  exact ⟨_,by simp_all? []<;>rfl,sign_ok c [],rfl⟩)
 rw [show x.cps.toList.map (fun c=>T.bl (decide (97<=c)&&decide (c<=122)))=(x.cps.toList.map fun c=>decide (97<=c)&&decide (c<=122)).map T.bl by rw [List.map_map]; rfl] at e
 unfold isNm
 by_cases h1:1<=x.length
 ·by_cases h2:x.length<=8
  ·refine run_ret (by simp_all? [vLenS,decide_eq_true (show (0:Int) < (x.length:Int) by lia),decide_eq_true (show (x.length:Int) < 9 by lia),e]<;>rfl) ?_
   rw [decide_eq_true (⟨h1,h2⟩:1<=x.length/\x.length<=8),Bool.true_and,List.all_map]; rfl
  ·refine run_ret (by simp_all? [vLenS,decide_eq_true (show (0:Int) < (x.length:Int) by lia),decide_eq_false (show ¬ (x.length:Int) < 9 by lia)]<;>rfl) ?_
   rw [decide_eq_false (fun z=>h2 z.2),Bool.false_and]
 ·refine run_ret (by simp_all? [vLenS,decide_eq_false (show ¬ (0:Int) < (x.length:Int) by lia)]<;>rfl) ?_
  rw [decide_eq_false (fun z=>h1 z.1),Bool.false_and]
theorem without_eq{wd:List Str}(h:wd.length<=1000)(x:Str):fn_p_without [.lst (wd.map T.str),.lst [.str x]]=some (.lst ((wd.filter fun y=>decide (y≠x)).map T.str)):=by
 have e:=lc_enc (M:=[]) (caps:=[none,some 1]) (fi:=dItA (dV 0)) (dg:=dGn 0) (ft:=dB (d2 gNotInA (dV 0) (dV 1))) (fe:=dV 0) (s:=[some (.lst (wd.map T.str)),some (.lst [.str x])]) wd T.str (fun y=>decide (y≠x)) T.str (by simp_all? []) (by lia) (by
  intro y hy
  have q:gNotInA (.str y) (.lst [.str x])=some (.bl (decide (y≠x))):=by
   have:=vNotInS y [x]
   rw [show ([x].map T.str)=[T.str x] from rfl] at this
   rw [this]
   congr 2
   by_cases z:y=x
   ·subst z; simp
   ·simp [z]
  exact ⟨_,by simp_all? []<;>rfl,by simp_all? [q],fun _=>by simp_all? [],rfl⟩)
 refine fnPn_eq ?_
 show Run d_p_without [some (.lst (wd.map T.str)),some (.lst [.str x])] _
 unfold d_p_without
 exact run_ret (by simp_all? [e]<;>rfl) rfl
theorem still_ok{wd:List Str}(h:wd.length<=1000)(hl:∀ x∈wd,x.length<=1000000)(hw:isWd wd=true):fn_p_still_word [.lst (wd.map T.str)]=some (.lst (wd.map T.str)):=by
 have e:=is_word_eq h hl
 rw [hw] at e
 refine fnP_eq ?_
 show Run d_p_still_word [some (.lst (wd.map T.str))] _
 unfold d_p_still_word
 refine run_nx (by simp_all? [e]<;>rfl) ?_
 exact run_ret (by simp_all? []<;>rfl) rfl
theorem still_no{wd:List Str}(h:wd.length<=1000)(hl:∀ x∈wd,x.length<=1000000)(hw:isWd wd=false):fn_p_still_word [.lst (wd.map T.str)]=none/\rs_p_still_word [.lst (wd.map T.str)]=true:=by
 have e:=is_word_eq h hl
 rw [hw] at e
 constructor
 ·show fnP 1 d_p_still_word [.lst (wd.map T.str)]=none
  unfold fnP
  have:d_p_still_word (start3 1 [.lst (wd.map T.str)])=none:=by
   show d_p_still_word [some (.lst (wd.map T.str))]=none
   unfold d_p_still_word
   simp_all? [e]
   rfl
  rw [this]
 ·show dr_p_still_word [some (.lst (wd.map T.str))]=true
  unfold dr_p_still_word dSeqR dIfR
  simp_all? [e]
  rfl
end Dw
namespace Dw
open PySem L2 L3
theorem callD_ok{fn:List T->Option T}{fe:DE}{s s':Sg}{l:List Str}{t:T}(h:fe s=some (.lst (l.map T.str),s'))(hf:fn [.lst (l.map T.str)]=some t):dCallD fn fe s=some (t,s'):=by
 unfold dCallD
 rw [h,Option.bind_some]
 dsimp only
 rw [if_pos (by rw [List.all_map]; exact List.all_eq_true.mpr fun _ _=>rfl),hf]
 rfl
theorem callD_no{fn:List T->Option T}{fe:DE}{s s':Sg}{l:List Str}(h:fe s=some (.lst (l.map T.str),s'))(hf:fn [.lst (l.map T.str)]=none):dCallD fn fe s=none:=by
 unfold dCallD
 rw [h,Option.bind_some]
 dsimp only
 rw [if_pos (by rw [List.all_map]; exact List.all_eq_true.mpr fun _ _=>rfl),hf]
 rfl
theorem sl_to(wd:List Str){k:Nat}(h:k<=wd.length):gSlA (.lst (wd.map T.str)) none (some (k:Int))=some (.lst ((wd.take k).map T.str)):=by
 show some (T.lst (cutT (wd.map T.str) none (some (k:Int))))=_
 rw [cut_map,cutT_to wd (by lia) (by lia),Int.toNat_natCast]
theorem sl_from(wd:List Str){k:Nat}(h:k<=wd.length):gSlA (.lst (wd.map T.str)) (some (k:Int)) none=some (.lst ((wd.drop k).map T.str)):=by
 show some (T.lst (cutT (wd.map T.str) (some (k:Int)) none))=_
 rw [cut_map,cutT_from wd (by lia) (by lia),Int.toNat_natCast]
def curl(wd:List Str)(k:Nat)(x:Str):List Str:=wd.take k++[x,x]++wd.drop k
theorem curl_len{wd:List Str}{k:Nat}(h:k<=wd.length)(x:Str):(curl wd k x).length=wd.length+2:=by
 unfold curl
 simp only [List.length_append,List.length_take,List.length_drop,List.length_cons,List.length_nil]
 lia
theorem curl_mem{wd:List Str}{k:Nat}{x y:Str}(h:y∈curl wd k x):y∈wd∨y=x:=by
 unfold curl at h
 simp only [List.mem_append,List.mem_cons,List.not_mem_nil,or_false] at h
 rcases h with (q | q) | q
 ·exact .inl (List.mem_of_mem_take q)
 ·exact .inr (by rcases q with q | q<;>exact q)
 ·exact .inl (List.mem_of_mem_drop q)
section
variable {wd:List Str}(h:wd.length<=100)(hl:∀ x∈wd,x.length<=1000000){x:Str}(hx:x.length<=1000000)
include h hl hx
theorem curled_in{k:Nat}(hk:k<=wd.length):fn_l_curled [.lst (wd.map T.str),.int (k:Int),.str x]=some (if isWd (curl wd k x)=true then .lst ((curl wd k x).map T.str) else .str "none"):=by
 have p1:gPlus (.lst ((wd.take k).map T.str)) (.lst [.str x,.str x])=some (.lst ((wd.take k++[x,x]).map T.str)):=by
  rw [vPlusL (by rw [List.length_map,List.length_take]; show min k wd.length+2<=_; lia),List.map_append]; rfl
 have p2:gCat (.lst ((wd.take k++[x,x]).map T.str)) (.lst ((wd.drop k).map T.str))=some (.lst ((curl wd k x).map T.str)):=by
  rw [vCatL (by rw [List.length_map,List.length_map,List.length_append,List.length_take,List.length_drop]; show min k wd.length+2+_<=_; lia),<-List.map_append]; rfl
 have p3:gPlus (.lst ((wd.take k++[x,x]).map T.str)) (.lst ((wd.drop k).map T.str))=some (.lst ((curl wd k x).map T.str)):=by
  rw [vPlusL (by rw [List.length_map,List.length_map,List.length_append,List.length_take,List.length_drop]; show min k wd.length+2+_<=_; lia),<-List.map_append]; rfl
 have s1:=sl_to wd hk
 have s2:=sl_from wd hk
 have i1:decide ((0:Int)<=(k:Int))=true:=decide_eq_true (by lia)
 have i2:decide ((k:Int)<=(wd.length:Int))=true:=decide_eq_true (by lia)
 have cl:(curl wd k x).length<=1000:=by rw [curl_len hk]; lia
 have cm:∀ y∈curl wd k x,y.length<=1000000:=fun y hy=>(curl_mem hy).elim (hl y) fun e=>e▸hx
 have ea:(d2 gCat (d2 gPlus (dSl gSlA (dV 0) dOn (dOs (dV 1))) (dLst (dAc (dV 2) (dAc (dV 2) dAn)))) (dSl gSlA (dV 0) (dOs (dV 1)) dOn)) [some (.lst (wd.map T.str)),some (.int (k:Int)),some (.str x)]=some (.lst ((curl wd k x).map T.str),[some (.lst (wd.map T.str)),some (.int (k:Int)),some (.str x)]):=by simp_all? [s1,s2,p1,p2]
 have ei:dIfS (dNot (dB (dCh gLeA gLeA (dC (.int 0)) (dV 1) (d1 gLen (dV 0))))) dNever dNext [some (.lst (wd.map T.str)),some (.int (k:Int)),some (.str x)]=some (.nx [some (.lst (wd.map T.str)),some (.int (k:Int)),some (.str x)]):=by simp_all? [vLeAI,i1,i2]<;>rfl
 unfold fn_l_curled
 by_cases hw:isWd (curl wd k x)=true
 ·have e:fn_p_curled [.lst (wd.map T.str),.int (k:Int),.str x]=some (.lst ((curl wd k x).map T.str)):=by
   refine fnPn_eq ?_
   show Run d_p_curled [some (.lst (wd.map T.str)),some (.int (k:Int)),some (.str x)] _
   unfold d_p_curled
   refine run_nx ei ?_
   exact run_ret (by unfold dRetI; rw [callD_ok ea (still_ok cl cm hw)]; rfl) rfl
  rw [e,if_pos hw]
 ·have hw':isWd (curl wd k x)=false:=by simpa using hw
  obtain ⟨n1,n2⟩:=still_no cl cm hw'
  have e:fn_p_curled [.lst (wd.map T.str),.int (k:Int),.str x]=none:=by
   show fnPn 3 d_p_curled [.lst (wd.map T.str),.int (k:Int),.str x]=none
   unfold fnPn
   have:d_p_curled (start3 3 [.lst (wd.map T.str),.int (k:Int),.str x])=none:=by
    show d_p_curled [some (.lst (wd.map T.str)),some (.int (k:Int)),some (.str x)]=none
    unfold d_p_curled dSeq
    rw [ei]
    show dRetI [] _ _=none
    unfold dRetI
    rw [callD_no ea n1]
    rfl
   rw [this]
  have r:rs_p_curled [.lst (wd.map T.str),.int (k:Int),.str x]=true:=by
   show dr_p_curled [some (.lst (wd.map T.str)),some (.int (k:Int)),some (.str x)]=true
   unfold dr_p_curled dSeqR
   rw [ei]
   dsimp only
   have ea2:dAc (d2 gPlus (d2 gPlus (dSl gSlA (dV 0) dOn (dOs (dV 1))) (dLst (dAc (dV 2) (dAc (dV 2) dAn)))) (dSl gSlA (dV 0) (dOs (dV 1)) dOn)) dAn [some (.lst (wd.map T.str)),some (.int (k:Int)),some (.str x)]=some ([.lst ((curl wd k x).map T.str)],[some (.lst (wd.map T.str)),some (.int (k:Int)),some (.str x)]):=by simp_all? [s1,s2,p1,p3]
   unfold dRetR
   rw [ea2]
   dsimp only
   rw [n2,Bool.and_true,Bool.or_eq_true]
   exact .inr rfl
  rw [e]
  dsimp only
  rw [if_pos r,if_neg hw]
theorem curled_out{at_:Int}(hk:¬ (0<=at_/\at_<=wd.length)):fn_l_curled [.lst (wd.map T.str),.int at_,.str x]=some (.str "none"):=by
 have et:dNot (dB (dCh gLeA gLeA (dC (.int 0)) (dV 1) (d1 gLen (dV 0)))) [some (.lst (wd.map T.str)),some (.int at_),some (.str x)]=some (true,[some (.lst (wd.map T.str)),some (.int at_),some (.str x)]):=by
  by_cases i1:(0:Int)<=at_
  ·have i2:decide (at_<=(wd.length:Int))=false:=decide_eq_false (by lia)
   simp_all? [vLeAI,decide_eq_true i1,i2]<;>rfl
  ·simp_all? [vLeAI,decide_eq_false i1]<;>rfl
 unfold fn_l_curled
 have e:fn_p_curled [.lst (wd.map T.str),.int at_,.str x]=none:=by
  show fnPn 3 d_p_curled [.lst (wd.map T.str),.int at_,.str x]=none
  unfold fnPn
  have:d_p_curled (start3 3 [.lst (wd.map T.str),.int at_,.str x])=none:=by
   show d_p_curled [some (.lst (wd.map T.str)),some (.int at_),some (.str x)]=none
   unfold d_p_curled dSeq dIfS
   rw [et]
   rfl
  rw [this]
 have r:rs_p_curled [.lst (wd.map T.str),.int at_,.str x]=true:=by
  show dr_p_curled [some (.lst (wd.map T.str)),some (.int at_),some (.str x)]=true
  unfold dr_p_curled dSeqR dIfR
  rw [et]
  rfl
 rw [e]
 dsimp only
 rw [if_pos r]
end
end Dw
namespace Dw
open PySem L2 L3
theorem in_tup(i a b:Int):gInA (.int i) (.tup [.int a,.int b])=some (.bl (decide (i=a∨i=b))):=by
 have:gInA (.int i) (.tup [.int a,.int b])=some (.bl (inV (.int i) [.int a,.int b])):=rfl
 rw [this]
 congr 2
 unfold inV
 by_cases h1:i=a
 ·subst h1; simp [eqV]
 ·by_cases h2:i=b
  ·subst h2; simp [eqV]
  ·rw [decide_eq_false (fun z=>z.elim h1 h2)]
   simp [eqV]
   exact ⟨fun z=>h1 z.symm,fun z=>h2 z.symm⟩
theorem in_lst(i a b:Int):gInA (.int i) (.lst [.int a,.int b])=some (.bl (decide (i=a∨i=b))):=by
 have:gInA (.int i) (.lst [.int a,.int b])=some (.bl (inV (.int i) [.int a,.int b])):=rfl
 rw [this]
 have q:=in_tup i a b
 have:gInA (.int i) (.tup [.int a,.int b])=some (.bl (inV (.int i) [.int a,.int b])):=rfl
 rw [<-this]
 exact q
theorem side_eq(n p q:Int):fn_p_side_by_side [.int n,.int p,.int q]=some (.bl (decide (q - p=1∨q - p=n - 1))):=by
 refine fnP_eq ?_
 show Run d_p_side_by_side [some (.int n),some (.int p),some (.int q)] _
 unfold d_p_side_by_side
 exact run_ret (by simp_all? [in_tup]<;>rfl) rfl
def sideOk(wd:List Str)(x:Str):Bool:=match placesOf wd x with
 | [p,q]=>decide ((q:Int) - p=1∨(q:Int) - p=wd.length - 1)
 | _=>false
theorem flN_ok{fe:DE}{s s':Sg}{l:List Str}(h:fe s=some (.lst (l.map T.str),s')):dFlN fe s=some (.lst (l.map T.str),s'):=by
 unfold dFlN
 rw [h,Option.bind_some]
 dsimp only
 rw [if_pos (by rw [List.all_map]; exact List.all_eq_true.mpr fun _ _=>rfl)]
section
variable {wd:List Str}(h:wd.length<=100){x:Str}
include h
theorem uncurled_eq(hp:placesOf wd x=[]∨∃ p q,placesOf wd x=[p,q]):fn_l_uncurled [.lst (wd.map T.str),.str x]=some (if sideOk wd x=true then .lst ((wd.filter fun y=>decide (y≠x)).map T.str) else .str "none"):=by
 have es:=standings_eq (show wd.length<=1000 by lia) x
 have ew:=without_eq (show wd.length<=1000 by lia) x
 rcases hp with hp | ⟨p,q,hp⟩
 ·rw [hp] at es
  have so:sideOk wd x=false:=by unfold sideOk; rw [hp]
  have e0:dSet 2 (dCall fn_p_standings (dAc (dV 0) (dAc (dV 1) dAn))) [some (.lst (wd.map T.str)),some (.str x),none]=some (.nx [some (.lst (wd.map T.str)),some (.str x),some (.lst [])]):=by simp_all? [es]<;>rfl
  have et:(dOr (dNot (dTru (dV 2))) (dNot (dTru (dCall fn_p_side_by_side (dAc (d1 gLen (dV 0)) (dAc (d2 gItem (dV 2) (dC (.int 0))) (dAc (d2 gItem (dV 2) (dC (.int 1))) dAn))))))) [some (.lst (wd.map T.str)),some (.str x),some (.lst [])]=some (true,[some (.lst (wd.map T.str)),some (.str x),some (.lst [])]):=by simp_all? []<;>rfl
  unfold fn_l_uncurled
  have e:fn_p_uncurled [.lst (wd.map T.str),.str x]=none:=by
   show fnPn 3 d_p_uncurled [.lst (wd.map T.str),.str x]=none
   unfold fnPn
   have:d_p_uncurled (start3 3 [.lst (wd.map T.str),.str x])=none:=by
    show d_p_uncurled [some (.lst (wd.map T.str)),some (.str x),none]=none
    unfold d_p_uncurled dSeq
    rw [e0,Option.bind_some]
    dsimp only
    unfold dIfS
    rw [et]
    rfl
   rw [this]
  have r:rs_p_uncurled [.lst (wd.map T.str),.str x]=true:=by
   show dr_p_uncurled [some (.lst (wd.map T.str)),some (.str x),none]=true
   unfold dr_p_uncurled dSeqR
   rw [e0]
   dsimp only
   unfold dIfR
   rw [et]
   rfl
  rw [e,so]
  dsimp only
  rw [if_pos r]
  rfl
 ·rw [hp] at es
  have so:sideOk wd x=decide ((q:Int) - p=1∨(q:Int) - p=wd.length - 1):=by unfold sideOk; rw [hp]
  have e0:dSet 2 (dCall fn_p_standings (dAc (dV 0) (dAc (dV 1) dAn))) [some (.lst (wd.map T.str)),some (.str x),none]=some (.nx [some (.lst (wd.map T.str)),some (.str x),some (.lst [nT p,nT q])]):=by simp_all? [es]<;>rfl
  have ed:=side_eq (wd.length:Int) (p:Int) (q:Int)
  have g0:gItem (.lst [.int (p:Int),.int (q:Int)]) (.int 0)=some (.int (p:Int)):=rfl
  have g1:gItem (.lst [.int (p:Int),.int (q:Int)]) (.int 1)=some (.int (q:Int)):=rfl
  have et:(dOr (dNot (dTru (dV 2))) (dNot (dTru (dCall fn_p_side_by_side (dAc (d1 gLen (dV 0)) (dAc (d2 gItem (dV 2) (dC (.int 0))) (dAc (d2 gItem (dV 2) (dC (.int 1))) dAn))))))) [some (.lst (wd.map T.str)),some (.str x),some (.lst [nT p,nT q])]=some (!sideOk wd x,[some (.lst (wd.map T.str)),some (.str x),some (.lst [nT p,nT q])]):=by
   rw [so]
   generalize decide ((q:Int) - p=1∨(q:Int) - p=wd.length - 1)=bb at ed
   simp_all? [g0,g1,ed,List.isEmpty_cons,Bool.not_false,Bool.not_true,Bool.false_eq_true,if_false]
  unfold fn_l_uncurled
  cases hs:sideOk wd x with
  | true=>
   rw [hs] at et
   have e:fn_p_uncurled [.lst (wd.map T.str),.str x]=some (.lst ((wd.filter fun y=>decide (y≠x)).map T.str)):=by
    refine fnPn_eq ?_
    show Run d_p_uncurled [some (.lst (wd.map T.str)),some (.str x),none] _
    unfold d_p_uncurled
    refine run_nx e0 ?_
    refine run_nx (s':=[some (.lst (wd.map T.str)),some (.str x),some (.lst [nT p,nT q])]) (by unfold dIfS; rw [et]; rfl) ?_
    refine run_ret (by unfold dRetI; rw [flN_ok (s':=[some (.lst (wd.map T.str)),some (.str x),some (.lst [nT p,nT q])]) (l:=wd.filter fun y=>decide (y≠x)) (by simp_all? [ew])]; rfl) rfl
   rw [e]
   rfl
  | false=>
   rw [hs] at et
   have e:fn_p_uncurled [.lst (wd.map T.str),.str x]=none:=by
    show fnPn 3 d_p_uncurled [.lst (wd.map T.str),.str x]=none
    unfold fnPn
    have:d_p_uncurled (start3 3 [.lst (wd.map T.str),.str x])=none:=by
     show d_p_uncurled [some (.lst (wd.map T.str)),some (.str x),none]=none
     unfold d_p_uncurled dSeq
     rw [e0,Option.bind_some]
     dsimp only
     unfold dIfS
     rw [et]
     rfl
    rw [this]
   have r:rs_p_uncurled [.lst (wd.map T.str),.str x]=true:=by
    show dr_p_uncurled [some (.lst (wd.map T.str)),some (.str x),none]=true
    unfold dr_p_uncurled dSeqR
    rw [e0]
    dsimp only
    unfold dIfR
    rw [et]
    rfl
   rw [e]
   dsimp only
   rw [if_pos r]
   rfl
theorem taken_eq(hp:placesOf wd x=[]∨∃ p q,placesOf wd x=[p,q]):fn_l_taken [.lst (wd.map T.str),.str x]=some (if sideOk wd x=true then .lst ((wd.filter fun y=>decide (y≠x)).map T.str) else .str "none"):=by
 have l1:=lc_enc (M:=[]) (caps:=[none,some 1,some 0]) (fi:=dRg1 (dAc (d1 gLen (dV 0)) dAn)) (dg:=dGn 0) (ft:=dB (d2 gEq (d2 gItem (dV 2) (dV 0)) (dV 1))) (fe:=dV 0) (s:=[some (.lst (wd.map T.str)),some (.str x),none]) (List.range wd.length) nT (fun j=>decide (wd[j]?=some x)) nT (by simp_all? [rgN (k:=wd.length) (by lia),Int.toNat_natCast,range_nT]) (by simp; lia) (by
  intro j hj
  have hj':=List.mem_range.mp hj
  have g:gItem (.lst (wd.map T.str)) (nT j)=some (.str wd[j]):=by
   show gItem (.lst (wd.map T.str)) (.int (j:Int))=_
   rw [vItemL,List.getElem?_map,List.getElem?_eq_getElem hj']; rfl
  have g':(wd.map T.str)[j]?=some (.str wd[j]):=by rw [List.getElem?_map,List.getElem?_eq_getElem hj']; rfl
  refine ⟨[some (nT j),some (.str x),some (.lst (wd.map T.str))],rfl,?_,fun _=>by simp_all? [],rfl⟩
  rw [List.getElem?_eq_getElem hj']
  have:decide (some wd[j]=some x)=decide (wd[j]=x):=by simp
  rw [this]
  simp_all? [g'])
 have l1:_=some (T.lst ((placesOf wd x).map nT),_):=l1
 have l2:=lc_enc (M:=[]) (caps:=[none,some 1]) (fi:=dItA (dV 0)) (dg:=dGn 0) (ft:=dB (d2 gNe (dV 0) (dV 1))) (fe:=dV 0) (s:=[some (.lst (wd.map T.str)),some (.str x),some (.lst ((placesOf wd x).map nT))]) wd T.str (fun y=>decide (y≠x)) T.str (by simp_all? []) (by lia) (by
  intro y hy
  have:(!decide (y=x))=decide (y≠x):=by simp
  exact ⟨_,by simp_all? []<;>rfl,by rw [<-this]; simp_all? [],fun _=>by simp_all? [],rfl⟩)
 refine fnP_eq ?_
 show Run d_l_taken [some (.lst (wd.map T.str)),some (.str x),none] _
 unfold d_l_taken
 refine run_nx (s':=[some (.lst (wd.map T.str)),some (.str x),some (.lst ((placesOf wd x).map nT))]) (by unfold dSet; rw [l1]; rfl) ?_
 rcases hp with hp | ⟨p,q,hp⟩
 ·have so:sideOk wd x=false:=by unfold sideOk; rw [hp]
  rw [hp,so]
  refine run_nx (s':=[some (.lst (wd.map T.str)),some (.str x),some (.lst [])]) (by simp_all? []<;>rfl) ?_
  exact run_ret (by simp_all? []<;>rfl) rfl
 ·have so:sideOk wd x=decide ((q:Int) - p=1∨(q:Int) - p=wd.length - 1):=by unfold sideOk; rw [hp]
  rw [hp] at l2 ⊢
  have g0:gItem (.lst [.int (p:Int),.int (q:Int)]) (.int 0)=some (.int (p:Int)):=rfl
  have g1:gItem (.lst [.int (p:Int),.int (q:Int)]) (.int 1)=some (.int (q:Int)):=rfl
  have gi:=in_lst ((q:Int) - p) 1 (wd.length - 1)
  rw [<-so] at gi
  have et:(dAnd (dB (d2 gEq (d1 gLen (dV 2)) (dC (.int 2)))) (dB (d2 gInA (d2 gSb (d2 gItem (dV 2) (dC (.int 1))) (d2 gItem (dV 2) (dC (.int 0)))) (dLst (dAc (dC (.int 1)) (dAc (d2 gSb (d1 gLen (dV 0)) (dC (.int 1))) dAn)))))) [some (.lst (wd.map T.str)),some (.str x),some (.lst [nT p,nT q])]=some (sideOk wd x,[some (.lst (wd.map T.str)),some (.str x),some (.lst [nT p,nT q])]):=by
   simp_all? [g0,g1,gi,decide_eq_true (show ((2:Nat):Int)=2 from rfl)]<;>rfl
  cases hs:sideOk wd x with
  | true=>
   rw [hs] at et
   refine run_end (r:=.rt (.lst ((wd.filter fun y=>decide (y≠x)).map T.str)) [some (.lst (wd.map T.str)),some (.str x),some (.lst [nT p,nT q])]) ?_ ⟨_,rfl⟩
   rw [show ([p,q].map nT)=[nT p,nT q] from rfl] at l2 ⊢
   unfold dSeq dIfS
   rw [et,Option.bind_some,if_pos rfl]
   dsimp only
   unfold dRetI
   rw [l2]
   rfl
  | false=>
   rw [hs] at et
   refine run_nx (s':=[some (.lst (wd.map T.str)),some (.str x),some (.lst [nT p,nT q])]) (by unfold dIfS; rw [show ([p,q].map nT)=[nT p,nT q] from rfl,et]; rfl) ?_
   exact run_ret (by simp_all? []<;>rfl) rfl
end
end Dw
namespace Dw
open PySem L2 L3
theorem curl_count(wd:List Str)(k:Nat)(x y:Str):(curl wd k x).count y=wd.count y+(if x=y then 2 else 0):=by
 unfold curl
 rw [List.count_append,List.count_append]
 have e:wd.count y=(wd.take k).count y+(wd.drop k).count y:=by rw [<-List.count_append,List.take_append_drop]
 rw [e,List.count_cons,List.count_cons,List.count_nil]
 by_cases h:x=y
 ·rw [if_pos h,if_pos (by rw [h]; exact beq_self_eq_true _)]; lia
 ·rw [if_neg h,if_neg (fun z=>h (beq_iff_eq.mp z))]; lia
def mayIn(wd:List Str)(x:Str):Bool:=isNm x&&!decide (x∈wd)&&decide (wd.length<=58)
theorem curl_word{wd:List Str}(g:GoodWord wd){k:Nat}(hk:k<=wd.length)(x:Str):isWd (curl wd k x)=mayIn wd x:=by
 have hin:x∈curl wd k x:=by unfold curl; simp
 rw [isWd_due,Bool.eq_iff_iff]
 unfold mayIn
 simp only [Bool.and_eq_true,List.all_eq_true,decide_eq_true_iff,Bool.not_eq_true',decide_eq_false_iff_not]
 rw [curl_len hk]
 constructor
 ·rintro ⟨h1,h2⟩
  obtain ⟨n1,n2⟩:=h1 x hin
  rw [curl_count,if_pos rfl] at n2
  exact ⟨⟨n1,fun z=>by have:=List.count_pos_iff.mpr z; lia⟩,by lia⟩
 ·rintro ⟨⟨h1,h2⟩,h3⟩
  refine ⟨fun y hy=>?_,by lia⟩
  rw [curl_count]
  rcases curl_mem hy with q | q
  ·have hne:¬ x=y:=fun e=>h2 (e▸q)
   rw [if_neg hne]
   exact ⟨isNm_iff.mpr (g.name y q),g.two y q⟩
  ·subst q
   rw [if_pos rfl]
   exact ⟨h1,by rw [List.count_eq_zero.mpr h2]⟩
theorem curl_places{wd:List Str}{k:Nat}(hk:k<=wd.length){x:Str}(hx:x∉wd):placesOf (curl wd k x) x=[k,k+1]:=by
 unfold curl
 rw [List.append_assoc,places_split x _ _ fun z=>hx (List.mem_of_mem_take z)]
 show (placesOf (x::x::wd.drop k) x).map _=_
 rw [places_head,places_head,places_none fun z=>hx (List.mem_of_mem_drop z),List.length_take,Nat.min_eq_left hk]
 rfl
theorem curl_side{wd:List Str}{k:Nat}(hk:k<=wd.length){x:Str}(hx:x∉wd):sideOk (curl wd k x) x=true:=by
 unfold sideOk
 rw [curl_places hk hx]
 exact decide_eq_true (.inl (by lia))
theorem curl_back{wd:List Str}{k:Nat}{x:Str}(hx:x∉wd):((curl wd k x).filter fun y=>decide (y≠x))=wd:=by
 unfold curl
 rw [List.filter_append,List.filter_append]
 have a:∀ l:List Str,(∀ y∈l,y∈wd)->l.filter (fun y=>decide (y≠x))=l:=fun l h=>List.filter_eq_self.mpr fun y hy=>decide_eq_true fun e=>hx (e▸h y hy)
 rw [a _ fun y hy=>List.mem_of_mem_take hy,a _ fun y hy=>List.mem_of_mem_drop hy]
 have:[x,x].filter (fun y=>decide (y≠x))=[]:=by simp
 rw [this,List.append_nil,List.take_append_drop]
section
variable {wd:List Str}(g:GoodWord wd){x:Str}(hx:x.length<=1000000)
include g hx
theorem put_in_in{k:Nat}(hk:k<=wd.length):fn_l_put_in [.lst (wd.map T.str),.int (k:Int),.str x]=some (if mayIn wd x=true then .lst ((curl wd k x).map T.str) else .str "none"):=by
 have hlen:=g.len
 have eg:=good_name_eq hx
 have l1:gListA (.lst (wd.map T.str))=some (.lst (wd.map T.str)):=rfl
 refine fnP_eq ?_
 show Run d_l_put_in [some (.lst (wd.map T.str)),some (.int (k:Int)),some (.str x),none] _
 unfold d_l_put_in
 unfold mayIn
 by_cases h1:isNm x=true
 case neg=>
  have h1':isNm x=false:=by simpa using h1
  rw [h1'] at eg ⊢
  refine run_end (r:=.rt (.str "none") [some (.lst (wd.map T.str)),some (.int (k:Int)),some (.str x),none]) (by simp_all? [eg]<;>rfl) ⟨_,rfl⟩
 rw [h1] at eg ⊢
 by_cases h2:x∈wd
 ·rw [decide_eq_true h2]
  refine run_end (r:=.rt (.str "none") [some (.lst (wd.map T.str)),some (.int (k:Int)),some (.str x),none]) (by simp_all? [eg,vInS,decide_eq_true h2]<;>rfl) ⟨_,rfl⟩
 rw [decide_eq_false h2]
 by_cases h3:wd.length<=58
 case neg=>
  rw [decide_eq_false h3]
  refine run_end (r:=.rt (.str "none") [some (.lst (wd.map T.str)),some (.int (k:Int)),some (.str x),none]) (by simp_all? [eg,vInS,decide_eq_false h2,decide_eq_true (show (58:Int) < (wd.length:Int) by lia)]<;>rfl) ⟨_,rfl⟩
 rw [decide_eq_true h3]
 have m1:mIns (.lst (wd.map T.str)) [.int (k:Int),.str x]=some (.lst ((wd.take k++x::wd.drop k).map T.str),.non):=by
  unfold mIns
  dsimp only
  rw [if_pos ⟨by lia,by rw [Int.toNat_natCast,List.length_map]; exact hk,by rw [List.length_map]; lia⟩,Int.toNat_natCast,List.map_append,List.map_cons,List.map_take,List.map_drop]
 have hl2:(wd.take k++x::wd.drop k).length=wd.length+1:=by
  rw [List.length_append,List.length_cons,List.length_take,List.length_drop]; lia
 have m2:mIns (.lst ((wd.take k++x::wd.drop k).map T.str)) [.int (k:Int),.str x]=some (.lst ((curl wd k x).map T.str),.non):=by
  unfold mIns
  dsimp only
  rw [if_pos ⟨by lia,by rw [Int.toNat_natCast,List.length_map,hl2]; lia,by rw [List.length_map,hl2]; lia⟩,Int.toNat_natCast]
  rw [<-List.map_take,<-List.map_drop,List.take_left' (by rw [List.length_take]; lia),List.drop_left' (by rw [List.length_take]; lia)]
  unfold curl
  rw [List.append_assoc,List.map_append]
  rfl
 refine run_nx (s':=[some (.lst (wd.map T.str)),some (.int (k:Int)),some (.str x),none]) (by simp_all? [eg,vInS,decide_eq_false h2,decide_eq_false (show ¬ (58:Int) < (wd.length:Int) by lia),decide_eq_false (show ¬ (k:Int) < 0 by lia),decide_eq_false (show ¬ (wd.length:Int) < (k:Int) by lia)]<;>rfl) ?_
 refine run_nx (s':=[some (.lst (wd.map T.str)),some (.int (k:Int)),some (.str x),some (.lst (wd.map T.str))]) (by simp_all? [l1]) ?_
 refine run_nx (s':=[some (.lst (wd.map T.str)),some (.int (k:Int)),some (.str x),some (.lst ((wd.take k++x::wd.drop k).map T.str))]) (by simp_all? [m1,isLst]<;>rfl) ?_
 refine run_nx (s':=[some (.lst (wd.map T.str)),some (.int (k:Int)),some (.str x),some (.lst ((curl wd k x).map T.str))]) (by simp_all? [m2,isLst]<;>rfl) ?_
 exact run_ret (by simp_all? []<;>rfl) rfl
theorem put_in_out{at_:Int}(hk:¬ (0<=at_/\at_<=wd.length)):fn_l_put_in [.lst (wd.map T.str),.int at_,.str x]=some (.str "none"):=by
 have hlen:=g.len
 have eg:=good_name_eq hx
 refine fnP_eq ?_
 show Run d_l_put_in [some (.lst (wd.map T.str)),some (.int at_),some (.str x),none] _
 unfold d_l_put_in
 have et:(dOr (dNot (dTru (dCall fn_l_good_name (dAc (dV 2) dAn)))) (dOr (dB (d2 gInA (dV 2) (dV 0))) (dOr (dB (d2 gGt (d1 gLen (dV 0)) (dC (.int 58)))) (dOr (dB (d2 gLt (dV 1) (dC (.int 0)))) (dB (d2 gGt (dV 1) (d1 gLen (dV 0)))))))) [some (.lst (wd.map T.str)),some (.int at_),some (.str x),none]=some (true,[some (.lst (wd.map T.str)),some (.int at_),some (.str x),none]):=by
  generalize isNm x=b1 at eg
  cases b1 with
  | false=>simp_all? [eg]<;>rfl
  | true=>
   by_cases h2:x∈wd
   ·simp_all? [eg,vInS,decide_eq_true h2]<;>rfl
   ·by_cases h3:(58:Int) < (wd.length:Int)
    ·simp_all? [eg,vInS,decide_eq_false h2,decide_eq_true h3]<;>rfl
    ·by_cases h4:at_ < 0
     ·simp_all? [eg,vInS,decide_eq_false h2,decide_eq_false h3,decide_eq_true h4]<;>rfl
     ·simp_all? [eg,vInS,decide_eq_false h2,decide_eq_false h3,decide_eq_false h4,decide_eq_true (show (wd.length:Int) < at_ by lia)]<;>rfl
 refine run_end (r:=.rt (.str "none") [some (.lst (wd.map T.str)),some (.int at_),some (.str x),none]) ?_ ⟨_,rfl⟩
 unfold dSeq dIfS
 rw [et]
 rfl
end
end Dw
namespace Dw
open PySem L2 L3
theorem str_Sx(x:Str):x=Sx x.cps.toList:=rfl
theorem slice7{l:List Nat}(h:l.length<=8):gSlA (.str (Sx l)) none (some 7)=some (.str (Sx (l.take 7))):=by
 have lS:l.length<=sizeLine:=small_le (by lia)
 by_cases h7:7<=l.length
 ·have:=Sx_to l (j:=(7:Int)) (by lia) (by lia)
  simp only [gSlA,gSlS,Sx_len,lS,if_true,this]
  rfl
 ·have h8:Txt.slice (Sx l) none (some 7)=Sx (l.take 7):=by
   have k:∀ n:Nat,n < 7->(Builtin.Str.strSliceIndices none (some 7) 1 n).length=n:=by decide +kernel
   have k:=k l.length (by lia)
   unfold Txt.slice
   rw [Sx_len,k,List.take_of_length_le (by lia),if_pos (by simp)]
  simp only [gSlA,gSlS,Sx_len,lS,if_true,h8]
theorem odd_eq{x:Bag2}(hx:x.Ok){wd:List Str}(g:GoodWord wd){fr:Str}(hf:IsName fr):∃ (nm:Str) (y:Bag2),fn_l_odd_name [x.t,.lst (wd.map T.str),.str fr]=some (.str nm,y.t)/\y.Ok/\nm.length<=1000000:=by
 have hlen:=g.len
 have hf8:=hf.2.1
 obtain ⟨l,rfl⟩:∃ l,fr=Sx l:=⟨_,str_Sx fr⟩
 rw [Sx_len] at hf8
 have s7:=slice7 hf8
 have p1:gPlus (.str (Sx (l.take 7))) (.str "1")=some (.str (Sx (l.take 7++[49]))):=plus_txt (l.take 7) [49] (by rw [List.length_take]; show min 7 l.length+1<=_; lia)
 have p2:gPlus (.str (Sx l)) (.str " ")=some (.str (Sx (l++[32]))):=plus_txt l [32] (by show l.length+1<=_; lia)
 obtain ⟨t,u,e,nm,y,rfl,rfl,hy,hn⟩:=fnI_run (n:=4) (d:=d_l_odd_name) (ts:=[x.t,.lst (wd.map T.str),.str (Sx l)]) (Q:=fun t u=>∃ (nm:Str) (y:Bag2),t=.str nm/\u=y.t/\y.Ok/\nm.length<=1000000) (by
  unfold d_l_odd_name
  show Run _ [some x.t,some (.lst (wd.map T.str)),some (.str (Sx l)),none] _
  have six:∀ z∈[Sx l,("":Str),"A",Sx (l.take 7++[49]),"abcdefghi",Sx (l++[32])],z.length<=1000000:=by
   intro z hz
   simp only [List.mem_cons,List.not_mem_nil,or_false] at hz
   rcases hz with rfl | rfl | rfl | rfl | rfl | rfl
   ·rw [Sx_len]; lia
   ·decide
   ·decide
   ·rw [Sx_len,List.length_append,List.length_take]; show min 7 l.length+1<=_; lia
   ·decide
   ·rw [Sx_len,List.length_append]; show l.length+1<=_; lia
  refine run_nx (s':=[some x.t,some (.lst (wd.map T.str)),some (.str (Sx l)),some (.lst ([Sx l,("":Str),"A",Sx (l.take 7++[49]),"abcdefghi",Sx (l++[32])].map T.str))]) (by simp_all? [s7,p1,p2]<;>rfl) ?_
  have l6:[Sx l,("":Str),"A",Sx (l.take 7++[49]),"abcdefghi",Sx (l++[32])].length=6:=rfl
  generalize [Sx l,("":Str),"A",Sx (l.take 7++[49]),"abcdefghi",Sx (l++[32])]=L at six l6
  refine run_mid (fun s=>∃ (y:Bag2) (L:List Str),s=[some y.t,some (.lst (wd.map T.str)),some (.str (Sx l)),some (.lst (L.map T.str))]/\y.Ok/\(∀ z∈L,z.length<=1000000)/\0 < L.length/\L.length<=7) ?_ ?_
  ·by_cases h0:0 < wd.length
   ·obtain ⟨z,y,ed,hy,z0,z1⟩:=draw_ex hx (wd.length:Int) (by lia) (by lia)
    obtain ⟨k,rfl⟩:=Int.eq_ofNat_of_zero_le z0
    have hk:k < wd.length:=by lia
    have gi:(wd.map T.str)[k]?=some (.str wd[k]):=by rw [List.getElem?_map,List.getElem?_eq_getElem hk]; rfl
    refine run_end (r:=.nx [some y.t,some (.lst (wd.map T.str)),some (.str (Sx l)),some (.lst ((L++[wd[k]]).map T.str))]) (by simp_all? [decide_eq_true (show (0:Int) < (wd.length:Int) by lia),ed,gi,isLst,vAppS wd[k] (show L.length<=1000000 by lia)]<;>rfl) ⟨y,_,rfl,hy,fun z hz=>?_,by simp,by rw [List.length_append,List.length_singleton]; lia⟩
    rcases List.mem_append.mp hz with q | q
    ·exact six z q
    ·have:=(g.name wd[k] (List.getElem_mem hk)).2.1
     rw [List.mem_singleton.mp q]; lia
   ·exact run_end (r:=.nx [some x.t,some (.lst (wd.map T.str)),some (.str (Sx l)),some (.lst (L.map T.str))]) (by simp_all? [decide_eq_false (show ¬ (0:Int) < (wd.length:Int) by lia)]<;>rfl) ⟨x,L,rfl,hx,six,by lia,by lia⟩
  ·rintro s ⟨y,L,rfl,hy,six,hL0,hL7⟩
   obtain ⟨z,y2,ed,hy2,z0,z1⟩:=draw_ex hy (L.length:Int) (by lia) (by lia)
   obtain ⟨k,rfl⟩:=Int.eq_ofNat_of_zero_le z0
   have hk:k < L.length:=by lia
   have gi:(L.map T.str)[k]?=some (.str L[k]):=by rw [List.getElem?_map,List.getElem?_eq_getElem hk]; rfl
   refine run_end (r:=.rt (.str L[k]) [some y2.t,some (.lst (wd.map T.str)),some (.str (Sx l)),some (.lst (L.map T.str))]) (by simp_all? [ed,gi]<;>rfl) ⟨_,_,_,rfl,L[k],y2,rfl,rfl,hy2,six _ (List.getElem_mem hk)⟩)
 exact ⟨nm,y,e,hy,hn⟩
end Dw
namespace Dw
open PySem L2 L3
theorem run_ifDf{M:List Nat}{ft:DT}{d d':DS}{s:Sg}{Q:Fl->Prop}(h:ft s=some (false,s))(hf:FlatM M s)(k:Run d' s Q):Run (dIfD M ft d d') s Q:=by
 obtain ⟨r,h1,h2⟩:=k
 refine ⟨r,?_,h2⟩
 unfold dIfD
 rw [h,Option.bind_some]
 rw [if_pos ⟨rfl,hf⟩]
 exact h1
theorem run_ifDt{M:List Nat}{ft:DT}{d d':DS}{s:Sg}{Q:Fl->Prop}(h:ft s=some (true,s))(hf:FlatM M s)(k:Run d s Q):Run (dIfD M ft d d') s Q:=by
 obtain ⟨r,h1,h2⟩:=k
 refine ⟨r,?_,h2⟩
 unfold dIfD
 rw [h,Option.bind_some]
 rw [if_pos ⟨rfl,hf⟩]
 exact h1
theorem run_deep2{fn:List T->Option T}{fa:DA}{x:Nat}{d:DS}{s s1:Sg}{ts:List T}{t:T}{Q:Fl->Prop}(h1:fa s=some (ts,s1))(h2:fn ts=some t)(h3:x < s1.length)(h4:Run d (s1.set x (some t)) fun r=>∃ r',unD x r=some r'/\Q r'):Run (dDeep2 fn fa x d) s Q:=by
 obtain ⟨r,e1,r',e2,q⟩:=h4
 refine ⟨r',?_,q⟩
 unfold dDeep2
 rw [h1,Option.bind_some]
 dsimp only
 rw [h2,Option.bind_some,if_pos h3,e1,Option.bind_some]
 exact e2
theorem run_rtD{d:DS}{s:Sg}{Q:Fl->Prop}(h:Run d s fun r=>∃ t s',r=.rt t s'/\Q (.rt t s')):Run (dRtD d) s Q:=by
 obtain ⟨r,e1,t,s',rfl,q⟩:=h
 refine ⟨_,?_,q⟩
 unfold dRtD
 rw [e1]
theorem ne_self{t:T}(h:(∃ l:List Str,t=.lst (l.map T.str))∨t=.str "none"):gNe t t=some (.bl false)/\gEq t t=some (.bl true):=by
 rcases h with ⟨l,rfl⟩ | rfl
 ·exact ⟨by rw [vNeSs,decide_eq_true rfl]; rfl,by rw [vEqSs,decide_eq_true rfl]⟩
 ·exact ⟨by rw [vNeS,decide_eq_true rfl]; rfl,by rw [vEqS,decide_eq_true rfl]⟩
section
variable {wd:List Str}(g:GoodWord wd)
include g
theorem wlen:∀ x∈wd,x.length<=1000000:=fun x hx=>by have:=(g.name x hx).2.1; lia
theorem wplaces(x:Str):placesOf wd x=[]∨∃ p q,placesOf wd x=[p,q]:=by
 by_cases h:x∈wd
 ·exact .inr (places_two (g.two x h))
 ·exact .inl (places_none h)
theorem curled_put(at_:Int){x:Str}(hx:x.length<=1000000):∃ t,fn_l_curled [.lst (wd.map T.str),.int at_,.str x]=some t/\fn_l_put_in [.lst (wd.map T.str),.int at_,.str x]=some t/\((∃ k,k<=wd.length/\x∉wd/\wd.length<=58/\t=.lst ((curl wd k x).map T.str))∨t=.str "none"):=by
 have hl:=g.len
 by_cases h:0<=at_/\at_<=wd.length
 ·obtain ⟨k,rfl⟩:=Int.eq_ofNat_of_zero_le h.1
  have hk:k<=wd.length:=by lia
  have e1:=curled_in (show wd.length<=100 by lia) (wlen g) hx hk
  have e2:=put_in_in g hx hk
  rw [curl_word g hk] at e1
  refine ⟨_,e1,e2,?_⟩
  by_cases m:mayIn wd x=true
  ·rw [if_pos m]
   unfold mayIn at m
   simp only [Bool.and_eq_true,decide_eq_true_iff,Bool.not_eq_true',decide_eq_false_iff_not] at m
   exact .inl ⟨k,hk,m.1.2,m.2,rfl⟩
  ·rw [if_neg m]; exact .inr rfl
 ·exact ⟨_,curled_out (show wd.length<=100 by lia) (wlen g) hx h,put_in_out g hx h,.inr rfl⟩
theorem un_taken{x:Str}:∃ t,fn_l_uncurled [.lst (wd.map T.str),.str x]=some t/\fn_l_taken [.lst (wd.map T.str),.str x]=some t/\((∃ l:List Str,t=.lst (l.map T.str)/\l.length<=60)∨t=.str "none"):=by
 have hl:=g.len
 refine ⟨_,uncurled_eq (by lia) (wplaces g x),taken_eq (by lia) (wplaces g x),?_⟩
 by_cases m:sideOk wd x=true
 ·rw [if_pos m]
  exact .inl ⟨_,rfl,Nat.le_trans (List.length_filter_le _ _) hl⟩
 ·rw [if_neg m]; exact .inr rfl
theorem un_curl{k:Nat}(hk:k<=wd.length){x:Str}(hx:x∉wd)(h58:wd.length<=58):fn_l_uncurled [.lst ((curl wd k x).map T.str),.str x]=some (.lst (wd.map T.str)):=by
 have e:=uncurled_eq (wd:=curl wd k x) (x:=x) (by rw [curl_len hk]; lia) (.inr ⟨_,_,curl_places hk hx⟩)
 rw [if_pos (curl_side hk hx),curl_back hx] at e
 exact e
theorem right_eq{b:Bag2}(hb:b.Ok){fr:Str}(hf:IsName fr):∃ y:Bag2,fn_l_right [b.t,.lst (wd.map T.str),.str fr]=some (.bl true,y.t)/\y.Ok:=by
 have hlen:=g.len
 have hfr:fr.length<=1000000:=by have:=hf.2.1; lia
 obtain ⟨z,b1,ed,hb1,z0,z1⟩:=draw_ex hb ((wd.length:Int)+5) (by lia) (by lia)
 obtain ⟨nm,b2,eo,hb2,hnm⟩:=odd_eq hb1 g hf
 obtain ⟨t1,ec,ep,ht1⟩:=curled_put g (z - 2) hnm
 obtain ⟨t2,ec2,ep2,ht2⟩:=curled_put g (wd.length:Int) hfr
 have n1:=(ne_self (t:=t1) (ht1.imp (fun ⟨k,_,_,_,e⟩=>⟨_,e⟩) id)).1
 have n2:=(ne_self (t:=t2) (ht2.imp (fun ⟨k,_,_,_,e⟩=>⟨_,e⟩) id)).2
 have nw:=vNeSs wd wd
 rw [decide_eq_true rfl] at nw
 have ll:gListA (.lst (wd.map T.str))=some (.lst (wd.map T.str)):=rfl
 have fm:∀ s:Sg,FlatM [0] (some b2.t::s):=fun s i hi t e=>by
  obtain rfl:i=0:=by simpa using hi
  obtain rfl:=Option.some.inj (Option.some.inj e)
  rfl
 obtain ⟨t,u,e,rfl,rfl⟩:=fnI_run (n:=8) (d:=d_l_right) (ts:=[b.t,.lst (wd.map T.str),.str fr]) (Q:=fun t u=>t=.bl true/\u=b2.t) (by
  unfold d_l_right
  show Run _ [some b.t,some (.lst (wd.map T.str)),some (.str fr),none,none,none,none,none] _
  refine run_nx (s':=[some b.t,some (.lst (wd.map T.str)),some (.str fr),some (.lst (wd.map T.str)),none,none,none,none]) (by simp_all? [ll]) ?_
  refine run_nx (s':=[some b1.t,some (.lst (wd.map T.str)),some (.str fr),some (.lst (wd.map T.str)),some (.int (z - 2)),none,none,none]) (by simp_all? [ed]) ?_
  refine run_nx (s':=[some b2.t,some (.lst (wd.map T.str)),some (.str fr),some (.lst (wd.map T.str)),some (.int (z - 2)),some (.str nm),none,none]) (by simp_all? [eo]) ?_
  -- the names gone through
  have lcE:∀ s:Sg,s[1]?=some (some (.lst (wd.map T.str)))->s.length=8->dLC [0] [none,some 1] (dRg1 (dAc (d1 gLen (dV 1)) dAn)) (dGn 0) (dB (d2 gNotInA (d2 gItem (dV 1) (dV 0)) (dSl gSlA (dV 1) dOn (dOs (dV 0))))) (d2 gItem (dV 1) (dV 0)) s=some (.lst ((((List.range wd.length).filter fun k=>!decide (wd.getD k Str.empty∈wd.take k)).map fun k=>wd.getD k Str.empty).map T.str),s):=by
   intro s h1 h8
   obtain ⟨a0,a1,a2,a3,a4,a5,a6,a7,rfl⟩:∃ a0 a1 a2 a3 a4 a5 a6 a7,s=[a0,a1,a2,a3,a4,a5,a6,a7]:=by
    match s,h8 with
    | [a0,a1,a2,a3,a4,a5,a6,a7],_=>exact ⟨a0,a1,a2,a3,a4,a5,a6,a7,rfl⟩
   obtain rfl:a1=some (.lst (wd.map T.str)):=Option.some.inj h1
   have q:=lc_enc (M:=[0]) (caps:=[none,some 1]) (fi:=dRg1 (dAc (d1 gLen (dV 1)) dAn)) (dg:=dGn 0) (ft:=dB (d2 gNotInA (d2 gItem (dV 1) (dV 0)) (dSl gSlA (dV 1) dOn (dOs (dV 0))))) (fe:=d2 gItem (dV 1) (dV 0)) (s:=[a0,some (.lst (wd.map T.str)),a2,a3,a4,a5,a6,a7]) (List.range wd.length) nT (fun k=>!decide (wd.getD k Str.empty∈wd.take k)) (fun k=>.str (wd.getD k Str.empty)) (by simp_all? [rgN (k:=wd.length) (by lia),Int.toNat_natCast,range_nT]) (by simp; lia) (by
    intro k hk
    have hk':=List.mem_range.mp hk
    have gi:(wd.map T.str)[k]?=some (.str (wd.getD k Str.empty)):=by
     rw [List.getElem?_map,List.getElem?_eq_getElem hk',List.getD_eq_getElem?_getD,List.getElem?_eq_getElem hk']; rfl
    have sl:=sl_to wd (Nat.le_of_lt hk')
    exact ⟨[some (nT k),some (.lst (wd.map T.str))],rfl,by simp_all? [gi,sl],fun _=>by simp_all? [gi],rfl⟩)
   rw [show ((List.range wd.length).filter fun k=>!decide (wd.getD k Str.empty∈wd.take k)).map (fun k=>T.str (wd.getD k Str.empty))=(((List.range wd.length).filter fun k=>!decide (wd.getD k Str.empty∈wd.take k)).map fun k=>wd.getD k Str.empty).map T.str by rw [List.map_map]; rfl] at q
   exact q
  have fll:(((List.range wd.length).filter fun k=>!decide (wd.getD k Str.empty∈wd.take k)).map fun k=>wd.getD k Str.empty).length<=60:=by
   rw [List.length_map]
   have:=List.length_filter_le (fun k=>!decide (wd.getD k Str.empty∈wd.take k)) (List.range wd.length)
   rw [List.length_range] at this
   lia
  generalize ((List.range wd.length).filter fun k=>!decide (wd.getD k Str.empty∈wd.take k)).map (fun k=>wd.getD k Str.empty)=fl at lcE fll
  have pl:gPlus (.lst (fl.map T.str)) (.lst [.str fr,.str ""])=some (.lst ((fl++[fr,""]).map T.str)):=by
   rw [vPlusL (by rw [List.length_map]; show fl.length+2<=_; lia),List.map_append]; rfl
  -- from here on
  have rest:∀ (a5 a6:Option T),Run (dSeq (dFor (dItA (d2 gPlus (dLC [0] [none,some 1] (dRg1 (dAc (d1 gLen (dV 1)) dAn)) (dGn 0) (dB (d2 gNotInA (d2 gItem (dV 1) (dV 0)) (dSl gSlA (dV 1) dOn (dOs (dV 0))))) (d2 gItem (dV 1) (dV 0))) (dLst (dAc (dV 2) (dAc (dC (.str "")) dAn))))) (dGn 5)
  (dFor (dRg1 (dAc (dC (.int 2)) dAn)) (dGn 7)
  (dDeep2 fn_l_uncurled (dAc (dV 3) (dAc (dV 5) dAn)) 6 (dSeq (dIfD [0] (dOr (dB (d2 gNe (dV 6) (dCall fn_l_taken (dAc (dV 1) (dAc (dV 5) dAn))))) (dB (d2 gNe (dV 3) (dV 1)))) (dRtD (dRetI [0] (dC (.bl false)))) dNext)
  (dIfD [0] (dTru (dIsi "list" (dV 6))) (dApxD [0] 6 (dC (.str "z"))) dNext)))))
  (dRetI [0] (d2 gEq (dCall fn_l_curled (dAc (dV 3) (dAc (d1 gLen (dV 1)) (dAc (dV 2) dAn)))) (dCall fn_l_put_in (dAc (dV 1) (dAc (d1 gLen (dV 1)) (dAc (dV 2) dAn)))))))
   [some b2.t,some (.lst (wd.map T.str)),some (.str fr),some (.lst (wd.map T.str)),some (.int (z - 2)),a5,a6,none] (fun r=>∃ s',r=.rt (.bl true) (some b2.t::s')):=by
   intro a5 a6
   refine run_for (its:=(fl++[fr,""]).map T.str) (fun j s=>∃ a5 a6 a7:Option T,s=[some b2.t,some (.lst (wd.map T.str)),some (.str fr),some (.lst (wd.map T.str)),some (.int (z - 2)),a5,a6,a7]) (by simp_all? [lcE _ (show [some b2.t,some (.lst (wd.map T.str)),some (.str fr),some (.lst (wd.map T.str)),some (.int (z - 2)),a5,a6,none][1]?=some (some (.lst (wd.map T.str))) from rfl) rfl,pl]<;>rfl) ⟨_,_,_,rfl⟩ ?_ ?_
   ·rintro j zz s hz ⟨a5,a6,a7,rfl⟩
    rw [List.getElem?_map] at hz
    obtain ⟨yn,hyn,rfl⟩:=Qm hz
    obtain ⟨tu,eu,ek,htu⟩:=un_taken g (x:=yn)
    have nu:=(ne_self (t:=tu) (htu.imp (fun ⟨l,e,_⟩=>⟨l,e⟩) id)).1
    refine ⟨[some b2.t,some (.lst (wd.map T.str)),some (.str fr),some (.lst (wd.map T.str)),some (.int (z - 2)),some (.str yn),a6,a7],rfl,?_⟩
    refine run_for_last (its:=rangeT 0 2) (fun i s=>∃ a6 a7:Option T,s=[some b2.t,some (.lst (wd.map T.str)),some (.str fr),some (.lst (wd.map T.str)),some (.int (z - 2)),some (.str yn),a6,a7]) rfl ⟨_,_,rfl⟩ ?_ (fun s' ⟨a6,a7,e⟩=>⟨_,_,_,e⟩)
    rintro i iz s hiz ⟨a6,a7,rfl⟩
    refine ⟨[some b2.t,some (.lst (wd.map T.str)),some (.str fr),some (.lst (wd.map T.str)),some (.int (z - 2)),some (.str yn),a6,some iz],rfl,?_⟩
    refine run_deep2 (s1:=[some b2.t,some (.lst (wd.map T.str)),some (.str fr),some (.lst (wd.map T.str)),some (.int (z - 2)),some (.str yn),a6,some iz]) (ts:=[.lst (wd.map T.str),.str yn]) (by simp_all? []) eu (show 6 < 8 by decide) ?_
    show Run _ [some b2.t,some (.lst (wd.map T.str)),some (.str fr),some (.lst (wd.map T.str)),some (.int (z - 2)),some (.str yn),some tu,some iz] _
    refine run_mid (fun s=>s=[some b2.t,some (.lst (wd.map T.str)),some (.str fr),some (.lst (wd.map T.str)),some (.int (z - 2)),some (.str yn),some tu,some iz]) (run_ifDf (by simp_all? [ek,nu,nw]<;>rfl) (fm _) (run_end (r:=.nx _) rfl rfl)) ?_
    rintro s rfl
    rcases htu with ⟨l,rfl,hl⟩ | rfl
    ·refine run_ifDt (by simp_all? []<;>rfl) (fm _) (run_end (r:=.nx [some b2.t,some (.lst (wd.map T.str)),some (.str fr),some (.lst (wd.map T.str)),some (.int (z - 2)),some (.str yn),some T.any,some iz]) ?_ ⟨_,rfl,⟨_,_,rfl⟩⟩)
     unfold dApxD
     rw [show dC (.str "z") [some b2.t,some (.lst (wd.map T.str)),some (.str fr),some (.lst (wd.map T.str)),some (.int (z - 2)),some (.str yn),some (.lst (l.map T.str)),some iz]=some (.str "z",[some b2.t,some (.lst (wd.map T.str)),some (.str fr),some (.lst (wd.map T.str)),some (.int (z - 2)),some (.str yn),some (.lst (l.map T.str)),some iz]) from rfl,Option.bind_some]
     rw [if_pos ⟨rfl,fm _,_,rfl,by rw [List.length_map]; lia⟩]
     rfl
    ·exact run_ifDf (by simp_all? []<;>rfl) (fm _) (run_end (r:=.nx _) rfl ⟨_,rfl,⟨_,_,rfl⟩⟩)
   ·rintro s ⟨a5,a6,a7,rfl⟩
    exact run_end (r:=.rt (.bl true) [some b2.t,some (.lst (wd.map T.str)),some (.str fr),some (.lst (wd.map T.str)),some (.int (z - 2)),a5,a6,a7]) (by simp_all? [ec2,ep2,n2]<;>rfl) ⟨_,rfl⟩
  refine run_deep2 (s1:=[some b2.t,some (.lst (wd.map T.str)),some (.str fr),some (.lst (wd.map T.str)),some (.int (z - 2)),some (.str nm),none,none]) (ts:=[.lst (wd.map T.str),.int (z - 2),.str nm]) (by simp_all? []) ec (show 6 < 8 by decide) ?_
  show Run _ [some b2.t,some (.lst (wd.map T.str)),some (.str fr),some (.lst (wd.map T.str)),some (.int (z - 2)),some (.str nm),some t1,none] _
  refine run_mid (fun s=>s=[some b2.t,some (.lst (wd.map T.str)),some (.str fr),some (.lst (wd.map T.str)),some (.int (z - 2)),some (.str nm),some t1,none]) (run_ifDf (by simp_all? [ep,n1,nw]<;>rfl) (fm _) (run_end (r:=.nx _) rfl rfl)) ?_
  rintro s rfl
  refine run_mid (fun s=>∃ a6,s=[some b2.t,some (.lst (wd.map T.str)),some (.str fr),some (.lst (wd.map T.str)),some (.int (z - 2)),some (.str nm),a6,none]) ?_ ?_
  ·rcases ht1 with ⟨k,hk,hnx,h58,rfl⟩ | rfl
   ·have eu:=un_curl g hk hnx h58
    have lc2:gListA (.lst ((curl wd k nm).map T.str))=some (.lst ((curl wd k nm).map T.str)):=rfl
    refine run_ifDt (by simp_all? []<;>rfl) (fm _) ?_
    refine run_mid (fun s=>s=[some b2.t,some (.lst (wd.map T.str)),some (.str fr),some (.lst (wd.map T.str)),some (.int (z - 2)),some (.str nm),some (.lst ((curl wd k nm).map T.str)),none]) (run_ifDf (by simp_all? [lc2,eu,nw]<;>rfl) (fm _) (run_end (r:=.nx _) rfl rfl)) ?_
    rintro s rfl
    refine run_nx (s':=[some b2.t,some (.lst (wd.map T.str)),some (.str fr),some (.lst (wd.map T.str)),some (.int (z - 2)),some (.str nm),some (.lst []),none]) rfl ?_
    exact run_ifDf (by simp_all? [ec,ep,n1]<;>rfl) (fm _) (run_end (r:=.nx _) rfl ⟨_,rfl⟩)
   ·exact run_ifDf (by simp_all? []<;>rfl) (fm _) (run_end (r:=.nx _) rfl ⟨_,rfl⟩)
  ·rintro s ⟨a6,rfl⟩
   refine run_rtD ?_
   obtain ⟨r,h1,s',rfl⟩:=rest (some (.str nm)) a6
   exact ⟨_,h1,_,_,rfl,_,rfl,_,_,_,rfl,rfl,rfl⟩)
 exact ⟨b2,e,hb2⟩
end
end Dw
namespace Dw
open PySem L2 L3
theorem cut_len49(ns:List Int):(cutT ns (some 4) (some 9)).length<=9:=by
 unfold cutT
 rw [List.length_take]
 have:HT.sIx ns.length ns.length (some ((9:Nat):Int))=min 9 ns.length:=HT.sIx_nat _ _ 9
 have:HT.sIx ns.length ns.length (some 9)=min 9 ns.length:=this
 lia
theorem law_eq(ns:List Int):fn_law [.scr ns]=some (.bl true):=by
 refine fnP_eq ?_
 show Run d_law [some (.scr ns),none,none,none,none] _
 unfold d_law
 have c0:fn_l_cell [.scr ns,.int 0]=some (.int (ns.getD 0 0)):=cell_eq ns 0
 have c1:fn_l_cell [.scr ns,.int 1]=some (.int (ns.getD 1 0)):=cell_eq ns 1
 have c2:fn_l_cell [.scr ns,.int 2]=some (.int (ns.getD 2 0)):=cell_eq ns 2
 have c3:fn_l_cell [.scr ns,.int 3]=some (.int (ns.getD 3 0)):=cell_eq ns 3
 generalize ns.getD 0 0=v0 at c0
 generalize ns.getD 1 0=v1 at c1
 generalize ns.getD 2 0=v2 at c2
 generalize ns.getD 3 0=v3 at c3
 refine run_nx (s':=[some (.scr ns),some (.int (v1%13)),none,none,none]) (by simp_all? [c1]) ?_
 refine run_mid (fun s=>∃ m:Nat,m<=30/\s=[some (.scr ns),some (.int (m:Int)),none,none,none]) ?_ ?_
 ·by_cases h:v1 / 13%5=1
  ·refine run_end (r:=.nx [some (.scr ns),some (.int (((29+v1 / 65%2).toNat:Nat):Int)),none,none,none]) ?_ ⟨_,by lia,rfl⟩
   rw [Int.toNat_of_nonneg (by lia)]
   simp_all? [c1,decide_eq_true h]
  ·refine run_end (r:=.nx [some (.scr ns),some (.int (((v1%13).toNat:Nat):Int)),none,none,none]) ?_ ⟨_,by lia,rfl⟩
   rw [Int.toNat_of_nonneg (by lia)]
   simp_all? [c1,decide_eq_false h]<;>rfl
 rintro s ⟨m,hm,rfl⟩
 obtain ⟨names,en,nl,nd,nN⟩:=names2_eq v0 (show m+1<=31 by lia)
 have en:fn_l_names [.int v0,.int ((m:Int)+1)]=some (.lst (names.map T.str)):=en
 obtain ⟨b,eb,hb⟩:=bag2_eq v2
 refine run_nx (s':=[some (.scr ns),some (.int (m:Int)),some (.lst (names.map T.str)),none,none]) (by simp_all? [c0,en]) ?_
 refine run_nx (s':=[some (.scr ns),some (.int (m:Int)),some (.lst (names.map T.str)),some b.t,none]) (by simp_all? [c2,eb]) ?_
 have sl:gSlA (.scr ns) (some 4) (some 9)=some (.lst ((cutT ns (some 4) (some 9)).map T.int)):=rfl
 have hcl:=cut_len49 ns
 generalize cutT ns (some 4) (some 9)=cs at sl hcl
 have pl:gPlus (.lst [.int v3]) (.lst (cs.map T.int))=some (.lst ((v3::cs).map T.int)):=by rw [vPlusL (by rw [List.length_map,List.length_singleton]; lia)]; rfl
 have st:=sl_to names (show m<=names.length by lia)
 have hmn:m < names.length:=by lia
 have gi:(names.map T.str)[m]?=some (.str names[m]):=by rw [List.getElem?_map,List.getElem?_eq_getElem hmn]; rfl
 have hfr:IsName names[m]:=nN _ (List.getElem_mem hmn)
 refine run_for (its:=(v3::cs).map T.int) (fun j s=>∃ (b:Bag2) (a:Option T),b.Ok/\s=[some (.scr ns),some (.int (m:Int)),some (.lst (names.map T.str)),some b.t,a]) (by simp_all? [c3,sl,pl]<;>rfl) ⟨b,_,hb,rfl⟩ ?_ ?_
 ·rintro j z s hz ⟨b,a,hb,rfl⟩
  rw [List.getElem?_map] at hz
  obtain ⟨cc,hcc,rfl⟩:=Qm hz
  obtain ⟨wd,ew,gw,_⟩:=word2_eq cc (names:=names.take m) (by rw [List.length_take]; lia) (nd.sublist (List.take_sublist _ _)) (fun x hx=>nN x (List.mem_of_mem_take hx))
  obtain ⟨y,er,hy⟩:=right_eq gw hb hfr
  refine ⟨[some (.scr ns),some (.int (m:Int)),some (.lst (names.map T.str)),some b.t,some (.int cc)],rfl,?_⟩
  exact run_onto (s':=[some (.scr ns),some (.int (m:Int)),some (.lst (names.map T.str)),some y.t,some (.int cc)]) (by simp_all? [st,ew,gi,er]<;>rfl) ⟨y,_,hy,rfl⟩
 ·rintro s ⟨b,a,hb,rfl⟩
  exact run_ret (s':=[some (.scr ns),some (.int (m:Int)),some (.lst (names.map T.str)),some b.t,a]) (by simp_all? []<;>rfl) rfl
end Dw
namespace Dw
open PySem PySem.Spec PyProof.Rows L2 L3
theorem len1{us:List Value}(h:us.length=1):∃ a0,us=[a0]:=List.length_eq_one_iff.mp h
theorem len2{us:List Value}(h:us.length=2):∃ a0 a1,us=[a0,a1]:=by
 cases us with
 | nil=>cases h
 | cons a us=>obtain ⟨b0,rfl⟩:=len1 (Nat.succ.inj h); exact ⟨a,b0,rfl⟩
theorem len3{us:List Value}(h:us.length=3):∃ a0 a1 a2,us=[a0,a1,a2]:=by
 cases us with
 | nil=>cases h
 | cons a us=>obtain ⟨b0,b1,rfl⟩:=len2 (Nat.succ.inj h); exact ⟨a,b0,b1,rfl⟩
theorem all_mk{l:PySem.W.OpenLaw}{w:World}{K:PySem.W.Frag}{h:Heap}{mg:Str->Option Value}{fa:Addr}(X:K.In h)(G:h.Ns mainGlobals mg)(hfa:mg "law"=some (.ref fa))
  {f1:Addr} {od1 an1:Option Addr} {sl1:Array (Option Value)} {oc1 kV1 dc1 pm1 cd1 ct1:Value}
  {f2:Addr} {od2 an2:Option Addr} {sl2:Array (Option Value)} {oc2 kV2 dc2 pm2 cd2 ct2:Value}
  {f3:Addr} {od3 an3:Option Addr} {sl3:Array (Option Value)} {oc3 kV3 dc3 pm3 cd3 ct3:Value}
  {f4:Addr} {od4 an4:Option Addr} {sl4:Array (Option Value)} {oc4 kV4 dc4 pm4 cd4 ct4:Value}
  {f5:Addr} {od5 an5:Option Addr} {sl5:Array (Option Value)} {oc5 kV5 dc5 pm5 cd5 ct5:Value}
  {f6:Addr} {od6 an6:Option Addr} {sl6:Array (Option Value)} {oc6 kV6 dc6 pm6 cd6 ct6:Value}
  {f7:Addr} {od7 an7:Option Addr} {sl7:Array (Option Value)} {oc7 kV7 dc7 pm7 cd7 ct7:Value}
  {f8:Addr} {od8 an8:Option Addr} {sl8:Array (Option Value)} {oc8 kV8 dc8 pm8 cd8 ct8:Value}
  {f9:Addr} {od9 an9:Option Addr} {sl9:Array (Option Value)} {oc9 kV9 dc9 pm9 cd9 ct9:Value}
  {f10:Addr} {od10 an10:Option Addr} {sl10:Array (Option Value)} {oc10 kV10 dc10 pm10 cd10 ct10:Value}
  {f11:Addr} {od11 an11:Option Addr} {sl11:Array (Option Value)} {oc11 kV11 dc11 pm11 cd11 ct11:Value}
  {f12:Addr} {od12 an12:Option Addr} {sl12:Array (Option Value)} {oc12 kV12 dc12 pm12 cd12 ct12:Value}
  {f13:Addr} {od13 an13:Option Addr} {sl13:Array (Option Value)} {oc13 kV13 dc13 pm13 cd13 ct13:Value}
  {f14:Addr} {od14 an14:Option Addr} {sl14:Array (Option Value)} {oc14 kV14 dc14 pm14 cd14 ct14:Value}
  {f15:Addr} {od15 an15:Option Addr} {sl15:Array (Option Value)} {oc15 kV15 dc15 pm15 cd15 ct15:Value}
  {f16:Addr} {od16 an16:Option Addr} {sl16:Array (Option Value)} {oc16 kV16 dc16 pm16 cd16 ct16:Value}
  {f17:Addr} {od17 an17:Option Addr} {sl17:Array (Option Value)} {oc17 kV17 dc17 pm17 cd17 ct17:Value}
  {f18:Addr} {od18 an18:Option Addr} {sl18:Array (Option Value)} {oc18 kV18 dc18 pm18 cd18 ct18:Value}
  {f19:Addr} {od19 an19:Option Addr} {sl19:Array (Option Value)} {oc19 kV19 dc19 pm19 cd19 ct19:Value}
  {f20:Addr} {od20 an20:Option Addr} {sl20:Array (Option Value)} {oc20 kV20 dc20 pm20 cd20 ct20:Value}
  {f21:Addr} {od21 an21:Option Addr} {sl21:Array (Option Value)} {oc21 kV21 dc21 pm21 cd21 ct21:Value}
  {f22:Addr} {od22 an22:Option Addr} {sl22:Array (Option Value)} {oc22 kV22 dc22 pm22 cd22 ct22:Value}
  {f23:Addr} {od23 an23:Option Addr} {sl23:Array (Option Value)} {oc23 kV23 dc23 pm23 cd23 ct23:Value}
  {f24:Addr} {od24 an24:Option Addr} {sl24:Array (Option Value)} {oc24 kV24 dc24 pm24 cd24 ct24:Value}
  {tq1:Tok}
  {tq2:Tok}
  {kNoMove kDrawError kNoRow kNotDrawn kNoText kNoWord:Addr}
  (a1:PySem.W.nsIn K mainGlobals "_law_names"=some (some (.ref f1))) (l1:K.lookup f1=some ⟨oc1,od1,.func (PySem.W.fnOf "_law_names" "_law_names" (defArgs s_l_names) (defBody s_l_names) (defScope s_l_names) .none kV1 dc1 pm1 an1 cd1 ct1),sl1⟩) (c1:PySem.W.codeIn K cd1 "_law_names"=true) (k1:PySem.W.keepIn K (.ref f1)=true)
  (a2:PySem.W.nsIn K mainGlobals "_law_bag"=some (some (.ref f2))) (l2:K.lookup f2=some ⟨oc2,od2,.func (PySem.W.fnOf "_law_bag" "_law_bag" (defArgs s_l_bag) (defBody s_l_bag) (defScope s_l_bag) .none kV2 dc2 pm2 an2 cd2 ct2),sl2⟩) (c2:PySem.W.codeIn K cd2 "_law_bag"=true) (k2:PySem.W.keepIn K (.ref f2)=true)
  (a3:PySem.W.nsIn K mainGlobals "_law_cell"=some (some (.ref f3))) (l3:K.lookup f3=some ⟨oc3,od3,.func (PySem.W.fnOf "_law_cell" "_law_cell" (defArgs s_l_cell) (defBody s_l_cell) (defScope s_l_cell) .none kV3 dc3 pm3 an3 cd3 ct3),sl3⟩) (c3:PySem.W.codeIn K cd3 "_law_cell"=true) (k3:PySem.W.keepIn K (.ref f3)=true)
  (a4:PySem.W.nsIn K mainGlobals "_law_draw"=some (some (.ref f4))) (l4:K.lookup f4=some ⟨oc4,od4,.func (PySem.W.fnOf "_law_draw" "_law_draw" (defArgs s_l_draw) (defBody s_l_draw) (defScope s_l_draw) .none kV4 dc4 pm4 an4 cd4 ct4),sl4⟩) (c4:PySem.W.codeIn K cd4 "_law_draw"=true) (k4:PySem.W.keepIn K (.ref f4)=true)
  (a5:PySem.W.nsIn K mainGlobals "_law_odd_name"=some (some (.ref f5))) (l5:K.lookup f5=some ⟨oc5,od5,.func (PySem.W.fnOf "_law_odd_name" "_law_odd_name" (defArgs s_l_odd_name) (defBody s_l_odd_name) (defScope s_l_odd_name) .none kV5 dc5 pm5 an5 cd5 ct5),sl5⟩) (c5:PySem.W.codeIn K cd5 "_law_odd_name"=true) (k5:PySem.W.keepIn K (.ref f5)=true)
  (a6:PySem.W.nsIn K mainGlobals "is_name"=some (some (.ref f6))) (l6:K.lookup f6=some ⟨oc6,od6,.func (PySem.W.fnOf "is_name" "is_name" (defArgs s_p_is_name) (defBody s_p_is_name) (defScope s_p_is_name) .none kV6 dc6 pm6 an6 cd6 ct6),sl6⟩) (c6:PySem.W.codeIn K cd6 "is_name"=true) (k6:PySem.W.keepIn K (.ref f6)=true)
  (a7:PySem.W.nsIn K mainGlobals "is_word"=some (some (.ref f7))) (l7:K.lookup f7=some ⟨oc7,od7,.func (PySem.W.fnOf "is_word" "is_word" (defArgs s_p_is_word) (defBody s_p_is_word) (defScope s_p_is_word) .none kV7 dc7 pm7 an7 cd7 ct7),sl7⟩) (c7:PySem.W.codeIn K cd7 "is_word"=true) (k7:PySem.W.keepIn K (.ref f7)=true)
  (a8:PySem.W.nsIn K mainGlobals "still_word"=some (some (.ref f8))) (l8:K.lookup f8=some ⟨oc8,od8,.func (PySem.W.fnOf "still_word" "still_word" (defArgs s_p_still_word) (defBody s_p_still_word) (defScope s_p_still_word) .none kV8 dc8 pm8 an8 cd8 ct8),sl8⟩) (c8:PySem.W.codeIn K cd8 "still_word"=true) (k8:PySem.W.keepIn K (.ref f8)=true)
  (a9:PySem.W.nsIn K mainGlobals "curled"=some (some (.ref f9))) (l9:K.lookup f9=some ⟨oc9,od9,.func (PySem.W.fnOf "curled" "curled" (defArgs s_p_curled) (defBody s_p_curled) (defScope s_p_curled) .none kV9 dc9 pm9 an9 cd9 ct9),sl9⟩) (c9:PySem.W.codeIn K cd9 "curled"=true) (k9:PySem.W.keepIn K (.ref f9)=true)
  (a10:PySem.W.nsIn K mainGlobals "_law_is_no_move"=some (some (.ref f10))) (l10:K.lookup f10=some ⟨oc10,od10,.func (PySem.W.fnOf "_law_is_no_move" "_law_is_no_move" (defArgs s_l_is_no_move) (defBody s_l_is_no_move) (defScope s_l_is_no_move) .none kV10 dc10 pm10 an10 cd10 ct10),sl10⟩) (c10:PySem.W.codeIn K cd10 "_law_is_no_move"=true) (k10:PySem.W.keepIn K (.ref f10)=true)
  (a11:PySem.W.nsIn K mainGlobals "_law_curled"=some (some (.ref f11))) (l11:K.lookup f11=some ⟨oc11,od11,.func (PySem.W.fnOf "_law_curled" "_law_curled" (defArgs s_l_curled) (defBody s_l_curled) (defScope s_l_curled) .none kV11 dc11 pm11 an11 cd11 ct11),sl11⟩) (c11:PySem.W.codeIn K cd11 "_law_curled"=true) (k11:PySem.W.keepIn K (.ref f11)=true)
  (a12:PySem.W.nsIn K mainGlobals "_law_good_name"=some (some (.ref f12))) (l12:K.lookup f12=some ⟨oc12,od12,.func (PySem.W.fnOf "_law_good_name" "_law_good_name" (defArgs s_l_good_name) (defBody s_l_good_name) (defScope s_l_good_name) .none kV12 dc12 pm12 an12 cd12 ct12),sl12⟩) (c12:PySem.W.codeIn K cd12 "_law_good_name"=true) (k12:PySem.W.keepIn K (.ref f12)=true)
  (a13:PySem.W.nsIn K mainGlobals "_law_put_in"=some (some (.ref f13))) (l13:K.lookup f13=some ⟨oc13,od13,.func (PySem.W.fnOf "_law_put_in" "_law_put_in" (defArgs s_l_put_in) (defBody s_l_put_in) (defScope s_l_put_in) .none kV13 dc13 pm13 an13 cd13 ct13),sl13⟩) (c13:PySem.W.codeIn K cd13 "_law_put_in"=true) (k13:PySem.W.keepIn K (.ref f13)=true)
  (a14:PySem.W.nsIn K mainGlobals "standings"=some (some (.ref f14))) (l14:K.lookup f14=some ⟨oc14,od14,.func (PySem.W.fnOf "standings" "standings" (defArgs s_p_standings) (defBody s_p_standings) (defScope s_p_standings) .none kV14 dc14 pm14 an14 cd14 ct14),sl14⟩) (c14:PySem.W.codeIn K cd14 "standings"=true) (k14:PySem.W.keepIn K (.ref f14)=true)
  (a15:PySem.W.nsIn K mainGlobals "without"=some (some (.ref f15))) (l15:K.lookup f15=some ⟨oc15,od15,.func (PySem.W.fnOf "without" "without" (defArgs s_p_without) (defBody s_p_without) (defScope s_p_without) .none kV15 dc15 pm15 an15 cd15 ct15),sl15⟩) (c15:PySem.W.codeIn K cd15 "without"=true) (k15:PySem.W.keepIn K (.ref f15)=true)
  (a16:PySem.W.nsIn K mainGlobals "side_by_side"=some (some (.ref f16))) (l16:K.lookup f16=some ⟨oc16,od16,.func (PySem.W.fnOf "side_by_side" "side_by_side" (defArgs s_p_side_by_side) (defBody s_p_side_by_side) (defScope s_p_side_by_side) .none kV16 dc16 pm16 an16 cd16 ct16),sl16⟩) (c16:PySem.W.codeIn K cd16 "side_by_side"=true) (k16:PySem.W.keepIn K (.ref f16)=true)
  (a17:PySem.W.nsIn K mainGlobals "uncurled"=some (some (.ref f17))) (l17:K.lookup f17=some ⟨oc17,od17,.func (PySem.W.fnOf "uncurled" "uncurled" (defArgs s_p_uncurled) (defBody s_p_uncurled) (defScope s_p_uncurled) .none kV17 dc17 pm17 an17 cd17 ct17),sl17⟩) (c17:PySem.W.codeIn K cd17 "uncurled"=true) (k17:PySem.W.keepIn K (.ref f17)=true)
  (a18:PySem.W.nsIn K mainGlobals "_law_uncurled"=some (some (.ref f18))) (l18:K.lookup f18=some ⟨oc18,od18,.func (PySem.W.fnOf "_law_uncurled" "_law_uncurled" (defArgs s_l_uncurled) (defBody s_l_uncurled) (defScope s_l_uncurled) .none kV18 dc18 pm18 an18 cd18 ct18),sl18⟩) (c18:PySem.W.codeIn K cd18 "_law_uncurled"=true) (k18:PySem.W.keepIn K (.ref f18)=true)
  (a19:PySem.W.nsIn K mainGlobals "_law_taken"=some (some (.ref f19))) (l19:K.lookup f19=some ⟨oc19,od19,.func (PySem.W.fnOf "_law_taken" "_law_taken" (defArgs s_l_taken) (defBody s_l_taken) (defScope s_l_taken) .none kV19 dc19 pm19 an19 cd19 ct19),sl19⟩) (c19:PySem.W.codeIn K cd19 "_law_taken"=true) (k19:PySem.W.keepIn K (.ref f19)=true)
  (a20:PySem.W.nsIn K mainGlobals "_law_right"=some (some (.ref f20))) (l20:K.lookup f20=some ⟨oc20,od20,.func (PySem.W.fnOf "_law_right" "_law_right" (defArgs s_l_right) (defBody s_l_right) (defScope s_l_right) .none kV20 dc20 pm20 an20 cd20 ct20),sl20⟩) (c20:PySem.W.codeIn K cd20 "_law_right"=true) (k20:PySem.W.keepIn K (.ref f20)=true)
  (a21:PySem.W.nsIn K mainGlobals "_law_built_word"=some (some (.ref f21))) (l21:K.lookup f21=some ⟨oc21,od21,.func (PySem.W.fnOf "_law_built_word" "_law_built_word" (defArgs s_l_built_word) (defBody s_l_built_word) (defScope s_l_built_word) .none kV21 dc21 pm21 an21 cd21 ct21),sl21⟩) (c21:PySem.W.codeIn K cd21 "_law_built_word"=true) (k21:PySem.W.keepIn K (.ref f21)=true)
  (a22:PySem.W.nsIn K mainGlobals "_law_any_word"=some (some (.ref f22))) (l22:K.lookup f22=some ⟨oc22,od22,.func (PySem.W.fnOf "_law_any_word" "_law_any_word" (defArgs s_l_any_word) (defBody s_l_any_word) (defScope s_l_any_word) .none kV22 dc22 pm22 an22 cd22 ct22),sl22⟩) (c22:PySem.W.codeIn K cd22 "_law_any_word"=true) (k22:PySem.W.keepIn K (.ref f22)=true)
  (a23:PySem.W.nsIn K mainGlobals "_law_word"=some (some (.ref f23))) (l23:K.lookup f23=some ⟨oc23,od23,.func (PySem.W.fnOf "_law_word" "_law_word" (defArgs s_l_word) (defBody s_l_word) (defScope s_l_word) .none kV23 dc23 pm23 an23 cd23 ct23),sl23⟩) (c23:PySem.W.codeIn K cd23 "_law_word"=true) (k23:PySem.W.keepIn K (.ref f23)=true)
  (a24:PySem.W.nsIn K mainGlobals "law"=some (some (.ref f24))) (l24:K.lookup f24=some ⟨oc24,od24,.func (PySem.W.fnOf "law" "law" (defArgs s_law) (defBody s_law) (defScope s_law) .none kV24 dc24 pm24 an24 cd24 ct24),sl24⟩) (c24:PySem.W.codeIn K cd24 "law"=true) (k24:PySem.W.keepIn K (.ref f24)=true)
  (z1:PySem.W.nsIn K mainGlobals "range"=some none)
  (z2:PySem.W.nsIn K mainGlobals "len"=some none)
  (z3:PySem.W.nsIn K mainGlobals "all"=some none)
  (z4:PySem.W.nsIn K mainGlobals "isinstance"=some none)
  (z5:PySem.W.nsIn K mainGlobals "ValueError"=some none)
  (z6:PySem.W.nsIn K mainGlobals "list"=some none)
  (z7:PySem.W.nsIn K mainGlobals "enumerate"=some none)
  (z8:PySem.W.nsIn K mainGlobals "max"=some none)
  (q1:PySem.W.nsIn K mainGlobals "LONGEST_NAME"=some (some (.int 8 tq1)))
  (q2:PySem.W.nsIn K mainGlobals "MOST_NAMES"=some (some (.int 30 tq2)))
  (xNoMove:PySem.W.nsIn K mainGlobals "NoMove"=some (some (.ref kNoMove)))
  (xDrawError:PySem.W.nsIn K mainGlobals "DrawError"=some (some (.ref kDrawError)))
  (xNoRow:PySem.W.nsIn K mainGlobals "NoRow"=some (some (.ref kNoRow)))
  (xNotDrawn:PySem.W.nsIn K mainGlobals "NotDrawn"=some (some (.ref kNotDrawn)))
  (xNoText:PySem.W.nsIn K mainGlobals "NoText"=some (some (.ref kNoText)))
  (xNoWord:PySem.W.nsIn K mainGlobals "NoWord"=some (some (.ref kNoWord)))
  (xAll:L3.mvIn K kNoMove kDrawError kNoRow kNotDrawn kNoText kNoWord=true)
  : ∃ fd:FuncData,(∀ (s:Shared) (v:Value),BindsTo s fd ⟨[v],[]⟩ [("_law_script",v)])/\∀ base:Heap,K.In base->base.Ns mainGlobals mg->FnOk l.prog w K mg base CX0 7 fa fd ["_law_script"] (L3.spLaw K):=by
 have e:=hfa.symm.trans (PySem.W.mg_of X G a24)
 cases e
 have h_l_names:Here K mg "_law_names" s_l_names ["_law_cell_here","_law_many"]:=L3.here_mk X G (fun _ _ _ _ _ _ us hl=>by obtain ⟨_,_,rfl⟩:=len2 hl; rfl) a1 l1 c1 k1
 have h_l_bag:Here K mg "_law_bag" s_l_bag ["_law_cell_here"]:=L3.here_mk X G (fun _ _ _ _ _ _ us hl=>by obtain ⟨_,rfl⟩:=len1 hl; rfl) a2 l2 c2 k2
 have h_l_cell:Here K mg "_law_cell" s_l_cell ["_law_script","_law_k"]:=L3.here_mk X G (fun _ _ _ _ _ _ us hl=>by obtain ⟨_,_,rfl⟩:=len2 hl; rfl) a3 l3 c3 k3
 have h_l_draw:Here K mg "_law_draw" s_l_draw ["_law_bag_here","_law_many"]:=L3.here_mk X G (fun _ _ _ _ _ _ us hl=>by obtain ⟨_,_,rfl⟩:=len2 hl; rfl) a4 l4 c4 k4
 have h_l_odd_name:Here K mg "_law_odd_name" s_l_odd_name ["_law_bag_here","_law_word_here","_law_fresh"]:=L3.here_mk X G (fun _ _ _ _ _ _ us hl=>by obtain ⟨_,_,_,rfl⟩:=len3 hl; rfl) a5 l5 c5 k5
 have h_p_is_name:Here K mg "is_name" s_p_is_name ["text"]:=L3.here_mk X G (fun _ _ _ _ _ _ us hl=>by obtain ⟨_,rfl⟩:=len1 hl; rfl) a6 l6 c6 k6
 have h_p_is_word:Here K mg "is_word" s_p_is_word ["some"]:=L3.here_mk X G (fun _ _ _ _ _ _ us hl=>by obtain ⟨_,rfl⟩:=len1 hl; rfl) a7 l7 c7 k7
 have h_p_still_word:Here K mg "still_word" s_p_still_word ["some"]:=L3.here_mk X G (fun _ _ _ _ _ _ us hl=>by obtain ⟨_,rfl⟩:=len1 hl; rfl) a8 l8 c8 k8
 have h_p_curled:Here K mg "curled" s_p_curled ["word","at","name"]:=L3.here_mk X G (fun _ _ _ _ _ _ us hl=>by obtain ⟨_,_,_,rfl⟩:=len3 hl; rfl) a9 l9 c9 k9
 have h_l_is_no_move:Here K mg "_law_is_no_move" s_l_is_no_move ["_law_e"]:=L3.here_mk X G (fun _ _ _ _ _ _ us hl=>by obtain ⟨_,rfl⟩:=len1 hl; rfl) a10 l10 c10 k10
 have h_l_curled:Here K mg "_law_curled" s_l_curled ["_law_word_here","_law_at","_law_name"]:=L3.here_mk X G (fun _ _ _ _ _ _ us hl=>by obtain ⟨_,_,_,rfl⟩:=len3 hl; rfl) a11 l11 c11 k11
 have h_l_good_name:Here K mg "_law_good_name" s_l_good_name ["_law_name"]:=L3.here_mk X G (fun _ _ _ _ _ _ us hl=>by obtain ⟨_,rfl⟩:=len1 hl; rfl) a12 l12 c12 k12
 have h_l_put_in:Here K mg "_law_put_in" s_l_put_in ["_law_word_here","_law_at","_law_name"]:=L3.here_mk X G (fun _ _ _ _ _ _ us hl=>by obtain ⟨_,_,_,rfl⟩:=len3 hl; rfl) a13 l13 c13 k13
 have h_p_standings:Here K mg "standings" s_p_standings ["word","name"]:=L3.here_mk X G (fun _ _ _ _ _ _ us hl=>by obtain ⟨_,_,rfl⟩:=len2 hl; rfl) a14 l14 c14 k14
 have h_p_without:Here K mg "without" s_p_without ["word","gone"]:=L3.here_mk X G (fun _ _ _ _ _ _ us hl=>by obtain ⟨_,_,rfl⟩:=len2 hl; rfl) a15 l15 c15 k15
 have h_p_side_by_side:Here K mg "side_by_side" s_p_side_by_side ["size","low","high"]:=L3.here_mk X G (fun _ _ _ _ _ _ us hl=>by obtain ⟨_,_,_,rfl⟩:=len3 hl; rfl) a16 l16 c16 k16
 have h_p_uncurled:Here K mg "uncurled" s_p_uncurled ["word","name"]:=L3.here_mk X G (fun _ _ _ _ _ _ us hl=>by obtain ⟨_,_,rfl⟩:=len2 hl; rfl) a17 l17 c17 k17
 have h_l_uncurled:Here K mg "_law_uncurled" s_l_uncurled ["_law_word_here","_law_name"]:=L3.here_mk X G (fun _ _ _ _ _ _ us hl=>by obtain ⟨_,_,rfl⟩:=len2 hl; rfl) a18 l18 c18 k18
 have h_l_taken:Here K mg "_law_taken" s_l_taken ["_law_word_here","_law_name"]:=L3.here_mk X G (fun _ _ _ _ _ _ us hl=>by obtain ⟨_,_,rfl⟩:=len2 hl; rfl) a19 l19 c19 k19
 have h_l_right:Here K mg "_law_right" s_l_right ["_law_bag_here","_law_word_here","_law_fresh"]:=L3.here_mk X G (fun _ _ _ _ _ _ us hl=>by obtain ⟨_,_,_,rfl⟩:=len3 hl; rfl) a20 l20 c20 k20
 have h_l_built_word:Here K mg "_law_built_word" s_l_built_word ["_law_bag_here","_law_names_here"]:=L3.here_mk X G (fun _ _ _ _ _ _ us hl=>by obtain ⟨_,_,rfl⟩:=len2 hl; rfl) a21 l21 c21 k21
 have h_l_any_word:Here K mg "_law_any_word" s_l_any_word ["_law_bag_here","_law_names_here"]:=L3.here_mk X G (fun _ _ _ _ _ _ us hl=>by obtain ⟨_,_,rfl⟩:=len2 hl; rfl) a22 l22 c22 k22
 have h_l_word:Here K mg "_law_word" s_l_word ["_law_cell_here","_law_names_here"]:=L3.here_mk X G (fun _ _ _ _ _ _ us hl=>by obtain ⟨_,_,rfl⟩:=len2 hl; rfl) a23 l23 c23 k23
 have m_range:=PySem.W.mg_none_of X G z1
 have m_len:=PySem.W.mg_none_of X G z2
 have m_all:=PySem.W.mg_none_of X G z3
 have m_isinstance:=PySem.W.mg_none_of X G z4
 have m_ValueError:=PySem.W.mg_none_of X G z5
 have m_list:=PySem.W.mg_none_of X G z6
 have m_enumerate:=PySem.W.mg_none_of X G z7
 have m_max:=PySem.W.mg_none_of X G z8
 have c_LONGEST_NAME:=PySem.W.mg_of X G q1
 have c_MOST_NAMES:=PySem.W.mg_of X G q2
 have h_law:=fun_mk (st:=s_law) l24 c24 k24
 refine ⟨PySem.W.fnOf "law" "law" (defArgs s_law) (defBody s_law) (defScope s_law) .none kV24 dc24 pm24 an24 cd24 ct24,fun s v=>.of_eq rfl,fun base KB GB=>?_⟩
 have mv:=L3.mv_of KB GB xNoMove xDrawError xNoRow xNotDrawn xNoText xNoWord xAll
 have c_l_names:=ok_l_names (tk:=⟨K⟩) (P:=l.prog) (w:=w) (base:=base) h_l_names m_range m_len
 have c_l_bag:=ok_l_bag (tk:=⟨K⟩) (P:=l.prog) (w:=w) (base:=base) h_l_bag
 have c_l_cell:=ok_l_cell (tk:=⟨K⟩) (P:=l.prog) (w:=w) (base:=base) h_l_cell m_len
 have c_l_draw:=ok_l_draw (tk:=⟨K⟩) (P:=l.prog) (w:=w) (base:=base) h_l_draw
 have c_l_odd_name:=ok_l_odd_name (tk:=⟨K⟩) (P:=l.prog) (w:=w) (base:=base) h_l_odd_name (c_l_draw.mono (by decide)) m_len
 have c_p_is_name:=ok_p_is_name (tk:=⟨K⟩) (P:=l.prog) (w:=w) (base:=base) h_p_is_name m_all m_len c_LONGEST_NAME
 have c_p_is_word:=ok_p_is_word (tk:=⟨K⟩) (P:=l.prog) (w:=w) (base:=base) h_p_is_word (c_p_is_name.mono (by decide)) m_all m_len c_MOST_NAMES
 have c_p_still_word:=ok_p_still_word (tk:=⟨K⟩) (P:=l.prog) (w:=w) (base:=base) h_p_still_word (c_p_is_word.mono (by decide))
 have rr_p_still_word:=okR_p_still_word (tk:=⟨K⟩) (P:=l.prog) (w:=w) (base:=base) h_p_still_word (c_p_is_word.mono (by decide)) mv
 have c_p_curled:=ok_p_curled (tk:=⟨K⟩) (P:=l.prog) (w:=w) (base:=base) h_p_curled (c_p_still_word.mono (by decide)) m_len
 have rr_p_curled:=okR_p_curled (tk:=⟨K⟩) (P:=l.prog) (w:=w) (base:=base) h_p_curled m_len (rr_p_still_word.mono (by decide)) mv
 have hh_l_is_no_move:=okH_l_is_no_move (tk:=⟨K⟩) (P:=l.prog) (w:=w) (base:=base) h_l_is_no_move m_isinstance m_ValueError mv
 have c_l_curled:=okT_l_curled (tk:=⟨K⟩) (P:=l.prog) (w:=w) (base:=base) h_l_curled (c_p_curled.mono (by decide)) (rr_p_curled.mono (by decide)) (hh_l_is_no_move.mono (by decide)) mv
 have c_l_good_name:=ok_l_good_name (tk:=⟨K⟩) (P:=l.prog) (w:=w) (base:=base) h_l_good_name m_all m_len
 have c_l_put_in:=ok_l_put_in (tk:=⟨K⟩) (P:=l.prog) (w:=w) (base:=base) h_l_put_in (c_l_good_name.mono (by decide)) m_len m_list
 have c_p_standings:=ok_p_standings (tk:=⟨K⟩) (P:=l.prog) (w:=w) (base:=base) h_p_standings m_enumerate
 have c_p_without:=ok_p_without (tk:=⟨K⟩) (P:=l.prog) (w:=w) (base:=base) h_p_without
 have c_p_side_by_side:=ok_p_side_by_side (tk:=⟨K⟩) (P:=l.prog) (w:=w) (base:=base) h_p_side_by_side
 have c_p_uncurled:=ok_p_uncurled (tk:=⟨K⟩) (P:=l.prog) (w:=w) (base:=base) h_p_uncurled (c_p_standings.mono (by decide)) (c_p_side_by_side.mono (by decide)) (c_p_without.mono (by decide)) m_len
 have rr_p_uncurled:=okR_p_uncurled (tk:=⟨K⟩) (P:=l.prog) (w:=w) (base:=base) h_p_uncurled (c_p_standings.mono (by decide)) (c_p_side_by_side.mono (by decide)) m_len mv
 have c_l_uncurled:=okT_l_uncurled (tk:=⟨K⟩) (P:=l.prog) (w:=w) (base:=base) h_l_uncurled (c_p_uncurled.mono (by decide)) (rr_p_uncurled.mono (by decide)) (hh_l_is_no_move.mono (by decide)) mv
 have c_l_taken:=ok_l_taken (tk:=⟨K⟩) (P:=l.prog) (w:=w) (base:=base) h_l_taken m_range m_len
 have c_l_right:=ok_l_right (tk:=⟨K⟩) (P:=l.prog) (w:=w) (base:=base) h_l_right (c_l_draw.mono (by decide)) (c_l_odd_name.mono (by decide)) (c_l_curled.mono (by decide)) (c_l_uncurled.mono (by decide)) (c_l_taken.mono (by decide)) (c_l_put_in.mono (by decide)) m_list m_len m_range m_isinstance
 have c_l_built_word:=ok_l_built_word (tk:=⟨K⟩) (P:=l.prog) (w:=w) (base:=base) h_l_built_word (c_l_draw.mono (by decide)) m_list m_len m_max
 have c_l_any_word:=ok_l_any_word (tk:=⟨K⟩) (P:=l.prog) (w:=w) (base:=base) h_l_any_word (c_l_draw.mono (by decide)) m_list m_range m_len
 have c_l_word:=ok_l_word (tk:=⟨K⟩) (P:=l.prog) (w:=w) (base:=base) h_l_word (c_l_any_word.mono (by decide)) (c_l_bag.mono (by decide)) (c_l_built_word.mono (by decide))
 exact L3.law_q (tk:=⟨K⟩) h_law sc_law (b_law (tk:=⟨K⟩) (c_l_cell.mono (by decide)) (c_l_names.mono (by decide)) (c_l_bag.mono (by decide)) (c_l_right.mono (by decide)) (c_l_word.mono (by decide))) (by decide) (fun ns _=>law_eq ns)
theorem walk{l:PySem.W.OpenLaw}{q:Program}{loose:List Str}{XP:(Str->Option Value)->Heap->Prop}{YP:World->Heap->Prop}{d:DefRec}{K:Params->PySem.W.Frag}{x:Str}{k:Nat}(hn:l.most=some 63)(hdf:d.params.defaults=[])(hk:k < 60)
  (hY:∀ (w:World) (h:Heap),YP w h->(K w.params).In h)
  (F:∀ (w:World) (mg:Str->Option Value) (fa:Addr) (h:Heap),(K w.params).In h->h.Ns mainGlobals mg->mg d.name=some (.ref fa)->
   ∃ fd:FuncData,(∀ (s:Shared) (u:Value),BindsTo s fd ⟨[u],[]⟩ [(x,u)])/\∀ base:Heap,(K w.params).In base->base.Ns mainGlobals mg->FnOk l.prog w (K w.params) mg base CX0 k fa fd [x] (L3.spLaw (K w.params))) :
  PySem.W.WalkO q loose XP YP l.row.toRowW d [] (fun f vs=>PySem.call f vs):=
 L2.walk_of (n:=63) (k:=k) (x:=x) (CX:=fun _=>CX0) (sp:=fun w=>L3.spLaw (K w.params)) hn (by decide) hdf (Room.mono (k:=60) ⟨rfl,by decide,by decide⟩ (by lia)) hY F (fun _ _ a ns hl hO hS=>⟨a,ns,rfl,hO,hS,hl,fun _=>rfl⟩) fun _ _ _ _ _ z=>z
end Dw
open PySem PySem.W PyProof.Rows
set_option maxRecDepth 100000 in
set_option maxHeartbeats 0 in
theorem PySem.Challenge.cw_drawnword_k35_curls_holds : PySem.Challenge.rw_drawnword_k35_curls.Holds := by
 w_on; o_law; k_head; (case hw=>w_witness2)
 k_fill
 refine Dw.walk (l:=PySem.Challenge.rw_drawnword_k35_curls) (x:="_law_script") (k:=7) rfl rfl (by decide) (fun w h Y=>PySem.W.kIn_of Y) ?F
 case F=>
  intro w mg fa h KX G hmg
  refine' Dw.all_mk KX G hmg ?a1 ?l1 ?c1 ?k1 ?a2 ?l2 ?c2 ?k2 ?a3 ?l3 ?c3 ?k3 ?a4 ?l4 ?c4 ?k4 ?a5 ?l5 ?c5 ?k5 ?a6 ?l6 ?c6 ?k6 ?a7 ?l7 ?c7 ?k7 ?a8 ?l8 ?c8 ?k8 ?a9 ?l9 ?c9 ?k9 ?a10 ?l10 ?c10 ?k10 ?a11 ?l11 ?c11 ?k11 ?a12 ?l12 ?c12 ?k12 ?a13 ?l13 ?c13 ?k13 ?a14 ?l14 ?c14 ?k14 ?a15 ?l15 ?c15 ?k15 ?a16 ?l16 ?c16 ?k16 ?a17 ?l17 ?c17 ?k17 ?a18 ?l18 ?c18 ?k18 ?a19 ?l19 ?c19 ?k19 ?a20 ?l20 ?c20 ?k20 ?a21 ?l21 ?c21 ?k21 ?a22 ?l22 ?c22 ?k22 ?a23 ?l23 ?c23 ?k23 ?a24 ?l24 ?c24 ?k24 ?z1 ?z2 ?z3 ?z4 ?z5 ?z6 ?z7 ?z8 ?q1 ?q2 ?xNoMove ?xDrawError ?xNoRow ?xNotDrawn ?xNoText ?xNoWord ?xAll
  (case a1=>k_is)
  (case l1=>k_is)
  (case c1=>k_is)
  (case k1=>k_is)
  (case a2=>k_is)
  (case l2=>k_is)
  (case c2=>k_is)
  (case k2=>k_is)
  (case a3=>k_is)
  (case l3=>k_is)
  (case c3=>k_is)
  (case k3=>k_is)
  (case a4=>k_is)
  (case l4=>k_is)
  (case c4=>k_is)
  (case k4=>k_is)
  (case a5=>k_is)
  (case l5=>k_is)
  (case c5=>k_is)
  (case k5=>k_is)
  (case a6=>k_is)
  (case l6=>k_is)
  (case c6=>k_is)
  (case k6=>k_is)
  (case a7=>k_is)
  (case l7=>k_is)
  (case c7=>k_is)
  (case k7=>k_is)
  (case a8=>k_is)
  (case l8=>k_is)
  (case c8=>k_is)
  (case k8=>k_is)
  (case a9=>k_is)
  (case l9=>k_is)
  (case c9=>k_is)
  (case k9=>k_is)
  (case a10=>k_is)
  (case l10=>k_is)
  (case c10=>k_is)
  (case k10=>k_is)
  (case a11=>k_is)
  (case l11=>k_is)
  (case c11=>k_is)
  (case k11=>k_is)
  (case a12=>k_is)
  (case l12=>k_is)
  (case c12=>k_is)
  (case k12=>k_is)
  (case a13=>k_is)
  (case l13=>k_is)
  (case c13=>k_is)
  (case k13=>k_is)
  (case a14=>k_is)
  (case l14=>k_is)
  (case c14=>k_is)
  (case k14=>k_is)
  (case a15=>k_is)
  (case l15=>k_is)
  (case c15=>k_is)
  (case k15=>k_is)
  (case a16=>k_is)
  (case l16=>k_is)
  (case c16=>k_is)
  (case k16=>k_is)
  (case a17=>k_is)
  (case l17=>k_is)
  (case c17=>k_is)
  (case k17=>k_is)
  (case a18=>k_is)
  (case l18=>k_is)
  (case c18=>k_is)
  (case k18=>k_is)
  (case a19=>k_is)
  (case l19=>k_is)
  (case c19=>k_is)
  (case k19=>k_is)
  (case a20=>k_is)
  (case l20=>k_is)
  (case c20=>k_is)
  (case k20=>k_is)
  (case a21=>k_is)
  (case l21=>k_is)
  (case c21=>k_is)
  (case k21=>k_is)
  (case a22=>k_is)
  (case l22=>k_is)
  (case c22=>k_is)
  (case k22=>k_is)
  (case a23=>k_is)
  (case l23=>k_is)
  (case c23=>k_is)
  (case k23=>k_is)
  (case a24=>k_is)
  (case l24=>k_is)
  (case c24=>k_is)
  (case k24=>k_is)
  (case z1=>k_is)
  (case z2=>k_is)
  (case z3=>k_is)
  (case z4=>k_is)
  (case z5=>k_is)
  (case z6=>k_is)
  (case z7=>k_is)
  (case z8=>k_is)
  (case q1=>k_is)
  (case q2=>k_is)
  (case xNoMove=>k_is)
  (case xDrawError=>k_is)
  (case xNoRow=>k_is)
  (case xNotDrawn=>k_is)
  (case xNoText=>k_is)
  (case xNoWord=>k_is)
  (case xAll=>kernel_rfl)
