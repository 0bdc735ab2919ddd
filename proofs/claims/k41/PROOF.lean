import PyProof.Rows.All
import Wide.All
import OpenK.AllK
import Wide.FinOn
import Lean
import PyProof.EqAt
import PyProof.EqKinds
import PyProof.TupleCall
import PyProof.EnumMake
import PyProof.EnumFor
import PyProof.NeKinds
import PyProof.EnumStmt
import PyProof.DictCompW
import KE.KDictList
import KE.KRevSl
import PyProof.ListRange
import PyProof.ConsumeWalk
import PyProof.SumWalk
import PyProof.MinMaxWalk
import PyProof.DictWalks
import PyProof.StrWalks
import PyProof.Rows.SortStr
import PyProof.Rows.SortShell
import PyProof.Rows.SortWalk
import PyProof.StrBlockG
import PyProof.StrLawsTight
import PyProof.Rows.RuleB_and
import PyProof.Rows.RuleB_or
import PyProof.Rows.SetFrom
import PyProof.SetRoads
import PyProof.Rows.SumAny
import KE.KRevIter
import PyProof.Rows.Range3
import KE.KDictLaws
import PyProof.ConsumeS
import PyProof.ZipIter
import PyProof.ListNew
import PyProof.Draws
import PyProof.SeqI3
import OpenK.KRaise
import PyProof.ExcBaseAll.ValueError
import PyProof.RulesAs
import OpenK.KDescr
import KE.KIsAll
import PyProof.ExcArgs
import PyProof.InstSpecial
import PyProof.ExcClass2
import PyProof.InstStore
import PyProof.InstStoreFacts
import PyProof.NsDelKeeps
import PyProof.AutoSeq1
import PyProof.CollectIter
import PyProof.StrCalls6
import PyProof.StrCalls
import PyProof.CallStr
import OpenK.KOwn
import PyProof.StrLawsChain
import PySem.Challenge.RW_drawnword_k41_texts_that_are_no_words
noncomputable section
open List renaming getElem?_eq_getElem->j3,getElem?_set_ne->jc,getElem?_eq_some_iff->jd,length_map->je,mem_cons_of_mem->jh,size_toArray->jj,getElem?_map->jk,all_eq_true->jm,map_cons->jp,length_append->js,length_cons->jw,mem_cons->jA,getElem?_set_self->jF,mem_cons_self->jG,mem_append_right->jH,mem_singleton->jI,range->jK,getD_eq_getElem?_getD->jM,length_take->jN,count_append->jO,mem_append->jQ,mem_range->jR,length_set->jT,mem_of_getElem?->jZ,mem_map->Q5,map_map->Q6,getElem_mem->Q8,nodup_cons->Qg,length_drop->Qk,map_congr_left->Ql,getElem?_append_left->Qn,mem_of_mem_take->Qt,find?_cons->Qz,count_cons->QB,foldl_cons->QC,take_of_length_le->QH,getElem?_append_right->QJ,count_le_length->QY,eraseIdx_eq_take_drop_succ->Z3,filterMap_cons->Z7,lookup_cons->Zg,count_eq_zero_of_not_mem->Zh,length_replicate->Zq,length_singleton->Zr,map_append->Zv,cons_lt_cons_iff->Zw,any_cons->ZA,length_range->ZB,mem_append_left->ZD,drop_eq_getElem_cons->ZF,getElem?_eq_none_iff->ZG,append_nil->ZU,getElem?_replicate->ZV,length_eq_zero_iff->ZY,sum_cons->ZZ,append_assoc->gc,all_eq_false->ge,replicate->gf,all_map->gh,getElem?_toArray->gi,take_append_drop->gk,not_mem_nil->gq,any_eq_true->gr,mem_of_mem_drop->gy,all_cons->gz,of_mem_zip->gE,length->gF,length_nil->gG,mem_filterMap->gV,map_nil->gZ,count_eq_zero->Y0,mem_or_eq_of_mem_set->Y4,take_succ->Y5,exists_mem_of_ne_nil->Y7,take_sublist->Ya,eq_of_mem_replicate->Yd,length_erase_of_mem->Yh,nodup_append->Yk,pairwise_mergeSort->Yx,getElem?_cons_succ->YF,drop_length->YI,nodup_range->YL,take_length->YM,length_eq_one_iff->YR,drop_eq_nil_of_le->YS,map_set->N5,length_eraseIdx->Nc,mem_erase_of_ne->Nd,nodup_nil->Nh,getElem?_range->Np,mergeSort_perm->Nq,getElem_range->NB,pairwise_cons->ND,map_replicate->NG,getElem_inj->Wb,countP_cons->Wd,filter_cons->We,mem_filter->Wh,forIn_cons->Wm,nil_append->Wr,count_set->Ww,drop_zero->Wy,map_drop->WP,map_take->WQ,any_map->J9
open PySem renaming wpAny_bind->j4,Value->j5,Shared->j6,sizeLine->ja,starEach->jb,wpAny_pure->jf,Addr->ji,mainGlobals->jr,Program->jt,wpAny->jy,model->jE,Around->jP,World->jS,Expr->jU,wpAny_setState_of->jY,wpAny_mono->Q7,bootBuiltins->Qj,Heap->Qq,backTo->Qr,sizeLine_eq->Qs,wpAny_truthy_bool->Qx,wpAny_newObj_type->Qy,wpAny_call_entry->QL,compareOp->QM,Stmt->QR,FuncData->QU,SetTable->QV,sysModules->Z0,foldedSetIterable->Z1,codeAny_builtin->Z5,behindInMarks->Z8,wpAny_holding->Z9,mem_of_lookup->Za,attributeBase->Zb,wpAny_getItem_str_slice->Zc,wpAny_callSpecial?_slot->Zd,scanBound->ZH,wpAny_setField->ZI,wpAny_askSetting->ZK,setEntries->ZN,wpAny_execs_nil->ZQ,letOwnedTupleGo->ZR,rawInt->ZS,wpAny_passesOwn->ZT,tupleKind_room_in1->ZW,cLine->g8,sliceBounds->gb,codeAny_call_builtin->gx,holding->gC,swapsWith->gD,post_val_or_str->gK,Scope->gO,wpAny_newFunctionEnv_cells->gQ,binaryOp->gW,codeAny_mono->gX,wpAny_Call_Name_kw->gY,codeAny->Y3,wpAny_fieldsOf->Y6,wpAny_pyIter_list->Y9,call_meets->Yb,wpAny_comprehension_free->Yc,GenState->Yq,bindArgs->Ys,NameKind->Yt,wpAny_Call_method0_late->Yu,plainId_quiet->YB,setNext->YC,wpAny_attempt->YD,wpAny_execs_cons->YG,pyNext->YH,checkBuiltinCall->YK,wpAny_Call_method_late->YO,tupleKind->YT,wpAny_isTrue_Compare1->YU,codeAny_call_function->YV,Builtin->YZ,builtinLookup_eq_fast->N1,typeIs_str->N6,relayAll->N7,wpAny_rule->N8,setsByText->N9,subscripted->Nl,evalArgs_none->Nm,keywordEach->Nn,Keyword->No,wpAny_isSubtype_exc->Nt,wpAny_standAt->Nx,seqIndex?->NA,spliced->NI,standAt->NJ,wpAny_assign_Name->NK,BindsTo->NL,slot_list_getitem->NM,PlainAttrs->NO,valueAt->NP,callerA->NT,wpAny_loadPart_at->NV,wpAny_storeSet_of->NW,fits_of_scanBound->NX,wpAny_pyIter_slot->NZ,wpAny_setEpoch_of->W0,seqIndex_neg->W6,call_meetsIn->W7,assign->Wi,cellsFrom->Wj,getItem->Wk,seqIndex_of->Wl,pickOrder->Wq,builtinsNs->WA,wpAny_Name->WB,Result->WF,call->WH,isInstance->WI,operate->WK,backToKw->WL,fieldsOf->WT,Paired->WY,pyIter->J0,again->J1,atKey->J2,bindL->Jc,bindC->Jd
open PySem.Heap renaming get?_push_of_some->j7,get?_push_size->jn,lt_size->jq,get?_update_self->Qa,SameBut->Qu,size_push->Qw,get?_update_other->Zk,ExtBut->Wp,MadeExcOf->Wx
open Option renaming bind_some->j8,map_some->jz,toList_some->NC,isSome_map->NR,getD_none->Wc
open PySem.W renaming Frag->j9,nsIn->jD,fnOf->jW,mg_none_of->Q1,keepIn->Q3,mg_of->Qo,codeIn->Zi,cellsFrom_some->g6,OpenLaw->gH,methodObj->Y8,hideAll_get->Yy,kitOne->Ni,codeRec_of->Ny,looks_findIn->Wa,WalkO->WN,excIn->WU,mroIn->WV,findIn->J4
open Option.some renaming inj->jg
open Nat renaming le_refl->jl,lt_of_lt_of_le->jC,ne_of_lt->jJ,le_trans->Q2,lt_irrefl->Qc,le_succ->QN,lt_succ_of_lt->Z2,zero_le->Zs,ne_of_gt->ZL,lt_succ_self->gp,not_lt_zero->gL,min_eq_left->gN,le_of_lt->gT,le_of_ble_eq_true->YY,zero_add->N2,le_succ_of_le->W3,le_of_eq->W8,min_eq_right->Wf
open Bool renaming and_eq_true->jo,false_ne_true->ju,or_eq_true->jX,eq_iff_iff->Qe,false_and->Qv,true_and->g5,and_false->Nj,not_eq_true'->NU,false_or->WM
open Int renaming toNat_natCast->jv,emod_lt_of_pos->Zn,emod_nonneg->g4,toNat_of_nonneg->Nu,zero_add->W9
open PySem.Txt renaming split->jx,upper->ZJ,replace->gd,join->gA,slice->gJ
open Array renaming length_toList->jB,getElem?_eq_getElem->QQ,append_assoc->ZP,getElem?_eq_none->g7,toList_inj->gt,getElem?_eq_some_iff->gR,getElem?_toList->YW,toArray_toList->Nf,toList_push->NY,size_append->W4,toList->WZ
open PySem.F renaming plainAttrs_str->jL,plainAttrs_list->Zf,slot_str_split->Zl,type_str_split->Zm,called_set->Zt,slot_str_join->Zx,type_str_join->Zy,slot_dict_get->gg,excBase_ValueError->gv,args_str_split_2->Y1,slot_dict_values->Ye,entry_str_split->Yg,args_dict_get_3->Yv,plainAttrs_dict->Yw,slot_str_split->YJ,entry_dict_get->YQ,typeOf_object_class->N0,slot_list_pop->N3,type_list_pop->N4,excAttr_ValueError->Nb,plain_list_iadd->W2,plain_set_new->Wo,slot_set_iter->Ws
open PySem.Value renaming ref->jV,none->QZ,str->Zo,isStrOf->ZO,builtin->Yz,isStrOf_shape->Nk,type->Wz,int->WX,isInt->Ja
open Or renaming inl->Q0,inr->YX
open PySem.NameKind renaming free->Q4,cell->WO
open PySem.Heap.SameBut renaming update->Q9
open PyProof.Rows renaming callWith_type1->Qd,envOfC->ZC,AllBare->Yp,subscriptTail_builtinR->YN,subscriptTail->Nz,IntsAre->NS,StrsAre->Wn,boot_range->WC,Subscript_->WG
open PySem.Calls renaming spliced_cons->Qf,callWith_builtin->QF,evalArgs_plain->ZE,spliced_nil->g9,Name_function_global->gP,Constant_str->gU
open PySem.Str renaming empty->Qh,join->Ze,ofString->Zu,length->NN,ext'->WW
open PySem.Builtin.Str renaming occurrences->Qi,partsBetween->Z4,strSliceIndices->Zz,strKind->Nr
open ForInStep renaming yield->Qp
open PySem.Unicode renaming upperOf->QD
open False renaming elim->QK
open PySem.SetTable renaming below->QP,grown->Zj
open PySem.Around renaming under_plainId->QX,frames_deeper->Na
open PySem.PassesOwn renaming never->Z6
open Ne renaming symm->Zp
open PySem.Obj renaming mapSeq->ZM,mapFields->YE,putSet->WJ
open PyProof.Rows.F renaming plain_set_update_loop->ZX,entry_set_update_loop->YA
open PySem.Challenge renaming pw_drawnword_k41_texts_that_are_no_words->gm
open Sum renaming inr->gB,inl->NH
open PySem.Builtin.List renaming listExtendWith->gM,listSameRef->Yj
open PySem.StrLaws renaming join_split->Y2,sliceText->Ym,split_free->NF
open List.Perm renaming eq_of_pairwise->Yf,refl->Ng
open PySem.Builtin.Frozenset renaming sizeOf->Yi,updateFrom->Wg,newClass->Wt
open List.Pairwise renaming imp_of_mem->Yl,map->W5,nil->Jh
open Sum.inr renaming inj->Yn
open PySem.Paired renaming length->Yo,snoc->Je
open PySem.Builtin.Range renaming rangeSize->Yr
open PySem.SeqAt.EqAt renaming int_str->Nv,str_int->Nw
open PySem.Code renaming quiet_builtin->NE
open True renaming intro->NQ
open PySem.SetTable.below renaming go->W1
open PySem.EqMixed renaming eq_bool_str->Wu,eq_str_bool->Wv,eq_int_str->WD,eq_str_int->WE
open PySem.Heap.UpToSlots renaming of_keeps->WR
open PySem.Shared renaming TypeIs->WS
open Nat.succ renaming inj->J3
open PySem.pickOrder renaming go->J8
open PySem.IsRange renaming new->Jb
open PySem.Heap.IsSliceOf renaming new->Jf
open PySem.W.WShape renaming has->Jg
set_option Elab.async false
set_option linter.all false
set_option maxRecDepth 100000
theorem Qb{α β:Type _}{x:Option α}{f:α->Option β}{b:β}(h:x.bind f=some b):∃ a,x=some a/\f a=some b:=Option.bind_eq_some_iff.mp h
theorem Qm{α β:Type _}{x:Option α}{f:α->β}{b:β}(h:x.map f=some b):∃ a,x=some a/\f a=b:=Option.map_eq_some_iff.mp h
theorem Df_{p:Prop}[Decidable p](h:¬p):decide p=false:=decide_eq_false h
theorem Dt_{p:Prop}[Decidable p](h:p):decide p=true:=decide_eq_true h
theorem Ip_{c:Prop}{h:Decidable c}(hc:c){α:Sort _}{t e:α}:ite c t e=t:=if_pos hc
theorem In_{c:Prop}{h:Decidable c}(hc:¬c){α:Sort _}{t e:α}:ite c t e=e:=if_neg hc
namespace L2
open PySem PySem.Spec PyProof.Rows
variable {H:Hp}{h h':Qq}{a:ji}{X:Cx}{pc:List (ji × Obj)}{s:j6}{b e:jU}{ta tb:TE}{pos:Pos}{σ:St}{es:List jU}{t:TA}
abbrev Key:=Sum Int Str
def zgf:Key->j5->Bool
 |.inl k,v=>Ja k v
 |.inr x,v=>ZO x v
def zrN(w:jS):Key->Int
 |.inl k=>hashInt k
 |.inr x=>hashStr w x
theorem zar:∀ {k:Key} {v:j5},zgf k v=true->(∃ i t,k=NH i/\v=WX i t)∨(∃ x t,k=gB x/\v=Zo x t)
 |.inl i,v,h=>by
  obtain⟨t,e⟩:=Value.isInt_shape (k:=i) (v:=v) h;exact .inl ⟨i,t,rfl,e⟩
 |.inr x,v,h=>by
  obtain⟨t,e⟩:=Nk (x:=x) (v:=v) h;exact .inr ⟨x,t,rfl,e⟩
theorem ziZ(i:Int)(t:Tok):zgf (.inl i) (.int i t)=true:=by simp[zgf,Ja]
theorem ziY(x:Str)(t:Tok):zgf (.inr x) (.str x t)=true:=by simp[zgf,ZO]
theorem zoh(a b:Int):decide ((NH a:Key)=NH b)=(a == b):=by
 by_cases e:a=b
 ·subst e; simp
 ·have h:¬ (NH a:Key)=NH b:=fun q=>e (Sum.inl.inj q);rw[Df_ h];exact(beq_eq_false_iff_ne.mpr e).symm
theorem zoe(a b:Str):decide ((gB a:Key)=gB b)=decide (a=b):=by
 by_cases e:a=b
 ·subst e; simp
 ·have h:¬ (gB a:Key)=gB b:=fun q=>e (Yn q);rw[Df_ h,Df_ e]
theorem zog(a:Int)(b:Str):decide ((NH a:Key)=gB b)=false:=Df_ (fun q=>nomatch q)
theorem zof(a:Str)(b:Int):decide ((gB a:Key)=NH b)=false:=Df_ (fun q=>nomatch q)
def zaC(prog:jt)(w:jS):PySem.KeyKind prog w Key where
 is:=zgf
 hash:=zrN w
 inj:=fun v a b ha hb=>by
  rcases zar ha with ⟨i,t,rfl,rfl⟩ |⟨x,t,rfl,rfl⟩
  ·rcases zar hb with ⟨j,u,rfl,e⟩ |⟨y,u,rfl,e⟩
   ·injection e with e1 _; rw[e1]
   ·exact nomatch e
  ·rcases zar hb with ⟨j,u,rfl,e⟩ |⟨y,u,rfl,e⟩
   ·exact nomatch e
   ·injection e with e1 _; rw[e1]
 byValue:=fun k v h=>by
  rcases zar h with ⟨i,t,rfl,rfl⟩ |⟨x,t,rfl,rfl⟩<;>rfl
 pyHash:=fun hv h=>by
  rcases zar hv with ⟨i,t,rfl,rfl⟩ |⟨x,t,rfl,rfl⟩
  ·exact wpAny_pyHash_int h
  ·exact wpAny_pyHash_str h
 eqBool:=fun hu hv h=>by
  rcases zar hu with ⟨i,t,rfl,rfl⟩ |⟨x,t,rfl,rfl⟩
  ·rcases zar hv with ⟨j,u,rfl,rfl⟩ |⟨y,u,rfl,rfl⟩
   ·rw[zoh] at h; exact wpAny_eqBool_int h
   ·rw[zog] at h; exact Nv i t y u _ _ _ _ h
  ·rcases zar hv with ⟨j,u,rfl,rfl⟩ |⟨y,u,rfl,rfl⟩
   ·rw[zof] at h; exact Nw x t j u _ _ _ _ h
   ·rw[zoe] at h; exact wpAny_eqBool_str h
 «strs»:=fun k x t v h=>by
  rcases zar h with ⟨i,u,rfl,e⟩ |⟨y,u,rfl,e⟩
  ·exact nomatch e
  ·injection e with e1 _;subst e1;cases v<;>rfl
theorem zgd(prog:jt)(w:jS)(i:Int)(t:Tok):(zaC prog w).is (.inl i) (.int i t)=true:=ziZ i t
theorem zgc(prog:jt)(w:jS)(x:Str)(t:Tok):(zaC prog w).is (.inr x) (.str x t)=true:=ziY x t
inductive V where
 |non |bl (b:Bool) |int (i:Int) |str (x:Str) |byt (b:Array UInt8) |flt (b:UInt64) |ref (a:ji) |ty (n:String)
 deriving DecidableEq
def RelV:V->j5->Prop
 |.non,u=>u=QZ
 |.bl b,u=>u=Value.bool b
 |.int i,u=>∃ t,u=WX i t
 |.str x,u=>∃ t,u=Zo x t
 |.byt b,u=>∃ t,u=Value.bytes b t
 |.flt b,u=>∃ t,u=Value.float b t
 |.ref a,u=>u=jV a
 |.ty n,u=>u=Wz n
abbrev Vals:List V->List j5->Prop:=WY RelV
theorem Vals.length{xs:List V}{us:List j5}(r:Vals xs us):xs.length=us.length:=Yo r
theorem Vals.get:∀ {xs:List V} {us:List j5} {i:Nat} {x:V},Vals xs us->xs[i]?=some x->∃ u,us[i]?=some u/\RelV x u
 |_,_,_,_,.nil,e=>by simp at e
 |_,_,0,_,.cons r _,e=>by simp at e; subst e; exact⟨_,rfl,r⟩
 |_,_,i+1,x,.cons _ t,e=>by
  obtain⟨u,h1,h2⟩:=Vals.get (i:=i) (x:=x) t (by simpa using e)
  exact⟨u,by simpa using h1,h2⟩
theorem Vals.set{x:V}{u:j5}(r:RelV x u):∀ {xs:List V} {us:List j5} (i:Nat),Vals xs us->Vals (xs.set i x) (us.set i u)
 |_,_,_,.nil=>.nil
 |_,_,0,.cons _ t=>.cons r t
 |_,_,i+1,.cons q t=>.cons q (Vals.set r i t)
theorem Vals.append:∀ {xs ys:List V} {us ws:List j5},Vals xs us->Vals ys ws->Vals (xs++ys) (us++ws)
 |_,_,_,_,.nil,s=>s
 |_,_,_,_,.cons r t,s=>.cons r (Vals.append t s)
theorem Vals.take:∀ {xs:List V} {us:List j5} (n:Nat),Vals xs us->Vals (xs.take n) (us.take n)
 |_,_,0,_=>.nil
 |_,_,_+1,.nil=>.nil
 |_,_,n+1,.cons r t=>.cons r (Vals.take n t)
theorem Vals.drop:∀ {xs:List V} {us:List j5} (n:Nat),Vals xs us->Vals (xs.drop n) (us.drop n)
 |_,_,0,r=>r
 |_,_,_+1,.nil=>.nil
 |_,_,n+1,.cons _ t=>Vals.drop n t
def RelO:Option V->Option j5->Prop
 |some v,some u=>RelV v u
 |none,none=>True
 |_,_=>False
def KV{κ:Type}:List (κ × V)->List (κ × j5)->Prop:=WY fun(p:κ × V) (q:κ × j5)=>p.1=q.1/\RelV p.2 q.2
def kV:Key->V
 |.inl i=>.int i
 |.inr x=>.str x
inductive HO where
 /-- a list -/
 |lst (xs:List V)
 /-- a tuple (never changes) -/
 |tup (xs:List V)
 /-- a dict whose keys are ints and texts; one whose keys are tuples of ints and texts (the empty one is both) -/
 |dK (kvs:List (Key × V)) |dT (kvs:List (List Key × V))
 /-- a set of ints: its members,its size -/
 |set (S:Int->Bool) (n:Nat)
 /-- an instance of the class at C,its dict at dx,its attributes -/
 |ins (C dx:ji) (fs:List (Str × V))
 /-- the dict of the instance at x -/
 |own (x:ji)
 /-- the dict of an exception -/
 |xd (fs:List (Str × V))
 /-- a bound method,f of x -/
 |met (f x:ji)
 /-- a range object lo,lo+1,.. below hi -/
 |rng (lo hi:Int)
 /-- a thing that is known to the object (the script; a dict while a loop walks it): read,never written while it is so -/
 |frz (o:Obj) (u:HO)
 /-- a code object's table -/
 |tbl (ps:Array j5)
 /-- any other thing,by what is true of its one object (a def of one's own: SetO a S n:=HO.ext fun h=>..) -/
 |ext (φ:Qq->Prop)
abbrev Hp:=ji->Option HO
def upd(H:Hp)(a:ji)(o:HO):Hp:=fun b=>if b=a then some o else H b
theorem za5{H:Hp}{a:ji}{o:HO}:upd H a o a=some o:=by unfold upd; rw[Ip_ rfl]
theorem za1{H:Hp}{a b:ji}{o:HO}(h:b≠a):upd H a o b=H b:=by unfold upd; rw[In_ h]
theorem zqo{H:Hp}{a b:ji}{o u:HO}(h:H a=some o)(h':H b=some u)(d:o≠u):a≠b:=by
 intro e; subst e; rw[h] at h'; exact d (jg h')
theorem zaa{H:Hp}{a b:ji}{o:HO}(h:H a=some o)(h':H b=none):a≠b:=by
 intro e; subst e; rw[h] at h'; cases h'
section
variable (P:jt)(w:jS)
def ObjOk(H:Hp)(h:Qq)(a:ji):HO->Prop
 |.lst xs=>xs.length<=ja/\∃(its:List j5) (n:Nat),Vals xs its/\h.get? a=some { cls:=.type "list",data:=.seq its.toArray n }
 |.tup xs=>xs.length<=ja/\∃ its:List j5,Vals xs its/\IsTup h a its.toArray
 |.dK kvs=>kvs.length<=ja/\(a == Z0)=false/\∃ vs,KV kvs vs/\h.DictOf (zaC P w) a vs
 |.dT kvs=>kvs.length<=ja/\(a == Z0)=false/\∃ xs:List (List Key × ji × j5),
   WY (fun(p:List Key × V) (q:List Key × ji × j5)=>p.1=q.1/\H q.2.1=some (.tup (p.1.map kV))/\RelV p.2 q.2.2) kvs xs /\
   ∃ o es ep,h.get? a=some o/\o.ExactDict/\o.data=.dict es ep/\es.toList=xs.map (entryOfKey (YT (zaC P w)))/\(xs.map (·.1)).Nodup
 |.set S n=>h.SetOf (intKind P w) a S n
 |.ins C dx fs=>H dx=some (.own a)/\fs.length<=1000/\dx≠a/\h.get? a=some (PySem.W.instObj C dx) /\
   ∃ mA,h.Ns1 dx mA/\(∀ f,RelO (fs.lookup f) (mA f))/\PySem.Within mA (fs.map (·.1))
 |.own _=>∃ o,h.get? a=some o
 |.xd fs=>∃ mA,h.Ns1 a mA/\∀ f,RelO (fs.lookup f) (mA f)
 |.rng lo hi=>∃ t u v,h.get? a=some { cls:=.type "range",data:=.fields #[.int lo t,.int hi u,.int 1 v] }
 |.frz o u=>h.get? a=some o/\ObjOk H h a u
 |.tbl ps=>h.get? a=some { cls:=.none,data:=.fields ps }
 |.met f x=>h.get? a=some (Y8 (.ref f) (.ref x))
 |.ext φ=>φ h/\(∃ o,h.get? a=some o)/\∀ h1 h2:Qq,φ h1->(∀ o,h1.get? a=some o->h2.get? a=some o)->φ h2
def HOk(H:Hp)(h:Qq):Prop:=∀ a o,H a=some o->ObjOk P w H h a o
end
section
variable {P:jt}{w:jS}{H':Hp}{o:HO}
theorem ObjOk.lt(x:ObjOk P w H h a o):a < h.objs.size:=by
 cases o with
 |lst xs=>obtain⟨_,_,_,_,e⟩:=x; exact jq e
 |tup xs=>obtain⟨_,_,_,p⟩:=x; exact p.lt
 |dK kvs=>obtain⟨_,_,_,_,o,_,_,e,_⟩:=x; exact jq e
 |dT kvs=>obtain⟨_,_,_,_,o,_,_,e,_⟩:=x; exact jq e
 |set S n=>obtain⟨o,_,_,_,e,_⟩:=x; exact jq e
 |ins C dx fs=>obtain⟨_,_,_,e,_⟩:=x; exact jq e
 |own y=>obtain⟨_,e⟩:=x; exact jq e
 |xd fs=>obtain⟨_,⟨_,_,_,e,_⟩,_⟩:=x; exact jq e
 |rng lo hi=>obtain⟨_,_,_,e⟩:=x; exact jq e
 |frz ob u=>obtain⟨e,_⟩:=x; exact jq e
 |tbl ps=>exact jq (show h.get? a=some _ from x)
 |met f y=>exact jq (show h.get? a=some _ from x)
 |ext φ=>obtain⟨_,⟨_,e⟩,_⟩:=x; exact jq e
theorem Paired.mapP{α β:Type}{F G:α->β->Prop}:∀ {l₁:List α} {l₂:List β},WY F l₁ l₂->(∀ a b,F a b->G a b)->WY G l₁ l₂
 |_,_,.nil,_=>.nil
 |_,_,.cons r t,f=>.cons (f _ _ r) (Paired.mapP t f)
theorem ObjOk.stay(x:ObjOk P w H h a o)(k:∀ b u,(b=a∨H b=some (.own a))->h.get? b=some u->h'.get? b=some u)
  (ho:∀ b,H b=some (.own a)->H' b=some (.own a)) (ht:∀ b xs,H b=some (.tup xs)->H' b=some (.tup xs)):ObjOk P w H' h' a o:=by
 induction o with
 |lst xs=>obtain⟨z,its,n,r,e⟩:=x; exact⟨z,its,n,r,k _ _ (.inl rfl) e⟩
 |tup xs=>obtain⟨z,its,r,ob,e,c⟩:=x; exact⟨z,its,r,ob,k _ _ (.inl rfl) e,c⟩
 |dK kvs=>obtain⟨z,y,vs,r,ob,es,ep,e,c⟩:=x; exact⟨z,y,vs,r,ob,es,ep,k _ _ (.inl rfl) e,c⟩
 |dT kvs=>
  obtain⟨z,y,xs,r,ob,es,ep,e,c⟩:=x;exact⟨z,y,xs,Paired.mapP r fun p q z=>⟨z.1,ht _ _ z.2.1,z.2.2⟩,ob,es,ep,k _ _ (.inl rfl) e,c⟩
 |set S n=>obtain⟨ob,es,ep,t,e,c⟩:=x; exact⟨ob,es,ep,t,k _ _ (.inl rfl) e,c⟩
 |ins C dx fs=>
  obtain⟨d,z,ne,e,mA,⟨od,es,ep,e2,c⟩,r⟩:=x;exact⟨ho _ d,z,ne,k _ _ (.inl rfl) e,mA,⟨od,es,ep,k _ _ (.inr d) e2,c⟩,r⟩
 |own y=>obtain⟨ob,e⟩:=x; exact⟨ob,k _ _ (.inl rfl) e⟩
 |xd fs=>obtain⟨mA,⟨od,es,ep,e,c⟩,r⟩:=x; exact⟨mA,⟨od,es,ep,k _ _ (.inl rfl) e,c⟩,r⟩
 |rng lo hi=>obtain⟨t,u,v,e⟩:=x; exact⟨t,u,v,k _ _ (.inl rfl) e⟩
 |frz ob u ih=>obtain⟨e,q⟩:=x; exact⟨k _ _ (.inl rfl) e,ih q⟩
 |tbl ps=>
  have e:h.get? a=some { cls:=.none,data:=.fields ps }:=x;show h'.get? a=some { cls:=.none,data:=.fields ps };exact k a _ (.inl rfl) e
 |met f y=>
  have e:h.get? a=some (Y8 (.ref f) (.ref y)):=x;show h'.get? a=some (Y8 (.ref f) (.ref y));exact k a _ (.inl rfl) e
 |ext φ=>obtain⟨p,⟨o,e⟩,st⟩:=x; exact⟨st _ _ p fun o q=>k _ _ (.inl rfl) q,⟨o,k _ _ (.inl rfl) e⟩,st⟩
theorem HOk.lt(x:HOk P w H h)(e:H a=some o):a < h.objs.size:=(x a o e).lt
theorem HOk.fresh(x:HOk P w H h)(e:h.objs.size<=a):H a=none:=by
 cases q:H a with
 |none=>rfl
 |some u=>exact absurd (jC (x.lt q) e) (Qc _)
theorem HOk.kept(x:HOk P w H h)(k:∀ b u,h.get? b=some u->h'.get? b=some u):HOk P w H h':=fun a o e=>
 (x a o e).stay (fun b u _ q=>k b u q) (fun _ q=>q) fun _ _ q=>q
theorem HOk.laid(x:HOk P w H h)(k:∀ b u,h.get? b=some u->h'.get? b=some u)(hp:h.objs.size<=a)(new:ObjOk P w (upd H a o) h' a o):HOk P w (upd H a o) h':=fun b u e=>by
 have hn:=x.fresh hp
 by_cases hb:b=a
 ·subst hb; rw[za5] at e; cases e; exact new
 ·rw[za1 hb] at e;exact(x b u e).stay (fun c v _ q=>k c v q) (fun c q=>by rw[za1 (zaa q hn)]; exact q) fun c xs q=>by rw[za1 (zaa q hn)]; exact q
end
def Rd(H:Hp)(a:ji)(u:HO):Prop:=H a=some u∨∃ o,H a=some (.frz o u)
theorem Rd.ok{P:jt}{w:jS}{H:Hp}{h:Qq}{a:ji}{u:HO}(r:Rd H a u)(x:HOk P w H h):ObjOk P w H h a u:=by
 rcases r with r |⟨o,r⟩
 ·exact x a u r
 ·obtain⟨_,q⟩:=x a _ r;exact q
def Mut:Option HO->Prop
 |some (.lst _)=>True
 |some (.dK _)=>True
 |some (.dT _)=>True
 |some (.set _ _)=>True
 |some (.ins _ _ _)=>True
 |some (.ext _)=>True
 |_=>False
section
variable {P:jt}{w:jS}{x e:ji}{o':HO}
theorem HOk.write(ok:HOk P w H h)(mu:Mut (H x))(he:e=x∨H e=some (.own x))(k:∀ b u,b≠e->h.get? b=some u->h'.get? b=some u)(heo:∃ u,h'.get? e=some u)
  (new:ObjOk P w (upd H x o') h' x o'):HOk P w (upd H x o') h':=fun b u q=>by
 have nown:∀ c y,H c=some (.own y)->c≠x:=fun c y r z=>by subst z; rw[r] at mu; exact mu
 have ntup:∀ c xs,H c=some (.tup xs)->c≠x:=fun c xs r z=>by subst z; rw[r] at mu; exact mu
 by_cases hb:b=x
 ·subst hb; rw[za5] at q; cases q; exact new
 ·rw[za1 hb] at q
  by_cases hbe:b=e
  ·have q':H b=some (.own x):=by
    rcases he with z |z
    ·exact absurd (hbe.trans z) hb
    ·rw[hbe]; exact z
   rw[q] at q'; cases q';obtain⟨v,hv⟩:=heo;exact⟨v,by rw[hbe]; exact hv⟩
  ·refine(ok b u q).stay (fun c v hc r=>k c v ?_ r) (fun c r=>by rw[za1 (nown c b r)]; exact r) fun c xs r=>by rw[za1 (ntup c xs r)]; exact r
   rcases hc with rfl |hc
   ·exact hbe
   ·rintro rfl;rcases he with z |z
    ·exact nown c b hc z
    ·rw[hc] at z; cases z; exact hb rfl
end
structure Un (fs ex:List ji) (H H':Hp) (h h':Qq):Prop where
 keep:∀ b o,h.get? b=some o->H b=none->b∉fs->b∉ex->h'.get? b=some o
 slot:∀ b o,h.get? b=some o->H b=none->b∈fs->b∉ex->∃ sl,h'.get? b=some { o with slots:=sl }
 free:∀ b o,h.get? b=some o->H b=none->b∉ex->H' b=none
 there:∀ b o,h.get? b=some o->b∉ex->∃ o',h'.get? b=some o'
 tups:∀ b xs,H b=some (.tup xs)->H' b=some (.tup xs)
 frzs:∀ b o u,H b=some (.frz o u)->H' b=some (.frz o u)
 tbls:∀ b ps,H b=some (.tbl ps)->∃ more,H' b=some (.tbl (ps++more))
section
variable {fs fs' ex ex':List ji}{H1 H2:Hp}{h1 h2:Qq}{x e:ji}{o:HO}
theorem Un.any(u:Un fs ex H H1 h h1){b:ji}{ob:Obj}(q:h.get? b=some ob)(n:H b=none)(hx:b∉ex):∃ sl,h1.get? b=some { ob with slots:=sl }:=by
 by_cases hb:b∈fs
 ·exact u.slot b ob q n hb hx
 ·exact⟨ob.slots,u.keep b ob q n hb hx⟩
theorem Un.kept(k:∀ b u,h.get? b=some u->h'.get? b=some u):Un fs ex H H h h':=
 ⟨fun b ob q _ _ _=>k b ob q,fun b ob q _ _ _=>⟨ob.slots,k b ob q⟩,fun _ _ _ n _=>n,fun b ob q _=>⟨ob,k b ob q⟩,fun _ _ q=>q,fun _ _ _ q=>q,fun _ ps q=>⟨#[],by rw[q]; simp⟩⟩
theorem Un.refl:Un fs ex H H h h:=Un.kept fun _ _ q=>q
theorem Un.laid(k:∀ b u,h.get? b=some u->h'.get? b=some u)(hp:h.objs.size<=a)(hn:H a=none):Un fs ex H (upd H a o) h h' where
 keep:=fun b u q _ _ _=>k b u q
 slot:=fun b u q _ _ _=>⟨u.slots,k b u q⟩
 free:=fun b u q n _=>by rw[za1 (jJ (jC (jq q) hp))]; exact n
 there:=fun b u q _=>⟨u,k b u q⟩
 tups:=fun b xs q=>by rw[za1 (zaa q hn)]; exact q
 frzs:=fun b u xs q=>by rw[za1 (zaa q hn)]; exact q
 tbls:=fun b ps q=>⟨#[],by rw[za1 (zaa q hn),q]; simp⟩
theorem Un.write(mu:Mut (H x))(he:e=x∨H e=some (.own x))(k:∀ b u,b≠e->h.get? b=some u->h'.get? b=some u)(heo:∃ u,h'.get? e=some u):Un fs ex H (upd H x o) h h':=by
 have hx:∀ b,H b=none->b≠x:=fun b n z=>by subst z; rw[n] at mu; exact mu
 have hb:∀ b,H b=none->b≠e:=fun b n z=>by
  subst z;rcases he with r |r
  ·exact hx b n r
  ·rw[n] at r; cases r
 have hm:∀ b u,H b=some u->¬ Mut (some u)->b≠x:=fun b u q nm z=>by subst z; rw[q] at mu; exact nm mu
 refine⟨fun b u q n _ _=>k b u (hb b n) q,fun b u q n _ _=>⟨u.slots,k b u (hb b n) q⟩,fun b u q n _=>by rw[za1 (hx b n)]; exact n,fun b u q _=>?_,
  fun b xs q=>by rw[za1 (hm b _ q fun z=>z)]; exact q,fun b u xs q=>by rw[za1 (hm b _ q fun z=>z)]; exact q,fun b ps q=>⟨#[],by rw[za1 (hm b _ q fun z=>z),q]; simp⟩⟩
 by_cases hbe:b=e
 ·subst hbe; exact heo
 ·exact⟨u,k b u hbe q⟩
end
def trk(h:Qq)(H:Hp):List ji:=(jK h.objs.size).filter fun a=>(H a).isSome
def zkw(h:Qq)(H:Hp):Qq:=PySem.W.hideAll h (trk h H)
theorem zja(h:Qq)(H:Hp):(zkw h H).objs.size=h.objs.size:=PySem.W.hideAll_size _ _
theorem zkv{h:Qq}{H:Hp}{b:ji}{o:Obj}(e:h.get? b=some o)(n:H b=none):(zkw h H).get? b=some o:=
 PySem.W.hideAll_get _ e fun hm=>by
  have q:(H b).isSome=true:=(Wh.mp hm).2;rw[n] at q; simp at q
theorem zmt{h:Qq}{H:Hp}{b:ji}{o:Obj}(e:(zkw h H).get? b=some o):h.get? b=some o/\H b=none:=by
 have e':h.get? b=some o:=PySem.W.of_hideAll (trk h H) e;refine⟨e',?_⟩;cases q:H b with
 |none=>rfl
 |some x=>
  have hm:b∈trk h H:=Wh.mpr ⟨jR.mpr (jq e'),by simp[q]⟩
  have z:(zkw h H).get? b=none:=PySem.W.hideAll_none (trk h H) hm;rw[z] at e; cases e
structure Mod (K:j9) (mg:Str->Option j5) (base:Qq):Prop where
 kin:K.In base
 glob:base.Ns jr mg
 blt:∃ mb,base.Ns WA mb/\∀ x:Str,x≠"__name__"->mb x=Qj x
 nolimit:base.NoLimit
structure Cx where
 prog:jt
 w:jS
 K:j9
 mg:Str->Option j5
 base:Qq
 A:jP
 N:List Str
 s₀:j6
 H₀:Hp
 env:Env
 outer:List Env
 stack:List Env
 ex:List ji
 fn:Str->Bool
 calm:Bool
 pn:List (ji × Obj)
 xe:j5->j6->Prop
def frs(l:List Env):List ji:=l.filterMap (·.frame)
abbrev Cx.fs(X:Cx):List ji:=frs X.outer
def Vis(sc:gO)(x:Str):Prop:=sc.names.lookup x=some .local∨sc.names.lookup x=some .cell∨sc.names.lookup x=some .free
def Loc(sc:gO)(x:Str):Prop:=sc.names.lookup x=some .local∨sc.names.lookup x=some .cell
def zrY(env:Env)(h:Qq)(m:Str->Option j5)(x:Str)(u:j5):Prop:=
 (env.kindOf x=some .local/\m x=some u)∨((env.kindOf x=some .cell∨env.kindOf x=some .free)/\∃ c,env.cells.lookup x=some c/\h.IsCell c (some u))
structure Cx.Ok (X:Cx):Prop where
 mod:Mod X.K X.mg X.base
 kind:X.env.scope.kind=.function
 glob:X.env.globals=jr
 blt:X.env.builtins=WA
 above:X.s₀.heap.objs.size<=X.env.locals
 inj:∀ x y c,X.env.cells.lookup x=some c->X.env.cells.lookup y=some c->x=y
 has:∀ x,(X.env.kindOf x=some .cell∨X.env.kindOf x=some .free)->∃ c,X.env.cells.lookup x=some c
 cab:∀ x c,X.fn x=true->X.env.cells.lookup x=some c->X.s₀.heap.objs.size<=c
 hd:X.calm=true->X.A.handled=none
 frames:X.A.frames=some X.stack
 stk:X.stack=X.outer∨(X.stack=X.env::X.outer/\X.env.frame=some X.env.locals)
 exf:∀ b∈X.ex,b≠X.env.locals/\∀ x c,X.env.cells.lookup x=some c->c≠b
 bs:∀ b o,X.base.get? b=some o->X.s₀.heap.get? b=some o/\X.H₀ b=none
 bsz:X.base.objs.size<=X.s₀.heap.objs.size
 noex:∀ b o,X.base.get? b=some o->b∉X.ex
 exfs:∀ b∈X.ex,b∉X.fs
 funs:X.s₀.heap.FunFrames X.base X.outer
 frf:∀ b∈X.fs,X.H₀ b=none
structure Inv (X:Cx) (pc:List (ji × Obj)) (σ:List (Option V)) (H:Hp) (s:j6):Prop where
 ok:X.Ok
 os:s.os=X.s₀.os
 bare:Yp s.gens
 base:Un X.fs X.ex X.H₀ H X.s₀.heap s.heap
 loc:∃ m,s.heap.Ns X.env.locals m/\∀(i:Nat) (x:Str) (v:V),X.N[i]?=some x->σ[i]?=some (some v)->Vis X.env.scope x->∃ u,RelV v u/\zrY X.env s.heap m x u
 cell:∀ x c,X.env.cells.lookup x=some c->∃ v,s.heap.IsCell c v
 free:H X.env.locals=none
 freeC:∀ x c,X.env.cells.lookup x=some c->H c=none
 pin:∀ p∈X.pn++pc,s.heap.get? p.1=some p.2/\H p.1=none/\p.1≠X.env.locals/\p.1∉X.fs/\∀ v,p.2.data≠.cell v
 hok:HOk X.prog X.w H s.heap
 len:σ.length=X.N.length
section
variable {σ:List (Option V)}{H':Hp}
theorem Cx.Ok.nofr(ok:X.Ok){b:ji}{o:Obj}(e:X.base.get? b=some o):b∉X.fs:=fun hb=>by
 have:=(ok.funs.mem hb).1;rw[e] at this; cases this
theorem Inv.bs(I:Inv X pc σ H s):∀ b o,X.base.get? b=some o->s.heap.get? b=some o/\H b=none:=fun b o e=>
 ⟨I.base.keep b o (I.ok.bs b o e).1 (I.ok.bs b o e).2 (I.ok.nofr e) (I.ok.noex b o e),I.base.free b o (I.ok.bs b o e).1 (I.ok.bs b o e).2 (I.ok.noex b o e)⟩
theorem Inv.bk(I:Inv X pc σ H s):∀ b o,X.base.get? b=some o->s.heap.get? b=some o:=fun b o e=>(I.bs b o e).1
theorem Inv.mod(I:Inv X pc σ H s):Mod X.K X.mg X.base:=I.ok.mod
theorem Inv.kIn(I:Inv X pc σ H s):X.K.In s.heap:=I.ok.mod.kin.keeps I.bk
theorem Inv.lt(I:Inv X pc σ H s):X.env.locals < s.heap.objs.size:=let ⟨_,hn,_⟩:=I.loc; hn.lt
theorem Inv.sz(I:Inv X pc σ H s):X.s₀.heap.objs.size<=s.heap.objs.size:=Q2 I.ok.above (gT I.lt)
theorem Inv.nofs(I:Inv X pc σ H s){a:ji}(h:s.heap.objs.size<=a):a∉X.fs:=fun hb=>by
 obtain⟨_,o,ho,_⟩:=I.ok.funs.mem hb;exact absurd (jC (jq ho) (Q2 I.sz h)) (Qc _)
theorem Inv.cne(I:Inv X pc σ H s):∀ x c,X.env.cells.lookup x=some c->c≠X.env.locals:=fun x c e z=>by
 obtain⟨v,o,ho,hd⟩:=I.cell x c e;obtain⟨m,⟨o',es,ep,ho',hd',_⟩,_⟩:=I.loc;rw[z,ho'] at ho; cases ho; rw[hd'] at hd; cases hd
theorem Inv.funs(I:Inv X pc σ H s):s.heap.FunFrames X.base X.outer:=by
 have all:∀(l:List Env),(∀ b∈frs l,b∈X.fs)->X.s₀.heap.FunFrames X.base l->s.heap.FunFrames X.base l:=by
  intro l
  induction l with
  |nil=>intro _ _; trivial
  |cons env r ih=>
   intro hs hl;obtain⟨hk,⟨L,o,hf,hn,ho,hd⟩,hr⟩:=hl;have hL:L∈X.fs:=hs L (by unfold frs; rw[Z7,hf]; exact jG)
   obtain⟨sl,e⟩:=I.base.slot L o ho (I.ok.frf L hL) hL fun z=>I.ok.exfs L z hL;exact⟨hk,⟨L,_,hf,hn,e,hd⟩,ih (fun b hb=>hs b (by unfold frs; rw[Z7,hf]; exact jh _ hb)) hr⟩
 exact all X.outer (fun _ hb=>hb) I.ok.funs
theorem Inv.stack(I:Inv X pc σ H s):s.heap.FunFrames X.base X.stack:=by
 rcases I.ok.stk with e |⟨e,hf⟩
 ·rw[e]; exact I.funs
 ·rw[e];obtain⟨m,hn,_⟩:=I.loc;refine .cons (by rw[I.ok.kind]; decide) hf hn ?_ I.funs
  exact Heap.get?_none_of_le (Q2 I.ok.bsz I.ok.above)
theorem Inv.stkSub(I:Inv X pc σ H s):∀ b∈frs X.stack,b∈X.env.locals::X.fs:=fun b hb=>by
 rcases I.ok.stk with e |⟨e,hf⟩
 ·rw[e] at hb; exact jh _ hb
 ·rw[e] at hb;unfold frs at hb;rw[Z7,hf] at hb;exact hb
theorem Inv.stkFree(I:Inv X pc σ H s):∀ b∈frs X.stack,H b=none:=fun b hb=>by
 rcases jA.mp (I.stkSub b hb) with e |hb
 ·rw[e]; exact I.free
 ·obtain⟨_,o,ho,_⟩:=I.ok.funs.mem hb;exact I.base.free b o ho (I.ok.frf b hb) fun z=>I.ok.exfs b z hb
theorem Inv.step{g':Array Yq}{t':Nat}{d':Drawn}{ch:List ji}(I:Inv X pc σ H s)
  (hch:∀ b∈ch,(b∈X.ex∨X.s₀.heap.objs.size<=b)/\b≠X.env.locals/\(∀ x c,X.env.cells.lookup x=some c->c≠b)/\∀ p∈X.pn++pc,p.1≠b)
  (keep:∀ b o,b≠X.env.locals->b∉X.fs->b∉ch->s.heap.get? b=some o->H b=none->h'.get? b=some o)
  (slot:∀ b o,b≠X.env.locals->b∈X.fs->b∉ch->s.heap.get? b=some o->H b=none->∃ sl,h'.get? b=some { o with slots:=sl }) (free:∀ b o,b∉ch->s.heap.get? b=some o->H b=none->H' b=none)
  (there:∀ b o,b∉ch->s.heap.get? b=some o->∃ o',h'.get? b=some o')
  (tups:∀ b xs,H b=some (.tup xs)->H' b=some (.tup xs)) (frzs:∀ b o u,H b=some (.frz o u)->H' b=some (.frz o u)) (tbls:∀ b ps,H b=some (.tbl ps)->∃ more,H' b=some (.tbl (ps++more)))
  (ns:∀ m,s.heap.Ns X.env.locals m->h'.Ns X.env.locals m) (hok:HOk X.prog X.w H' h') (hg:Yp g') :
  Inv X pc σ H' { s with heap:=h',gens:=g',drawn:=d',toks:=t' }:=by
 have neL:∀ b o,X.s₀.heap.get? b=some o->b≠X.env.locals:=fun b o e=>jJ (jC (jq e) I.ok.above);have neC:∀ b o,X.s₀.heap.get? b=some o->b∉X.ex->b∉ch:=fun b o e hx hb=>by
  rcases(hch b hb).1 with z |z
  ·exact hx z
  ·exact absurd (jC (jq e) z) (Qc _)
 have cellK:∀ x c,X.env.cells.lookup x=some c->∀ v,s.heap.IsCell c v->h'.IsCell c v:=fun x c e v ⟨o,ho,hd⟩=>by
  have nch:c∉ch:=fun z=>(hch c z).2.2.1 x c e rfl
  by_cases hc:c∈X.fs
  ·obtain⟨sl,q⟩:=slot c o (I.cne x c e) hc nch ho (I.freeC x c e);exact⟨_,q,hd⟩
  ·exact⟨o,keep c o (I.cne x c e) hc nch ho (I.freeC x c e),hd⟩
 refine⟨I.ok,I.os,hg,⟨fun b o e n hb hx=>?_,fun b o e n hb hx=>?_,fun b o e n hx=>?_,fun b o e hx=>?_,fun b xs e=>tups b xs (I.base.tups b xs e),fun b o xs e=>frzs b o xs (I.base.frzs b o xs e),fun b ps e=>?_⟩,?_,fun x c e=>?_,?_,fun x c e=>?_,fun p hp=>?_,hok,I.len⟩
 ·exact keep b o (neL b o e) hb (neC b o e hx) (I.base.keep b o e n hb hx) (I.base.free b o e n hx)
 ·obtain⟨sl,e1⟩:=I.base.slot b o e n hb hx;obtain⟨sl',e2⟩:=slot b _ (neL b o e) hb (neC b o e hx) e1 (I.base.free b o e n hx);exact⟨sl',e2⟩
 ·obtain⟨o',e1⟩:=I.base.there b o e hx;exact free b o' (neC b o e hx) e1 (I.base.free b o e n hx)
 ·obtain⟨o',e1⟩:=I.base.there b o e hx;exact there b o' (neC b o e hx) e1
 ·obtain⟨m1,e1⟩:=I.base.tbls b ps e;obtain⟨m2,e2⟩:=tbls b _ e1;exact⟨m1++m2,by rw[e2,ZP]⟩
 ·obtain⟨m,hn,hl⟩:=I.loc;refine⟨m,ns m hn,fun i x v e1 e2 e3=>?_⟩;obtain⟨u,r,l⟩:=hl i x v e1 e2 e3;refine⟨u,r,?_⟩;rcases l with l |⟨k,c,e,z⟩
  ·exact .inl l
  ·exact .inr ⟨k,c,e,cellK x c e _ z⟩
 ·obtain⟨v,z⟩:=I.cell x c e;exact⟨v,cellK x c e v z⟩
 ·obtain⟨m,⟨o,_,_,ho,_⟩,_⟩:=I.loc;exact free _ o (fun z=>(hch _ z).2.1 rfl) ho I.free
 ·obtain⟨v,o,ho,hd⟩:=I.cell x c e;exact free c o (fun z=>(hch c z).2.2.1 x c e rfl) ho (I.freeC x c e)
 ·obtain⟨e,n,ne,nf,d⟩:=I.pin p hp;have nch:p.1∉ch:=fun z=>(hch p.1 z).2.2.2 p hp rfl;exact⟨keep p.1 p.2 ne nf nch e n,free p.1 p.2 nch e n,ne,nf,d⟩
theorem Inv.un{t':Nat}(I:Inv X pc σ H s)(u:Un X.fs [] H H' s.heap h')(hok:HOk X.prog X.w H' h'):Inv X pc σ H' { s with heap:=h',toks:=t' }:=by
 obtain⟨m,⟨o,es,ep,ho,r⟩,_⟩:=id I.loc;obtain⟨sl,hL⟩:=u.any ho I.free (by simp)
 exact I.step (g':=s.gens) (d':=s.drawn) (ch:=[]) (fun _ z=>nomatch z) (fun b o _ hb _ e n=>u.keep b o e n hb (by simp)) (fun b o _ hb _ e n=>u.slot b o e n hb (by simp)) (fun b o _ e n=>u.free b o e n (by simp)) (fun b o _ e=>u.there b o e (by simp)) u.tups u.frzs u.tbls (fun m' hm=>by
  obtain⟨o',es',ep',ho',r'⟩:=hm;rw[ho] at ho'; cases ho'
  exact⟨_,es',ep',hL,r'⟩) hok I.bare
theorem Inv.call{g':Array Yq}{t':Nat}{d':Drawn}{ch:List ji}(I:Inv X pc σ H s)(u:Un (frs X.stack) ch H H' s.heap h')(hok:HOk X.prog X.w H' h')(hg:Yp g')
  (hch:∀ b∈ch,(b∈X.ex∨X.s₀.heap.objs.size<=b)/\b≠X.env.locals/\(∀ x c,X.env.cells.lookup x=some c->c≠b)/\∀ p∈X.pn++pc,p.1≠b) :
  Inv X pc σ H' { s with heap:=h',gens:=g',drawn:=d',toks:=t' }:=by
 obtain⟨m,⟨o,es,ep,ho,r⟩,_⟩:=id I.loc;obtain⟨sl,hL⟩:=u.any ho I.free fun z=>(hch _ z).2.1 rfl
 exact I.step (ch:=ch) hch (fun b o hL hb hc e n=>u.keep b o e n (fun z=>(jA.mp (I.stkSub b z)).elim hL hb) hc) (fun b o _ _ hc e n=>u.any e n hc) (fun b o hc e n=>u.free b o e n hc) (fun b o hc e=>u.there b o e hc) u.tups u.frzs u.tbls (fun m' hm=>by
  obtain⟨o',es',ep',ho',r'⟩:=hm;rw[ho] at ho'; cases ho'
  exact⟨_,es',ep',hL,r'⟩) hok hg
theorem Inv.turned{t':Nat}{it:ji}(I:Inv X pc σ H s)(k:∀ b o,b≠it->s.heap.get? b=some o->h'.get? b=some o)(hn:H it=none)(hL:it≠X.env.locals)
  (h1:it∈X.ex∨X.s₀.heap.objs.size<=it) (h2:∀ x c,X.env.cells.lookup x=some c->c≠it) (h3:∀ p∈X.pn++pc,p.1≠it):Inv X pc σ H { s with heap:=h',toks:=t' }:=by
 have nit:∀ b u,H b=some u->b≠it:=fun b u e z=>by rw[z,hn] at e; cases e
 refine I.step (g':=s.gens) (d':=s.drawn) (ch:=[it]) (fun b hb=>?_) (fun b o _ _ hc e _=>k b o (fun z=>hc (by simp[z])) e) (fun b o _ _ hc e _=>⟨o.slots,k b o (fun z=>hc (by simp[z])) e⟩) (fun _ _ _ _ n=>n)
  (fun b o hc e=>⟨o,k b o (fun z=>hc (by simp[z])) e⟩) (fun _ _ e=>e) (fun _ _ _ e=>e) (fun b ps e=>⟨#[],by rw[e]; simp⟩) (fun m hm=>?_) (fun b u e=>?_) I.bare
 ·have e:b=it:=by simpa using hb
  subst e;exact⟨h1,hL,h2,h3⟩
 ·obtain⟨o,es,ep,ho,r⟩:=hm;exact⟨o,es,ep,k _ o (Zp hL) ho,r⟩
 ·refine(I.hok b u e).stay (fun c v hc q=>k c v ?_ q) (fun _ q=>q) fun _ _ q=>q;rcases hc with z |z
  ·rw[z]; exact nit b u e
  ·exact nit c _ z
theorem Inv.tok(I:Inv X pc σ H s)(t:Nat):Inv X pc σ H { s with toks:=t }:=I.un (h':=s.heap) (t':=t) Un.refl I.hok
theorem Inv.kept{t':Nat}(I:Inv X pc σ H s)(k:∀ b u,s.heap.get? b=some u->h'.get? b=some u):Inv X pc σ H { s with heap:=h',toks:=t' }:=I.un (Un.kept k) (I.hok.kept k)
theorem Inv.laid{a:ji}{o:HO}{t':Nat}(I:Inv X pc σ H s)(k:∀ b u,s.heap.get? b=some u->h'.get? b=some u)(hp:s.heap.objs.size<=a)(new:ObjOk X.prog X.w (upd H a o) h' a o) :
  Inv X pc σ (upd H a o) { s with heap:=h',toks:=t' }:=I.un (Un.laid k hp (I.hok.fresh hp)) (I.hok.laid k hp new)
theorem Inv.write{x e:ji}{o:HO}{t':Nat}(I:Inv X pc σ H s)(mu:Mut (H x))(he:e=x∨H e=some (.own x))(k:∀ b u,b≠e->s.heap.get? b=some u->h'.get? b=some u)(heo:∃ u,h'.get? e=some u)
  (new:ObjOk X.prog X.w (upd H x o) h' x o):Inv X pc σ (upd H x o) { s with heap:=h',toks:=t' }:=I.un (Un.write mu he k heo) (I.hok.write mu he k heo new)
theorem Inv.pins_of{pins':List (ji × Obj)}(I:Inv X pc σ H s)(h:∀ p∈pins',s.heap.get? p.1=some p.2/\H p.1=none/\p.1≠X.env.locals/\p.1∉X.fs/\∀ v,p.2.data≠.cell v):Inv X pins' σ H s:=
 ⟨I.ok,I.os,I.bare,I.base,I.loc,I.cell,I.free,I.freeC,fun p hp=>(jQ.mp hp).elim (fun z=>I.pin p (ZD _ z)) (h p),I.hok,I.len⟩
theorem zgS{N:List Str}(hN:N.Nodup){i j:Nat}{x:Str}(a:N[i]?=some x)(b:N[j]?=some x):i=j:=by
 obtain⟨h1,e1⟩:=jd.mp a;obtain⟨h2,e2⟩:=jd.mp b;exact(Wb hN).mp (e1.trans e2.symm)
theorem zdj{M:Model}{A:jP}{E:j5->j6->Prop}{i:Nat}{x:Str}{v:V}{u:j5}{Q:Unit->j6->Prop}(I:Inv X pc σ H s)(hN:X.N.Nodup)(hi:X.N[i]?=some x)(hx:Loc X.env.scope x)(r:RelV v u)
  (h:∀ s',Inv X pc (σ.set i (some v)) H s'->(∃ a,Qu a s.heap s'.heap/\(a=X.env.locals∨X.env.cells.lookup x=some a))->Q () s') (hf:X.fn x=true∨X.env.scope.names.lookup x=some .local:=by first |exact .inl rfl |exact .inr rfl |assumption):jy M A (storeName X.env x u) Q E s:=by
 obtain⟨m,hn,hl⟩:=id I.loc;have hcls:(X.env.scope.kind == .class||(X.env.scope.kind == .module&&X.env.locals != X.env.globals))=false:=by rw[I.ok.kind]; rfl
 have hiσ:i < σ.length:=by rw[I.len]; exact(jd.mp hi).1
 have cne:=I.cne;have tracked:∀ {a:ji} {h':Qq},(∃ o,s.heap.get? a=some o/\H a=none)->Qu a s.heap h'->HOk X.prog X.w H h':=fun {a h'} ha hs b ob e=>by
  obtain⟨_,_,hfree⟩:=ha;refine(I.hok b ob e).stay (fun c w' hc q=>(hs.2 c ?_).trans q) (fun _ q=>q) fun _ _ q=>q;rintro rfl;rcases hc with rfl |hc
  ·rw[hfree] at e; cases e
  ·rw[hfree] at hc; cases hc
 rcases hx with hk |hk
 ·refine wpAny_storeName_local hk hn (fun h' hn' hs=>?_) hcls;obtain⟨oL,_,_,hoL,_⟩:=id hn;refine h _ ⟨I.ok,I.os,I.bare,⟨fun b o e n hb hx=>?_,fun b o e n hb hx=>?_,I.base.free,fun b o e hx=>?_,I.base.tups,I.base.frzs,I.base.tbls⟩,⟨_,hn',fun j y v' e1 e2 e3=>?_⟩,fun y c e=>?_,I.free,I.freeC,fun p hp=>?_,tracked ⟨oL,hoL,I.free⟩ hs,by simpa using I.len⟩ ⟨_,hs,.inl rfl⟩
  ·exact(hs.2 b (jJ (jC (jq e) I.ok.above))).trans (I.base.keep b o e n hb hx)
  ·obtain⟨sl,e1⟩:=I.base.slot b o e n hb hx;exact⟨sl,(hs.2 b (jJ (jC (jq e) I.ok.above))).trans e1⟩
  ·obtain⟨o',e1⟩:=I.base.there b o e hx;exact⟨o',(hs.2 b (jJ (jC (jq e) I.ok.above))).trans e1⟩
  ·by_cases hj:j=i
   ·subst hj;rw[hi] at e1; cases e1;rw[jF hiσ] at e2;cases e2;exact⟨u,r,.inl ⟨hk,by simp⟩⟩
   ·rw[jc (Zp hj)] at e2;obtain⟨u',r',q⟩:=hl j y v' e1 e2 e3;refine⟨u',r',?_⟩;rcases q with ⟨k,e⟩ |⟨k,c,e,z⟩
    ·refine .inl ⟨k,?_⟩;have:y≠x:=fun e=>hj (zgS hN e1 (e▸hi));simp[this,e]
    ·exact .inr ⟨k,c,e,z.sameBut hs (cne y c e)⟩
  ·obtain⟨w',z⟩:=I.cell y c e;exact⟨w',z.sameBut hs (cne y c e)⟩
  ·obtain⟨e,n,ne,nf,d⟩:=I.pin p hp;exact⟨(hs.2 p.1 ne).trans e,n,ne,nf,d⟩
 ·have hfn:X.fn x=true:=by
   rcases hf with z |z
   ·exact z
   ·rw[z] at hk; cases hk
  obtain⟨c,hc⟩:=I.ok.has x (.inl hk);obtain⟨w',z⟩:=I.cell x c hc;refine wpAny_storeName_cell I.ok.kind hk hc z (fun h' hc' hs=>?_);obtain⟨oc,hoc,hocd⟩:=id z;refine h { s with heap:=h' } ⟨I.ok,I.os,I.bare,⟨fun b o e n hb hx=>?_,fun b o e n hb hx=>?_,I.base.free,fun b o e hx=>?_,I.base.tups,I.base.frzs,I.base.tbls⟩,⟨m,hn.sameBut hs (Zp (cne x c hc)),fun j y v' e1 e2 e3=>?_⟩,fun y c' e=>?_,I.free,I.freeC,fun p hp=>?_,tracked ⟨oc,hoc,I.freeC x c hc⟩ hs,by simpa using I.len⟩ ⟨c,hs,.inr hc⟩
  ·exact(hs.2 b (jJ (jC (jq e) (I.ok.cab x c hfn hc)))).trans (I.base.keep b o e n hb hx)
  ·obtain⟨sl,e1⟩:=I.base.slot b o e n hb hx;exact⟨sl,(hs.2 b (jJ (jC (jq e) (I.ok.cab x c hfn hc)))).trans e1⟩
  ·obtain⟨o',e1⟩:=I.base.there b o e hx;exact⟨o',(hs.2 b (jJ (jC (jq e) (I.ok.cab x c hfn hc)))).trans e1⟩
  ·by_cases hj:j=i
   ·subst hj;rw[hi] at e1; cases e1;rw[jF hiσ] at e2;cases e2;exact⟨u,r,.inr ⟨.inl hk,c,hc,hc'⟩⟩
   ·rw[jc (Zp hj)] at e2;obtain⟨u',r',q⟩:=hl j y v' e1 e2 e3;refine⟨u',r',?_⟩;rcases q with q |⟨k,c',e,z'⟩
    ·exact .inl q
    ·refine .inr ⟨k,c',e,z'.sameBut hs ?_⟩;rintro rfl;exact hj (zgS hN e1 (I.ok.inj _ _ _ e hc▸hi))
  ·by_cases hcc:c'=c
   ·subst hcc; exact⟨_,hc'⟩
   ·obtain⟨w2,z2⟩:=I.cell y c' e;exact⟨w2,z2.sameBut hs hcc⟩
  ·obtain⟨e,n,ne,nf,d⟩:=I.pin p hp;refine⟨(hs.2 p.1 ?_).trans e,n,ne,nf,d⟩;intro q;rw[q,hoc] at e;have q':oc=p.2:=jg e;exact d w' (by rw[<-q']; exact hocd)
theorem zgG{M:Model}{A:jP}{E:j5->j6->Prop}{i:Nat}{x:Str}{v:V}{u:j5}{Q:Unit->j6->Prop}(I:Inv X pc σ H s)(hN:X.N.Nodup)(hi:X.N[i]?=some x)(hx:Loc X.env.scope x)(r:RelV v u)
  (h:∀ s',Inv X pc (σ.set i (some v)) H s'->Q () s') (hf:X.fn x=true∨X.env.scope.names.lookup x=some .local:=by first |exact .inl rfl |exact .inr rfl |assumption):jy M A (storeName X.env x u) Q E s:=
 zdj I hN hi hx r (fun s' I' _=>h s' I') hf
theorem Inv.call'{s':j6}{ch:List ji}(I:Inv X pc σ H s)(ho:s'.os=s.os)(u:Un (frs X.stack) ch H H' s.heap s'.heap)(hok:HOk X.prog X.w H' s'.heap)(hg:Yp s'.gens)
  (hch:∀ b∈ch,(b∈X.ex∨X.s₀.heap.objs.size<=b)/\b≠X.env.locals/\(∀ x c,X.env.cells.lookup x=some c->c≠b)/\∀ p∈X.pn++pc,p.1≠b):Inv X pc σ H' s':=by
 obtain⟨h',g',d',t',o'⟩:=s';have e:o'=s.os:=ho;subst e;exact I.call (g':=g') (t':=t') (d':=d') u hok hg hch
end
abbrev XK:=j5->Option ji->Hp->Prop
abbrev St:=List (Option V)
abbrev VK:=V->Hp->Prop
abbrev TE:=St->Hp->VK->Prop
abbrev TT:=St->Hp->(Bool->Hp->Prop)->Prop
abbrev TA:=St->Hp->(List V->Hp->Prop)->Prop
structure Ends where
 nx:St->Hp->Prop
 rt:VK
 bk:St->Hp->Prop:=fun _ _=>False
 ct:St->Hp->Prop:=fun _ _=>False
abbrev TS:=Ends->St->Hp->Prop
def EP(X:Cx)(pc:List (ji × Obj))(σ:St)(Q:VK)(u:j5)(s':j6):Prop:=∃ v H',Inv X pc σ H' s'/\RelV v u/\Q v H'
def TP(X:Cx)(pc:List (ji × Obj))(σ:St)(Q:Bool->Hp->Prop)(b:Bool)(s':j6):Prop:=∃ H',Inv X pc σ H' s'/\Q b H'
def AP(X:Cx)(pc:List (ji × Obj))(σ:St)(Q:List V->Hp->Prop)(us:List j5)(s':j6):Prop:=∃ vs H',Inv X pc σ H' s'/\Vals vs us/\Q vs H'
def SP(X:Cx)(pc:List (ji × Obj))(D:Ends)(f:Flow)(s':j6):Prop:=
 match f with
 |.next=>∃ σ' H',Inv X pc σ' H' s'/\D.nx σ' H'
 |.brk=>∃ σ' H',Inv X pc σ' H' s'/\D.bk σ' H'
 |.cont=>∃ σ' H',Inv X pc σ' H' s'/\D.ct σ' H'
 |.ret u=>∃ v σ' H',Inv X pc σ' H' s'/\RelV v u/\D.rt v H'
def PE(X:Cx)(e:jU)(t:TE):Prop:=
 ∀(pc:List (ji × Obj)) (s:j6) (σ:St) (H:Hp) (Q:VK),Inv X pc σ H s->t σ H Q->jy (jE X.prog X.w) X.A (eval e X.env) (EP X pc σ Q) X.xe s
def PT(X:Cx)(e:jU)(t:TT):Prop:=
 ∀(pc:List (ji × Obj)) (s:j6) (σ:St) (H:Hp) (Q:Bool->Hp->Prop),Inv X pc σ H s->t σ H Q->jy (jE X.prog X.w) X.A (isTrue e X.env (eval e X.env)) (TP X pc σ Q) X.xe s
def PW(X:Cx)(e:jU)(t:TT):Prop:=
 ∀(whole:Sem j5) (pc:List (ji × Obj)) (s:j6) (σ:St) (H:Hp) (Q:Bool->Hp->Prop),Inv X pc σ H s->t σ H Q->jy (jE X.prog X.w) X.A (isTrue e X.env whole) (TP X pc σ Q) X.xe s
theorem PW.pt{X:Cx}{e:jU}{t:TT}(h:PW X e t):PT X e t:=h _
def PA(X:Cx)(es:List jU)(t:TA):Prop:=
 ∀(pos:Pos) (pc:List (ji × Obj)) (s:j6) (σ:St) (H:Hp) (Q:List V->Hp->Prop),Inv X pc σ H s->t σ H Q->jy (jE X.prog X.w) X.A (NI (Qr pos (jb es X.env))) (AP X pc σ Q) X.xe s
def PS(X:Cx)(st:QR)(t:TS):Prop:=
 ∀(pc:List (ji × Obj)) (s:j6) (σ:St) (H:Hp) (D:Ends),Inv X pc σ H s->t D σ H->jy (jE X.prog X.w) X.A (exec st X.env) (SP X pc D) X.xe s
def PSs(X:Cx)(st:List QR)(t:TS):Prop:=
 ∀(pc:List (ji × Obj)) (s:j6) (σ:St) (H:Hp) (D:Ends),Inv X pc σ H s->t D σ H->jy (jE X.prog X.w) X.A (execs st X.env) (SP X pc D) X.xe s
theorem thn{α:Type}{t:Sem α}{Q Q':α->j6->Prop}{M:Model}{A:jP}{E:j5->j6->Prop}{s:j6}(h:jy M A t Q E s)(hQ:∀ a s,Q a s->Q' a s):jy M A t Q' E s:=Q7 h hQ fun _ _ x=>x
section
def zcY(i:Nat):TE:=fun σ H Q=>∃ v,σ[i]?=some (some v)/\Q v H
def tC(v:V):TE:=fun _ H Q=>Q v H
theorem znV{i:Nat}{x:Str}{pos:Pos}(hN:X.N[i]?=some x)(hv:Vis X.env.scope x)(hd:(x == ("__debug__":Str))=false:=by decide)(hcd:(x == ("__classdict__":Str))=false:=by decide):PE X (.Name x pos) (zcY i):=by
 intro pc s σ H Q I h;obtain⟨v,e,h⟩:=h;obtain⟨m,hn,hl⟩:=I.loc;obtain⟨u,r,l⟩:=hl i x v hN e hv;have fin:EP X pc σ Q u s:=⟨v,H,I,r,h⟩;rcases l with ⟨hk,hm⟩ |⟨hk,c,hc,hcell⟩
 ·exact WB (wpAny_loadName_local I.ok.kind hk hn hm fin) hd
 ·rcases hk with hk |hk
  ·exact WB (wpAny_loadName_cell I.ok.kind hk hc hcell fin) hd
  ·exact WB (wpAny_loadName_free I.ok.kind hk hc hcell fin hcd) hd
theorem znX{i j pos}:PE X (.Constant (.int i) j pos) (tC (.int i)):=fun _ _ _ H _ I h=>wpAny_Constant_int ⟨.int i,H,I.tok _,⟨_,rfl⟩,h⟩
theorem zqh{b j pos}:PE X (.Constant (.bool b) j pos) (tC (.bl b)):=fun _ _ _ H _ I h=>Constant_bool ⟨.bl b,H,I,rfl,h⟩
theorem zgP{j pos}:PE X (.Constant .none j pos) (tC .non):=fun _ _ _ H _ I h=>Constant_none ⟨.non,H,I,rfl,h⟩
theorem zck{x j pos}:PE X (.Constant (.str x) j pos) (tC (.str x)):=fun _ _ _ H _ I h=>gU ⟨.str x,H,I.tok _,⟨_,rfl⟩,h⟩
def Gl(X:Cx)(x:Str):Prop:=X.env.kindOf x=some .globalImplicit
theorem zes{E:j5->j6->Prop}{pc:List (ji × Obj)}{s:j6}{σ:St}{H:Hp}{x:Str}{u:j5}{pos:Pos}{Q:j5->j6->Prop}(I:Inv X pc σ H s)(hg:Gl X x)(hm:X.mg x=some u)(h:Q u s)
  (hd:(x == ("__debug__":Str))=false:=by decide):jy (jE X.prog X.w) X.A (eval (.Name x pos) X.env) Q E s:=
 gP I.ok.kind hg (Calls.loadGlobal_global (by rw[I.ok.glob]; exact I.mod.glob.keeps I.bk) hm h) hd
theorem zdC{E:j5->j6->Prop}{pc:List (ji × Obj)}{s:j6}{σ:St}{H:Hp}{x:Str}{u:j5}{pos:Pos}{Q:j5->j6->Prop}(I:Inv X pc σ H s)(hg:Gl X x)(hm:X.mg x=none)(hv:Qj x=some u)(h:Q u s)
  (hn:x≠"__name__":=by decide) (hd:(x == ("__debug__":Str))=false:=by decide):jy (jE X.prog X.w) X.A (eval (.Name x pos) X.env) Q E s:=by
 obtain⟨mb,h1,h2⟩:=I.mod.blt;exact gP I.ok.kind hg (Calls.loadGlobal_builtin (by rw[I.ok.glob]; exact I.mod.glob.keeps I.bk) hm (by rw[I.ok.blt]; exact h1.keeps I.bk) ((h2 x hn).trans hv) h) hd
theorem zc6{x:Str}{v:V}{u:j5}{pos:Pos}(hg:Gl X x)(hm:X.mg x=some u)(r:RelV v u)(hd:(x == ("__debug__":Str))=false:=by decide):PE X (.Name x pos) (tC v):=
 fun _ _ _ H _ I h=>zes I hg hm ⟨v,H,I,r,h⟩ hd
theorem zmr{x:Str}{v:V}{u:j5}{pos:Pos}(hg:Gl X x)(hm:X.mg x=none)(hv:Qj x=some u)(r:RelV v u)(hn:x≠"__name__":=by decide)(hd:(x == ("__debug__":Str))=false:=by decide):PE X (.Name x pos) (tC v):=
 fun _ _ _ H _ I h=>zdC I hg hm hv ⟨v,H,I,r,h⟩ hn hd
variable {a:jU}
def PC(X:Cx)(op:CmpOp)(a b:jU)(t:TE):Prop:=
 ∀(pc:List (ji × Obj)) (s:j6) (σ:St) (H:Hp) (Q:VK),Inv X pc σ H s->t σ H Q->
  jy (jE X.prog X.w) X.A (eval a X.env) (fun v s₁=>jy (jE X.prog X.w) X.A (eval b X.env) (fun u s₂=>jy (jE X.prog X.w) X.A (QM op v u) (EP X pc σ Q) X.xe s₂) X.xe s₁) X.xe s
def tB(t:TE):TT:=fun σ H Q=>t σ H fun x H1=>∃ c,x=.bl c/\Q c H1
theorem znP{op:CmpOp}{t:TE}(h:PC X op a b t)(h1:Z8 op b=false:=by first |exact nobehind _ (by decide) (by decide) |rfl):PT X (.Compare a [op] [b] pos) (tB t):=by
 intro pc s σ H Q I hw;refine YU (thn (h pc s σ H _ I hw) fun v s1 h1=>thn h1 fun u s2 h2=>thn h2 fun c s3 ⟨x,H1,I1,r1,q1⟩=>?_) h1;obtain⟨d,rfl,q⟩:=q1;cases r1;exact Qx ⟨H1,I1,q⟩
theorem zl4{e:jU}{t:TE}(h:PE X e t)(he:∀ whole,isTrue e X.env whole=(do let v <-whole; NJ e.pos; gC [v] (truthy v)):=by intro _; rfl):PT X e (tB t):=by
 intro pc s σ H Q I hw;refine isTrue_plain (thn (h pc s σ H _ I hw) fun v s1 ⟨x,H1,I1,r1,q1⟩=>?_) (he _);obtain⟨d,rfl,q⟩:=q1;cases r1;exact Qx ⟨H1,I1,q⟩
variable {tA tB':TT}{rest:List jU}
def tOr(t u:TT):TT:=fun σ H Q=>t σ H fun c H1=>if c=true then Q true H1 else u σ H1 Q
def zrx(t:TT):TT:=fun σ H Q=>t σ H fun c H1=>Q (!c) H1
theorem zl3(ha:PT X a tA):PW X (.BoolOp .Or [a] pos) tA:=by
 intro wh pc s σ H Q I h;refine isTrue_or (thn (ha pc s σ H Q I h) fun c s1 e=>?_);cases c with
 |false=>exact isTrue_or_nil e
 |true=>exact e
theorem znO(ha:PT X a tA)(hb:PW X (.BoolOp .Or (b::rest) pos) tB'):PW X (.BoolOp .Or (a::b::rest) pos) (tOr tA tB'):=by
 intro wh pc s σ H Q I h;refine isTrue_or (thn (ha pc s σ H _ I h) fun c s1 h_=>?_); obtain⟨H1,I1,q1⟩:=h_;cases c with
 |true=>exact⟨H1,I1,q1⟩
 |false=>exact hb wh pc s1 σ H1 Q I1 q1
theorem zl5(ha:PT X a tA):PT X (.UnaryOp .Not a pos) (zrx tA):=by
 intro pc s σ H Q I h;exact isTrue_not (ha pc s σ H (fun c H1=>Q (!c) H1) I h)
def zpS(ta tb:TE):TE:=fun σ H Q=>ta σ H fun x H1=>∃ c,x=.bl c/\if c=true then tb σ H1 Q else Q (.bl false) H1
theorem znW{op}{t:TE}(h:PE X a t):PE X (.BoolOp op [a] pos) t:=fun pc s σ H Q I hw=>BoolOp_one (h pc s σ H Q I hw)
theorem znZ(ha:PE X a ta)(hb:PE X (.BoolOp .And (b::rest) pos) tb):PE X (.BoolOp .And (a::b::rest) pos) (zpS ta tb):=by
 intro pc s σ H Q I h;refine BoolOp_and (thn (ha pc s σ H _ I h) fun v s1 h_=>?_); obtain⟨x,H1,I1,r1,q1⟩:=h_;obtain⟨c,rfl,q1⟩:=q1;cases r1;refine Qx ?_;cases c with
 |true=>exact hb pc s1 σ H1 Q I1 q1
 |false=>exact⟨.bl false,H1,I1,rfl,q1⟩
end
def SqL(K:j9)(H:Hp)(a:ji)(xs:List V):Prop:=
 Rd H a (.lst xs) ∨
  ∃(o:Obj) (its:Array j5) (n:Nat),K.lookup a=some o/\o.cls=.type "list"/\o.dict=none/\o.data=.seq its n/\its.size<=ja/\Vals xs its.toList
def SqT(K:j9)(H:Hp)(a:ji)(xs:List V):Prop:=
 Rd H a (.tup xs) ∨
  ∃(o:Obj) (its:Array j5) (n:Nat),K.lookup a=some o/\o.cls=.type "tuple"/\o.data=.seq its n/\its.size<=ja/\Vals xs its.toList
def zrW:j5->Option V
 |.none=>some .non
 |.bool b=>some (.bl b)
 |.int i _=>some (.int i)
 |.str x _=>some (.str x)
 |.bytes b _=>some (.byt b)
 |.float b _=>some (.flt b)
 |.ref a=>some (.ref a)
 |.type n=>some (.ty n)
 |_=>none
theorem RelV.abs{x:V}{u:j5}(r:RelV x u):zrW u=some x:=by
 cases x with
 |non=>cases r; rfl
 |bl _=>cases r; rfl
 |int _=>obtain⟨t,rfl⟩:=r; rfl
 |str _=>obtain⟨t,rfl⟩:=r; rfl
 |byt _=>obtain⟨t,rfl⟩:=r; rfl
 |flt _=>obtain⟨t,rfl⟩:=r; rfl
 |ref _=>cases r; rfl
 |ty _=>cases r; rfl
theorem RelV.inj{x y:V}{u:j5}(r:RelV x u)(q:RelV y u):x=y:=jg (r.abs.symm.trans q.abs)
theorem Vals.inj:∀ {xs ys:List V} {us:List j5},Vals xs us->Vals ys us->xs=ys
 |_,_,_,.nil,.nil=>rfl
 |_,_,_,.cons r t,.cons r' t'=>by rw[r.inj r',Vals.inj t t']
section
variable {xs ys:List V}
theorem SqL.of{K:j9}(h:H a=some (.lst xs)):SqL K H a xs:=.inl (.inl h)
theorem SqT.of{K:j9}(h:H a=some (.tup xs)):SqT K H a xs:=.inl (.inl h)
theorem Inv.list(I:Inv X pc σ H s)(h:SqL X.K H a xs):∃ its:List j5,Vals xs its/\PlainL s.heap a its.toArray/\xs.length<=ja:=by
 rcases h with h |⟨o,its,n,hk,hc,hd,hs,hz,r⟩
 ·obtain⟨z,its,n,r,e⟩:=h.ok I.hok;exact⟨its,r,⟨_,n,e,rfl,rfl,rfl⟩,z⟩
 ·refine⟨its.toList,r,⟨o,n,I.kIn a o hk,hc,hd,by simpa using hs⟩,?_⟩
  have e:=r.length;simp only[jB] at e;lia
theorem Inv.tuple(I:Inv X pc σ H s)(h:SqT X.K H a xs):∃ its:List j5,Vals xs its/\IsTup s.heap a its.toArray/\xs.length<=ja:=by
 rcases h with h |⟨o,its,n,hk,hc,hs,hz,r⟩
 ·obtain⟨z,its,r,p⟩:=h.ok I.hok;exact⟨its,r,p,z⟩
 ·refine⟨its.toList,r,⟨o,I.kIn a o hk,hc,n,by simpa using hs⟩,?_⟩
  have e:=r.length;simp only[jB] at e;lia
theorem Inv.list_inj(I:Inv X pc σ H s)(h:SqL X.K H a xs)(h':SqL X.K H a ys):xs=ys:=by
 obtain⟨its,r,⟨o,n,e,_,_,d⟩,_⟩:=I.list h;obtain⟨its',r',⟨o',n',e',_,_,d'⟩,_⟩:=I.list h';rw[e] at e'; cases e';rw[d] at d';injection d' with d1 _;have:its=its':=by simpa using congrArg WZ d1
 subst this;exact r.inj r'
theorem Inv.tuple_inj(I:Inv X pc σ H s)(h:SqT X.K H a xs)(h':SqT X.K H a ys):xs=ys:=by
 obtain⟨its,r,⟨o,e,_,n,d⟩,_⟩:=I.tuple h;obtain⟨its',r',⟨o',e',_,n',d'⟩,_⟩:=I.tuple h';rw[e] at e'; cases e';rw[d] at d';injection d' with d1 _;have:its=its':=by simpa using congrArg WZ d1
 subst this;exact r.inj r'
end
abbrev Cx.wish(X:Cx)(E:j5->j6->Prop):Cx:={ X with xe:=E }
abbrev Cx.nox(X:Cx):Cx:=X.wish fun _ _=>False
theorem Cx.Ok.wish{X:Cx}(ok:X.Ok)(E:j5->j6->Prop):(X.wish E).Ok:=
 ⟨ok.mod,ok.kind,ok.glob,ok.blt,ok.above,ok.inj,ok.has,ok.cab,ok.hd,ok.frames,ok.stk,ok.exf,ok.bs,ok.bsz,ok.noex,ok.exfs,ok.funs,ok.frf⟩
theorem Cx.Ok.unwish{X:Cx}{E:j5->j6->Prop}(ok:(X.wish E).Ok):X.Ok:=
 ⟨ok.mod,ok.kind,ok.glob,ok.blt,ok.above,ok.inj,ok.has,ok.cab,ok.hd,ok.frames,ok.stk,ok.exf,ok.bs,ok.bsz,ok.noex,ok.exfs,ok.funs,ok.frf⟩
section
variable {E:j5->j6->Prop}
theorem Inv.wish(I:Inv X pc σ H s)(E:j5->j6->Prop):Inv (X.wish E) pc σ H s:=⟨I.ok.wish E,I.os,I.bare,I.base,I.loc,I.cell,I.free,I.freeC,I.pin,I.hok,I.len⟩
theorem Inv.unwish(I:Inv (X.wish E) pc σ H s):Inv X pc σ H s:=⟨I.ok.unwish,I.os,I.bare,I.base,I.loc,I.cell,I.free,I.freeC,I.pin,I.hok,I.len⟩
theorem SP.unwish{D:Ends}{f:Flow}{s':j6}(h:SP (X.wish E) pc D f s'):SP X pc D f s':=by
 cases f with
 |next=>obtain⟨σ',H',I,q⟩:=h; exact⟨σ',H',I.unwish,q⟩
 |brk=>obtain⟨σ',H',I,q⟩:=h; exact⟨σ',H',I.unwish,q⟩
 |cont=>obtain⟨σ',H',I,q⟩:=h; exact⟨σ',H',I.unwish,q⟩
 |ret u=>obtain⟨v,σ',H',I,r,q⟩:=h; exact⟨v,σ',H',I.unwish,r,q⟩
theorem PSs.nox{st:List QR}{t:TS}(h:PSs X.nox st t):PSs X st t:=fun pc s σ H D I hw=>
 Q7 (h pc s σ H D (I.wish _) hw) (fun _ _ q=>q.unwish) fun _ _ z=>QK z
end
section
variable {st:QR}{rest:List QR}{t u:TS}{te:TE}
def zpO:TS:=fun D σ H=>D.nx σ H
def zrw(t u:TS):TS:=fun D σ H=>t { D with nx:=u D } σ H
theorem zgb:PSs X [] zpO:=fun _ _ σ H _ I h=>ZQ ⟨σ,H,I,h⟩
theorem zci(h1:PS X st t)(h2:PSs X rest u):PSs X (st::rest) (zrw t u):=by
 intro pc s σ H D I h;refine YG (thn (h1 pc s σ H { D with nx:=u D } I h) fun f s1 q=>?_);cases f with
 |next=>
  obtain⟨σ',H',I',q⟩:=q;exact h2 pc s1 σ' H' D I' q
 |ret v=>exact q
 |brk=>exact q
 |cont=>exact q
theorem zbM(h1:PS X st t):PSs X [st] t:=by
 intro pc s σ H D I h;refine YG (thn (h1 pc s σ H D I h) fun f s1 q=>?_);cases f with
 |next=>exact ZQ q
 |ret v=>exact q
 |brk=>exact q
 |cont=>exact q
theorem Inv.quiet{pc:List (ji × Obj)}{σ:St}{H:Hp}{s:j6}(I:Inv X pc σ H s):interactive X.env=false:=by simp[interactive,I.ok.kind]
def zpP(te:TE):TS:=fun D σ H=>te σ H fun _ H1=>D.nx σ H1
theorem zmh(he:PE X e te)(hs:gD e none pos.line X.env=pure false:=by rfl):PS X (.Expr e pos) (zpP te):=by
 intro pc s σ H D I h;exact wpAny_Expr_any (thn (he pc s σ H _ I h) fun v s1 ⟨x,H1,I1,r1,q1⟩=>⟨σ,H1,I1,q1⟩) I.quiet hs
def zoV(te:TE):TS:=fun D σ H=>te σ H D.rt
theorem zcS(he:PE X e te):PS X (.Return (some e) pos) (zoV te):=by
 intro pc s σ H D I h;exact wpAny_Return_some (thn (he pc s σ H _ I h) fun v s1 ⟨x,H1,I1,r1,q1⟩=>⟨x,σ,H1,I1,r1,q1⟩)
def zrA(c:TT)(t u:TS):TS:=fun D σ H=>c σ H fun b H1=>if b=true then t D σ H1 else u D σ H1
theorem zkc{c:jU}{a b:List QR}{tc:TT}(hc:PT X c tc)(ha:PSs X a t)(hb:PSs X b u):PS X (.If c a b pos) (zrA tc t u):=by
 intro pc s σ H D I h;refine wpAny_If (thn (hc pc s σ H _ I h) fun d s1 h_=>?_); obtain⟨H1,I1,q1⟩:=h_;cases d with
 |true=>exact ha pc s1 σ H1 D I1 q1
 |false=>exact hb pc s1 σ H1 D I1 q1
end
abbrev TG:=V->St->Hp->(St->Hp->Prop)->Prop
def PG(X:Cx)(target:jU)(t:TG):Prop:=
 ∀(pc:List (ji × Obj)) (s:j6) (σ:St) (H:Hp) (v:V) (u:j5) (Q:St->Hp->Prop),Inv X pc σ H s->RelV v u->t v σ H Q->
  jy (jE X.prog X.w) X.A (Wi target X.env u) (fun _ s'=>∃ σ' H',Inv X pc σ' H' s'/\Q σ' H') X.xe s
abbrev zp3:=V->V->V->Hp->(Hp->Prop)->Prop
def zqO(X:Cx)(t:zp3):Prop:=
 ∀(pc:List (ji × Obj)) (s:j6) (σ:St) (H:Hp) (o i v:V) (ov iv u:j5) (Q:Hp->Prop),Inv X pc σ H s->RelV o ov->RelV i iv->RelV v u->t o i v H Q->
  jy (jE X.prog X.w) X.A (setItem ov iv u) (fun _ s'=>∃ H',Inv X pc σ H' s'/\Q H') X.xe s
section
def zcF(i:Nat):TG:=fun v σ H Q=>Q (σ.set i (some v)) H
theorem zmp{i:Nat}{x:Str}(hN:X.N.Nodup)(hi:X.N[i]?=some x)(hx:Loc X.env.scope x)(hf:X.fn x=true∨X.env.scope.names.lookup x=some .local:=by first |exact .inl rfl |exact .inr rfl |assumption):PG X (.Name x pos) (zcF i):=by
 intro pc s σ H v u Q I r h;exact NK (zgG I hN hi hx r (fun s' I'=>⟨_,H,I',h⟩) hf)
def zqA(to ti:TE)(t:zp3):TG:=fun v σ H Q=>to σ H fun o H1=>ti σ H1 fun i H2=>t o i v H2 fun H3=>Q σ H3
theorem znU{o i:jU}{to ti:TE}{t:zp3}(ho:PE X o to)(hi:PE X i ti)(hs:zqO X t)
  (ha:∀ v,Wi (.Subscript o i pos) X.env v=(do
   let ov <-gC [v] (eval o X.env)
   let iv <-gC [v,ov] (eval i X.env)
   NJ pos
   gC [v,ov,iv] (setItem ov iv v)
   release [v,ov,iv] []):=by intro _; rfl):PG X (.Subscript o i pos) (zqA to ti t):=by
 intro pc s σ H v u Q I r h;rw[ha];refine j4 (Z9 (thn (ho pc s σ H _ I h) fun ov s1 h_=>?_)); obtain⟨x,H1,I1,r1,q1⟩:=h_;refine j4 (Z9 (thn (hi pc s1 σ H1 _ I1 q1) fun iv s2 h_=>?_)); obtain⟨y,H2,I2,r2,q2⟩:=h_;refine j4 (Nx (j4 (Z9 (thn (hs pc s2 σ H2 x y v ov iv u _ I2 r1 r2 r q2) fun _ s3 h_=>?_)))); obtain⟨H3,I3,q3⟩:=h_;exact wpAny_release ⟨σ,H3,I3,q3⟩
def zeU(te:TE)(g:TG):TS:=fun D σ H=>te σ H fun x H1=>g x σ H1 D.nx
theorem znS{tg e:jU}{te:TE}{g:TG}(he:PE X e te)(hg:PG X tg g)(hs:swapsWithSole [tg] e pos.line X.env=pure false:=by rfl)(hw:swappedStores [tg] e X.env=pure none:=by rfl)
  (h1:(assignEach [tg] X.env).map (·.2)=[Wi tg X.env]:=by rfl):PS X (.Assign [tg] e pos) (zeU te g):=by
 intro pc s σ H D I h;refine wpAny_Assign_stores (thn (he pc s σ H _ I h) fun v s1 ⟨x,H1,I1,r1,q1⟩=>?_) hs hw;rw[h1];exact thn (hg pc s1 σ H1 x v _ I1 r1 q1) fun _ s2 q=>q
theorem znQ{i:Nat}{x:Str}{e:jU}{te:TE}{pos':Pos}(hN:X.N.Nodup)(hi:X.N[i]?=some x)(hx:Loc X.env.scope x)(he:PE X e te)(hs:gD e (some (.Name x pos')) pos.line X.env=pure false:=by rfl)(hf:X.fn x=true∨X.env.scope.names.lookup x=some .local:=by first |exact .inl rfl |exact .inr rfl |assumption) :
  PS X (.Assign [.Name x pos'] e pos) (zeU te (zcF i)):=by
 intro pc s σ H D I h;refine wpAny_Assign_Name (thn (he pc s σ H _ I h) fun v s1 ⟨y,H1,I1,r1,q1⟩=>?_) hs;exact zgG I1 hN hi hx r1 (fun s2 I2=>⟨_,H1,I2,q1⟩) hf
end
structure It where
 go:Nat->Hp->Prop
 yld:Nat->Hp->V->Hp->Prop
 stop:Nat->Hp->Prop
def zhZ(X:Cx)(pc:List (ji × Obj))(H:Hp)(b:ji):Prop:=
 H b=none/\b≠X.env.locals/\b∉X.fs/\(b∈X.ex∨X.s₀.heap.objs.size<=b)/\(∀ x c,X.env.cells.lookup x=some c->c≠b)/\∀ p∈X.pn++pc,p.1≠b
theorem Inv.fpOk{X:Cx}{pc:List (ji × Obj)}{σ:St}{H H':Hp}{s:j6}{b:ji}(I:Inv X pc σ H s)(hb:s.heap.objs.size<=b)(hn:H' b=none):zhZ X pc H' b:=by
 refine⟨hn,ZL (jC I.lt hb),I.nofs hb,.inr (Q2 I.sz hb),fun x c e z=>?_,fun p hp z=>?_⟩
 ·obtain⟨v,q⟩:=I.cell x c e;exact absurd (jC q.lt (by rw[z]; exact hb)) (Qc _)
 ·exact absurd (jC (jq (I.pin p hp).1) (by rw[z]; exact hb)) (Qc _)
structure Turn (P:jt) (w:jS) (K:j9) (tg:jU) (J:It) (fp:List ji) (it:ji) (tn:Nat->Qq->Prop):Prop where
 mem:it∈fp
 obj:∀ i h,tn i h->∀ b∈fp,∃ o,h.get? b=some o/\∀ v,o.data≠.cell v
 keep:∀ i h h',tn i h->(∀ b∈fp,∀ o,h.get? b=some o->h'.get? b=some o)->tn i h'
 item:∀(X:Cx),X.prog=P->X.w=w->X.K=K->X.calm=true->∀(i:Nat) (pc:List (ji × Obj)) (s:j6) (σ:St) (H:Hp) (E:j5->j6->Prop),Inv X pc σ H s->(∀ b∈fp,zhZ X pc H b)->tn i s.heap->J.go i H->
  jy (jE P w) X.A (YH (.ref it)) (fun r s1=>∃ u,r=some u /\
   jy (jE P w) X.A (ZR tg (.ref it) u) (fun _ s2=>∃ x H',Inv X pc σ H' s2/\RelV x u/\J.yld i H x H'/\tn (i+1) s2.heap/\∀ b∈fp,H' b=none) E s1) E s
 done:∀(X:Cx),X.prog=P->X.w=w->X.K=K->X.calm=true->∀(i:Nat) (pc:List (ji × Obj)) (s:j6) (σ:St) (H:Hp) (E:j5->j6->Prop),Inv X pc σ H s->(∀ b∈fp,zhZ X pc H b)->tn i s.heap->J.stop i H->
  jy (jE P w) X.A (YH (.ref it)) (fun r s1=>r=none/\Inv X pc σ H s1) E s
 self:∀(A:jP) (i:Nat) (s:j6) (Q:j5->j6->Prop) (E:j5->j6->Prop),tn i s.heap->Q (.ref it) s->jy (jE P w) A (J0 (.ref it)) Q E s
abbrev TI:=St->Hp->(It->Hp->Prop)->Prop
def PIE(X:Cx)(pc:List (ji × Obj))(σ:St)(tg:jU)(R:It->Hp->Prop)(itv:j5)(s2:j6):Prop:=
 ∃(it:ji) (fp:List ji) (tn:Nat->Qq->Prop) (J:It) (H':Hp),itv=.ref it/\Inv X pc σ H' s2/\Turn X.prog X.w X.K tg J fp it tn/\tn 0 s2.heap/\(∀ b∈fp,zhZ X pc H' b)/\R J H'
def PI(X:Cx)(tg iter:jU)(wi:TI):Prop:=
 ∀(pc:List (ji × Obj)) (s:j6) (σ:St) (H:Hp) (R:It->Hp->Prop),Inv X pc σ H s->wi σ H R->
  jy (jE X.prog X.w) X.A (eval iter X.env) (fun v s1=>jy (jE X.prog X.w) X.A (J0 v) (PIE X pc σ tg R) X.xe s1) X.xe s
theorem zhL{M:Model}{A:jP}{E:j5->j6->Prop}{s:j6}{tg:jU}{it:ji}{u:j5}{o:Obj}{n:String}{vs:Array j5}{Q:Unit->j6->Prop}(ho:s.heap.get? it=some o)(hc:o.cls=.type n)(hd:o.data=.fields vs)
    (hn:["enumerate","zip","dict_itemiterator","dict_reverseitemiterator","odict_iterator","itertools.zip_longest","itertools.pairwise"].contains n=false) (hQ:Q () s):jy M A (ZR tg (.ref it) u) Q E s:=by
  unfold ZR;cases tg<;>first
    |exact jf hQ
    | (cases u<;>first
        |exact jf hQ
        | (refine j4 (wpAny_load ho ?_)
           rw[hc,hd];show jy M A (if (["enumerate","zip","dict_itemiterator","dict_reverseitemiterator","odict_iterator","itertools.zip_longest","itertools.pairwise"].contains n&&vs[0]? == some (ZS _))=true then _ else _) Q E s
           rw[In_ (by intro h; rw[hn,Qv] at h; cases h)]
           exact jf hQ))
def Itl(K:j9)(a:ji):It:=
 ⟨fun i H=>∃ xs x,SqL K H a xs/\xs[i]?=some x,fun i H x H'=>H'=H/\∀ xs,SqL K H a xs->xs[i]?=some x,fun i H=>∃ xs,SqL K H a xs/\xs.length<=i⟩
def Itt(K:j9)(a:ji):It:=
 ⟨fun i H=>∃ xs x,SqT K H a xs/\xs[i]?=some x,fun i H x H'=>H'=H/\∀ xs,SqT K H a xs->xs[i]?=some x,fun i H=>∃ xs,SqT K H a xs/\xs.length<=i⟩
def Itr(lo:Int)(n:Nat):It:=⟨fun i _=>i < n,fun i H x H'=>H'=H/\x=.int (lo+i),fun i _=>n<=i⟩
theorem zi7{P:jt}{w:jS}{K:j9}{tg:jU}(a it:ji):Turn P w K tg (Itl K a) [it] it (fun i h=>h.IsListIter it a i) where
 mem:=by simp
 obj:=fun i h st b hb=>by
  have e:b=it:=by simpa using hb
  subst e;obtain⟨o,e,c,d⟩:=st;exact⟨o,e,fun v z=>by rw[d] at z; cases z⟩
 keep:=fun i h h' st k=>st.at fun o e=>k it (by simp) o e
 item:=by
  intro X hP hw hK hc i pc s σ H E I hf st hg;subst hP hw hK;obtain⟨xs,x,hq,hx⟩:=hg;obtain⟨its,rv,p,hz⟩:=I.list hq;obtain⟨u,hu,ru⟩:=rv.get hx;obtain⟨f0,f1,f2,f3,f4,f5⟩:=hf it (by simp)
  refine wpAny_pyNext_list_item st p.isList (x:=u) (by simpa using hu) fun h' st' sb=>?_
  have I1:Inv X pc σ H { s with heap:=h' }:=I.turned (t':=s.toks) (fun b o hb e=>(sb.2 b hb).trans e) f0 f1 f3 f4 f5;obtain⟨o,e,c,d⟩:=id st';exact⟨u,rfl,zhL (s:={ s with heap:=h' }) e c d (by decide) ⟨x,H,I1,ru,⟨rfl,fun ys hy=>by rw[I.list_inj hy hq]; exact hx⟩,st',fun b hb=>(hf b hb).1⟩⟩
 done:=by
  intro X hP hw hK hc i pc s σ H E I hf st hg;subst hP hw hK;obtain⟨xs,hq,hx⟩:=hg;obtain⟨its,rv,p,hz⟩:=I.list hq;obtain⟨f0,f1,f2,f3,f4,f5⟩:=hf it (by simp)
  have hl:=rv.length;exact wpAny_pyNext_list_end (I.ok.hd hc) st p.isList (by simp; lia) fun h' eb=>⟨rfl,I.turned (t':=s.toks) (fun b o hb e=>eb b o hb e) f0 f1 f3 f4 f5⟩
 self:=fun _ _ _ _ _ st h=>wpAny_pyIter_listiter st h
theorem zho{P:jt}{w:jS}{K:j9}{tg:jU}(a it:ji):Turn P w K tg (Itt K a) [it] it (fun i h=>h.IsTupleIter it a i) where
 mem:=by simp
 obj:=fun i h st b hb=>by
  have e:b=it:=by simpa using hb
  subst e;obtain⟨o,e,c,d⟩:=st;exact⟨o,e,fun v z=>by rw[d] at z; cases z⟩
 keep:=fun i h h' st k=>st.at fun o e=>k it (by simp) o e
 item:=by
  intro X hP hw hK hc i pc s σ H E I hf st hg;subst hP hw hK;obtain⟨xs,x,hq,hx⟩:=hg;obtain⟨its,rv,p,hz⟩:=I.tuple hq;obtain⟨u,hu,ru⟩:=rv.get hx;obtain⟨f0,f1,f2,f3,f4,f5⟩:=hf it (by simp)
  refine wpAny_pyNext_tuple_item st (show s.heap.IsTuple a its.toArray from p) (x:=u) (by simpa using hu) fun h' st' sb=>?_
  have I1:Inv X pc σ H { s with heap:=h' }:=I.turned (t':=s.toks) (fun b o hb e=>(sb.2 b hb).trans e) f0 f1 f3 f4 f5;obtain⟨o,e,c,d⟩:=id st';exact⟨u,rfl,zhL (s:={ s with heap:=h' }) e c d (by decide) ⟨x,H,I1,ru,⟨rfl,fun ys hy=>by rw[I.tuple_inj hy hq]; exact hx⟩,st',fun b hb=>(hf b hb).1⟩⟩
 done:=by
  intro X hP hw hK hc i pc s σ H E I hf st hg;subst hP hw hK;obtain⟨xs,hq,hx⟩:=hg;obtain⟨its,rv,p,hz⟩:=I.tuple hq;obtain⟨f0,f1,f2,f3,f4,f5⟩:=hf it (by simp)
  have hl:=rv.length;exact wpAny_pyNext_tuple_end (I.ok.hd hc) st (show s.heap.IsTuple a its.toArray from p) (by simp; lia) fun h' eb=>⟨rfl,I.turned (t':=s.toks) (fun b o hb e=>eb b o hb e) f0 f1 f3 f4 f5⟩
 self:=fun _ _ _ _ _ st h=>wpAny_pyIter_tupleiter st h
theorem zhp{P:jt}{w:jS}{K:j9}{tg:jU}(it:ji)(lo:Int)(n:Nat):Turn P w K tg (Itr lo n) [it] it (fun i h=>IsRangeIter h it (lo+(i:Nat)*1) ((n:Int) - (i:Nat)) 1) where
 mem:=by simp
 obj:=fun i h st b hb=>by
  have e:b=it:=by simpa using hb
  subst e
  exact⟨_,st,fun v z=>by
   have z':Data.fields _=Data.cell v:=z
   cases z'⟩
 keep:=fun i h h' st k=>k it (by simp) _ st
 item:=by
  intro X hP hw hK hc i pc s σ H E I hf st hg;subst hP hw hK;obtain⟨f0,f1,f2,f3,f4,f5⟩:=hf it (by simp)
  have W:=Walks.range (prog:=X.prog) (w:=X.w) (I.ok.hd hc) it lo 1 n;refine W.item i s _ _ hg st fun v h' tk hv st' kk=>?_;obtain⟨t,rfl⟩:=hv;have I1:Inv X pc σ H { s with heap:=h',toks:=tk }:=I.turned (fun b o hb e=>kk b o (by simpa using hb) e) f0 f1 f3 f4 f5
  refine⟨_,rfl,zhL (s:={ s with heap:=h',toks:=tk }) (n:="range_iterator") st' rfl rfl (by decide) ⟨.int (lo+i),H,I1,⟨t,?_⟩,⟨rfl,rfl⟩,st',fun b hb=>(hf b hb).1⟩⟩
  rw[Int.mul_one]
 done:=by
  intro X hP hw hK hc i pc s σ H E I hf st hg;subst hP hw hK;obtain⟨f0,f1,f2,f3,f4,f5⟩:=hf it (by simp)
  exact wpAny_pyNext_range_end (I.ok.hd hc) st (by have:n<=i:=hg; lia) fun h' eb=>⟨rfl,I.turned (t':=s.toks) (fun b o hb e=>eb b o hb e) f0 f1 f3 f4 f5⟩
 self:=fun _ _ _ _ _ st h=>wpAny_pyIter_rangeiter st h
section
variable {tg:jU}
def zj8(K:j9)(tl:TE):TI:=fun σ H R=>tl σ H fun x H1=>∃ a,x=.ref a/\(∃ xs,SqL K H1 a xs)/\R (Itl K a) H1
def zrQ(K:j9)(tl:TE):TI:=fun σ H R=>tl σ H fun x H1=>∃ a,x=.ref a/\(∃ xs,SqT K H1 a xs)/\R (Itt K a) H1
theorem ziB{l:jU}{tl:TE}(hl:PE X l tl):PI X tg l (zj8 X.K tl):=by
 intro pc s σ H R I h;refine thn (hl pc s σ H _ I h) fun v s1 h_=>?_; obtain⟨x,H1,I1,r1,q1⟩:=h_;obtain⟨a,e,⟨xs,hq⟩,q⟩:=q1;subst e;cases r1;obtain⟨its,rv,p,hz⟩:=I1.list hq;refine Y9 p.isList ?_;refine⟨s1.heap.objs.size,[s1.heap.objs.size],_,_,H1,rfl,I1.kept (t':=s1.toks) fun b o e=>j7 _ e,zi7 a _,⟨_,jn _ rfl,rfl,rfl⟩,fun b hb=>?_,q⟩;have e:b=s1.heap.objs.size:=by simpa using hb
 subst e;exact I1.fpOk (jl _) (I1.hok.fresh (jl _))
theorem znT{l:jU}{tl:TE}(hl:PE X l tl):PI X tg l (zrQ X.K tl):=by
 intro pc s σ H R I h;refine thn (hl pc s σ H _ I h) fun v s1 h_=>?_; obtain⟨x,H1,I1,r1,q1⟩:=h_;obtain⟨a,e,⟨xs,hq⟩,q⟩:=q1;subst e;cases r1;obtain⟨its,rv,p,hz⟩:=I1.tuple hq;refine wpAny_pyIter_tuple (show s1.heap.IsTuple a its.toArray from p) ?_;refine⟨s1.heap.objs.size,[s1.heap.objs.size],_,_,H1,rfl,I1.kept (t':=s1.toks) fun b o e=>j7 _ e,zho a _,⟨_,jn _ rfl,rfl,rfl⟩,fun b hb=>?_,q⟩;have e:b=s1.heap.objs.size:=by simpa using hb
 subst e;exact I1.fpOk (jl _) (I1.hok.fresh (jl _))
theorem zgL{pc:List (ji × Obj)}{σ:St}{H:Hp}{s:j6}{R:It->Hp->Prop}{E:j5->j6->Prop}{lo hi:Int}{t u v:Tok}{tk:Nat}(I:Inv X pc σ H s)(h1:-(2 ^ 62)<=lo)(h2:lo < 2 ^ 62)(h3:-(2 ^ 62)<=hi)(h4:hi < 2 ^ 62)
  (q:R (Itr lo (hi - lo).toNat) H):jy (jE X.prog X.w) X.A (J0 (.ref s.heap.objs.size)) (PIE X pc σ tg R) E { s with heap:=s.heap.push { cls:=.type "range",data:=.fields #[.int lo t,.int hi u,.int 1 v] },toks:=tk }:=by
 refine wpAny_pyIter_range (Jb ..) (small_one h1 h2 h3 h4) ?_;have I1:Inv X pc σ H { s with heap:=s.heap.push { cls:=.type "range",data:=.fields #[.int lo t,.int hi u,.int 1 v] },toks:=tk }:=I.kept fun b o e=>j7 _ e
 refine⟨(s.heap.push { cls:=.type "range",data:=.fields #[.int lo t,.int hi u,.int 1 v] }).objs.size,[(s.heap.push { cls:=.type "range",data:=.fields #[.int lo t,.int hi u,.int 1 v] }).objs.size],_,_,H,rfl,
  I1.kept (t':=tk) fun b o e=>j7 _ e,zhp _ lo (hi - lo).toNat,?_,fun b hb=>?_,q⟩
 ·have e1:lo+((0:Nat):Int)*1=lo:=by simp
  have e2:(((hi - lo).toNat:Nat):Int) - ((0:Nat):Int)=Yr lo hi 1:=by rw[rangeSize_one]; split<;>lia
  show IsRangeIter _ _ (lo+((0:Nat):Int)*1) ((((hi - lo).toNat:Nat):Int) - ((0:Nat):Int)) 1;rw[e1,e2];exact jn _ rfl
 ·have e:b=(s.heap.push { cls:=.type "range",data:=.fields #[.int lo t,.int hi u,.int 1 v] }).objs.size:=by simpa using hb
  subst e;exact I1.fpOk (jl _) (I1.hok.fresh (jl _))
def zqy(ta:TA):TI:=fun σ H R=>ta σ H fun vs H1=>∃ j:Int,vs=[.int j]/\-(2 ^ 62)<=j/\j < 2 ^ 62/\R (Itr 0 j.toNat) H1
def zqx(ta:TA):TI:=fun σ H R=>ta σ H fun vs H1=>∃ i j:Int,vs=[.int i,.int j]/\(-(2 ^ 62)<=i/\i < 2 ^ 62/\-(2 ^ 62)<=j/\j < 2 ^ 62)/\R (Itr i (j - i).toNat) H1
theorem ziA{a:jU}{ta:TA}{p pos:Pos}(hg:Gl X "range")(hm:X.mg "range"=none)(ha:PA X [a] ta)(hs:jb [a] X.env=[(false,eval a X.env)]:=by rfl):PI X tg (.Call (.Name "range" p) [a] [] pos) (zqy ta):=by
 intro pc s σ H R I h;refine Call_ (zdC I hg hm WC (Qd (thn (ha pos pc s σ H _ I h) fun us s1 ⟨vs,H1,I1,r1,q1⟩=>?_) hs rfl));obtain⟨j,e,q1,q2,q⟩:=q1;subst e;cases r1 with
 |cons r rr=>
  cases rr;obtain⟨t,rfl⟩:=r;exact call_range_1 (zgL I1 (by lia) (by lia) q1 q2 (by simpa using q))
theorem ziz{a b:jU}{ta:TA}{p pos:Pos}(hg:Gl X "range")(hm:X.mg "range"=none)(ha:PA X [a,b] ta)(hs:jb [a,b] X.env=[(false,eval a X.env),(false,eval b X.env)]:=by rfl)(hs2:jb [b] X.env=[(false,eval b X.env)]:=by rfl) :
  PI X tg (.Call (.Name "range" p) [a,b] [] pos) (zqx ta):=by
 intro pc s σ H R I h;refine Call_ (zdC I hg hm WC (Qd (thn (ha pos pc s σ H _ I h) fun us s1 ⟨vs,H1,I1,r1,q1⟩=>?_) (by rw[hs,hs2]) (by rw[hs2]; rfl)))
 obtain⟨i,j,e,⟨q1,q2,q3,q4⟩,q⟩:=q1;subst e;cases r1 with
 |cons r rr=>
  cases rr with
  |cons r' rr=>
   cases rr;obtain⟨t,rfl⟩:=r;obtain⟨t',rfl⟩:=r';exact call_range_2 (zgL I1 q1 q2 q3 q4 q)
def zoW(wi:TI)(g:TG)(tb:TS):TS:=fun D σ H=>wi σ H fun J H1=>∃ W:Nat->Nat->St->Hp->Prop,(∃ m,W 0 m σ H1)/\∀ i m σ H,W i m σ H->
 (J.stop i H/\D.nx σ H)∨(J.go i H/\∃ N:St->Hp->Prop,(∀ σ' H',N σ' H'->∃ m',m' < m/\W (i+1) m' σ' H')/\∀ x H',J.yld i H x H'->g x σ H' fun σ2 H2=>tb { D with nx:=N,ct:=N,bk:=D.nx } σ2 H2)
def zfg(fp:List ji)(h:Qq):List (ji × Obj):=fp.filterMap fun b=>(h.get? b).map fun o=>(b,o)
theorem zbU{fp:List ji}{h:Qq}{b:ji}{o:Obj}(hb:b∈fp)(e:h.get? b=some o):(b,o)∈zfg fp h:=gV.mpr ⟨b,hb,by rw[e]; rfl⟩
theorem ziN{fp:List ji}{h:Qq}{p:ji × Obj}(hp:p∈zfg fp h):p.1∈fp/\h.get? p.1=some p.2:=by
 obtain⟨b,hb,e⟩:=gV.mp hp;cases q:h.get? b with
 |none=>rw[q] at e; cases e
 |some o=>
  rw[q] at e;have e':(b,o)=p:=jg e;subst e';exact⟨hb,q⟩
theorem Inv.pinned{pc:List (ji × Obj)}{σ:St}{H:Hp}{s:j6}{fp:List ji}(I:Inv X pc σ H s)(hf:∀ b∈fp,zhZ X pc H b)(ho:∀ b∈fp,∃ o,s.heap.get? b=some o/\∀ v,o.data≠.cell v):Inv X (pc++zfg fp s.heap) σ H s:=
 I.pins_of fun p hp=>(jQ.mp hp).elim (fun z=>I.pin p (jH _ z)) fun z=>by
  obtain⟨hb,e⟩:=ziN z;obtain⟨f0,f1,f2,_⟩:=hf p.1 hb;obtain⟨o,e',d⟩:=ho p.1 hb;rw[e] at e'; cases e';exact⟨e,f0,f1,f2,d⟩
theorem Inv.unpinned{pc pl:List (ji × Obj)}{σ:St}{H:Hp}{s:j6}(I:Inv X (pc++pl) σ H s):Inv X pc σ H s:=I.pins_of fun p hp=>I.pin p (jH _ (ZD _ hp))
theorem znR{iter:jU}{body:List QR}{wi:TI}{g:TG}{tb:TS}{pos:Pos}(hp:PassesOwn (jE X.prog X.w) X.A X.env X.xe)(hc:X.calm=true)(hi:PI X tg iter wi)(hg:PG X tg g)(hb:PSs X body tb)
  (hs:∀ x,Z1 iter X.env x=pure x:=by intro _; rfl):PS X (.For tg iter body [] pos) (zoW wi g tb):=by
 intro pc s σ H D I h;refine wpAny_For (thn (hi pc s σ H _ I h) fun v s1 h1=>thn h1 fun itv s2 h2=>?_) hs;obtain⟨it,fp,tn,J,H2,e,I2,T,st2,f2,W,⟨m0,w0⟩,turn⟩:=h2;subst e
 -- what stays true of the iterator's objects through the loop
 have stat:∀ {H':Hp},(∀ b∈fp,H' b=none)->∀ b∈fp,zhZ X pc H' b:=fun hn b hb=>⟨hn b hb,(f2 b hb).2⟩;refine codeAny_forLoop_any (fun n s'=>∃ i σ' H',Inv X pc σ' H' s'/\tn i s'.heap/\(∀ b∈fp,H' b=none)/\W i n σ' H') ?_ m0 ⟨0,σ,H2,I2,st2,fun b hb=>(f2 b hb).1,w0⟩;rintro n s3 ⟨i,σ3,H3,I3,st3,fr3,w3⟩;rcases turn i n σ3 H3 w3 with ⟨stop,qn⟩ |⟨go,N,hN,step⟩
 ·refine ZT hp (thn (T.done X rfl rfl rfl hc i pc s3 σ3 H3 X.xe I3 (stat fr3) st3 stop) fun r s4 h_=>?_); obtain⟨hr,I4⟩:=h_;subst hr;exact ZQ ⟨σ3,H3,I4,qn⟩
 ·refine ZT hp (thn (T.item X rfl rfl rfl hc i pc s3 σ3 H3 X.xe I3 (stat fr3) st3 go) fun r s4 h_=>?_); obtain⟨u,hr,h4⟩:=h_;subst hr;refine ZT hp (thn h4 fun _ s5 h_=>?_); obtain⟨x,H5,I5,r5,y5,st5,fr5⟩:=h_;have I5':=I5.pinned (stat fr5) (T.obj _ _ st5);refine ZT hp (thn (hg _ s5 σ3 H5 x u _ I5' r5 (step x H5 y5)) fun _ s6 h_=>?_); obtain⟨σ6,H6,I6,q6⟩:=h_;refine ZT hp (thn (hb _ s6 σ6 H6 _ I6 q6) fun f s7 q7=>?_);have J1:∀ {σ7:St} {H7:Hp},Inv X (pc++zfg fp s5.heap) σ7 H7 s7->N σ7 H7->∃ m,m < n/\∃ i σ' H',Inv X pc σ' H' s7/\tn i s7.heap/\(∀ b∈fp,H' b=none)/\W i m σ' H':=fun {σ7 H7} I7 n7=>by
   obtain⟨m',hm,w7⟩:=hN σ7 H7 n7;refine⟨m',hm,i+1,σ7,H7,I7.unpinned,T.keep _ _ _ st5 fun b hb o e=>(I7.pin (b,o) (jH _ (jH _ (zbU hb e)))).1,fun b hb=>?_,w7⟩;obtain⟨o,e,d⟩:=T.obj _ _ st5 b hb;exact(I7.pin (b,o) (jH _ (jH _ (zbU hb e)))).2.1
  cases f with
  |next=>obtain⟨σ7,H7,I7,n7⟩:=q7; exact J1 I7 n7
  |cont=>obtain⟨σ7,H7,I7,n7⟩:=q7; exact J1 I7 n7
  |brk=>obtain⟨σ7,H7,I7,q7⟩:=q7; exact⟨σ7,H7,I7.unpinned,q7⟩
  |ret v=>obtain⟨x7,σ7,H7,I7,r7,q7⟩:=q7; exact⟨x7,σ7,H7,I7.unpinned,r7,q7⟩
end
abbrev R2:=V->V->Hp->VK->Prop
def OpR(X:Cx)(f:j5->j5->Sem j5)(r:R2):Prop:=
 ∀(pc:List (ji × Obj)) (s:j6) (σ:St) (H:Hp) (x y:V) (v u:j5) (Q:VK),Inv X pc σ H s->RelV x v->RelV y u->r x y H Q->
  jy (jE X.prog X.w) X.A (f v u) (EP X pc σ Q) X.xe s
def CallR(X:Cx)(f:j5)(r:List V->Hp->VK->Prop):Prop:=
 ∀(pc:List (ji × Obj)) (s:j6) (σ:St) (H:Hp) (xs:List V) (us:List j5) (Q:VK),Inv X pc σ H s->Vals xs us->r xs H Q->
  jy (jE X.prog X.w) X.A (call f us) (EP X pc σ Q) X.xe s
def zrX(X:Cx)(r:V->Hp->(Bool->Hp->Prop)->Prop):Prop:=
 ∀(pc:List (ji × Obj)) (s:j6) (σ:St) (H:Hp) (x:V) (v:j5) (Q:Bool->Hp->Prop),Inv X pc σ H s->RelV x v->r x H Q->
  jy (jE X.prog X.w) X.A (truthy v) (TP X pc σ Q) X.xe s
def tOp(r:R2)(ta tb:TE):TE:=fun σ H Q=>ta σ H fun x H1=>tb σ H1 fun y H2=>r x y H2 Q
def rI(C:Int->Int->Prop)(g:Int->Int->V):R2:=fun x y H Q=>∃ i j,x=.int i/\y=.int j/\C i j/\Q (g i j) H
def rI0(g:Int->Int->V):R2:=fun x y H Q=>∃ i j,x=.int i/\y=.int j/\Q (g i j) H
section
variable {a c:jU}{tc:TE}
theorem zqL(ha:PE X a ta)(hb:PE X b tb){pc:List (ji × Obj)}{s:j6}{σ:St}{H:Hp}{R:V->V->Hp->Prop}(I:Inv X pc σ H s)
  (h:ta σ H fun x H1=>tb σ H1 fun y H2=>R x y H2) {Q:j5->j6->Prop} {f:j5->j5->Sem j5}
  (hf:∀ v u s2 x y H2,Inv X pc σ H2 s2->RelV x v->RelV y u->R x y H2->jy (jE X.prog X.w) X.A (f v u) Q X.xe s2) :
  jy (jE X.prog X.w) X.A (eval a X.env) (fun v s₁=>jy (jE X.prog X.w) X.A (eval b X.env) (fun u s₂=>jy (jE X.prog X.w) X.A (f v u) Q X.xe s₂) X.xe s₁) X.xe s:=by
 refine thn (ha pc s σ H _ I h) fun v s1 h_=>?_; obtain⟨x,H1,I1,r1,q1⟩:=h_;refine thn (hb pc s1 σ H1 _ I1 q1) fun u s2 h_=>?_; obtain⟨y,H2,I2,r2,q2⟩:=h_;exact hf v u s2 x y H2 I2 r1 r2 q2
theorem ziC{op:Operator}{r:R2}(ho:OpR X (gW op) r)(ha:PE X a ta)(hb:PE X b tb):PE X (.BinOp a op b pos) (tOp r ta tb):=by
 intro pc s σ H Q I h;exact wpAny_BinOp (zqL ha hb I h fun v u s2 x y H2 I2 rx ry q=>ho pc s2 σ H2 x y v u Q I2 rx ry q)
theorem opI{f:j5->j5->Sem j5}{C:Int->Int->Prop}{g:Int->Int->Int}
  (rule:∀(i j:Int) (t u:Tok) (s:j6) (Q:j5->j6->Prop) (E:j5->j6->Prop),C i j->Q (.int (g i j) s.toks) { s with toks:=s.toks+1 }->jy (jE X.prog X.w) X.A (f (.int i t) (.int j u)) Q E s) :
  OpR X f (rI C fun i j=>.int (g i j)):=by
 intro pc s σ H x y v u Q I rx ry h;obtain⟨i,j,rfl,rfl,hc,q⟩:=h;obtain⟨t,rfl⟩:=rx;obtain⟨t',rfl⟩:=ry;exact rule i j t t' s _ _ hc ⟨.int (g i j),H,I.tok _,⟨_,rfl⟩,q⟩
theorem zrK{f:j5->j5->Sem j5}{g:Int->Int->Int}
  (rule:∀(i j:Int) (t u:Tok) (s:j6) (Q:j5->j6->Prop) (E:j5->j6->Prop),Q (.int (g i j) s.toks) { s with toks:=s.toks+1 }->jy (jE X.prog X.w) X.A (f (.int i t) (.int j u)) Q E s) :
  OpR X f (rI0 fun i j=>.int (g i j)):=by
 intro pc s σ H x y v u Q I rx ry h;obtain⟨i,j,rfl,rfl,q⟩:=h;obtain⟨t,rfl⟩:=rx;obtain⟨t',rfl⟩:=ry;exact rule i j t t' s _ _ ⟨.int (g i j),H,I.tok _,⟨_,rfl⟩,q⟩
theorem zqk{f:j5->j5->Sem j5}{g:Int->Int->Bool}
  (rule:∀(i j:Int) (t u:Tok) (s:j6) (Q:j5->j6->Prop) (E:j5->j6->Prop),Q (.bool (g i j)) s->jy (jE X.prog X.w) X.A (f (.int i t) (.int j u)) Q E s) :
  OpR X f (rI0 fun i j=>.bl (g i j)):=by
 intro pc s σ H x y v u Q I rx ry h;obtain⟨i,j,rfl,rfl,q⟩:=h;obtain⟨t,rfl⟩:=rx;obtain⟨t',rfl⟩:=ry;exact rule i j t t' s _ _ ⟨.bl (g i j),H,I,rfl,q⟩
def zrZ(i j:Int):Prop:=0 < j/\j < 1073741824
def CMul(i j:Int):Prop:=(-(2 ^ 64) < i/\i < 2 ^ 64)∨(-(2 ^ 64) < j/\j < 2 ^ 64)
theorem CMul.ok{i j:Int}(h:CMul i j):IntMulOk i j:=by
 rcases h with ⟨h1,h2⟩ |⟨h1,h2⟩
 ·exact .of_left (intBits_le_64 h1 h2)
 ·exact .of_right (intBits_le_64 h1 h2)
theorem op_add:OpR X (gW .Add) (rI0 fun i j=>.int (i+j)):=zrK fun _ _ _ _ _ _ _ q=>add_int q
theorem zo2:OpR X (gW .Mult) (rI CMul fun i j=>.int (i*j)):=opI fun _ _ _ _ _ _ _ hc q=>mul_int q hc.ok
theorem zms:OpR X (gW .FloorDiv) (rI zrZ fun i j=>.int (i / j)):=opI fun i j _ _ _ _ _ hc q=>by
 have h1:(0:Int) < j:=hc.1;have h2:j < 1073741824:=hc.2;exact floordiv_int (by lia) (by rw[Int.fdiv_eq_ediv_of_nonneg i (by lia)]; exact q) (.inl (PyProof.noPylong_small (by lia)))
theorem zo3:OpR X (gW .Mod) (rI (fun _ j=>0 < j) fun i j=>.int (i%j)):=opI fun i j _ _ _ _ _ hc q=>by
 have h1:(0:Int) < j:=hc;exact mod_int' (by lia) (by rw[Int.fmod_eq_emod_of_nonneg i (by lia)]; exact q)
end
def zrD:V->V->Bool
 |.non,.non=>true |.non,.int _=>true |.int _,.non=>true |.non,.bl _=>true |.bl _,.non=>true |.non,.str _=>true |.str _,.non=>true
 |.int _,.int _=>true |.bl _,.bl _=>true |.str _,.str _=>true |.byt _,.byt _=>true
 |.int _,.str _=>true |.str _,.int _=>true |.bl _,.str _=>true |.str _,.bl _=>true
 |_,_=>false
def rEq:R2:=fun x y H Q=>zrD x y=true/\Q (.bl (decide (x=y))) H
theorem zmH{i j:Int}:decide (V.int i=V.int j)=(i == j):=by
 rw[Qe];simp
theorem zox{i j:Bool}:decide (V.bl i=V.bl j)=(i == j):=by
 rw[Qe];simp
theorem zmG{i j:Str}:decide (V.str i=V.str j)=(i == j):=by
 rw[Qe];simp
theorem zmI{i j:Array UInt8}:decide (V.byt i=V.byt j)=(i.toList == j.toList):=by
 rw[Qe];cases i;cases j;simp
section
variable {a c:jU}{tc:TE}
theorem zb2{pc:List (ji × Obj)}{σ:St}{H:Hp}{s:j6}{Q:VK}{k k':Bool}(I:Inv X pc σ H s)(q:Q (.bl k) H)(e:k=k'):EP X pc σ Q (.bool k') s:=by
 subst e;exact⟨.bl k,H,I,rfl,q⟩
theorem zqj:OpR X (QM .Eq) rEq:=by
 intro pc s σ H x y v u Q I rx ry h;obtain⟨hs,q⟩:=h;cases x with
 |non=>
  cases rx;cases y with
  |non=>cases ry; exact PySem.EqNone.eq_none_none (zb2 I q (by simp))
  |bl j=>cases ry; exact PySem.EqNone.eq_none_bool (zb2 I q (by simp))
  |int j=>obtain⟨t',rfl⟩:=ry; exact PySem.EqNone.eq_none_int (zb2 I q (by simp))
  |str j=>obtain⟨t',rfl⟩:=ry; exact PySem.EqNone.eq_none_str (zb2 I q (by simp))
  |_=>exact absurd (show false=true from hs) ju
 |bl i=>
  cases rx;cases y with
  |non=>cases ry; exact PySem.EqNone.eq_bool_none (zb2 I q (by simp))
  |bl j=>cases ry; exact eq_bool (zb2 I q zox)
  |str j=>obtain⟨t',rfl⟩:=ry; exact Wu (zb2 I q (by simp))
  |_=>exact absurd (show false=true from hs) ju
 |int i=>
  obtain⟨t,rfl⟩:=rx;cases y with
  |non=>cases ry; exact PySem.EqNone.eq_int_none (zb2 I q (by simp))
  |int j=>obtain⟨t',rfl⟩:=ry; exact eq_int (zb2 I q zmH)
  |str j=>obtain⟨t',rfl⟩:=ry; exact WD (zb2 I q (by simp))
  |_=>exact absurd (show false=true from hs) ju
 |str i=>
  obtain⟨t,rfl⟩:=rx;cases y with
  |non=>cases ry; exact PySem.EqNone.eq_str_none (zb2 I q (by simp))
  |bl j=>cases ry; exact Wv (zb2 I q (by simp))
  |int j=>obtain⟨t',rfl⟩:=ry; exact WE (zb2 I q (by simp))
  |str j=>obtain⟨t',rfl⟩:=ry; exact eq_str (zb2 I q zmG)
  |_=>exact absurd (show false=true from hs) ju
 |byt i=>
  obtain⟨t,rfl⟩:=rx;cases y with
  |byt j=>obtain⟨t',rfl⟩:=ry; exact PySem.W.eq_bytes (zb2 I q zmI)
  |_=>exact absurd (show false=true from hs) ju
 |_=>cases y<;>exact absurd (show false=true from hs) ju
theorem op_lt:OpR X (QM .Lt) (rI0 fun i j=>.bl (decide (i < j))):=zqk fun _ _ _ _ _ _ _ q=>lt_int q
theorem op_le:OpR X (QM .LtE) (rI0 fun i j=>.bl (decide (i<=j))):=zqk fun _ _ _ _ _ _ _ q=>le_int q
theorem zqi:OpR X (QM .Gt) (rI0 fun i j=>.bl (decide (j < i))):=zqk fun _ _ _ _ _ _ _ q=>gt_int q
theorem ziG:OpR X (QM .Lt) (fun x y H Q=>∃ i j,x=.str i/\y=.str j/\Q (.bl (decide (i.cps.toList < j.cps.toList))) H):=by
 intro pc s σ H x y v u Q I rx ry h;obtain⟨i,j,rfl,rfl,q⟩:=h;obtain⟨t,rfl⟩:=rx;obtain⟨t',rfl⟩:=ry;exact lt_str (zb2 I q rfl)
theorem OpR.or{f:j5->j5->Sem j5}{r r':R2}(h:OpR X f r)(h':OpR X f r'):OpR X f (fun x y H Q=>r x y H Q∨r' x y H Q):=by
 intro pc s σ H x y v u Q I rx ry q;rcases q with q |q
 ·exact h pc s σ H x y v u Q I rx ry q
 ·exact h' pc s σ H x y v u Q I rx ry q
theorem zdx(b:jU){op:CmpOp}(h:op≠.In:=by decide)(h2:op≠.NotIn:=by decide):Z8 op b=false:=by
 have e1:(op == CmpOp.In)=false:=by cases op<;>first |rfl |exact absurd rfl h
 have e2:(op == CmpOp.NotIn)=false:=by cases op<;>first |rfl |exact absurd rfl h2
 cases b<;>simp[Z8,e1,e2]
theorem ziE{op:CmpOp}{r:R2}(ho:OpR X (QM op) r)(ha:PE X a ta)(hb:PE X b tb)(hm:Z8 op b=false):PE X (.Compare a [op] [b] pos) (tOp r ta tb):=by
 intro pc s σ H Q I h;exact wpAny_Compare1 (zqL ha hb I h fun v u s2 x y H2 I2 rx ry q=>ho pc s2 σ H2 x y v u Q I2 rx ry q) hm
def znt(t:TE):TT:=fun σ H Q=>t σ H fun x H'=>∃ k,x=.bl k/\Q k H'
theorem zcB{op:CmpOp}{r:R2}(ho:OpR X (QM op) r)(ha:PE X a ta)(hb:PE X b tb)(hm:Z8 op b=false):PT X (.Compare a [op] [b] pos) (znt (tOp r ta tb)):=by
 intro pc s σ H Q I h
 refine YU (thn (ha pc s σ H _ I h) fun v s1 ⟨x,H1,I1,r1,q1⟩=>thn (hb pc s1 σ H1 _ I1 q1) fun u s2 ⟨y,H2,I2,r2,q2⟩=>
  thn (ho pc s2 σ H2 x y v u _ I2 r1 r2 q2) fun c s3 ⟨z,H3,I3,r3,k,e,q3⟩=>?_) hm
 subst e;cases r3;exact Qx ⟨H3,I3,q3⟩
def zkS(r r':R2)(ta tb tc:TE):TE:=fun σ H Q=>ta σ H fun x H1=>tb σ H1 fun y H2=>r x y H2 fun z H3=>∃ k,z=.bl k /\
 (if k=true then tc σ H3 fun w' H4=>r' y w' H4 Q else Q (.bl false) H3)
theorem zkg{op op':CmpOp}{r r':R2}(ho:OpR X (QM op) r)(ho':OpR X (QM op') r')(ha:PE X a ta)(hb:PE X b tb)(hc:PE X c tc)
  (hm:lastMarks [op,op'] [b,c]=false:=by with_unfolding_all rfl):PE X (.Compare a [op,op'] [b,c] pos) (zkS r r' ta tb tc):=by
 intro pc s σ H Q I h
 refine Compare_chain (thn (ha pc s σ H _ I h) fun v s1 ⟨x,H1,I1,r1,q1⟩=>chain_link (thn (hb pc s1 σ H1 _ I1 q1) fun u s2 ⟨y,H2,I2,r2,q2⟩=>
  thn (ho pc s2 σ H2 x y v u _ I2 r1 r2 q2) fun d s3 ⟨z,H3,I3,r3,k,e,q3⟩=>?_)) hm
 subst e;cases r3;refine Qx ?_;cases k with
 |false=>exact ite_ff ⟨.bl false,H3,I3,rfl,q3⟩
 |true=>exact ite_tt (chain_last (thn (hc pc s3 σ H3 _ I3 q3) fun w' s4 ⟨z',H4,I4,r4,q4⟩=>ho' pc s4 σ H4 y z' u w' Q I4 r2 r4 q4))
def zqN(K:j9)(x:V)(H:Hp)(k:Bool):Prop:=
 match x with
 |.non=>k=false
 |.bl b=>k=b
 |.int i=>k=(i != 0)
 |.str y=>y.length<=ja/\k=((y.length:Int) != 0)
 |.byt y=>y.size<=ja/\k=((y.size:Int) != 0)
 |.ref p=>(∃ xs,SqL K H p xs/\k=!xs.isEmpty)∨(∃ xs,SqT K H p xs/\k=!xs.isEmpty)∨∃ kvs,H p=some (.dK kvs)/\k=!kvs.isEmpty
 |_=>False
theorem zhJ{κ:Type}{kvs:List (κ × V)}{vs:List (κ × j5)}(r:KV kvs vs):(!vs.isEmpty)=!kvs.isEmpty:=by
 cases r<;>rfl
theorem ze5{xs:List V}{its:List j5}(r:Vals xs its):(!its.toArray.isEmpty)=!xs.isEmpty:=by
 cases r<;>simp
theorem zdz:(ja:Nat) < 2 ^ 63:=by rw[Qs]; decide
theorem zns:zrX X (fun x H Q=>∃ k,zqN X.K x H k/\Q k H):=by
 intro pc s σ H x v Q I rx h;obtain⟨k,e,q⟩:=h;have hl:=zdz;have hs:ja=16777216:=Qs;cases x with
 |non=>
  cases rx;have e':k=false:=e;subst e';exact truthy_none ⟨H,I,q⟩
 |bl b=>
  cases rx;have e':k=b:=e;subst e';exact Qx ⟨H,I,q⟩
 |int i=>
  obtain⟨t,rfl⟩:=rx;have e':k=(i != 0):=e;subst e';exact PySem.P.truthy_int ⟨H,I,q⟩
 |str y=>
  obtain⟨t,rfl⟩:=rx;obtain⟨hy,e'⟩:y.length<=ja/\k=((y.length:Int) != 0):=e;subst e';exact PySem.P.truthy_str (by lia) ⟨H,I.tok _,q⟩
 |byt y=>
  obtain⟨t,rfl⟩:=rx;obtain⟨hy,e'⟩:y.size<=ja/\k=((y.size:Int) != 0):=e;subst e';exact PySem.W.truthy_bytes (by lia) ⟨H,I.tok _,q⟩
 |ref p=>
  cases rx;have e':(∃ xs,SqL X.K H p xs/\k=!xs.isEmpty)∨(∃ xs,SqT X.K H p xs/\k=!xs.isEmpty)∨∃ kvs,H p=some (.dK kvs)/\k=!kvs.isEmpty:=e;rcases e' with ⟨xs,hx,e'⟩ |⟨xs,hx,e'⟩ |⟨kvs,hx,e'⟩
  ·subst e';obtain⟨its,r,pl,hz⟩:=I.list hx;have hlen:=r.length;exact wpAny_truthy_list pl.isList (by simp only[jj]; lia) ⟨H,I.tok _,by rw[ze5 r]; exact q⟩
  ·subst e';obtain⟨its,r,pl,hz⟩:=I.tuple hx;have hlen:=r.length;exact truthy_tuple pl (by simp only[jj]; lia) ⟨H,I.tok _,by rw[ze5 r]; exact q⟩
  ·subst e';obtain⟨hz,hS,vs,r,m⟩:kvs.length<=ja/\(p == Z0)=false/\∃ vs,KV kvs vs/\s.heap.DictOf (zaC X.prog X.w) p vs:=I.hok p _ hx;have hlen:kvs.length=vs.length:=Yo r;exact wpAny_truthy_dict hS m (by lia) ⟨H,I.tok _,by rw[zhJ r]; exact q⟩
 |_=>exact(show False from e).elim
theorem zk7(ha:PE X a ta)(he:∀ whole,isTrue a X.env whole=(do let v <-whole; NJ a.pos; gC [v] (truthy v))) :
  PT X a (fun σ H Q=>ta σ H fun x H'=>∃ k,zqN X.K x H' k/\Q k H'):=by
 intro pc s σ H Q I h;exact isTrue_plain (thn (ha pc s σ H _ I h) fun v s1 ⟨x,H1,I1,r1,q1⟩=>zns pc s1 σ H1 x v Q I1 r1 q1) (he _)
theorem zhz:OpR X (gW .Add) (fun x y H Q=>∃ i j,x=.str i/\y=.str j/\i.length+j.length<=ja/\Q (.str (i++j)) H):=by
 intro pc s σ H x y v u Q I rx ry h;obtain⟨i,j,rfl,rfl,hz,q⟩:=h;obtain⟨t,rfl⟩:=rx;obtain⟨t',rfl⟩:=ry;exact add_str (fun t' tk=>⟨.str (i++j),H,I.tok _,⟨_,rfl⟩,q⟩) hz
theorem zi3{x:V}{us:List j5}(r:Vals [x] us):∃ u,us=[u]/\RelV x u:=by
 cases r with
 |cons r1 r2=>cases r2; exact⟨_,rfl,r1⟩
theorem zlz{x y:V}{us:List j5}(r:Vals [x,y] us):∃ u w',us=[u,w']/\RelV x u/\RelV y w':=by
 cases r with
 |cons r1 r2=>
  cases r2 with
  |cons r3 r4=>cases r4; exact⟨_,_,rfl,r1,r3⟩
theorem zjy(hc:X.calm=true):CallR X (.builtin "min") (fun xs H Q=>∃ i j,xs=[.int i,.int j]/\Q (.int (if j < i then j else i)) H):=by
 intro pc s σ H xs us Q I r h;obtain⟨i,j,rfl,q⟩:=h;obtain⟨u,w',rfl,⟨t,rfl⟩,⟨t',rfl⟩⟩:=zlz r;refine min_two_ints (I.ok.hd hc) fun h' tk k=>⟨_,H,I.kept k,?_,q⟩
 by_cases hj:j < i
 ·rw[Ip_ hj,Ip_ hj]; exact⟨_,rfl⟩
 ·rw[In_ hj,In_ hj]; exact⟨_,rfl⟩
theorem zjB:CallR X (.type "int") (fun xs H Q=>(∃ i,xs=[.int i]/\Q (.int i) H)∨∃ k,xs=[.bl k]/\Q (.int (if k then 1 else 0)) H):=by
 intro pc s σ H xs us Q I r h;rcases h with ⟨i,rfl,q⟩ |⟨k,rfl,q⟩
 ·obtain⟨u,rfl,t,rfl⟩:=zi3 r;exact call_int_int ⟨.int i,H,I,⟨_,rfl⟩,q⟩
 ·obtain⟨u,rfl,r1⟩:=zi3 r;cases r1;exact call_int_bool ⟨.int (if k then 1 else 0),H,I.tok _,⟨_,rfl⟩,q⟩
end
theorem RelO.some_of{v:V}{o:Option j5}(r:RelO (some v) o):∃ u,o=some u/\RelV v u:=by
 cases o with
 |none=>exact(show False from r).elim
 |some u=>exact⟨u,rfl,r⟩
structure Room (k:Nat) (A:jP):Prop where
 hd:A.handled=none
 dp:A.depth+3*k+5 < recursionLimit
 un:A.units+16*k+200 < g8
theorem Room.mono{j k:Nat}{A:jP}(r:Room k A)(h:j<=k):Room j A:=⟨r.hd,by have:=r.dp; lia,by have:=r.un; lia⟩
theorem Room.deeper{k:Nat}{A:jP}(r:Room (k+1) A)(env:Env):Room k (A.deeper env):=
 ⟨r.hd,by have:=r.dp; show A.depth+1+3*k+5 < _; lia,by have:=r.un; show A.units+3+16*k+200 < _; lia⟩
theorem Room.depth{k:Nat}{A:jP}(r:Room k A):A.depth < recursionLimit:=by have:=r.dp; lia
theorem Room.units{k:Nat}{A:jP}(r:Room k A):A.units+64 < g8:=by have:=r.un; lia
def zfT:TA:=fun _ H Q=>Q [] H
def zb8(ta:TE)(tr:TA):TA:=fun σ H Q=>ta σ H fun x H1=>tr σ H1 fun xs H2=>Q (x::xs) H2
section
variable {te:TE}
theorem zaz:PA X [] zfT:=fun _ _ _ _ H Q I h=>g9 ⟨[],H,I,.nil,h⟩
theorem za8(ha:PE X e te)(hr:PA X es t)(hs:jb (e::es) X.env=(false,eval e X.env)::jb es X.env:=by rfl):PA X (e::es) (zb8 te t):=by
 intro pos pc s σ H Q I h;rw[hs];show jy _ _ (NI ((false,eval e X.env)::Qr pos (jb es X.env))) _ _ s;refine Qf (thn (ha pc s σ H _ I h) fun u s1 h_=>?_); obtain⟨x,H1,I1,r1,q1⟩:=h_;exact thn (hr pos pc s1 σ H1 _ I1 q1) fun us s2 ⟨xs,H2,I2,r2,q2⟩=>⟨x::xs,H2,I2,.cons r1 r2,q2⟩
def zoU(t:TA):TE:=fun σ H Q=>t σ H fun xs H1=>xs.length<=ja/\∀ p,H1 p=none->Q (.ref p) (upd H1 p (.tup xs))
def zry(t:TA):TE:=fun σ H Q=>t σ H fun xs H1=>xs.length<=ja/\∀ p,H1 p=none->Q (.ref p) (upd H1 p (.lst xs))
theorem zcT{x1}(h:PA X es t):PE X (.Tuple es x1 pos) (zoU t):=by
 intro pc s σ H Q I hq;refine wpAny_Tuple_spliced (thn (h pos pc s σ H _ I hq) fun us s1 ⟨xs,H1,I1,r,z,q⟩=>⟨by rw[<-r.length]; exact z,?_⟩)
 have hf:H1 s1.heap.objs.size=none:=I1.hok.fresh (jl _);refine⟨.ref s1.heap.objs.size,upd H1 s1.heap.objs.size (.tup xs),I1.laid (t':=s1.toks) (fun b u e=>j7 _ e) (jl _) ?_,rfl,q _ hf⟩;exact⟨z,us,r,⟨_,jn _ rfl,rfl,_,rfl⟩⟩
theorem zl8(h:PA X es t):PE X (.List es pos) (zry t):=by
 intro pc s σ H Q I hq;refine wpAny_List_spliced (thn (h pos pc s σ H _ I hq) fun us s1 ⟨xs,H1,I1,r,z,q⟩=>⟨by rw[<-r.length]; exact z,?_⟩)
 have hf:H1 s1.heap.objs.size=none:=I1.hok.fresh (jl _);refine⟨.ref s1.heap.objs.size,upd H1 s1.heap.objs.size (.lst xs),I1.laid (t':=s1.toks) (fun b u e=>j7 _ e) (jl _) ?_,rfl,q _ hf⟩;exact⟨z,us,0,r,jn _ rfl⟩
end
abbrev Sp:=List V->Hp->VK->XK->Prop
abbrev CXT:=List Env->Hp->j6->XK->j5->j6->Prop
structure Env0 (P:jt) (w:jS) (K:j9) (mg:Str->Option j5) (base:Qq) (A:jP) (outer:List Env) (s:j6) (H:Hp):Prop where
 frames:A.frames=some outer
 mod:Mod K mg base
 bs:∀ b o,base.get? b=some o->s.heap.get? b=some o/\H b=none
 bsz:base.objs.size<=s.heap.objs.size
 funs:s.heap.FunFrames base outer
 frf:∀ b∈frs outer,H b=none
 hok:HOk P w H s.heap
 bare:Yp s.gens
def CE(outer:List Env)(P:jt)(w:jS)(H:Hp)(s:j6)(Q:VK)(u:j5)(s':j6):Prop:=
 ∃ v H',s'.os=s.os/\Yp s'.gens/\Un (frs outer) [] H H' s.heap s'.heap/\HOk P w H' s'.heap/\RelV v u/\Q v H'
def CR(CX:CXT)(outer:List Env)(P:jt)(w:jS)(H:Hp)(s:j6)(Q:VK)(E:XK)(r:WF)(s':j6):Prop:=
 match r with
 |.ok (.ret u)=>CE outer P w H s Q u s'
 |.ok _=>False
 |.error e=>CX outer H s E e s'
structure FnOk (P:jt) (w:jS) (K:j9) (mg:Str->Option j5) (base:Qq) (CX:CXT) (k:Nat) (f:ji) (fd:QU) (ps:List Str) (sp:Sp):Prop where
 len:∀ vs H Q E,sp vs H Q E->vs.length=ps.length
 run:∀(A:jP) (outer:List Env) (s:j6) (H:Hp) (args:Args) (us:List j5) (vs:List V) (Q:VK) (E:XK),Room k A->Env0 P w K mg base A outer s H->NL s fd args (ps.zip us)->Vals vs us->sp vs H Q E->
  Y3 (jE P w) A (.call (.ref f) args) (CR CX outer P w H s Q E) s
theorem FnOk.mono{P:jt}{w:jS}{K:j9}{mg:Str->Option j5}{base:Qq}{CX:CXT}{j k:Nat}{f:ji}{fd:QU}{ps:List Str}{sp:Sp}(F:FnOk P w K mg base CX j f fd ps sp)(h:j<=k) :
  FnOk P w K mg base CX k f fd ps sp:=⟨F.len,fun A outer s H args us vs Q E hr=>F.run A outer s H args us vs Q E (hr.mono h)⟩
section
variable {s':j6}
theorem Inv.env0(I:Inv X pc σ H s):Env0 X.prog X.w X.K X.mg X.base X.A X.stack s H:=
 ⟨I.ok.frames,I.ok.mod,I.bs,Q2 I.ok.bsz I.sz,I.stack,I.stkFree,I.hok,I.bare⟩
theorem Inv.after{Q:VK}{u:j5}(I:Inv X pc σ H s)(h:CE X.stack X.prog X.w H s Q u s'):EP X pc σ Q u s':=by
 obtain⟨v,H',os,bare,un,hok,r,q⟩:=h;obtain⟨hh,g,d,t,os'⟩:=s';obtain rfl:os'=s.os:=os;exact⟨v,H',I.call (h':=hh) (g':=g) (d':=d) (t':=t) (ch:=[]) un hok bare (fun b z=>absurd z (by simp)),r,q⟩
end
def zg1(sp:Sp)(dvs:List V)(E:XK)(t:TA):TE:=fun σ H Q=>t σ H fun vs H1=>sp (vs++dvs) H1 Q E
def Binds(K:j9)(fd:QU)(ps:List Str)(ds:List j5):Prop:=
 ∀(s:j6) (us:List j5),K.In s.heap->(us++ds).length=ps.length->NL s fd ⟨us,[]⟩ (ps.zip (us++ds))
theorem Binds.all{K:j9}{fd:QU}{ps:List Str}(h:∀ us:List j5,us.length=ps.length->Ys fd ⟨us,[]⟩=pure (ps.zip us)):Binds K fd ps []:=fun s us _ hl=>by
 rw[ZU] at hl ⊢;exact .of_eq (h us hl)
def zfS(CX:CXT)(X:Cx)(E:XK):Prop:=∀(pc:List (ji × Obj)) (σ:St) (H:Hp) (s:j6) (e:j5) (s':j6),Inv X pc σ H s->CX X.stack H s E e s'->X.xe e s'
section
variable {CX:CXT}{k:Nat}{f C:ji}{fd:QU}{ps:List Str}{sp:Sp}{dvs:List V}{ds:List j5}{E:XK}{x m:Str}{p apos:Pos}{o:jU}
theorem znD{pc:List (ji × Obj)}{σ:St}{H:Hp}{s:j6}{Q:VK}{us:List j5}{vs:List V}(F:FnOk X.prog X.w X.K X.mg X.base CX k f fd ps sp)(hr:Room k X.A)(hb:Binds X.K fd ps ds)(hd:Vals dvs ds)(hx:zfS CX X E)
  (I:Inv X pc σ H s) (r:Vals vs us) (h:sp (vs++dvs) H Q E):jy (jE X.prog X.w) X.A (call (.ref f) us) (EP X pc σ Q) X.xe s:=by
 have r2:Vals (vs++dvs) (us++ds):=r.append hd;have hl:(us++ds).length=ps.length:=by rw[<-r2.length]; exact F.len _ _ _ _ h
 refine wpAny_call (gX (F.run X.A X.stack s H ⟨us,[]⟩ (us++ds) (vs++dvs) Q E hr I.env0 (hb s us I.kIn hl) r2 h) fun r s' hq=>?_);cases r with
 |error e=>exact hx pc σ H s e s' I hq
 |ok fl=>
  cases fl with
  |ret u=>exact I.after hq
  |next=>exact QK hq
  |brk=>exact QK hq
  |cont=>exact QK hq
theorem zcC(F:FnOk X.prog X.w X.K X.mg X.base CX k f fd ps sp)(hr:Room k X.A)(hg:Gl X x)(hm:X.mg x=some (.ref f))(hk:Q3 X.K (.ref f)=true)(hb:Binds X.K fd ps ds)(hd:Vals dvs ds)(hx:zfS CX X E)
  (ha:PA X (e::es) t) (hdb:(x == ("__debug__":Str))=false:=by decide) (he:jb (e::es) X.env=(false,eval e X.env)::jb es X.env:=by rfl) (hpl:(Qr pos (jb es X.env)).any (·.1)=false:=by rfl) :
  PE X (.Call (.Name x p) (e::es) [] pos) (zg1 sp dvs E t):=by
 intro pc s σ H Q I h;refine gY (zes I hg hm ?_ hdb);refine PySem.W.callWith_K (h₀:=X.base) I.ok.mod.kin hk (thn (ha pos pc s σ H _ I h) fun us s1 ⟨vs,H1,I1,r,q⟩=>⟨I1.kIn,?_⟩) he hpl;exact znD F hr hb hd hx I1 r q
end
structure FnScope (N P:List Str) (sc:gO):Prop where
 kind:sc.kind=.function
 co:sc.isCoroutine=false
 gen:sc.isGenerator=false
 nd:N.Nodup
 pre:N.take P.length=P
 par:∀ x∈P,sc.names.lookup x=some .local∨sc.names.lookup x=some .cell
 nofree:∀ y∈sc.names,y.2≠.free
theorem zfN{kindOf:Str->Option Yt}{x:Str}:∀ {binds:List (Str × j5)} {m:Str->Option j5},(∀ v,(x,v)∉binds)->Jc kindOf binds m x=m x
 |[],_,_=>rfl
 |(n,v)::r,m,h=>by
  unfold Jc;rw[zfN fun w hw=>h w (jh _ hw)];split
  ·have:x≠n:=by rintro rfl; exact h v jG
   simp[this]
  ·rfl
theorem zfP{kindOf:Str->Option Yt}{x:Str}:∀ {binds:List (Str × j5)} {m:Str->Option j5},(∀ v,(x,v)∉binds)->Jd kindOf binds m x=m x
 |[],_,_=>rfl
 |(n,v)::r,m,h=>by
  unfold Jd;rw[zfP fun w hw=>h w (jh _ hw)];split
  ·rfl
  ·have:x≠n:=by rintro rfl; exact h v jG
   simp[this]
theorem zfO{kindOf:Str->Option Yt}{x:Str}{v:j5}:∀ {P:List Str} {vs:List j5} {i:Nat} {m:Str->Option j5},P.Nodup->P[i]?=some x->vs[i]?=some v->kindOf x=some .local->
  Jc kindOf (P.zip vs) m x=some v
 |[],_,_,_,_,h,_,_=>by simp at h
 |_::_,[],_,_,_,_,h,_=>by simp at h
 |p::P,w::vs,0,m,nd,h1,h2,hk=>by
  simp at h1 h2; subst h1; subst h2;show Jc kindOf ((p,w)::P.zip vs) m p=_;unfold Jc;rw[zfN fun v hv=>(Qg.mp nd).1 (gE hv).1,Ip_ hk];simp
 |p::P,w::vs,i+1,m,nd,h1,h2,hk=>by
  show Jc kindOf ((p,w)::P.zip vs) m x=_;unfold Jc;exact zfO (i:=i) (Qg.mp nd).2 (by simpa using h1) (by simpa using h2) hk
theorem zfQ{kindOf:Str->Option Yt}{x:Str}{v:j5}:∀ {P:List Str} {vs:List j5} {i:Nat} {m:Str->Option j5},P.Nodup->P[i]?=some x->vs[i]?=some v->kindOf x≠some .local->
  Jd kindOf (P.zip vs) m x=some v
 |[],_,_,_,_,h,_,_=>by simp at h
 |_::_,[],_,_,_,_,h,_=>by simp at h
 |p::P,w::vs,0,m,nd,h1,h2,hk=>by
  simp at h1 h2; subst h1; subst h2;show Jd kindOf ((p,w)::P.zip vs) m p=_;unfold Jd;rw[zfP fun v hv=>(Qg.mp nd).1 (gE hv).1,In_ hk];simp
 |p::P,w::vs,i+1,m,nd,h1,h2,hk=>by
  show Jd kindOf ((p,w)::P.zip vs) m x=_;unfold Jd;exact zfQ (i:=i) (Qg.mp nd).2 (by simpa using h1) (by simpa using h2) hk
def start(N:List Str)(vs:List V):St:=vs.map some++gf (N.length - vs.length) none
def zeN(CX:CXT)(P:jt)(w:jS)(K:j9)(mg:Str->Option j5)(base:Qq)(N:List Str)(qual:Str)(scope:gO)(f:ji)(cd:j5)(A:jP)(outer:List Env)(s:j6)(H:Hp)(E:XK):Cx where
 prog:=P
 w:=w
 K:=K
 mg:=mg
 base:=base
 A:=A.deeper (ZC qual scope s.heap.objs.size f cd)
 N:=N
 s₀:=s
 H₀:=H
 env:=ZC qual scope s.heap.objs.size f cd
 outer:=outer
 stack:=ZC qual scope s.heap.objs.size f cd::outer
 ex:=[]
 calm:=true
 fn:=fun _=>true
 pn:=[]
 xe:=fun e s'=>jy (jE P w) (A.deeper (ZC qual scope s.heap.objs.size f cd)) (leaving (ZC qual scope s.heap.objs.size f cd) e) (fun _ s''=>CX outer H s E e s'') (fun e' s''=>CX outer H s E e' s'') s'
theorem zhe{sc:gO}{n:Nat}{x:Str}(h:sc.names.lookup x=some .cell):∃ c,(Wj n sc.names []).lookup x=some c:=by
 have q:=g6 sc.names n [] (.inl h);exact Option.isSome_iff_exists.mp q
theorem zfw{CX:CXT}{P:jt}{w:jS}{K:j9}{mg:Str->Option j5}{base:Qq}{N ps:List Str}{qual:Str}{scope:gO}{f:ji}{cd:j5}{A:jP}{outer:List Env}{s s1:j6}{H:Hp}{E:XK}{us:List j5}{vs:List V}
  (S:FnScope N ps scope) (hd:A.handled=none) (e0:Env0 P w K mg base A outer s H) (hl:vs.length=ps.length) (r:Vals vs us)
  (x:InCallC s s.heap.objs.size (Jc (ZC qual scope s.heap.objs.size f cd).kindOf (ps.zip us) fun _=>none) (Wj (s.heap.objs.size+1) scope.names []) (Jd (ZC qual scope s.heap.objs.size f cd).kindOf (ps.zip us) fun _=>none) s1) :
  Inv (zeN CX P w K mg base N qual scope f cd A outer s H E) [] (start N vs) H s1:=by
 have hpl:ps.length<=N.length:=by have:=congrArg gF S.pre; rw[jN] at this; lia
 obtain⟨h1,tk,rfl,hk⟩:=x.done;have noA:∀ b:ji,b∉(zeN CX P w K mg base N qual scope f cd A outer s H E).ex:=fun b z=>absurd (show b∈([]:List ji) from z) (by simp)
 refine⟨⟨e0.mod,S.kind,rfl,rfl,jl _,fun y z c h1 h2=>?_,fun y hy=>?_,fun y c _ h=>?_,fun _=>hd,Na e0.frames,.inr ⟨rfl,rfl⟩,fun b z=>absurd z (noA b),e0.bs,e0.bsz,fun b _ _=>noA b,fun b z=>absurd z (noA b),e0.funs,e0.frf⟩,
  rfl,e0.bare,Un.kept hk,⟨_,x.toInCall.ns,fun i y v h1 h2 h3=>?_⟩,fun y c h=>⟨_,x.cell y c h⟩,e0.hok.fresh (jl _),fun y c h=>?_,fun p hp=>absurd (show p∈([]:List (ji × Obj)) from hp) (by simp),e0.hok.kept hk,?_⟩
 ·exact name_of_addr x.apart (Za h1) (Za h2)
 ·have hy:scope.names.lookup y=some .cell∨scope.names.lookup y=some .free:=hy;rcases hy with hy |hy
  ·exact zhe hy
  ·exact absurd rfl (S.nofree _ (Za hy))
 ·exact gT (x.above y c (Za h))
 ·have hi:i < vs.length:=by
   unfold start at h2
   by_cases hi:i < vs.length
   ·exact hi
   ·rw[QJ (by simpa using hi)] at h2
    rw[ZV] at h2;split at h2<;>cases h2
  have ha:vs[i]?=some v:=by
   unfold start at h2;rw[Qn (by simpa using hi),jk] at h2
   cases e:vs[i]? with
   |none=>rw[e] at h2; cases h2
   |some a=>rw[e] at h2; cases h2; rfl
  obtain⟨u,hu,rv⟩:=r.get ha;have hp:ps[i]?=some y:=by
   rw[<-S.pre,List.getElem?_take_of_lt (by lia)]; exact h1
  have ndP:ps.Nodup:=by rw[<-S.pre]; exact S.nd.sublist (Ya _ _)
  refine⟨u,rv,?_⟩;rcases S.par y (jZ hp) with k |k
  ·exact .inl ⟨k,zfO ndP hp hu k⟩
  ·obtain⟨c,e⟩:=zhe (n:=s.heap.objs.size+1) k;refine .inr ⟨.inl k,c,e,?_⟩;have q:=x.cell y c e;rw[zfQ ndP hp hu (by show scope.names.lookup y≠_; rw[k]; decide)] at q
   exact q
 ·exact e0.hok.fresh (gT (x.above y c (Za h)))
 ·unfold start;show _=N.length;rw[js,je,Zq];lia
theorem zqB{CX:CXT}{P:jt}{w:jS}{K:j9}{mg:Str->Option j5}{base:Qq}{k:Nat}{f:ji}{name qual:Str}{params:Arguments}{body:List QR}{scope:gO}{dV kV doc pm cdv ct oc:j5}{an od:Option ji}
  {osl:Array (Option j5)} {N ps:List Str} {sp:Sp} (lk:K.lookup f=some ⟨oc,od,.func (jW name qual params body scope dV kV doc pm an cdv ct),osl⟩) (hcd:Zi K cdv qual=true) (S:FnScope N ps scope)
  (len:∀ vs H Q E,sp vs H Q E->vs.length=ps.length)
  (hbody:∀(A:jP) (outer:List Env) (s:j6) (H:Hp) (vs:List V) (Q:VK) (E:XK),Room k (A.deeper (ZC qual scope s.heap.objs.size f cdv))->sp vs H Q E->
   ∃ t,PSs (zeN CX P w K mg base N qual scope f cdv A outer s H E) body t/\t { nx:=fun _ H'=>Q .non H',rt:=Q } (start N vs) H) :
  FnOk P w K mg base CX (k+1) f (jW name qual params body scope dV kV doc pm an cdv ct) ps sp:=by
 refine⟨len,fun A outer s H args us vs Q E hr e0 hb r hsp=>?_⟩;have hl:=len _ _ _ _ hsp;have KX:K.In s.heap:=e0.mod.kin.keeps fun b o e=>(e0.bs b o e).1;have lim:s.heap.NoLimit:=e0.mod.nolimit.keeps fun b o e=>(e0.bs b o e).1;have hkind:∀ y∈ps.zip us,scope.names.lookup y.1=some .local∨(scope.names.lookup y.1=some .cell/\((Wj (s.heap.objs.size+1) scope.names []).lookup y.1).isSome=true):=fun⟨n,v⟩ hy=>by
  rcases S.par n (gE hy).1 with q |q
  ·exact .inl q
  ·exact .inr ⟨q,g6 _ _ _ (.inl q)⟩
 refine YV hr.depth (KX _ _ lk) rfl S.co S.gen rfl (Ny KX hcd) (hb _ _ _ _ ?_);refine gQ S.kind hkind fun env he s1 x=>?_;subst he;refine⟨lim.keeps x.toInCall.keep,codeAny_func ?_⟩;obtain⟨t,ht,hq⟩:=hbody A outer s H vs Q E (hr.deeper _) hsp;have I:Inv (zeN CX P w K mg base N qual scope f cdv A outer s H E) [] (start N vs) H s1:=zfw S hr.hd e0 hl r x;refine Q7 (ht [] s1 (start N vs) H _ I hq) (fun fl s' hs=>?_) fun e s' hs=>hs;have fin:∀ {σ':St} {H':Hp} {v:V} {u:j5},Inv (zeN CX P w K mg base N qual scope f cdv A outer s H E) [] σ' H' s'->RelV v u->Q v H'->CE outer P w H s Q u s':=
  fun {σ' H' v u} J rv q=>⟨v,H',J.os,J.bare,J.base,J.hok,rv,q⟩
 cases fl with
 |ret u=>
  obtain⟨v,σ',H',J,rv,q⟩:=hs;exact fin J rv q
 |next=>
  obtain⟨σ',H',J,q⟩:=hs;exact fin (v:=V.non) (u:=QZ) J rfl q
 |brk=>
  obtain⟨_,_,_,q⟩:=hs;exact QK q
 |cont=>
  obtain⟨_,_,_,q⟩:=hs;exact QK q
section
variable {x:Str}{p:Pos}{id T:String}{r:List V->Hp->VK->Prop}
def tCB(r:List V->Hp->VK->Prop)(t:TA):TE:=fun σ H Q=>t σ H fun vs H1=>r vs H1 Q
theorem zaY(hc:CallR X (.builtin id) r)(hg:Gl X x)(hm:X.mg x=none)(hv:Qj x=some (.builtin id))(ha:PA X (e::es) t)(hn:x≠"__name__":=by decide)(hdb:(x == ("__debug__":Str))=false:=by decide)
  (he:jb (e::es) X.env=(false,eval e X.env)::jb es X.env:=by rfl) (hpl:(Qr pos (jb es X.env)).any (·.1)=false:=by rfl):PE X (.Call (.Name x p) (e::es) [] pos) (tCB r t):=by
 intro pc s σ H Q I h;refine gY (zdC I hg hm hv ?_ hn hdb);exact PyProof.Rows.callWith_builtin1 (thn (ha pos pc s σ H _ I h) fun us s1 ⟨vs,H1,I1,r1,q1⟩=>hc pc s1 σ H1 vs us Q I1 r1 q1) he hpl
theorem zfi(hc:CallR X (.type T) r)(hg:Gl X x)(hm:X.mg x=none)(hv:Qj x=some (.type T))(ha:PA X (e::es) t)(hn:x≠"__name__":=by decide)(hdb:(x == ("__debug__":Str))=false:=by decide)
  (he:jb (e::es) X.env=(false,eval e X.env)::jb es X.env:=by rfl) (hpl:(Qr pos (jb es X.env)).any (·.1)=false:=by rfl):PE X (.Call (.Name x p) (e::es) [] pos) (tCB r t):=by
 intro pc s σ H Q I h;refine gY (zdC I hg hm hv ?_ hn hdb);exact Qd (thn (ha pos pc s σ H _ I h) fun us s1 ⟨vs,H1,I1,r1,q1⟩=>hc pc s1 σ H1 vs us Q I1 r1 q1) he hpl
end
end L2
namespace HT
open PySem PyProof.Rows
section
variable {prog:jt}{w:jS}{A:jP}{E:j5->j6->Prop}{s:j6}
def sIx(n d:Nat):Option Int->Nat
 |none=>d
 |some v=>if v < 0 then (v+(n:Int)).toNat else min v.toNat n
theorem sIx_none(n d:Nat):sIx n d none=d:=rfl
theorem sIx_nat(n d k:Nat):sIx n d (some (k:Int))=min k n:=by
 show (if (k:Int) < 0 then ((k:Int)+(n:Int)).toNat else min (k:Int).toNat n)=min k n
 rw[In_ (by lia),jv]
end
end HT
namespace L2
open PySem PySem.Spec PyProof.Rows
variable {X:Cx}{e o:jU}{pos:Pos}{pc:List (ji × Obj)}{σ:St}{H:Hp}{s:j6}{a:ji}{u:j5}{A:jP}{E:j5->j6->Prop}
abbrev TO:=St->Hp->(Option Int->Hp->Prop)->Prop
def PO(X:Cx)(e:Option jU)(t:TO):Prop:=
 ∀(pc:List (ji × Obj)) (s:j6) (σ:St) (H:Hp) (Q:Option Int->Hp->Prop),Inv X pc σ H s->t σ H Q->
  jy (jE X.prog X.w) X.A (evalPart e X.env) (fun u s'=>∃ o H',Inv X pc σ H' s'/\IsPart u o/\Q o H') X.xe s
def zlL:TO:=fun _ H Q=>Q none H
def zpN(t:TE):TO:=fun σ H Q=>t σ H fun x H1=>∃ i,x=.int i/\Q (some i) H1
section
variable {te:TE}{lo hi:Option jU}{tl th:TO}{p2:Pos}
theorem zmk:PO X none zlL:=by
 intro pc s σ H Q I h;rw[evalPart_none];exact jf ⟨none,H,I,.none,h⟩
theorem zmj(h:PE X e te):PO X (some e) (zpN te):=by
 intro pc s σ H Q I hw;rw[evalPart_some];refine thn (h pc s σ H _ I hw) fun u s1 h_=>?_; obtain⟨x,H1,I1,r1,q1⟩:=h_;obtain⟨i,rfl,q⟩:=q1;obtain⟨t,rfl⟩:=r1;exact⟨some i,H1,I1,.int i t,q⟩
def SlR(X:Cx)(r:V->Option Int->Option Int->Hp->VK->Prop):Prop:=
 ∀(pc:List (ji × Obj)) (s:j6) (σ:St) (H:Hp) (x:V) (v vl vu:j5) (lo hi:Option Int) (sl:ji) (Q:VK),Inv X pc σ H s->RelV x v->s.heap.IsSliceOf sl vl vu .none->IsPart vl lo->IsPart vu hi->r x lo hi H Q->
  ∃ T id,typeLookup (.type T) "__getitem__"=pure (some (.builtin id))/\s.TypeIs v T/\jy (jE X.prog X.w) X.A (Wk v (.ref sl)) (EP X pc σ Q) X.xe s
def tSl(r:V->Option Int->Option Int->Hp->VK->Prop)(te:TE)(tl th:TO):TE:=fun σ H Q=>te σ H fun x H1=>tl σ H1 fun l H2=>th σ H2 fun u H3=>r x l u H3 Q
theorem zep{r:V->Option Int->Option Int->Hp->VK->Prop}(hr:SlR X r)(he:PE X e te)(hl:PO X lo tl)(hu:PO X hi th):PE X (.Subscript e (.Slice lo hi none p2) pos) (tSl r te tl th):=by
 intro pc s σ H Q I h;refine WG (thn (he pc s σ H _ I h) fun v s1 h_=>?_); obtain⟨x,H1,I1,r1,q1⟩:=h_;refine wpAny_Slice (thn (hl pc s1 σ H1 _ I1 q1) fun vl s2 h_=>?_); obtain⟨l,H2,I2,pl,q2⟩:=h_; refine thn (hu pc s2 σ H2 _ I2 q2) fun vu s3 h_=>?_; obtain⟨u,H3,I3,pu,q3⟩:=h_;rw[evalPart_none];refine jf ?_;have I4:Inv X pc σ H3 { s3 with heap:=s3.heap.push { cls:=.type "slice",data:=.fields #[vl,vu,.none] } }:=I3.kept (t':=s3.toks) fun b ob q=>j7 _ q;obtain⟨T,id,hT,ht,hg⟩:=hr pc { s3 with heap:=s3.heap.push { cls:=.type "slice",data:=.fields #[vl,vu,.none] } } σ H3 x v vl vu l u s3.heap.objs.size Q I4 r1 (Jf ..) pl pu q3;show jy (jE X.prog X.w) X.A (Nz e (.Slice lo hi none p2) v (.ref s3.heap.objs.size)) (EP X pc σ Q) X.xe { s3 with heap:=s3.heap.push { cls:=.type "slice",data:=.fields #[vl,vu,.none] } };exact tail_any (ops:=[.ref s3.heap.objs.size,v]) ht hT hg (by with_unfolding_all rfl)
def zlq(xs:List V)(lo hi:Option Int):List V:=(xs.drop (HT.sIx xs.length 0 lo)).take (HT.sIx xs.length xs.length hi - HT.sIx xs.length 0 lo)
theorem zgu(xs:List V)(lo hi:Option Int):(zlq xs lo hi).length<=xs.length:=by
 unfold zlq;rw[jN,Qk];lia
end
def ixN(n:Nat)(i:Int):Option Nat:=if 0<=i then (if i < n then some i.toNat else none) else if -(n:Int)<=i then some (i+n).toNat else none
def atI{α:Type}(xs:List α)(i:Int):Option α:=(ixN xs.length i).bind fun j=>xs[j]?
theorem zj1{n:Nat}{i:Int}{j:Nat}(h:ixN n i=some j):NA i n=some j/\j < n/\-(n:Int)<=i/\i < n:=by
 unfold ixN at h
 by_cases h0:0<=i
 ·rw[Ip_ h0] at h
  by_cases h1:i < n
  ·rw[Ip_ h1] at h;have e:i.toNat=j:=jg h;exact⟨by rw[Wl h0 h1,e],by lia,by lia,h1⟩
  ·rw[In_ h1] at h; cases h
 ·rw[In_ h0] at h
  by_cases h1:-(n:Int)<=i
  ·rw[Ip_ h1] at h;have e:(i+n).toNat=j:=jg h;exact⟨by rw[W6 (by lia) h1,e],by lia,h1,by lia⟩
  ·rw[In_ h1] at h; cases h
theorem zgx{α:Type}{xs:List α}{i:Int}{v:α}(h:atI xs i=some v):∃ j,NA i xs.length=some j/\xs[j]?=some v/\j < xs.length/\-(xs.length:Int)<=i/\i < xs.length:=by
 unfold atI at h;cases e:ixN xs.length i with
 |none=>rw[e] at h; cases h
 |some j=>
  rw[e] at h;obtain⟨h1,h2,h3,h4⟩:=zj1 e;exact⟨j,h1,h,h2,h3,h4⟩
theorem zjD{α:Type}{xs:List α}{j:Nat}{v:α}(h:xs[j]?=some v):atI xs (j:Int)=some v:=by
 have hj:j < xs.length:=(jd.mp h).1;have e:ixN xs.length (j:Int)=some j:=by
  unfold ixN;rw[Ip_ (by lia),Ip_ (by lia)]; simp
 unfold atI; rw[e]; exact h
def zdP(b:jU):Prop:=∀ o i,Nl b false o i=WK [o,i] (Wk o i)
def IxR(X:Cx)(r:R2):Prop:=
 ∀(value slice:jU) (pc:List (ji × Obj)) (s:j6) (σ:St) (H:Hp) (x y:V) (v u:j5) (Q:VK),Inv X pc σ H s->RelV x v->RelV y u->r x y H Q->
  Nl slice false v u=WK [v,u] (Wk v u)->jy (jE X.prog X.w) X.A (Nz value slice v u) (EP X pc σ Q) X.xe s
def MtR(X:Cx)(id:String)(r:V->List V->Hp->VK->Prop):Prop:=
 ∀(pc:List (ji × Obj)) (s:j6) (σ:St) (H:Hp) (x:V) (xs:List V) (v:j5) (us:List j5) (Q:VK),Inv X pc σ H s->RelV x v->Vals xs us->r x xs H Q->
  jy (jE X.prog X.w) X.A (call (.builtin id) (v::us)) (EP X pc σ Q) X.xe s
section
variable {a b:jU}{ta tb:TE}
theorem IxR.or{r r':R2}(h:IxR X r)(h':IxR X r'):IxR X (fun x y H Q=>r x y H Q∨r' x y H Q):=by
 intro value slice pc s σ H x y v u Q I rx ry q hs;rcases q with q |q
 ·exact h value slice pc s σ H x y v u Q I rx ry q hs
 ·exact h' value slice pc s σ H x y v u Q I rx ry q hs
theorem zmq{r:R2}(hr:IxR X r)(ha:PE X a ta)(hb:PE X b tb)(hs:zdP b):PE X (.Subscript a b pos) (tOp r ta tb):=by
 intro pc s σ H Q I h;exact WG (zqL ha hb I h fun v u s2 x y H2 I2 rx ry q=>hr a b pc s2 σ H2 x y v u Q I2 rx ry q (hs _ _))
def zqY(K:j9):R2:=fun x y H Q=>∃ p xs i v,x=.ref p/\y=.int i/\SqL K H p xs/\atI xs i=some v/\Q v H
def zqW(K:j9):R2:=fun x y H Q=>∃ p xs i v,x=.ref p/\y=.int i/\SqT K H p xs/\atI xs i=some v/\Q v H
def zqX:R2:=fun x y H Q=>∃ z i c,x=.str z/\y=.int i/\z.length<=ja/\atI z.cps.toList i=some c/\Q (.str ⟨#[c]⟩) H
theorem ix_list:IxR X (zqY X.K):=by
 intro value slice pc s σ H x y v u Q I rx ry h hs;obtain⟨p,xs,i,z,rfl,rfl,hq,he,q⟩:=h;cases rx;obtain⟨t,rfl⟩:=ry;obtain⟨its,r,pl,hz⟩:=I.list hq;obtain⟨j,h1,h2,h3,h4,h5⟩:=zgx he;obtain⟨w,ew,rw'⟩:=r.get h2;have hl:=r.length;have hn:=zdz;have fin:EP X pc σ Q w s:=⟨z,H,I,rw',q⟩
 by_cases h0:0<=i
 ·have hj:i.toNat=j:=by
   rw[Wl h0 h5] at h1;exact jg h1
  exact item_listR pl.isList h0 (by lia) (by rw[hj]; simpa using ew) fin hs
 ·have hj:(i+(its.toArray.size:Int)).toNat=j:=by
   rw[W6 (by lia) h4] at h1
   rw[jj,<-hl];exact jg h1
  exact YN (x:=w) pl.isList.typeIs NM.lookup
   (wpAny_getItem_list_neg (Q:=fun r s'=>r=w/\EP X pc σ Q r s') pl.isList (by lia) (by rw[jj]<;>lia) (by lia) (by rw[hj]; simpa using ew) ⟨rfl,fin⟩) hs
theorem ix_tup:IxR X (zqW X.K):=by
 intro value slice pc s σ H x y v u Q I rx ry h hs;obtain⟨p,xs,i,z,rfl,rfl,hq,he,q⟩:=h;cases rx;obtain⟨t,rfl⟩:=ry;obtain⟨its,r,pl,hz⟩:=I.tuple hq;obtain⟨j,h1,h2,h3,h4,h5⟩:=zgx he;obtain⟨w,ew,rw'⟩:=r.get h2;have hl:=r.length;have hn:=zdz;have fin:EP X pc σ Q w s:=⟨z,H,I,rw',q⟩;exact YN (x:=w) pl.typeIs slot_tuple_getitem.lookup
  (getItem_tuple (j:=j) (Q:=fun r s'=>r=w/\EP X pc σ Q r s') pl (by lia) (by lia) (by rw[jj,<-hl]; exact h1) (by simpa using ew) ⟨rfl,fin⟩) hs
theorem zok:IxR X zqX:=by
 intro value slice pc s σ H x y v u Q I rx ry h hs;obtain⟨z,i,c,rfl,rfl,hz,he,q⟩:=h;obtain⟨t,rfl⟩:=rx;obtain⟨t',rfl⟩:=ry;obtain⟨j,h1,h2,h3,h4,h5⟩:=zgx he;have hl:z.cps.toList.length=z.length:=by simp[NN]
 rw[hl] at h1 h4 h5;have hn:=zdz
 exact tail_any (N6 s z t) slot_str_getitem.lookup (getItem_str (c:=c) (by
  have e1:decide (i < -(2 ^ 63:Int))=false:=Df_ (by lia)
  have e2:decide (i≥2 ^ 63)=false:=Df_ (by lia)
  rw[e1,e2,Bool.or_false]) (by rw[h1]; simpa using h2) ⟨.str ⟨#[c]⟩,H,I.tok _,⟨_,rfl⟩,q⟩) hs
def rIx(K:j9):R2:=fun x y H Q=>zqY K x y H Q∨zqW K x y H Q∨zqX x y H Q
theorem zle:IxR X (rIx X.K):=ix_list.or (ix_tup.or zok)
theorem zhE(its:List j5)(n j:Nat)(u:j5):ZM (·.setIfInBounds j u) { cls:=.type "list",data:=.seq its.toArray n }={ cls:=.type "list",data:=.seq (its.set j u).toArray n }:=by
 simp[ZM]
theorem Inv.lst{pc:List (ji × Obj)}{σ:St}{H:Hp}{s:j6}{p:ji}{xs:List V}(I:Inv X pc σ H s)(h:H p=some (.lst xs)) :
  ∃(its:List j5) (n:Nat),Vals xs its/\s.heap.get? p=some { cls:=.type "list",data:=.seq its.toArray n }/\xs.length<=ja:=by
 obtain⟨z,its,n,r,e⟩:=I.hok p _ h;exact⟨its,n,r,e,z⟩
theorem Inv.lstUpd{pc:List (ji × Obj)}{σ:St}{H:Hp}{s:j6}{p:ji}{xs ys:List V}{its its':List j5}{n n':Nat}{f:Obj->Obj}(I:Inv X pc σ H s)(h:H p=some (.lst xs))
  (ho:s.heap.get? p=some { cls:=.type "list",data:=.seq its.toArray n }) (hf:f { cls:=.type "list",data:=.seq its.toArray n }={ cls:=.type "list",data:=.seq its'.toArray n' }) (r:Vals ys its') (hz:ys.length<=ja) (t:Nat) :
  Inv X pc σ (upd H p (.lst ys)) { s with heap:=s.heap.update p f,toks:=t }:=by
 have e:(s.heap.update p f).get? p=some { cls:=.type "list",data:=.seq its'.toArray n' }:=by
  rw[Qa f ho (by rw[hf]<;>rfl),hf]
 refine I.write (x:=p) (e:=p) (by rw[h]; trivial) (.inl rfl) (fun b u hb q=>(Zk _ _ (Zp hb)).trans q) ⟨_,e⟩ ?_
 exact⟨hz,its',n',r,e⟩
def znF:V->V->V->Hp->(Hp->Prop)->Prop:=fun o i v H Q=>∃ p xs k j,o=.ref p/\i=.int k/\H p=some (.lst xs)/\ixN xs.length k=some j/\Q (upd H p (.lst (xs.set j v)))
theorem zd3:zqO X znF:=by
 intro pc s σ H o i v ov iv u Q I ro ri rv h;obtain⟨p,xs,k,j,rfl,rfl,hp,hj,q⟩:=h;cases ro;obtain⟨t,rfl⟩:=ri;obtain⟨its,n,r,ho,hz⟩:=I.lst hp;obtain⟨h1,h2,h3,h4⟩:=zj1 hj;have hl:=r.length;have hn:=zdz;have I':Inv X pc σ (upd H p (.lst (xs.set j v))) { s with heap:=s.heap.update p (ZM (·.setIfInBounds j u)) }:=
  I.lstUpd hp ho (zhE its n j u) (r.set rv j) (by rw[jT]; exact hz) s.toks
 by_cases h0:0<=k
 ·have hk:k.toNat=j:=by
   rw[Wl h0 h4] at h1;exact jg h1
  exact PySem.W.ki_setAt ho h0 (by lia) (by rw[jj,<-hl]; exact h4) (by rw[hk]; exact⟨_,I',q⟩)
 ·have hk:(k+(its.toArray.size:Int)).toNat=j:=by
   rw[W6 (by lia) h3] at h1
   rw[jj,<-hl];exact jg h1
  exact PySem.W.ki_setBack ho (by lia) (by rw[jj,<-hl]; exact h3) (by lia) (by rw[hk]; exact⟨_,I',q⟩)
theorem zeY(lo hi:Option Int)(n:Nat):(gb lo hi none n).1=((HT.sIx n 0 lo:Nat):Int)/\(gb lo hi none n).2.1=((HT.sIx n n hi:Nat):Int)/\(gb lo hi none n).2.2=1:=by
 refine⟨?_,?_,rfl⟩
 ·cases lo with
  |none=>simp[gb,HT.sIx]
  |some i=>
   simp only[gb,HT.sIx,Wc,show (1:Int) > 0 by decide,if_true]
   by_cases h:i < 0
   ·simp only[h,if_true]<;>lia
   ·simp only[h,if_false]<;>lia
 ·cases hi with
  |none=>simp[gb,HT.sIx]
  |some i=>
   simp only[gb,HT.sIx,Wc,show (1:Int) > 0 by decide,if_true]
   by_cases h:i < 0
   ·simp only[h,if_true]<;>lia
   ·simp only[h,if_false]<;>lia
theorem zef(its:List j5)(lo hi:Option Int):slicePick its.toArray lo hi none=((its.drop (HT.sIx its.length 0 lo)).take (HT.sIx its.length its.length hi - HT.sIx its.length 0 lo)).toArray:=by
 obtain⟨h1,h2,h3⟩:=zeY lo hi its.toArray.size;unfold slicePick;rw[h1,h2,h3];simp only[sliceRange_one,pick_run,jj]<;>rfl
def zqV(K:j9):V->Option Int->Option Int->Hp->VK->Prop:=fun x lo hi H Q=>∃ a xs,x=.ref a/\SqL K H a xs/\∀ p,H p=none->Q (.ref p) (upd H p (.lst (zlq xs lo hi)))
theorem zid:SlR X (zqV X.K):=by
 intro pc s σ H x v vl vu lo hi sl Q I rx hs pl pu h;obtain⟨a,xs,rfl,hx,q⟩:=h;cases rx;obtain⟨its,r,ht,hz⟩:=I.list hx;have hlen:=r.length;refine⟨"list",_,NM.lookup,ht.isList.typeIs,?_⟩;refine wpAny_getItem_list_slice ht.isList hs pl pu .none (by simp) ?_ (by rw[jj]<;>lia)
 rw[zef,<-hlen];refine⟨.ref s.heap.objs.size,_,I.laid (t':=s.toks) (o:=.lst (zlq xs lo hi)) (fun b ob q=>j7 _ q) (jl _) ?_,rfl,q _ (I.hok.fresh (jl _))⟩;exact⟨Q2 (zgu xs lo hi) hz,_,0,(r.drop (HT.sIx xs.length 0 lo)).take (HT.sIx xs.length xs.length hi - HT.sIx xs.length 0 lo),jn _ rfl⟩
def zcH:V->Bool
 |.non=>true
 |.bl _=>true
 |.int _=>true
 |.str _=>true
 |_=>false
def eqV:V->V->Bool
 |.non,.non=>true
 |.bl a,.bl b=>a == b
 |.bl a,.int b=>(if a then 1 else 0) == b
 |.int a,.bl b=>a == (if b then 1 else 0)
 |.int a,.int b=>a == b
 |.str a,.str b=>a == b
 |_,_=>false
theorem zot{A:jP}{s:j6}{y x:V}{u v:j5}(ry:RelV y u)(rx:RelV x v)(fy:zcH y=true)(fx:zcH x=true):SeqAt.EqAt A s u v (eqV y x):=by
 cases y with
 |non=>
  cases ry;cases x with
  |non=>cases rx; exact SeqAt.EqAt.same _
  |bl b=>cases rx; exact SeqAt.EqAt.none_bool b
  |int b=>obtain⟨t,rfl⟩:=rx; exact SeqAt.EqAt.none_int b t
  |str b=>obtain⟨t,rfl⟩:=rx; exact SeqAt.EqAt.none_str b t
  |_=>exact absurd (show false=true from fx) ju
 |bl a=>
  cases ry;cases x with
  |non=>cases rx; exact SeqAt.EqAt.bool_none a
  |bl b=>cases rx; exact SeqAt.EqAt.bool_bool a b
  |int b=>obtain⟨t,rfl⟩:=rx; exact SeqAt.EqAt.bool_int a b t
  |str b=>obtain⟨t,rfl⟩:=rx; exact SeqAt.EqAt.bool_str a b t
  |_=>exact absurd (show false=true from fx) ju
 |int a=>
  obtain⟨t',rfl⟩:=ry;cases x with
  |non=>cases rx; exact SeqAt.EqAt.int_none a t'
  |bl b=>cases rx; exact SeqAt.EqAt.int_bool a t' b
  |int b=>obtain⟨t,rfl⟩:=rx; exact SeqAt.EqAt.int_int a t' b t
  |str b=>obtain⟨t,rfl⟩:=rx; exact Nv a t' b t
  |_=>exact absurd (show false=true from fx) ju
 |str a=>
  obtain⟨t',rfl⟩:=ry;cases x with
  |non=>cases rx; exact SeqAt.EqAt.str_none a t'
  |bl b=>cases rx; exact SeqAt.EqAt.str_bool a t' b
  |int b=>obtain⟨t,rfl⟩:=rx; exact Nw a t' b t
  |str b=>obtain⟨t,rfl⟩:=rx; exact SeqAt.EqAt.str_str a t' b t
  |_=>exact absurd (show false=true from fx) ju
 |_=>exact absurd (show false=true from fy) ju
def eqU(x:V)(u:j5):Bool:=match u with
 |.none=>eqV .non x
 |.bool b=>eqV (.bl b) x
 |.int i _=>eqV (.int i) x
 |.str z _=>eqV (.str z) x
 |_=>false
theorem zjh{x y:V}{u:j5}(r:RelV y u)(f:zcH y=true):eqU x u=eqV y x:=by
 cases y with
 |non=>cases r; rfl
 |bl b=>cases r; rfl
 |int i=>obtain⟨t,rfl⟩:=r; rfl
 |str z=>obtain⟨t,rfl⟩:=r; rfl
 |_=>exact absurd (show false=true from f) ju
theorem zgy{x:V}:∀ {xs:List V} {us:List j5},Vals xs us->xs.all zcH=true->us.any (eqU x)=xs.any fun y=>eqV y x
 |_,_,.nil,_=>rfl
 |y::xs,u::us,.cons r t,f=>by
  rw[gz,jo] at f;rw[ZA,ZA,zjh r f.1,zgy t f.2]
theorem zd8{A:jP}{s:j6}{x:V}{v:j5}(rx:RelV x v)(fx:zcH x=true):∀ {xs:List V} {us:List j5},Vals xs us->xs.all zcH=true->∀ u∈us,SeqAt.EqAt A s u v (eqU x u)
 |_,_,.nil,_=>fun u hu=>by cases hu
 |y::xs,u::us,.cons r t,f=>fun u' hu=>by
  rw[gz,jo] at f;rcases jA.mp hu with rfl |hu
  ·rw[zjh r f.1]; exact zot r rx f.1 fx
  ·exact zd8 rx fx t f.2 u' hu
def inV(x:V)(xs:List V):Bool:=xs.any fun y=>eqV y x
def rIn(K:j9)(neg:Bool):R2:=fun x y H Q=>∃ p xs,y=.ref p/\(SqL K H p xs∨SqT K H p xs)/\zcH x=true/\xs.all zcH=true/\Q (.bl (if neg then !inV x xs else inV x xs)) H
theorem zfk:OpR X (QM .NotIn) (rIn X.K true):=by
 intro pc s σ H x y v u Q I rx ry h;obtain⟨p,xs,rfl,hq,fx,fs,q⟩:=h;cases ry;rcases hq with hq |hq
 ·obtain⟨its,r,pl,hz⟩:=I.list hq;refine SeqAt.notIn_listAt (eqU x) pl.isList (fun w hw=>zd8 rx fx r fs w (by simpa using hw)) ⟨.bl _,H,I,rfl,?_⟩
  rw[show its.toArray.any (eqU x)=its.any (eqU x) by simp,zgy r fs]
  exact q
 ·obtain⟨its,r,pl,hz⟩:=I.tuple hq;refine SeqAt.notIn_tupleAt (eqU x) pl (fun w hw=>zd8 rx fx r fs w (by simpa using hw)) ⟨.bl _,H,I,rfl,?_⟩
  rw[show its.toArray.any (eqU x)=its.any (eqU x) by simp,zgy r fs]
  exact q
theorem zfL:CallR X (.builtin "len") (fun xs H Q=>∃ p ys,xs=[.ref p]/\(SqL X.K H p ys∨SqT X.K H p ys)/\Q (.int ys.length) H):=by
 intro pc s σ H xs us Q I r h;obtain⟨p,ys,rfl,hq,q⟩:=h;obtain⟨u,rfl,rx⟩:=zi3 r;cases rx;have hn:=zdz;rcases hq with hq |hq
 ·obtain⟨its,r',pl,hz⟩:=I.list hq;have hlen:=r'.length;exact Calls.call_len_list pl.isList (by simp only[jj]<;>lia) ⟨.int ys.length,H,I.tok _,⟨s.toks+1,by rw[jj,hlen]⟩,q⟩
 ·obtain⟨its,r',pl,hz⟩:=I.tuple hq;have hlen:=r'.length;exact len_tuple pl (by simp only[jj]<;>lia) ⟨.int ys.length,H,I.tok _,⟨s.toks+1,by rw[jj,hlen]⟩,q⟩
theorem zfK:CallR X (.builtin "len") (fun xs H Q=>∃ z,xs=[.str z]/\z.length<=ja/\Q (.int z.length) H):=by
 intro pc s σ H xs us Q I r h;obtain⟨z,rfl,hz,q⟩:=h;obtain⟨u,rfl,t,rfl⟩:=zi3 r;have hn:=zdz;exact len_str (by lia) ⟨.int z.length,H,I.tok _,⟨_,rfl⟩,q⟩
theorem CallR.or{f:j5}{r r':List V->Hp->VK->Prop}(h:CallR X f r)(h':CallR X f r'):CallR X f (fun xs H Q=>r xs H Q∨r' xs H Q):=by
 intro pc s σ H xs us Q I rs q;rcases q with q |q
 ·exact h pc s σ H xs us Q I rs q
 ·exact h' pc s σ H xs us Q I rs q
def tyV(K:j9)(T:String)(x:V)(H:Hp):Prop:=match x with
 |.str _=>T="str"
 |.int _=>T="int"
 |.ref p=>(T="list"/\∃ xs,SqL K H p xs)∨(T="tuple"/\∃ o,K.lookup p=some o/\o.cls=.type "tuple"/\o.dict=none) ∨
   (T="dict"/\((∃ kvs,H p=some (.dK kvs))∨∃ kvs,H p=some (.dT kvs)))∨(T="set"/\∃ S n,H p=some (.set S n))
 |_=>False
theorem zkQ{pc:List (ji × Obj)}{σ:St}{H:Hp}{s:j6}{T:String}{x:V}{v:j5}(I:Inv X pc σ H s)(r:RelV x v)(ty:tyV X.K T x H) :
  s.TypeIs v T/\∀ a,v=.ref a->∃ ob,s.heap.get? a=some ob/\ob.dict=none:=by
 cases x with
 |str z=>
  obtain⟨t,rfl⟩:=r;cases (show T="str" from ty);exact⟨N6 s z t,fun _ e=>nomatch e⟩
 |int i=>
  obtain⟨t,rfl⟩:=r;cases (show T="int" from ty);exact⟨typeIs_int s i t,fun _ e=>nomatch e⟩
 |ref p=>
  cases r;rcases ty with ⟨rfl,xs,hq⟩ |⟨rfl,o,hk,hc,hd⟩ |⟨rfl,hk⟩ |⟨rfl,S,n,hk⟩
  ·obtain⟨its,_,pl,_⟩:=I.list hq;refine⟨pl.isList.typeIs,fun a e=>?_⟩;cases e;obtain⟨o,n,e,c,hd,_⟩:=pl;exact⟨o,e,hd⟩
  ·refine⟨⟨o,I.kIn p o hk,hc⟩,fun a e=>?_⟩;cases e;exact⟨o,I.kIn _ o hk,hd⟩
  ·have z:∃ o,s.heap.get? p=some o/\o.ExactDict:=by
    rcases hk with ⟨kvs,hk⟩ |⟨kvs,hk⟩
    ·obtain⟨_,_,_,_,o,_,_,e,ex,_⟩:=I.hok p _ hk;exact⟨o,e,ex⟩
    ·obtain⟨_,_,_,_,o,_,_,e,ex,_⟩:=I.hok p _ hk;exact⟨o,e,ex⟩
   obtain⟨o,e,ex⟩:=z;refine⟨⟨o,e,ex.1⟩,fun a e2=>?_⟩;cases e2;exact⟨o,e,ex.2.1⟩
  ·obtain⟨o,_,_,_,e,ex,_⟩:=I.hok p _ hk;refine⟨⟨o,e,ex.1⟩,fun a e2=>?_⟩;cases e2;exact⟨o,e,ex.2.1⟩
 |_=>exact QK ty
def zpR(K:j9)(T:String)(r:V->List V->Hp->VK->Prop)(to:TE):TE:=fun σ H Q=>to σ H fun x H1=>tyV K T x H1/\r x [] H1 Q
def tBM(K:j9)(T:String)(r:V->List V->Hp->VK->Prop)(to:TE)(t:TA):TE:=fun σ H Q=>to σ H fun x H1=>tyV K T x H1/\t σ H1 fun xs H2=>r x xs H2 Q
variable {es:List jU}{to:TE}{t:TA}{name:Str}{apos cpos:Pos}{T id:String}{r:V->List V->Hp->VK->Prop}
theorem znY(pa:NO T)(slot:Slot T name id)(hty:typeOf (.builtin id)=pure (.type "method_descriptor"))(hm:MtR X id r)(ho:PE X o to)
  (hbase:Zb o name X.env (eval o X.env)=eval o X.env:=by rfl) (hline:(apos.endLine == cpos.line)=true:=by rfl):PE X (.Call (.Attribute o name apos) [] [] cpos) (zpR X.K T r to):=by
 intro pc s σ H Q I h;refine Yu hbase hline (thn (ho pc s σ H _ I h) fun v s1 h_=>?_); obtain⟨x,H1,I1,r1,ty,q1⟩:=h_;obtain⟨h1,h2⟩:=zkQ I1 r1 ty;exact⟨T,id,pa,slot,hty,h1,h2,QF rfl (Nm (hm pc s1 σ H1 x [] v [] Q I1 r1 .nil q1))⟩
theorem zqg(pa:NO T)(slot:Slot T name id)(hty:typeOf (.builtin id)=pure (.type "method_descriptor"))(hm:MtR X id r)(ho:PE X o to)(ha:PA X (e::es) t)
  (hbase:Zb o name X.env (eval o X.env)=eval o X.env:=by rfl)
  (hfew:((Qr cpos (jb (e::es) X.env)).all (fun x=>!x.1)&&(WL cpos (Nn [] X.env)).all (fun x=>x.1.isSome)
   && decide ((e::es).length+([]:List No).length+(if ([]:List No).isEmpty then 0 else 1) < 30))=true:=by rfl)
  (hline:(apos.endLine == cpos.line)=true:=by rfl) (hs:jb (e::es) X.env=(false,eval e X.env)::jb es X.env:=by rfl) (hplain:(Qr cpos (jb es X.env)).any (·.1)=false:=by rfl) :
  PE X (.Call (.Attribute o name apos) (e::es) [] cpos) (tBM X.K T r to t):=by
 intro pc s σ H Q I h;refine YO hbase hfew hline rfl (thn (ho pc s σ H _ I h) fun v s1 h_=>?_); obtain⟨x,H1,I1,r1,ty,q1⟩:=h_;obtain⟨h1,h2⟩:=zkQ I1 r1 ty;refine⟨T,id,pa,slot,hty,h1,h2,?_⟩;have hA:=ha cpos pc s1 σ H1 _ I1 q1;rw[hs] at hA ⊢;refine QF (by show (false||(Qr cpos (jb es X.env)).any (·.1))=false; rw[hplain]<;>rfl) (ZE ?_)
 exact thn hA fun us s2 ⟨vs,H2,I2,r2,q2⟩=>hm pc s2 σ H2 x vs v us Q I2 r1 r2 q2
end
def MtM(X:Cx)(id:String)(r:V->List V->Hp->VK->Prop):Prop:=
 ∀(pc:List (ji × Obj)) (s:j6) (σ:St) (H:Hp) (x:V) (xs:List V) (v:j5) (us:List j5) (Q:VK),Inv X pc σ H s->RelV x v->Vals xs us->r x xs H Q->
  jy (jE X.prog X.w) X.A (call (.builtin id) (v::us)) (EP X pc σ Q) X.xe s
theorem Vals.one{x:V}{us:List j5}(h:Vals [x] us):∃ u,us=[u]/\RelV x u:=by
 cases h with
 |cons r t=>cases t; exact⟨_,rfl,r⟩
theorem Vals.eraseIdx:∀ {xs:List V} {us:List j5} (i:Nat),Vals xs us->Vals (xs.eraseIdx i) (us.eraseIdx i)
 |_,_,_,.nil=>.nil
 |_,_,0,.cons _ t=>t
 |_,_,i+1,.cons r t=>.cons r (Vals.eraseIdx i t)
theorem zfq{α:Type}:∀(l:List α) (i:Nat),(l.eraseIdx i).length<=l.length
 |[],_=>jl _
 |_::_,0=>QN _
 |_::r,i+1=>Nat.succ_le_succ (zfq r i)
section
variable {l b:ji}{xs ys zs:List V}
theorem Inv.lset{its its':List j5}{n:Nat}{f:Array j5->Array j5}{t':Nat}(I:Inv X pc σ H s)(hH:H l=some (.lst xs))
  (e:s.heap.get? l=some { cls:=.type "list",data:=.seq its.toArray n }) (hf:f its.toArray=its'.toArray) (hv:Vals ys its') (hz:ys.length<=ja) :
  Inv X pc σ (upd H l (.lst ys)) { s with heap:=s.heap.update l (ZM f),toks:=t' }:=by
 have q:=PySem.IsL.update e f;rw[hf] at q;refine I.write (x:=l) (e:=l) (by rw[hH]; exact trivial) (.inl rfl) (fun b' u hb hu=>(Zk s.heap (ZM f) (Zp hb)).trans hu) ⟨_,q⟩ ?_
 exact⟨hz,its',_,hv,q⟩
theorem Inv.lnew{its:List j5}{t':Nat}(I:Inv X pc σ H s)(hv:Vals ys its)(hz:ys.length<=ja) :
  Inv X pc σ (upd H s.heap.objs.size (.lst ys)) { s with heap:=s.heap.push { cls:=.type "list",data:=.seq its.toArray },toks:=t' }:=
 I.laid (fun _ _ q=>j7 _ q) (jl _) ⟨hz,its,0,hv,jn _ rfl⟩
theorem Inv.fresh(I:Inv X pc σ H s):H s.heap.objs.size=none:=I.hok.fresh (jl _)
theorem Inv.lstM(I:Inv X pc σ H s)(hH:H l=some (.lst xs)):xs.length<=ja/\∃(its:List j5) (n:Nat),Vals xs its/\xs.length=its.length/\s.heap.get? l=some { cls:=.type "list",data:=.seq its.toArray n }:=by
 obtain⟨z,its,n,r,e⟩:=I.hok l _ hH;exact⟨z,its,n,r,r.length,e⟩
end
section
def zg9:V->List V->Hp->VK->Prop:=fun x vs H Q=>∃ l xs y,x=.ref l/\vs=[y]/\H l=some (.lst xs)/\xs.length < ja/\Q .non (upd H l (.lst (xs++[y])))
theorem zfp:MtM X "list.append" zg9:=by
 intro pc s σ H x vs v us Q I rx rv h;obtain⟨l,xs,y,rfl,rfl,hH,hz,q⟩:=h;cases rx;obtain⟨u,rfl,ru⟩:=rv.one;obtain⟨z,its,n,r,hl,e⟩:=I.lstM hH;refine Yb F.slot_list_append ⟨_,e,rfl⟩ F.entry_list_append (F.args_list_append_2 _ _) (PySem.list_append l its.toArray n u (by rw[jj]; lia)) ⟨e,?_⟩
 refine⟨.non,_,I.lset (its':=its++[u]) hH e (by simp) (r.append (.cons ru .nil)) ?_,rfl,q⟩
 rw[js,Zr];lia
def ziq:V->List V->Hp->VK->Prop:=fun x vs H Q=>∃ l xs i k y,x=.ref l/\vs=[.int i]/\H l=some (.lst xs)/\-(2 ^ 63)<=i/\i < 2 ^ 63/\NA i xs.length=some k/\xs[k]?=some y/\Q y (upd H l (.lst (xs.eraseIdx k)))
theorem zgT:MtM X "list.pop" ziq:=by
 intro pc s σ H x vs v us Q I rx rv h;obtain⟨l,xs,i,k,y,rfl,rfl,hH,h1,h2,hk,hy,q⟩:=h;cases rx;obtain⟨u,rfl,ru⟩:=rv.one;obtain⟨t,rfl⟩:=ru;obtain⟨z,its,n,r,hl,e⟩:=I.lstM hH;obtain⟨w,hw,rw'⟩:=r.get hy;refine Yb F.slot_list_pop ⟨_,e,rfl⟩ F.entry_list_pop (F.args_list_pop_2 _ _)
  (MeetsSeq.list_pop_at l its.toArray n i t k w (fitsIndex_both h1 h2) (by rw[jj,<-hl]; exact hk) (by rw[<-YW]; exact hw) (by rw[jj]; lia)) ⟨e,?_⟩
 refine⟨y,_,I.lset (its':=its.eraseIdx k) hH e ?_ (r.eraseIdx k) ?_,rw',q⟩
 ·show its.toArray.eraseIdxIfInBounds k=(its.eraseIdx k).toArray;rw[List.eraseIdxIfInBounds_toArray]
 ·have:=zfq xs k;lia
def zqZ:R2:=fun x y H Q=>∃ l b xs zs,x=.ref l/\y=.ref b/\H l=some (.lst xs)/\H b=some (.lst zs)/\xs.length+zs.length<=ja/\∀ p,H p=none->Q (.ref p) (upd H p (.lst (xs++zs)))
theorem zo4:OpR X (gW .Add) zqZ:=by
 intro pc s σ H x y v u Q I rx ry h;obtain⟨l,b,xs,zs,rfl,rfl,hH,hB,hz,q⟩:=h;cases rx;cases ry;obtain⟨z,its,n,r,hl,e⟩:=I.lstM hH;obtain⟨z2,its2,n2,r2,hl2,e2⟩:=I.lstM hB;refine PySem.P.add_list e e2 ?_ (by rw[jj,jj]; lia)
 have ea:its.toArray++its2.toArray=(its++its2).toArray:=by simp
 rw[ea];exact⟨.ref _,_,I.lnew (t':=s.toks) (r.append r2) (by rw[js]; lia),rfl,q _ I.fresh⟩
end
section
variable {κ:Type}[DecidableEq κ]
def zfX(kvs:List (κ × V))(k:κ):Option V:=(kvs.find? fun kv=>decide (kv.1=k)).map (·.2)
def zhx(kvs:List (κ × V))(k:κ)(v:V):List (κ × V):=
 if (kvs.any fun kv=>decide (kv.1=k))=true then kvs.map (fun kv=>if kv.1=k then (kv.1,v) else kv) else kvs++[(k,v)]
theorem zd0{p:κ × V}{r:List (κ × V)}{k:κ}(e:p.1=k):zfX (p::r) k=some p.2:=by simp[zfX,Qz,e]
theorem zd1{p:κ × V}{r:List (κ × V)}{k:κ}(e:¬ p.1=k):zfX (p::r) k=zfX r k:=by simp[zfX,Qz,e]
theorem zgD(k:κ):∀ kvs:List (κ × V),(kvs.any fun kv=>decide (kv.1=k))=(zfX kvs k).isSome
 |[]=>rfl
 |p::r=>by
  rw[ZA]
  by_cases e:p.1=k
  ·simp only[zd0 e,Dt_ e,Bool.true_or,Option.isSome_some]
  ·rw[zd1 e,Df_ e,WM]; exact zgD k r
theorem zdA(kvs:List (κ × V))(k:κ)(v:V):(zhx kvs k v).length<=kvs.length+1:=by
 unfold zhx;split
 ·rw[je]; lia
 ·rw[js,jw,gG]; lia
theorem RelO.isSome_eq{o:Option V}{u:Option j5}(r:RelO o u):o.isSome=u.isSome:=by
 cases o with
 |none=>cases u with
  |none=>rfl
  |some _=>exact(show False from r).elim
 |some _=>cases u with
  |none=>exact(show False from r).elim
  |some _=>rfl
theorem RelO.getD{o:Option V}{u:Option j5}{d:V}{d':j5}(r:RelO o u)(rd:RelV d d'):RelV (o.getD d) (u.getD d'):=by
 cases o with
 |none=>cases u with
  |none=>exact rd
  |some _=>exact(show False from r).elim
 |some _=>cases u with
  |none=>exact(show False from r).elim
  |some _=>exact r
theorem KV.val{kvs:List (κ × V)}{vs:List (κ × j5)}(r:KV kvs vs)(k:κ):RelO (zfX kvs k) (NP vs k):=by
 unfold KV at r
 induction r with
 |nil=>exact NQ
 |@cons p q ps qs h t ih=>
  obtain⟨h1,h2⟩:=h
  by_cases e:p.1=k
  ·have e':q.1=k:=h1.symm.trans e;have b:NP (q::qs) k=some q.2:=by simp[NP,Qz,e']
   rw[zd0 e,b]; exact h2
  ·have e':¬ q.1=k:=fun z=>e (h1.trans z);have b:NP (q::qs) k=NP qs k:=by simp[NP,Qz,e']
   rw[zd1 e,b]; exact ih
theorem KV.any{kvs:List (κ × V)}{vs:List (κ × j5)}(r:KV kvs vs)(k:κ):(kvs.any fun kv=>decide (kv.1=k))=vs.any fun kv=>decide (kv.1=k):=by
 unfold KV at r
 induction r with
 |nil=>rfl
 |cons h t ih=>rw[ZA,ZA,ih,h.1]
theorem KV.repl{kvs:List (κ × V)}{vs:List (κ × j5)}(r:KV kvs vs)(k:κ){y:V}{u:j5}(ry:RelV y u) :
  KV (kvs.map fun kv=>if kv.1=k then (kv.1,y) else kv) (vs.map fun kv=>if kv.1=k then (kv.1,u) else kv):=by
 unfold KV at r ⊢
 induction r with
 |nil=>exact .nil
 |@cons p q ps qs h t ih=>
  rw[jp,jp];refine .cons ?_ ih;obtain⟨h1,h2⟩:=h
  by_cases e:p.1=k
  ·rw[Ip_ e,Ip_ (h1.symm.trans e)]; exact⟨h1,ry⟩
  ·rw[In_ e,In_ (fun z=>e (h1.trans z))]; exact⟨h1,h2⟩
theorem KV.put{kvs:List (κ × V)}{vs:List (κ × j5)}(r:KV kvs vs)(k:κ){y:V}{u:j5}(ry:RelV y u):KV (zhx kvs k y) (stored vs k u):=by
 unfold zhx stored;rw[r.any k]
 by_cases e:(vs.any fun kv=>decide (kv.1=k))=true
 ·rw[Ip_ e,Ip_ e]; exact r.repl k ry
 ·rw[In_ e,In_ e]; exact Je r ⟨rfl,ry⟩
theorem KV.length{kvs:List (κ × V)}{vs:List (κ × j5)}(r:KV kvs vs):kvs.length=vs.length:=Yo r
end
theorem zj0{P:jt}{w:jS}{k:Key}{u:j5}(r:RelV (kV k) u):(zaC P w).is k u=true:=by
 cases k with
 |inl i=>obtain⟨t,e⟩:=(show ∃ t,u=WX i t from r); subst e; exact zgd P w i t
 |inr x=>obtain⟨t,e⟩:=(show ∃ t,u=Zo x t from r); subst e; exact zgc P w x t
theorem zfv{P:jt}{w:jS}:∀ {ks:List Key} {us:List j5},Vals (ks.map kV) us->ItemsAre (zaC P w) ks us
 |[],_,r=>by rw[gZ] at r; cases r; exact .nil
 |k::ks,_,r=>by
  rw[jp] at r;cases r with
  |cons h t=>exact .cons (zj0 h) (zfv t)
abbrev KT(H:Hp):List (List Key × V)->List (List Key × ji × j5)->Prop:=WY fun p q=>p.1=q.1/\H q.2.1=some (.tup (p.1.map kV))/\RelV p.2 q.2.2
theorem KT.val{H:Hp}{kvs:List (List Key × V)}{xs:List (List Key × ji × j5)}(r:KT H kvs xs)(k:List Key):RelO (zfX kvs k) ((J2 xs k).map (·.2)):=by
 induction r with
 |nil=>exact NQ
 |@cons p q ps qs h t ih=>
  obtain⟨h1,_,h2⟩:=h
  by_cases e:p.1=k
  ·have e':q.1=k:=h1.symm.trans e;have b:J2 (q::qs) k=some q.2:=by simp[J2,Qz,e']
   rw[zd0 e,b]; exact h2
  ·have e':¬ q.1=k:=fun z=>e (h1.trans z);have b:J2 (q::qs) k=J2 qs k:=by simp[J2,Qz,e']
   rw[zd1 e,b]; exact ih
theorem KT.repl{H:Hp}{kvs:List (List Key × V)}{xs:List (List Key × ji × j5)}(r:KT H kvs xs)(k:List Key){y:V}{u:j5}(ry:RelV y u) :
  KT H (kvs.map fun kv=>if kv.1=k then (kv.1,y) else kv) (xs.map (putAt k u)):=by
 induction r with
 |nil=>exact .nil
 |@cons p q ps qs h t ih=>
  rw[jp,jp];refine .cons ?_ ih;obtain⟨h1,h2,h3⟩:=h;unfold putAt
  by_cases e:p.1=k
  ·rw[Ip_ e,Ip_ (h1.symm.trans e)]; exact⟨h1,h2,ry⟩
  ·rw[In_ e,In_ (fun z=>e (h1.trans z))]; exact⟨h1,h2,h3⟩
theorem KT.put{H:Hp}{kvs:List (List Key × V)}{xs:List (List Key × ji × j5)}(r:KT H kvs xs)(k:List Key){b:ji}{y:V}{u:j5}(hb:H b=some (.tup (k.map kV)))(ry:RelV y u) :
  KT H (zhx kvs k y) (storedH xs k b u):=by
 have e:(kvs.any fun kv=>decide (kv.1=k))=(J2 xs k).isSome:=by
  rw[zgD,(r.val k).isSome_eq,NR]
 unfold zhx storedH;rw[e]
 by_cases q:(J2 xs k).isSome=true
 ·rw[Ip_ q,Ip_ q]; exact r.repl k ry
 ·rw[In_ q,In_ q]; exact Je r ⟨rfl,hb,ry⟩
theorem KT.keeps{H H':Hp}{kvs:List (List Key × V)}{xs:List (List Key × ji × j5)}(r:KT H kvs xs)(ht:∀ b ys,H b=some (.tup ys)->H' b=some (.tup ys)):KT H' kvs xs:=
 Paired.mapP r fun _ _ z=>⟨z.1,ht _ _ z.2.1,z.2.2⟩
section
variable {P:jt}{w:jS}{h:Qq}
theorem znE{u:HO}(ok:HOk P w H h)(e:Rd H a u):ObjOk P w H h a u:=e.ok ok
theorem zgn{kvs:List (Key × V)}(ok:HOk P w H h)(e:Rd H a (.dK kvs)):kvs.length<=ja/\(a == Z0)=false/\∃ vs,KV kvs vs/\h.DictOf (zaC P w) a vs:=
 show ObjOk P w H h a (.dK kvs) from znE ok e
theorem zov{kvs:List (Key × V)}(ok:HOk P w H h)(e:H a=some (.dK kvs)):kvs.length<=ja/\(a == Z0)=false/\∃ vs,KV kvs vs/\h.DictOf (zaC P w) a vs:=zgn ok (.inl e)
theorem zfu{ks:List Key}(ok:HOk P w H h)(e:H a=some (.tup (ks.map kV))):(YT (zaC P w)).is h ks a:=by
 obtain⟨_,its,r,o,h1,h2,n,h3⟩:=(show ObjOk P w H h a (.tup (ks.map kV)) from ok a _ e);exact⟨o,its.toArray,n,h1,h2,h3,by simpa using zfv r⟩
theorem zhR{kvs:List (List Key × V)}(ok:HOk P w H h)(e:Rd H a (.dT kvs)):kvs.length<=ja/\(a == Z0)=false /\
  ∃ xs,KT H kvs xs/\h.DictOfH (YT (zaC P w)) a xs:=by
 obtain⟨z,y,xs,r,o,es,ep,h1,h2,h3,h4,h5⟩:=(show ObjOk P w H h a (.dT kvs) from znE ok e);refine⟨z,y,xs,r,o,es,ep,h1,h2,h3,h4,fun x hx=>?_,h5⟩;have all:∀ {l:List (List Key × V)} {m:List (List Key × ji × j5)},KT H l m->∀ x∈m,(YT (zaC P w)).is h x.1 x.2.1:=by
  intro l m q
  induction q with
  |nil=>intro x hx; exact nomatch hx
  |@cons p q ps qs hq t ih=>
   intro x hx;rcases jA.mp hx with e |hx
   ·subst e;exact zfu ok (by rw[<-hq.1]; exact hq.2.1)
   ·exact ih x hx
 exact all r x hx
theorem zqH{kvs:List (List Key × V)}(ok:HOk P w H h)(e:H a=some (.dT kvs)):kvs.length<=ja/\(a == Z0)=false /\
  ∃ xs,KT H kvs xs/\h.DictOfH (YT (zaC P w)) a xs:=zhR ok (.inl e)
end
def DGet(H:Hp)(a:ji)(y:V)(r:Option V):Prop:=
 (∃ kvs k,Rd H a (.dK kvs)/\y=kV k/\r=zfX kvs k)∨∃ kvs k b,Rd H a (.dT kvs)/\y=.ref b/\H b=some (.tup (k.map kV))/\r=zfX kvs k
def DPut(H:Hp)(a:ji)(y v:V)(H':Hp):Prop:=
 (∃ kvs k,H a=some (.dK kvs)/\y=kV k/\kvs.length < ja/\H'=upd H a (.dK (zhx kvs k v))) ∨
 ∃ kvs k b,H a=some (.dT kvs)/\y=.ref b/\H b=some (.tup (k.map kV))/\kvs.length < ja/\H'=upd H a (.dT (zhx kvs k v))
theorem DGet.k{H:Hp}{a:ji}{kvs:List (Key × V)}{k:Key}(e:H a=some (.dK kvs)):DGet H a (kV k) (zfX kvs k):=.inl ⟨kvs,k,.inl e,rfl,rfl⟩
theorem DPut.k{H:Hp}{a:ji}{kvs:List (Key × V)}{k:Key}{v:V}(e:H a=some (.dK kvs))(hl:kvs.length < ja):DPut H a (kV k) v (upd H a (.dK (zhx kvs k v))):=.inl ⟨kvs,k,e,rfl,hl,rfl⟩
section
variable {y v:V}{r:j5}{o:Option V}
theorem Inv.big(I:Inv X pc σ H s):Z0 < s.heap.objs.size:=by
 have h:jr < s.heap.objs.size:=(I.mod.glob.keeps I.bk).lt;exact Nat.lt_trans (by decide) h
theorem zjp{Q:j5->j6->Prop}(hu:A.units+1 < g8)(I:Inv X pc σ H s)(g:DGet H a y (some v))(ry:RelV y u)(h:∀ w' s',Inv X pc σ H s'->RelV v w'->Q w' s') :
  jy (jE X.prog X.w) A (Wk (.ref a) u) Q E s:=by
 rcases g with ⟨kvs,k,e,ey,l⟩ |⟨kvs,k,b,e,ey,eb,l⟩
 ·subst ey;obtain⟨z,hd,vs,rel,dd⟩:=zgn I.hok e;obtain⟨w',hw,rw'⟩:=RelO.some_of (v:=v) (o:=NP vs k) (by rw[l]; exact rel.val k)
  exact wpAny_getItem_of (zj0 ry) dd.mapOf hw (h w' _ (I.tok _) rw')
 ·subst ey;cases (show u=jV b from ry);obtain⟨z,hd,xs,rel,dd⟩:=zhR I.hok e;obtain⟨w',hw,rw'⟩:=RelO.some_of (v:=v) (o:=(J2 xs k).map (·.2)) (by rw[l]; exact rel.val k)
  obtain⟨p,hp,hp2⟩:=Qm hw;refine wpAny_getItem_heap (ZW hu) (zfu I.hok eb) dd hp ?_;rw[hp2];exact h w' _ (I.tok _) rw'
theorem zmJ{Q:j5->j6->Prop}(hu:A.units+1 < g8)(I:Inv X pc σ H s)(g:DGet H a y o)(ry:RelV y u)(h:∀ s',Inv X pc σ H s'->Q (.bool (!o.isSome)) s') :
  jy (jE X.prog X.w) A (QM .NotIn u (.ref a)) Q E s:=by
 rcases g with ⟨kvs,k,e,ey,l⟩ |⟨kvs,k,b,e,ey,eb,l⟩
 ·subst ey;obtain⟨z,hd,vs,rel,dd⟩:=zgn I.hok e;refine wpAny_notIn_of (zj0 ry) hd dd.mapOf ?_;rw[<-(rel.val k).isSome_eq,<-l];exact h _ (I.tok _)
 ·subst ey;cases (show u=jV b from ry);obtain⟨z,hd,xs,rel,dd⟩:=zhR I.hok e;refine wpAny_notIn_heap (ZW hu) (zfu I.hok eb) hd dd ?_;have q:=(rel.val k).isSome_eq;rw[NR] at q;rw[<-q,<-l];exact h _ (I.tok _)
theorem zjn{h':Qq}{t':Nat}{ob:HO}(I:Inv X pc σ H s)(mu:Mut (H a))(hs:Qu a s.heap h')(he:∃ q,h'.get? a=some q)(new:ObjOk X.prog X.w (upd H a ob) h' a ob) :
  Inv X pc σ (upd H a ob) { s with heap:=h',toks:=t' }:=
 I.write (x:=a) (e:=a) mu (.inl rfl) (fun b q hb z=>(hs.2 b hb).trans z) he new
theorem zow{P:jt}{w:jS}{H':Hp}{h':Qq}{kvs:List (Key × V)}{vs:List (Key × j5)}(z:kvs.length<=ja)(hd:(a == Z0)=false)(rel:KV kvs vs)(dd:h'.DictOf (zaC P w) a vs) :
  ObjOk P w H' h' a (.dK kvs):=⟨z,hd,vs,rel,dd⟩
theorem zjo{H':Hp}{Q:Unit->j6->Prop}(hu:A.units+1 < g8)(I:Inv X pc σ H s)(g:DPut H a y v H')(ry:RelV y u)(rv:RelV v r)(h:∀ s',Inv X pc σ H' s'->Q () s') :
  jy (jE X.prog X.w) A (setItem (.ref a) u r) Q E s:=by
 rcases g with ⟨kvs,k,e,ey,l,eH⟩ |⟨kvs,k,b,e,ey,eb,l,eH⟩
 ·subst ey eH;obtain⟨z,hd,vs,rel,dd⟩:=zov I.hok e;have hz:vs.length<=ja:=by rw[<-rel.length]; exact z
  have hl:(zhx kvs k v).length<=ja:=by have:=zdA kvs k v; lia
  refine wpAny_setItem_pairs (hsz:=hz) (zj0 ry) dd fun h' dd' hs=>h _ ?_;have he:∃ q,h'.get? a=some q:=let ⟨q,_,_,hq,_⟩:=dd'; ⟨q,hq⟩
  exact zjn I (by rw[e]; exact NQ) hs he (zow hl hd (rel.put k rv) dd')
 ·subst ey eH;cases (show u=jV b from ry);obtain⟨z,hd,xs,rel,dd⟩:=zqH I.hok e;have hz:xs.length<=ja:=by rw[<-Yo rel]; exact z
  have hl:(zhx kvs k v).length<=ja:=by have:=zdA kvs k v; lia
  refine wpAny_setItem_heap (hsz:=hz) (ZW hu) (zfu I.hok eb) dd fun h' dd' hs=>h _ ?_;obtain⟨q,es,ep,hq,h2,h3,h4,_,h5⟩:=dd';refine zjn I (by rw[e]; exact NQ) hs ⟨q,hq⟩ ⟨hl,hd,_,(rel.put k eb rv).keeps fun c ys ec=>?_,q,es,ep,hq,h2,h3,h4,h5⟩
  rw[za1 (zqo ec e (fun z=>nomatch z))]
  exact ec
end
section
variable {kvs:List (Key × V)}{k:Key}
theorem zqI{Q:j5->j6->Prop}(I:Inv X pc σ H s)(e:Rd H a (.dK kvs))(h:∀ t s',Inv X pc σ H s'->Q (.int kvs.length t) s'):jy (jE X.prog X.w) A (call (.builtin "len") [.ref a]) Q E s:=by
 obtain⟨z,hd,vs,rel,dd⟩:=zgn I.hok e;refine call_len_dict hd dd (by rw[<-rel.length]; rw[Qs] at z; lia) ?_
 rw[<-rel.length];exact h _ _ (I.tok _)
end
def zp6(i:jU):Prop:=∀ ov iv,Nl i false ov iv=WK [ov,iv] (Wk ov iv)
theorem zlN{prog:jt}{w:jS}{A:jP}{E:j5->j6->Prop}{s:j6}{env:Env}{value slice:jU}{pos:Pos}{T id:String}{Q:j5->j6->Prop}
  (hl:typeLookup (.type T) "__getitem__"=pure (some (.builtin id))) (hs:zp6 slice)
  (h:jy (jE prog w) A (eval value env) (fun o s₁=>jy (jE prog w) A (eval slice env) (fun i s₂=>s₂.TypeIs o T/\jy (jE prog w) A (Wk o i) Q E s₂) E s₁) E s) :
  jy (jE prog w) A (eval (.Subscript value slice pos) env) Q E s:=by
 refine WG (Q7 h (fun o s₁ h₁=>Q7 h₁ (fun i s₂ h₂=>?_) fun _ _ x=>x) fun _ _ x=>x);obtain⟨hT,h₂⟩:=h₂;unfold Nz;refine j4 ?_;rw[getitemInPython_of_ne hT.not_modules];refine j4 (wpAny_specialOf hT hl ?_);have fin:jy (jE prog w) A (Nl slice false o i) (fun r s₃=>jy (jE prog w) A (letTemporaryGo value o r >>= fun _=>pure r) Q E s₃) E s₂:=by
  rw[hs o i];exact wpAny_operating (Q7 h₂ (fun r s₃ h₃=>j4 (wpAny_letTemporaryGo (jf h₃))) fun _ _ x=>x)
 first
  |exact jf (j4 fin)
  |exact j4 (jf (j4 fin))
  |exact j4 fin
theorem zgo{X:Cx}{pc:List (ji × Obj)}{σ:St}{H:Hp}{s:j6}{a:ji}{y:V}{o:Option V}(I:Inv X pc σ H s)(g:DGet H a y o):s.TypeIs (.ref a) "dict":=by
 rcases g with ⟨kvs,k,e,_,_⟩ |⟨kvs,k,b,e,_,_,_⟩
 ·obtain⟨_,_,vs,_,dd⟩:=zgn I.hok e;exact dd.typeIs
 ·obtain⟨_,_,xs,_,dd⟩:=zhR I.hok e;exact dd.typeIs
def zpQ(td ty:TE):TE:=fun σ H Q=>td σ H fun x H1=>ty σ H1 fun y H2=>∃ a v,x=.ref a/\DGet H2 a y (some v)/\Q v H2
def zlM(ty td:TE):TE:=fun σ H Q=>ty σ H fun y H1=>td σ H1 fun x H2=>∃ a o,x=.ref a/\DGet H2 a y o/\Q (.bl (!o.isSome)) H2
def zlX(td ty tv:TE):TS:=fun D σ H=>tv σ H fun v H1=>td σ H1 fun x H2=>ty σ H2 fun y H3=>∃ a H4,x=.ref a/\DPut H3 a y v H4/\D.nx σ H4
section
variable {i value:jU}{pos' tpos:Pos}{td ty tv:TE}
theorem ziD(hu:X.A.units+1 < g8)(ho:PE X o td)(hi:PE X i ty)(hs:zp6 i):PE X (.Subscript o i pos) (zpQ td ty):=by
 intro pc s σ H Q I h;refine zlN PySem.F.slot_dict_getitem.lookup hs (thn (ho pc s σ H _ I h) fun u s1 h_=>?_); obtain⟨x,H1,I1,rx,q1⟩:=h_; refine thn (hi pc s1 σ H1 _ I1 q1) fun iv s2 h_=>?_; obtain⟨y,H2,I2,ry,a,v,ex,g,q2⟩:=h_;subst ex;obtain rfl:u=jV a:=rx;exact⟨zgo I2 g,zjp hu I2 g ry fun w' s3 I3 rw'=>⟨v,H2,I3,rw',q2⟩⟩
theorem ziF(hu:X.A.units+1 < g8)(hi:PE X i ty)(ho:PE X o td):PC X .NotIn i o (zlM ty td):=by
 intro pc s σ H Q I h;refine thn (hi pc s σ H _ I h) fun iv s1 h_=>?_; obtain⟨y,H1,I1,ry,q1⟩:=h_; refine thn (ho pc s1 σ H1 _ I1 q1) fun u s2 h_=>?_; obtain⟨x,H2,I2,rx,a,ov,ex,g,q2⟩:=h_;subst ex;obtain rfl:u=jV a:=rx;exact zmJ hu I2 g ry fun s3 I3=>⟨.bl (!ov.isSome),H2,I3,rfl,q2⟩
theorem zmi(hu:X.A.units+1 < g8)(ho:PE X o td)(hi:PE X i ty)(hv:PE X value tv)(hs:gD value (some (.Subscript o i pos')) pos.line X.env=pure false) :
  PS X (.Assign [.Subscript o i pos'] value pos) (zlX td ty tv):=by
 intro pc s σ H D I h;refine wpAny_Assign_Subscript (thn (hv pc s σ H _ I h) fun r s1 ⟨v,H1,I1,rv,q1⟩=>thn (ho pc s1 σ H1 _ I1 q1) fun u s2 ⟨x,H2,I2,rx,q2⟩=>thn (hi pc s2 σ H2 _ I2 q2) fun iv s3 ⟨y,H3,I3,ry,a,H4,ex,g,q3⟩=>?_) hs;subst ex;obtain rfl:u=jV a:=rx;exact zjo hu I3 g ry rv fun s4 I4=>⟨σ,H4,I4,q3⟩
end
theorem zkD{P:jt}{w:jS}{H:Hp}(h:Qq)(hb:Z0 < h.objs.size):ObjOk P w H (h.push { cls:=.type "dict",data:=.dict #[] }) h.objs.size (.dK []):=
 ⟨Zs _,beq_eq_false_iff_ne.mpr (Zp (jJ hb)),[],.nil,Heap.DictOf.new h⟩
def znv:TE:=fun _ H Q=>∀ p,H p=none->Q (.ref p) (upd H p (.dK []))
section
theorem zke:PE X (.Dict [] [] pos) znv:=fun pc s σ H Q I h=>
 wpAny_Dict_empty ⟨.ref s.heap.objs.size,_,I.laid (a:=s.heap.objs.size) (o:=.dK []) (t':=s.toks) (fun _ _ q=>j7 _ q) (jl _) (zkD s.heap I.big),rfl,h _ (I.hok.fresh (jl _))⟩
end
structure M2 (X:Cx) (o:jU) (m:Str) (apos:Pos) (e f:jU) (cpos:Pos):Prop where
 base:Zb o m X.env (eval o X.env)=eval o X.env
 few:((Qr cpos (jb [e,f] X.env)).all (fun x=>!x.1)&&(WL cpos (Nn [] X.env)).all (fun x=>x.1.isSome)
  && decide (([e,f]:List jU).length+([]:List No).length+(if ([]:List No).isEmpty then 0 else 1) < 30))=true
 line:(apos.endLine == cpos.line)=true
 trees:Qr cpos (jb [e,f] X.env)=[(false,eval e X.env),(false,eval f X.env)]
def IsD(H:Hp)(a:ji):Prop:=(∃ kvs,Rd H a (.dK kvs))∨∃ kvs,Rd H a (.dT kvs)
theorem zlh{X:Cx}{pc:List (ji × Obj)}{σ:St}{H:Hp}{s:j6}{a:ji}(I:Inv X pc σ H s)(d:IsD H a) :
  s.TypeIs (.ref a) "dict"/\(∀ b,jV a=.ref b->∃ ob,s.heap.get? b=some ob/\ob.dict=none)/\(a == Z0)=false:=by
 rcases d with ⟨kvs,e⟩ |⟨kvs,e⟩
 ·obtain⟨_,hd,vs,_,dd⟩:=zgn I.hok e;refine⟨dd.typeIs,fun b q=>?_,hd⟩;cases q;obtain⟨ob,_,_,h1,h2,_⟩:=dd;exact⟨ob,h1,h2.2.1⟩
 ·obtain⟨_,hd,xs,_,dd⟩:=zhR I.hok e;refine⟨dd.typeIs,fun b q=>?_,hd⟩;cases q;obtain⟨ob,_,_,h1,h2,_⟩:=dd;exact⟨ob,h1,h2.2.1⟩
section
variable {y d:V}{r:j5}{o:Option V}
theorem zoy{Q:j5->j6->Prop}(hu:A.units+1 < g8)(I:Inv X pc σ H s)(g:DGet H a y o)(ry:RelV y u)(rd:RelV d r)(h:∀ w' s',Inv X pc σ H s'->RelV (o.getD d) w'->Q w' s') :
  jy (jE X.prog X.w) A (call (.builtin "dict.get") [.ref a,u,r]) Q E s:=by
 rcases g with ⟨kvs,k,e,ey,l⟩ |⟨kvs,k,b,e,ey,eb,l⟩
 ·subst ey;obtain⟨z,hd,vs,rel,dd⟩:=zgn I.hok e;refine W7 gg dd.typeIs YQ (Yv _ _ _) (meets_dict_get_default (zaC X.prog X.w) a (zj0 ry) hd r) ⟨_,dd.mapOf,h _ _ (I.tok _) ?_⟩;rw[l];exact(rel.val k).getD rd
 ·subst ey;cases (show u=jV b from ry);obtain⟨z,hd,xs,rel,dd⟩:=zhR I.hok e;refine W7 gg dd.typeIs YQ (Yv _ _ _) (meetsH_dict_get_default (YT (zaC X.prog X.w)) a b hd r) ⟨ZW hu,k,xs,zfu I.hok eb,dd,h _ _ (I.tok _) ?_⟩;rw[l];exact(rel.val k).getD rd
end
def znw(td ty tx:TE):TE:=fun σ H Q=>td σ H fun x H1=>∃ a,x=.ref a/\IsD H1 a/\ty σ H1 fun y H2=>tx σ H2 fun z H3=>∃ o,DGet H3 a y o/\Q (o.getD z) H3
section
variable {f:jU}{apos cpos:Pos}{td ty tx:TE}
theorem zkf(hu:X.A.units+1 < g8)(ho:PE X o td)(he:PE X e ty)(hf:PE X f tx)(m:M2 X o "get" apos e f cpos):PE X (.Call (.Attribute o "get" apos) [e,f] [] cpos) (znw td ty tx):=by
 intro pc s σ H Q I h;refine wpAny_Call_method m.base m.few m.line Yw gg PySem.F.type_dict_get (thn (ho pc s σ H _ I h) fun u s1 h_=>?_); obtain⟨x,H1,I1,rx,a,ex,d,q1⟩:=h_;subst ex;obtain rfl:u=jV a:=rx;obtain⟨t1,t2,_⟩:=zlh I1 d;refine⟨t1,t2,?_⟩;rw[m.trees]
 refine QF rfl (ZE (Qf (thn (he pc s1 σ H1 _ I1 q1) fun iv s2 ⟨y,H2,I2,ry,q2⟩=>
  Qf (thn (hf pc s2 σ H2 _ I2 q2) fun fv s3 ⟨z,H3,I3,rz,ov,g,q3⟩=>g9 ?_))))
 exact zoy hu I3 g ry rz fun w' s4 I4 rw'=>⟨_,H3,I4,rw',q3⟩
end
end L2
namespace Att
open PySem PySem.W PySem.Calls PyProof.Rows
theorem zdD{P:Params}{h:Qq}:∀(ns:List Int) (vs:List j5),WellAll P h vs (ns.map WData.int)->NS vs ns:=by
 intro ns
 induction ns with
 |nil=>
  intro vs w;rw[gZ] at w;cases w;exact .nil
 |cons n ns ih=>
  intro vs w;rw[jp] at w;cases w with
  |cons a b=>
   cases a;exact .cons _ _ (ih _ b)
theorem zij{l:OpenLaw}{n:Nat}(hn:l.most=some n){P:Params}{h:Qq}{args:List WData}{vals:List j5}
  (hpre:l.row.toRowW.claim.pre args=true) (hwl:WellAll P h vals args) :
  ∃ a vs ns,vals=[jV a]/\args=[WData.list (ns.map WData.int)]/\h.get? a=some { cls:=.type "list",data:=.seq vs.toArray }/\NS vs ns/\ns.length<=n:=by
 have hsh:WShape.hasAll [] args [.list .int]=true:=(pre_splitW hpre).1;have hc:l.pre.holds [] { args:=args }=true:=(pre_splitW hpre).2;obtain⟨d,r,rfl,h1,h2⟩:=hasAllW_cons hsh;obtain rfl:=hasAllW_nil h2;obtain⟨xs,rfl,h3⟩:=hasW_list h1;obtain⟨ns,rfl⟩:=items_int h3;have hlen:ns.length<=n:=by
  unfold OpenLaw.pre at hc;have h4:(WTm.not (.lt (.lit (.int (n:Int))) (.len (.arg 0)))).holds [] { args:=[.list (ns.map .int)] }=true:=by
   have h4:=(holds_andW hc).1;rw[hn] at h4;exact h4
  have h5:=condW_of h4 (w_not (w_lt w_lit (w_len_list (w_arg rfl))));rw[je] at h5;refine Nat.le_of_not_lt fun q=>?_;have q':(n:Int) < ((ns.length:Nat):Int):=by lia
  first
   |(rw[Dt_ q'] at h5; exact absurd h5 (by decide))
   |(simp at h5; lia)
 cases hwl with
 |cons w1 w2=>
  cases w2;cases w1 with
  |list ho hall=>exact⟨_,_,ns,rfl,rfl,ho,zdD ns _ hall,hlen⟩
theorem zix(l:OpenLaw)(args:List WData):l.row.toRowW.claim.post args (.bool true) args=true:=
 postW_of (r:=l.row.toRowW) (X:=(true == true))
  (show Jg [] (.bool true) .bool=true by first |rfl |decide |simp[Jg,WShape.arms,WShape.armsAll])
  (show (WTm.eq .res (.lit (.bool true))).value [] { args:=args,res:=some (.bool true),after:=args }=some (.bool (true == true)) from w_eq_bool (w_res rfl) w_lit) rfl
theorem attach_call{l:OpenLaw}{n:Nat}{q:jt}{loose:List Str}{XP:(Str->Option j5)->Qq->Prop}{YP:jS->Qq->Prop}{d:DefRec}
  (hn:l.most=some n) (hdf:d.params.defaults=[])
  (call:∀(w:jS) (s₀ s₁:j6) (mg mb:Str->Option j5) (fa:ji) (o:Obj) (pm cd doc:j5) (a:ji) (vs:List j5) (ns:List Int),
   Ground q loose [] XP w s₀ mg mb s₁.heap->YP w s₁.heap->
   s₁.heap.get? fa=some o->o.data=.func (docDef d.name d.params d.body d.scope pm cd doc)->s₁.heap.CodeRec cd d.name->mg d.name=some (.ref fa)->
   s₁.heap.get? a=some { cls:=.type "list",data:=.seq vs.toArray }->NS vs ns->ns.length<=n->s₁.gens=#[]->
   Y3 (jE l.prog w) NT (.call (.ref fa) ⟨[.ref a],[]⟩) (fun r s'=>r=.ok (.ret (.bool true))/\OldK s₁.heap s'.heap/\s'.os=s₁.os/\Yp s'.gens) s₁) :
  WalkO q loose XP YP l.row.toRowW d [] (fun f vs=>WH f vs):=by
 intro w s₀ s₁ mg mb G Y fa o pm cd doc dV kV ho hd hcd hD hmg hg args vals as hpre hlay hrd hwl hlo;obtain rfl:dV=.none:=Dflts.none hD hdf;obtain rfl:kV=.none:=Dflts.noKw hD;obtain⟨a,vs,ns,rfl,rfl,hobj,hints,hlen⟩:=zij hn hpre hwl;refine enter_call (gX (call w s₀ s₁ mg mb fa o pm cd doc a vs ns G Y ho (fd_plain hd) hcd hmg hobj hints hlen hg) fun r s' hq=>?_);obtain⟨rfl,h2,h3,h4⟩:=hq;exact⟨.inl ⟨.bool true,.bool true,[],rfl,fun _=>rfl,.bool true,zix l _,fun _=>⟨Jh,fun _ hm=>(nomatch hm)⟩⟩,h2,h3,h4⟩
end Att
namespace L2
open PySem PySem.Spec PyProof.Rows
variable {X:Cx}
theorem zeQ:∀ {vs:List j5} {ns:List Int},NS vs ns->Vals (ns.map V.int) vs
 |_,_,.nil=>.nil
 |_,_,.cons n t h=>.cons ⟨t,rfl⟩ (zeQ h)
def zp5(H:Hp):Prop:=∀ b,H b=none∨∃ o xs,H b=some (.frz o (.lst xs))
theorem zks{P:jt}{w:jS}{K:j9}{mg mb:Str->Option j5}{CX:CXT}{k:Nat}{fa a:ji}{fd:QU}{x:Str}{sp:Sp}{s₁:j6}{vs:List j5}{ns:List Int}
  (KX:K.In s₁.heap) (hns:s₁.heap.Ns jr mg) (hb:s₁.heap.Ns WA mb) (hbb:∀ x:Str,x≠"__name__"->mb x=Qj x) (hlim:s₁.heap.NoLimit) (hg:s₁.gens=#[])
  (ha:s₁.heap.get? a=some { cls:=.type "list",data:=.seq vs.toArray }) (hi:NS vs ns) (hl:ns.length<=ja) (hr:Room k NT)
  (F:∀ base:Qq,K.In base->base.Ns jr mg->FnOk P w K mg base CX k fa fd [x] sp) (hbind:∀(s:j6) (u:j5),NL s fd ⟨[u],[]⟩ [(x,u)])
  (hsp:∀ H:Hp,zp5 H->SqL K H a (ns.map V.int)->sp [.ref a] H (fun v _=>v=.bl true) fun _ _ _=>False)
  (hCX:∀ H e s',CX [] H s₁ (fun _ _ _=>False) e s'->False) :
  Y3 (jE P w) NT (.call (.ref fa) ⟨[.ref a],[]⟩) (fun r s'=>r=.ok (.ret (.bool true))/\OldK s₁.heap s'.heap/\s'.os=s₁.os/\Yp s'.gens) s₁:=by
 have rv:=zeQ hi;have lenV:=hi.length
 -- from an abstract heap in which nothing but the script may be tracked
 have core:∀ H:Hp,zp5 H->SqL K H a (ns.map V.int)->HOk P w H s₁.heap->(∀ b,H b≠none->b=a)->(H a≠none->K.lookup a=none)->
   Y3 (jE P w) NT (.call (.ref fa) ⟨[.ref a],[]⟩) (fun r s'=>r=.ok (.ret (.bool true))/\OldK s₁.heap s'.heap/\s'.os=s₁.os/\Yp s'.gens) s₁:=by
  intro H hO hS hok hA hK;have base_of:∀ {b:ji} {o:Obj},s₁.heap.get? b=some o->H b=none->(zkw s₁.heap H).get? b=some o:=fun e n=>zkv e n;have noA:∀ {b:ji} {o:Obj} {es:Array DictEntry} {ep:Nat},s₁.heap.get? b=some o->o.data=.dict es ep->H b=none:=fun {b o es ep} e d=>by
   cases q:H b with
   |none=>rfl
   |some u=>
    have e':b=a:=hA b (by rw[q]; simp)
    subst e';rw[ha] at e; cases e;have d':Data.seq vs.toArray _=Data.dict es ep:=d;cases d'
  have nsK:∀ {b:ji} {m:Str->Option j5},s₁.heap.Ns b m->(zkw s₁.heap H).Ns b m:=fun {b m} ⟨o,es,ep,e,d,r⟩=>⟨o,es,ep,base_of e (noA e d),d,r⟩
  have hKb:K.In (zkw s₁.heap H):=fun b o e=>base_of (KX b o e) (by
   cases q:H b with
   |none=>rfl
   |some u=>
    have e':b=a:=hA b (by rw[q]; simp)
    subst e'
    rw[hK (by rw[q]; simp)] at e; cases e)
  have hM:Mod K mg (zkw s₁.heap H):=⟨hKb,nsK hns,⟨mb,nsK hb,hbb⟩,let ⟨mc,h1,h2⟩:=hlim; ⟨mc,nsK h1,h2⟩⟩
  have e0:Env0 P w K mg (zkw s₁.heap H) NT [] s₁ H:=⟨rfl,hM,fun b o e=>zmt e,W8 (zja _ _),trivial,fun b hb=>absurd (show b∈([]:List ji) from hb) (by simp),hok,.of_eq hg⟩
  refine gX ((F _ hKb (nsK hns)).run NT [] s₁ H ⟨[.ref a],[]⟩ [.ref a] [.ref a] _ _ hr e0 (hbind s₁ (.ref a)) (.cons rfl .nil) (hsp H hO hS)) fun r s' h=>?_;cases r with
  |error e=>exact(hCX H e s' h).elim
  |ok fl=>
   cases fl with
   |next=>exact QK h
   |brk=>exact QK h
   |cont=>exact QK h
   |ret u=>
    obtain⟨v,H',os,bare,un,hok',r',q⟩:=h;have q':v=.bl true:=q;subst q';obtain rfl:u=Value.bool true:=r';refine⟨rfl,OldK.of_keep fun b o e=>?_,os,bare⟩;cases q:H b with
    |none=>exact un.keep b o e q (by intro z; exact absurd (show b∈([]:List ji) from z) (by simp)) (by simp)
    |some u=>
     rcases hO b with z |⟨ob,xs,z⟩
     ·rw[q] at z; cases z
     ·have z2:=un.frzs b ob _ z;obtain⟨e1,_⟩:=hok b _ z;obtain⟨e2,_⟩:=hok' b _ z2;rw[e] at e1; cases e1;exact e2
 cases hk:K.lookup a with
 |some o=>
  -- the script is one of the module's own objects
  have e:=KX a o hk;rw[ha] at e;cases e;refine core (fun _=>none) (fun _=>.inl rfl) (.inr ⟨_,vs.toArray,_,hk,rfl,rfl,rfl,by rw[jj,lenV]; exact hl,by simpa using rv⟩) (fun b u z=>by have z':(none:Option HO)=some u:=z; cases z') (fun b z=>absurd rfl z) fun z=>absurd rfl z
 |none=>
  refine core (fun b=>if b=a then some (.frz { cls:=.type "list",data:=.seq vs.toArray } (.lst (ns.map V.int))) else none) (fun b=>?_) (.inl (.inr ⟨{ cls:=.type "list",data:=.seq vs.toArray },Ip_ rfl⟩)) (fun b u z=>?_) (fun b z=>?_) fun _=>hk
  ·by_cases hb:b=a
   ·exact .inr ⟨_,_,Ip_ hb⟩
   ·exact .inl (In_ hb)
  ·by_cases hb:b=a
   ·have z':=(Ip_ hb).symm.trans z;cases z';subst hb;exact⟨ha,by rw[je]; exact hl,vs,_,rv,ha⟩
   ·have z':=(In_ hb).symm.trans z;cases z'
  ·by_cases hb:b=a
   ·exact hb
   ·exact absurd (In_ hb) z
theorem zlw{l:gH}{n k:Nat}{q:jt}{loose:List Str}{XP:(Str->Option j5)->Qq->Prop}{YP:jS->Qq->Prop}{d:DefRec}{K:Params->j9}{CX:jS->CXT}{sp:jS->Sp}{x:Str}
  (hn:l.most=some n) (hn2:n<=ja) (hdf:d.params.defaults=[]) (hr:Room k NT)
  (hY:∀(w:jS) (h:Qq),YP w h->(K w.params).In h)
  (F:∀(w:jS) (mg:Str->Option j5) (fa:ji) (h:Qq),(K w.params).In h->h.Ns jr mg->mg d.name=some (.ref fa)->
   ∃ fd:QU,(∀(s:j6) (u:j5),NL s fd ⟨[u],[]⟩ [(x,u)]) /\
    ∀ base:Qq,(K w.params).In base->base.Ns jr mg->FnOk l.prog w (K w.params) mg base (CX w) k fa fd [x] (sp w))
  (hsp:∀(w:jS) (H:Hp) (a:ji) (ns:List Int),ns.length<=n->zp5 H->SqL (K w.params) H a (ns.map V.int)->sp w [.ref a] H (fun v _=>v=.bl true) fun _ _ _=>False)
  (hCX:∀(w:jS) (H:Hp) (s:j6) (e:j5) (s':j6),CX w [] H s (fun _ _ _=>False) e s'->False) :
  WN q loose XP YP l.row.toRowW d [] (fun f vs=>WH f vs):=by
 refine Att.attach_call hn hdf fun w s₀ s₁ mg mb fa o pm cd doc a vs ns G Y ho hd hcd hmg hobj hints hlen hg=>?_;have KX:=hY w _ Y;obtain⟨fd,hb,hF⟩:=F w mg fa _ KX G.T.g hmg;exact zks KX G.T.g G.T.b G.T.builtins G.T.nolimit hg hobj hints (Q2 hlen hn2) hr hF hb (fun H hO hS=>hsp w H a ns hlen hO hS) fun H e s'=>hCX w H s₁ e s'
def zaS(s:QR):Arguments:=match s with
 |.FunctionDef _ a _ _ _ _ _ _ _ _=>a
 |_=>{ posonlyargs:=[],args:=[],vararg:=none,kwonlyargs:=[],kw_defaults:=[],kwarg:=none,defaults:=[] }
def zat(s:QR):List QR:=match s with
 |.FunctionDef _ _ b _ _ _ _ _ _ _=>b
 |_=>[]
def za0(s:QR):gO:=match s with
 |.FunctionDef _ _ _ _ _ _ sc _ _ _=>sc
 |_=>{ kind:=.function,names:=[],isGenerator:=false,isCoroutine:=false }
abbrev CX0:CXT:=fun _ _ _ _ _ _=>False
abbrev E0:XK:=fun _ _ _=>False
theorem zkh{X:Cx}:zfS CX0 X E0:=fun _ _ _ _ _ _ _ h=>h.elim
structure Fun (K:j9) (x qual:Str) (st:QR) (f:ji) (fd:QU):Prop where
 ex:∃(oc:j5) (od:Option ji) (kV doc pm:j5) (an:Option ji) (cdv ct:j5) (osl:Array (Option j5)),
  fd=jW x qual (zaS st) (zat st) (za0 st) .none kV doc pm an cdv ct/\K.lookup f=some ⟨oc,od,.func fd,osl⟩/\Zi K cdv qual=true
 kp:Q3 K (.ref f)=true
section
variable {P:jt}{w:jS}{K:j9}{mg:Str->Option j5}{base:Qq}
theorem Fun.ok{x qual:Str}{st:QR}{f:ji}{fd:QU}{N ps:List Str}{k:Nat}{sp:Sp}(F:Fun K x qual st f fd)(S:FnScope N ps (za0 st))(len:∀ vs H Q E,sp vs H Q E->vs.length=ps.length)
  (hbody:∀(cdv:j5) (A:jP) (outer:List Env) (s:j6) (H:Hp) (vs:List V) (Q:VK) (E:XK),Room k (A.deeper (ZC qual (za0 st) s.heap.objs.size f cdv))->sp vs H Q E->
   ∃ t,PSs (zeN CX0 P w K mg base N qual (za0 st) f cdv A outer s H E).nox (zat st) t/\t { nx:=fun _ H'=>Q .non H',rt:=Q } (start N vs) H):FnOk P w K mg base CX0 (k+1) f fd ps sp:=by
 obtain⟨oc,od,kV,doc,pm,an,cdv,ct,osl,rfl,lk,hcd⟩:=F.ex;refine zqB lk hcd S len fun A outer s H vs Q E hr hsp=>?_;obtain⟨t,h,q⟩:=hbody cdv A outer s H vs Q E hr hsp;exact⟨t,h.nox,q⟩
theorem Fun.binds{x qual:Str}{st:QR}{f:ji}{fd:QU}{ps:List Str}(F:Fun K x qual st f fd)
  (h:∀(kV doc pm:j5) (an:Option ji) (cdv ct:j5) (us:List j5),us.length=ps.length->Ys (jW x qual (zaS st) (zat st) (za0 st) .none kV doc pm an cdv ct) ⟨us,[]⟩=pure (ps.zip us)):Binds K fd ps []:=by
 obtain⟨oc,od,kV,doc,pm,an,cdv,ct,osl,rfl,lk,hcd⟩:=F.ex;exact .all (h kV doc pm an cdv ct)
theorem zlk{x qual:Str}{st:QR}{f:ji}{oc:j5}{od an:Option ji}{osl:Array (Option j5)}{kV doc pm cdv ct:j5}(l:K.lookup f=some ⟨oc,od,.func (jW x qual (zaS st) (zat st) (za0 st) .none kV doc pm an cdv ct),osl⟩)
  (c:Zi K cdv qual=true) (k:Q3 K (.ref f)=true):Fun K x qual st f (jW x qual (zaS st) (zat st) (za0 st) .none kV doc pm an cdv ct):=⟨⟨oc,od,kV,doc,pm,an,cdv,ct,osl,rfl,l,c⟩,k⟩
end
theorem zj9{A:jP}{k:Nat}(hr:Room k A):A.units+1 < g8:=Nat.lt_of_le_of_lt (Nat.add_le_add_left (by decide:1<=64) _) hr.units
section
theorem pv(i:Nat){x:Str}{pos:Pos}(hN:X.N[i]?=some x:=by rfl)(hv:Vis X.env.scope x:=by first |exact Q0 rfl |exact YX (Q0 rfl) |exact YX (YX rfl))(hd:(x == ("__debug__":Str))=false:=by decide)
  (hcd:(x == ("__classdict__":Str))=false:=by decide):PE X (.Name x pos) (zcY i):=znV hN hv hd hcd
end
theorem Inv.forget{X:Cx}{pc:List (ji × Obj)}{sg sg':St}{H:Hp}{s:j6}(I:Inv X pc sg H s)(hl:sg'.length=sg.length)(h:∀(i:Nat) (v:V),sg'[i]?=some (some v)->sg[i]?=some (some v)):Inv X pc sg' H s:=by
 obtain⟨m,hn,hm⟩:=I.loc;exact⟨I.ok,I.os,I.bare,I.base,⟨m,hn,fun i x v e1 e2 e3=>hm i x v e1 (h i v e2) e3⟩,I.cell,I.free,I.freeC,I.pin,I.hok,by rw[hl]; exact I.len⟩
def zaV(X:Cx)(N:List Str)(scope:gO)(cl:List (Str × ji))(C:ji)(s0:j6)(H0:Hp)(fp:List ji):Cx where
 prog:=X.prog
 w:=X.w
 K:=X.K
 mg:=X.mg
 base:=X.base
 A:=X.A
 N:=N
 s₀:=s0
 H₀:=H0
 env:=compEnvC scope cl C X.env
 outer:=X.stack
 stack:=X.stack
 ex:=fp
 fn:=fun _=>false
 calm:=X.calm
 pn:=[]
 xe:=fun _ _=>False
def capOk(N:List Str)(XN:List Str)(sc outer:gO)(caps:List (Option Nat)):Bool:=
 decide (caps.length=N.length)&&((jK caps.length).all fun i=>match caps[i]? with
  | some (some j)=>(match N[i]?,XN[j]? with
   |some x,some y=>x == y&&sc.names.lookup x == some .free&&(outer.names.lookup x == some .cell||outer.names.lookup x == some .free)
   | _,_=>false)
  | _=>true)
def zbf(caps:List (Option Nat))(sg:St):St:=caps.map fun o=>o.bind fun j=>(sg[j]?).join
theorem capOk.len{N XN:List Str}{sc outer:gO}{caps:List (Option Nat)}(h:capOk N XN sc outer caps=true):caps.length=N.length:=by
 unfold capOk at h;rw[jo] at h;exact of_decide_eq_true h.1
theorem capOk.get{N XN:List Str}{sc outer:gO}{caps:List (Option Nat)}(h:capOk N XN sc outer caps=true){i j:Nat}(e:caps[i]?=some (some j)) :
  ∃ x,N[i]?=some x/\XN[j]?=some x/\sc.names.lookup x=some .free/\(outer.names.lookup x=some .cell∨outer.names.lookup x=some .free):=by
 unfold capOk at h;rw[jo] at h;have hi:=(jd.mp e).1;have q:=jm.mp h.2 i (jR.mpr hi);rw[e] at q;dsimp only at q;cases h1:N[i]? with
 |none=>rw[h1] at q; cases q
 |some x=>
  cases h2:XN[j]? with
  |none=>rw[h1,h2] at q; cases q
  |some y=>
   rw[h1,h2] at q;dsimp only at q;rw[jo,jo,jX] at q;obtain⟨⟨q1,q2⟩,q3⟩:=q;have e1:=eq_of_beq q1;subst e1;exact⟨x,rfl,rfl,by simpa using q2,q3.imp (fun z=>by simpa using z) fun z=>by simpa using z⟩
theorem zcI{env:Env}:∀(names:List (Str × Yt)) (acc:List (Str × ji)),(∀ x,(x,Q4)∈names->∃ c,env.cells.lookup x=some c)->
  ∃ cl,(forIn (m:=Sem) names acc fun(p:Str × Yt) cs=>(if p.2 == Q4 then (do let c <-cellOf env p.1; pure (Qp ((p.1,c)::cs))) else pure (Qp cs)))=pure cl /\
   (∀ p∈cl,p∈acc∨env.cells.lookup p.1=some p.2)/\(∀ p∈acc,p∈cl)/\(∀ x,(x,Q4)∈names->∃ c,(x,c)∈cl)
 |[],acc,_=>⟨acc,rfl,fun p hp=>.inl hp,fun p hp=>hp,fun x hx=>nomatch hx⟩
 |(n,k)::r,acc,h=>by
  by_cases hk:k=.free
  ·subst hk;obtain⟨c,hc⟩:=h n jG;obtain⟨cl,e,h1,h2,h3⟩:=zcI r ((n,c)::acc) fun x hx=>h x (jh _ hx);refine⟨cl,?_,fun p hp=>?_,fun p hp=>h2 p (jh _ hp),fun x hx=>?_⟩
   ·rw[Wm,Ip_ (by rfl)]
    show (do let c <-cellOf env n; pure (Qp ((n,c)::acc)):Sem _) >>= _=_
    rw[cellOf,hc];exact e
   ·rcases h1 p hp with z |z
    ·rcases jA.mp z with z |z
     ·subst z; exact .inr hc
     ·exact .inl z
    ·exact .inr z
   ·rcases jA.mp hx with z |z
    ·injection z with z1 _;subst z1;exact⟨c,h2 _ jG⟩
    ·exact h3 x z
  ·obtain⟨cl,e,h1,h2,h3⟩:=zcI r acc fun x hx=>h x (jh _ hx);refine⟨cl,?_,h1,h2,fun x hx=>?_⟩
   ·rw[Wm,In_ (by simpa using hk)]
    exact e
   ·rcases jA.mp hx with z |z
    ·injection z with _ z2;exact absurd z2.symm hk
    ·exact h3 x z
theorem zcw{scope:gO}{env:Env}(h:∀ x,(x,Q4)∈scope.names->∃ c,env.cells.lookup x=some c) :
  ∃ cl,closureFor scope env=pure cl/\(∀ p∈cl,env.cells.lookup p.1=some p.2)/\(∀ x,(x,Q4)∈scope.names->∃ c,(x,c)∈cl):=by
 obtain⟨cl,e,h1,_,h3⟩:=zcI scope.names [] h;refine⟨cl,?_,fun p hp=>(h1 p hp).resolve_left (by simp),h3⟩
 have e2:closureFor scope env=((forIn (m:=Sem) scope.names ([]:List (Str × ji)) fun(p:Str × Yt) cs=>(if p.2 == Q4 then (do let c <-cellOf env p.1; pure (Qp ((p.1,c)::cs))) else pure (Qp cs))) >>= fun cs=>pure cs):=rfl
 rw[e2,e];rfl
theorem za7{α β:Type}[BEq α][LawfulBEq α]{x:α}{y:β}:∀ {l:List (α × β)},l.lookup x=some y->(x,y)∈l
 |(a,b)::r,h=>by
  rw[Zg] at h;cases hx:x == a with
  |true=>
   rw[hx] at h;have e:=jg h;rw[eq_of_beq hx,e];exact jG
  |false=>rw[hx] at h; exact jh _ (za7 h)
theorem zaH{α β:Type}[BEq α][LawfulBEq α]{x:α}{y:β}:∀ {l:List (α × β)},(x,y)∈l->∃ z,l.lookup x=some z
 |(a,b)::r,h=>by
  rw[Zg];cases hx:x == a with
  |true=>exact⟨b,rfl⟩
  |false=>
   rcases jA.mp h with z |z
   ·injection z with z1 _;rw[z1] at hx;simp at hx
   ·exact zaH z
theorem zf7{scope:gO}{env:Env}(hcell:∀ y∈scope.names,y.2≠.cell){x:Str}(h:(relabel scope env).names.lookup x=some .cell∨(relabel scope env).names.lookup x=some .free):(x,Q4)∈scope.names:=by
 have key:∀ k,(x,k)∈(relabel scope env).names->k=.cell∨k=.free->(x,Q4)∈scope.names:=fun k hm hk=>by
  obtain⟨⟨n,k'⟩,hn,e⟩:=Q5.mp hm;dsimp only at e;split at e
  ·rename_i hc;injection e with e1 e2;subst e1;have:k'=.free:=by
    simp only[jo] at hc;simpa using hc.1.1
   subst this;exact hn
  ·injection e with e1 e2;subst e1; subst e2;rcases hk with z |z
   ·subst z; exact absurd rfl (hcell _ hn)
   ·subst z; exact hn
 rcases h with h |h
 ·exact key _ (za7 h) (.inl rfl)
 ·exact key _ (za7 h) (.inr rfl)
theorem zdq{env:Env}{x:Str}:∀ {names:List (Str × Yt)},names.lookup x=some .free->
  (names.map fun(n,k)=>if (k == Q4&&env.scope.kind == .function&&env.kindOf n == some .cell) then (n,WO) else (n,k)).lookup x=some .cell ∨
  (names.map fun(n,k)=>if (k == Q4&&env.scope.kind == .function&&env.kindOf n == some .cell) then (n,WO) else (n,k)).lookup x=some .free
 |(n,k)::r,h=>by
  rw[Zg] at h;rw[jp];cases hx:x == n with
  |true=>
   rw[hx] at h;have e:=jg h;subst e;dsimp only;split
   ·left; rw[Zg,hx]
   ·right; rw[Zg,hx]
  |false=>
   rw[hx] at h;have ih:=zdq (env:=env) h;dsimp only;split<;>(rw[Zg,hx]; exact ih)
section
variable {N:List Str}{scope:gO}{cl:List (Str × ji)}{caps:List (Option Nat)}{pc:List (ji × Obj)}{sg:St}{H:Hp}{s:j6}{fp:List ji}{h1:Qq}{tk:Nat}{m0:Str->Option j5}
theorem zdL(hkind:scope.kind=.function)(hcell:∀ y∈scope.names,y.2≠.cell)(I:Inv X pc sg H s)
  (hcl1:∀ p∈cl,X.env.cells.lookup p.1=some p.2) (hcl2:∀ x,(x,Q4)∈scope.names->∃ c,(x,c)∈cl)
  (hf:∀ b∈fp,zhZ X pc H b) (hlt:∀ b∈fp,b < s.heap.objs.size):(zaV X N scope cl s.heap.objs.size s H fp).Ok where
 mod:=I.ok.mod
 kind:=hkind
 glob:=I.ok.glob
 blt:=I.ok.blt
 above:=jl _
 inj:=fun x y c hx hy=>I.ok.inj x y c (hcl1 (x,c) (za7 hx)) (hcl1 (y,c) (za7 hy))
 has:=fun x hx=>by
  obtain⟨c,hc⟩:=hcl2 x (zf7 hcell hx);exact zaH hc
 cab:=fun x c hx=>nomatch hx
 hd:=I.ok.hd
 frames:=I.ok.frames
 stk:=.inl rfl
 exf:=fun b hb=>⟨jJ (hlt b hb),fun x c hx=>(hf b hb).2.2.2.2.1 x c (hcl1 (x,c) (za7 hx))⟩
 bs:=I.bs
 bsz:=Q2 I.ok.bsz I.sz
 noex:=fun b o e hb=>by
  rcases(hf b hb).2.2.2.1 with z |z
  ·exact I.ok.noex b o e z
  ·exact absurd (jC (jq e) (Q2 I.ok.bsz z)) (Qc _)
 exfs:=fun b hb z=>by
  rcases jA.mp (I.stkSub b z) with e |e
  ·exact(hf b hb).2.1 e
  ·exact(hf b hb).2.2.1 e
 funs:=I.stack
 frf:=I.stkFree
theorem zhT(hcap:capOk N X.N scope X.env.scope caps=true)(hkind:scope.kind=.function)(hcell:∀ y∈scope.names,y.2≠.cell)(I:Inv X pc sg H s)
  (hcl1:∀ p∈cl,X.env.cells.lookup p.1=some p.2) (hcl2:∀ x,(x,Q4)∈scope.names->∃ c,(x,c)∈cl)
  (hf:∀ b∈fp,zhZ X pc H b) (hlt:∀ b∈fp,b < s.heap.objs.size) (hk:∀ b u,s.heap.get? b=some u->h1.get? b=some u) (hns:h1.Ns s.heap.objs.size m0) :
  Inv (zaV X N scope cl s.heap.objs.size s H fp) [] (zbf caps sg) H { s with heap:=h1,toks:=tk } where
 ok:=zdL hkind hcell I hcl1 hcl2 hf hlt
 os:=rfl
 bare:=I.bare
 base:=Un.kept hk
 loc:=by
  refine⟨m0,hns,fun i x v e1 e2 e3=>?_⟩;have e2':∃ j,caps[i]?=some (some j)/\sg[j]?=some (some v):=by
   unfold zbf at e2;rw[jk] at e2;cases hc:caps[i]? with
   |none=>rw[hc] at e2; simp at e2
   |some o=>
    rw[hc] at e2;cases o with
    |none=>simp at e2
    |some j=>
     refine⟨j,rfl,?_⟩;simp only[jz,j8,Option.some.injEq] at e2;cases hj:sg[j]? with
     |none=>rw[hj] at e2; simp at e2
     |some y=>rw[hj] at e2; simp at e2; rw[e2]
  obtain⟨j,hj1,hj2⟩:=e2';obtain⟨x',n1,n2,f1,f2⟩:=capOk.get hcap hj1;have e1':N[i]?=some x:=e1;rw[e1'] at n1;obtain rfl:x=x':=jg n1;obtain⟨m,hn,hm⟩:=I.loc;obtain⟨u,ru,l⟩:=hm j x v n2 hj2 (f2.elim (fun z=>.inr (.inl z)) fun z=>.inr (.inr z));refine⟨u,ru,.inr ⟨zdq f1,?_⟩⟩;rcases l with ⟨k,_⟩ |⟨_,c,hc,hcell⟩
  ·have k':X.env.scope.names.lookup x=some .local:=k;rcases f2 with z |z<;>(rw[k'] at z; cases z)
  ·obtain⟨c',hc'⟩:=hcl2 x (za7 f1);obtain⟨c'',hc''⟩:=zaH hc';have q:=hcl1 (x,c'') (za7 hc'');rw[hc] at q;obtain rfl:c=c'':=jg q;obtain⟨o,ho,hd⟩:=hcell;exact⟨c,hc'',o,hk c o ho,hd⟩
 cell:=fun x c hx=>by
  obtain⟨v,o,ho,hd⟩:=I.cell x c (hcl1 (x,c) (za7 hx));exact⟨v,o,hk c o ho,hd⟩
 free:=I.hok.fresh (jl _)
 freeC:=fun x c hx=>I.freeC x c (hcl1 (x,c) (za7 hx))
 pin:=fun p hp=>nomatch hp
 hok:=I.hok.kept hk
 len:=by
  unfold zbf;rw[je];exact capOk.len hcap
end
def PTs(X:Cx)(ifs:List jU)(t:TT):Prop:=
 ∀(pc:List (ji × Obj)) (s:j6) (sg:St) (H:Hp) (Q:Bool->Hp->Prop),Inv X pc sg H s->t sg H Q->
  jy (jE X.prog X.w) X.A (forIn ifs true fun c r=>if r=true then do let ok <-isTrue c X.env (eval c X.env); pure (Qp ok) else pure (Qp r)) (TP X pc sg Q) X.xe s
def zpT:TT:=fun _ H Q=>Q true H
theorem zmg{X:Cx}:PTs X [] zpT:=fun _ _ _ H _ I h=>wpAny_tests_nil ⟨H,I,h⟩
section
variable {prog:jt}{w:jS}{A:jP}{R:WF->j6->Prop}{s:j6}
theorem zfF{elt target iter:jU}{ifs:List jU}{scope:gO}{pos:Pos}{it acc:j5}{env:Env}(I:Nat->j6->Prop)
  (turn:∀ n s,I n s->jy (jE prog w) A (YH it) (fun r s1=>match r with
   |none=>R (.ok .next) s1
   | some v=>jy (jE prog w) A (ZR target it v) (fun _ s1'=>jy (jE prog w) A (Wi target env v) (fun _ s2=>
     jy (jE prog w) A (forIn ifs true fun c r=>if r=true then do let ok <-isTrue c env (eval c env); pure (Qp ok) else pure (Qp r)) (fun ok s3=>
      if ok=true then jy (jE prog w) A (eval elt env) (fun x s4=>
       jy (jE prog w) A (call (.builtin "list.append") [acc,x]) (fun _ s5=>∃ m,m < n/\I m s5) (fun _ _=>False) s4) (fun _ _=>False) s3
      else ∃ m,m < n/\I m s3) (fun _ _=>False) s2) (fun _ _=>False) s1') (fun _ _=>False) s1) (fun _ _=>False) s)
  (n:Nat) (h:I n s) :
  Y3 (jE prog w) A (.compLoop (.ListComp elt [⟨target,iter,ifs,0⟩] scope pos) 0 it acc env) R s:=by
 refine codeAny_loop rfl I (fun n s hI=>?_) n h;show jy _ A ((compTurn (.ListComp elt [⟨target,iter,ifs,0⟩] scope pos) 0 it acc env).onRaise (fun x=>do noteFrame x env; theTreesLotGoes x)) _ _ s
 refine wpAny_noted ?_;rw[compTurn_list];refine j4 (Nx (j4 (Q7 (turn n s hI) (fun r s1 h1=>?_) fun _ _ h'=>h'.elim)));cases r with
 |none=>exact jf h1
 |some v=>
  refine j4 (Q7 h1 (fun _ s1' h1'=>?_) fun _ _ h'=>h'.elim);refine j4 (Q7 h1' (fun _ s2 h2=>j4 (Q7 h2 (fun ok s3 h3=>?_) fun _ _ h'=>h'.elim)) fun _ _ h'=>h'.elim);cases ok with
  |false=>exact jf ⟨rfl,h3⟩
  |true=>
   exact j4 (j4 (Q7 h3 (fun x s4 h4=>j4 (Q7 h4 (fun _ s5 h5=>jf (jf ⟨rfl,h5⟩)) fun _ _ h'=>h'.elim)) fun _ _ h'=>h'.elim))
end
def zhW(caps:List (Option Nat))(g:TG):Prop:=∀(x:V) (sg:St) (H:Hp) (Q:St->Hp->Prop),g x sg H Q->g x sg H fun s2 H2=>Q s2 H2/\∀(j k:Nat),caps[j]?=some (some k)->s2[j]?=sg[j]?
theorem zb9{caps:List (Option Nat)}{i:Nat}(h:caps[i]?=some none:=by rfl):zhW caps (zcF i):=fun x sg H Q q=>⟨q,fun j k e=>by
 have:i≠j:=fun z=>by subst z; rw[h] at e; cases e
 exact jc this⟩
def lcW(J:It)(g:TG)(tt:TT)(te:TE)(sg':St)(Q:VK)(H1:Hp):Prop:=
 ∀ D,H1 D=none->∃ W:Nat->Nat->Hp->Prop,(∃ m,W 0 m (upd H1 D (.lst [])))/\∀ i m H,W i m H->
  (J.stop i H/\Q (.ref D) H)∨(J.go i H/\∀ x H',J.yld i H x H'->g x sg' H' fun s2 H2=>tt s2 H2 fun b H3=>if b=true then
   te s2 H3 fun y H4=>∃ xs,H4 D=some (.lst xs)/\xs.length < ja/\∃ m',m' < m/\W (i+1) m' (upd H4 D (.lst (xs++[y])))
   else ∃ m',m' < m/\W (i+1) m' H3)
section
variable {N:List Str}{scope:gO}{caps:List (Option Nat)}{tg elt iter:jU}{ifs:List jU}{wi:TI}{g:TG}{tt:TT}{te:TE}{pos:Pos}
theorem zgW{pc:List (ji × Obj)}{sg:St}{H:Hp}{s2:j6}{cl:List (Str × ji)}{it:ji}{fp:List ji}{tn:Nat->Qq->Prop}{J:It}{Q:VK}{E:j5->j6->Prop}{RR:j5->ji->WF->j6->Prop}
  (hc:X.calm=true) (hcap:capOk N X.N scope X.env.scope caps=true) (hkind:scope.kind=.function) (hcell:∀ y∈scope.names,y.2≠.cell)
  (hg:∀ cl C s0 H0 fp,PG (zaV X N scope cl C s0 H0 fp) tg g) (hgk:zhW caps g) (ht:∀ cl C s0 H0 fp,PTs (zaV X N scope cl C s0 H0 fp) ifs tt) (he:∀ cl C s0 H0 fp,PE (zaV X N scope cl C s0 H0 fp) elt te)
  (hcl1:∀ p∈cl,X.env.cells.lookup p.1=some p.2) (hcl2:∀ x,(x,Q4)∈scope.names->∃ c,(x,c)∈cl)
  (I2:Inv X pc sg H s2) (T:Turn X.prog X.w X.K tg J fp it tn) (st2:tn 0 s2.heap) (f2:∀ b∈fp,zhZ X pc H b) (hw:lcW J g tt te (zbf caps sg) Q H)
  (hRR:∀(D C:ji) (s':j6) (H':Hp) (m':Str->Option j5),Inv X pc sg H' s'->s'.heap.Ns C m'->H' C=none->s2.heap.objs.size<=C->(∀ x c,X.env.cells.lookup x=some c->c≠C)->(∀ p∈X.pn++pc,p.1≠C)->C≠X.env.locals->Q (.ref D) H'->RR (.ref D) C (.ok .next) s') :
  jy (jE X.prog X.w) X.A (newList []) (fun acc s3=>jy (jE X.prog X.w) X.A (newFunctionEnv scope X.env.globals cl [] X.env.qual none .none (some X.env)) (fun cenv s4=>
   Y3 (jE X.prog X.w) X.A (.compStart (.ListComp elt [⟨tg,iter,ifs,0⟩] scope pos) 0 (.ref it) acc { cenv with scope:=relabel scope X.env }) (RR acc cenv.locals) s4) E s3) E s2:=by
 refine Qy ?_;have I3:Inv X pc sg (upd H s2.heap.objs.size (.lst [])) { s2 with heap:=s2.heap.push { cls:=.type "list",dict:=none,data:=.seq ([]:List j5).toArray } }:=
  I2.laid (t':=s2.toks) (fun b u e=>j7 _ e) (jl _) ⟨Zs _,[],0,.nil,jn _ rfl⟩
 have hfree:=I2.hok.fresh (jl _);obtain⟨W,⟨mm,w0⟩,turn⟩:=hw s2.heap.objs.size hfree;generalize hD:s2.heap.objs.size=D at *;generalize hs3:({ s2 with heap:=s2.heap.push { cls:=.type "list",dict:=none,data:=.seq ([]:List j5).toArray } }:j6)=s3 at *;have hlt3:∀ b o,s2.heap.get? b=some o->s3.heap.get? b=some o:=fun b o e=>by rw[<-hs3]; exact j7 _ e
 have hsz3:s3.heap.objs.size=D+1:=by rw[<-hs3,<-hD]; exact Qw ..
 have fpD:∀ b∈fp,b < D:=fun b hb=>by
  obtain⟨o,ho,_⟩:=T.obj 0 _ st2 b hb;rw[<-hD]; exact jq ho
 have f3:∀ b∈fp,zhZ X pc (upd H D (.lst [])) b:=fun b hb=>⟨by rw[za1 (jJ (fpD b hb))]; exact(f2 b hb).1,(f2 b hb).2⟩
 have lt3:∀ b∈fp,b < s3.heap.objs.size:=fun b hb=>by rw[hsz3]; exact Z2 (fpD b hb)
 have st3:=T.keep 0 _ _ st2 fun b _ o e=>hlt3 b o e;refine wpAny_newFunctionEnv hcell (by intro y hy; simp at hy) (fun h1 hns1 hsb1=>?_) hkind
 try dsimp only at hns1 hsb1 ⊢
 have keep1:∀ b u,s3.heap.get? b=some u->h1.get? b=some u:=fun b u e=>hsb1.extBut b u (jJ (jq e)) (j7 _ e);have I4:=zhT (N:=N) (tk:=s3.toks+([]:List (Str × j5)).length) hcap hkind hcell I3 hcl1 hcl2 f3 lt3 keep1 hns1;have loop:Y3 (jE X.prog X.w) X.A (.compLoop (.ListComp elt [⟨tg,iter,ifs,0⟩] scope pos) 0 (.ref it) (.ref D) (compEnvC scope cl s3.heap.objs.size X.env)) (RR (.ref D) s3.heap.objs.size) { s3 with heap:=h1,toks:=s3.toks+([]:List (Str × j5)).length }:=by
  generalize hX':zaV X N scope cl s3.heap.objs.size s3 (upd H D (.lst [])) fp=X' at I4;have eP:X'.prog=X.prog:=by rw[<-hX']; rfl
  have ew:X'.w=X.w:=by rw[<-hX']; rfl
  have eK:X'.K=X.K:=by rw[<-hX']; rfl
  have eA:X'.A=X.A:=by rw[<-hX']; rfl
  have eE:X'.env=compEnvC scope cl s3.heap.objs.size X.env:=by rw[<-hX']; rfl
  have ex:X'.xe=fun _ _=>False:=by rw[<-hX']; rfl
  have ecalm:X'.calm=true:=by rw[<-hX']; exact hc
  have hg':PG X' tg g:=by rw[<-hX']; exact hg _ _ _ _ _
  have ht':PTs X' ifs tt:=by rw[<-hX']; exact ht _ _ _ _ _
  have he':PE X' elt te:=by rw[<-hX']; exact he _ _ _ _ _
  have stat:∀ {H':Hp},(∀ b∈fp,H' b=none)->∀ b∈fp,zhZ X' [] H' b:=fun {H'} hn b hb=>by
   refine⟨hn b hb,?_,?_,?_,?_,fun p hp=>?_⟩
   ·rw[<-hX']; exact jJ (lt3 b hb)
   ·rw[<-hX'];exact fun z=>(zdL (N:=N) hkind hcell I3 hcl1 hcl2 f3 lt3).exfs b hb z
   ·rw[<-hX']; exact .inl hb
   ·rw[<-hX'];exact((zdL (N:=N) hkind hcell I3 hcl1 hcl2 f3 lt3).exf b hb).2
   ·rw[<-hX'] at hp; cases hp
  have out:∀ {sg':St} {H':Hp} {s':j6},Inv X' [] sg' H' s'->Inv X pc sg H' s':=fun {sg' H' s'} I'=>by
   have hb:=I'.base;rw[<-hX'] at hb;have ho:=I'.os;rw[<-hX'] at ho;have hk:=I'.hok;rw[eP,ew] at hk;exact I3.call' (ch:=fp) ho hb hk I'.bare fun b hb=>⟨(f3 b hb).2.2.2.1,(f3 b hb).2.1,(f3 b hb).2.2.2.2.1,(f3 b hb).2.2.2.2.2⟩
  rw[<-eE,<-eA,<-eP,<-ew];refine zfF (fun n s'=>∃ i H',Inv X' [] (zbf caps sg) H' s'/\tn i s'.heap/\(∀ b∈fp,H' b=none)/\W i n H') ?_ mm
   ⟨0,_,I4,T.keep 0 _ _ st3 fun b _ o e=>keep1 b o e,fun b hb=>(f3 b hb).1,w0⟩
  rintro n s5 ⟨i,H5,I5,st5,fr5,w5⟩;rcases turn i n H5 w5 with ⟨stop,q⟩ |⟨go,step⟩
  ·have z:=T.done X' eP ew eK ecalm i [] s5 _ H5 (fun _ _=>False) I5 (stat fr5) st5 stop;rw[<-eP,<-ew] at z;refine thn z fun r s6 h_=>?_; obtain⟨hr,I6⟩:=h_;subst hr;obtain⟨m',hn',_⟩:=I6.loc;have hfr:=I6.free;rw[eE] at hn' hfr;refine hRR D s3.heap.objs.size s6 H5 m' (out I6) hn' hfr (by rw[hsz3]; exact QN _) (fun x c e z=>?_) (fun p hp z=>?_) (fun z=>?_) q
   ·obtain⟨v,o,ho,_⟩:=I3.cell x c e;rw[z] at ho;exact absurd (jq ho) (Qc _)
   ·have:=jq (I3.pin p hp).1;rw[z] at this;exact absurd this (Qc _)
   ·have:=I3.lt;rw[<-z] at this;exact absurd this (Qc _)
  ·have z:=T.item X' eP ew eK ecalm i [] s5 _ H5 (fun _ _=>False) I5 (stat fr5) st5 go;rw[<-eP,<-ew] at z;refine thn z fun r s6 h_=>?_; obtain⟨u,hr,h6⟩:=h_;subst hr;dsimp only;refine thn h6 fun _ s7 h_=>?_; obtain⟨x,H7,I7,r7,y7,st7,fr7⟩:=h_;have I7':=I7.pinned (stat fr7) (T.obj _ _ st7);have q7:=step x H7 y7;have a7:=hg' _ s7 (zbf caps sg) H7 x u _ I7' r7 (hgk _ _ _ _ q7);rw[ex] at a7;refine thn a7 fun _ s8 h_=>?_; obtain⟨sg8,H8,I8,q8,k8⟩:=h_;have k8':∀(j:Nat) (v:V),(zbf caps sg)[j]?=some (some v)->sg8[j]?=some (some v):=fun j v e=>by
    have e':=e;unfold zbf at e';rw[jk] at e';cases hc:caps[j]? with
    |none=>rw[hc] at e'; simp at e'
    |some o=>
     cases o with
     |none=>rw[hc] at e'; simp at e'
     |some k=>rw[k8 j k hc]; exact e
   have a8:=ht' _ s8 sg8 H8 _ I8 q8;rw[ex] at a8;refine thn a8 fun ok s9 h_=>?_; obtain⟨H9,I9,q9⟩:=h_;have J1:∀ {sg':St} {H':Hp} {s':j6} {m':Nat},Inv X' ([]++zfg fp s7.heap) sg' H' s'->(∀(j:Nat) (v:V),(zbf caps sg)[j]?=some (some v)->sg'[j]?=some (some v))->m' < n->W (i+1) m' H'->
     ∃ m,m < n/\∃ i H',Inv X' [] (zbf caps sg) H' s'/\tn i s'.heap/\(∀ b∈fp,H' b=none)/\W i m H':=fun {sg' H' s' m'} I' hs hm hw=>by
    refine⟨m',hm,i+1,H',I'.unpinned.forget (I4.len.trans I'.len.symm) hs,T.keep _ _ _ st7 fun b hb o e=>(I'.pin (b,o) (jH _ (jH _ (zbU hb e)))).1,fun b hb=>?_,hw⟩;obtain⟨o,e,d⟩:=T.obj _ _ st7 b hb;exact(I'.pin (b,o) (jH _ (jH _ (zbU hb e)))).2.1
   cases ok with
   |false=>
    obtain⟨m',hm,w9⟩:=q9;exact J1 I9 k8' hm w9
   |true=>
    have a9:=he' _ s9 sg8 H9 _ I9 q9;rw[ex] at a9;refine thn a9 fun v s10 h_=>?_; obtain⟨y,H10,I10,r10,xs,hD',hz,m',hm,w10⟩:=h_;have a10:=zfp (X:=X') _ s10 sg8 H10 (.ref D) [y] (.ref D) [v] (fun _ H'=>W (i+1) m' H') I10 rfl (.cons r10 .nil) ⟨D,xs,y,rfl,rfl,hD',hz,w10⟩;rw[ex] at a10;exact thn a10 fun _ s11 ⟨_,H11,I11,_,w11⟩=>J1 I11 k8' hm w11
 exact codeAny_compStart_list loop (T.self _ _ _ _ _ (T.keep 0 _ _ st3 fun b _ o e=>keep1 b o e) loop)
def tLC(caps:List (Option Nat))(wi:TI)(g:TG)(tt:TT)(te:TE):TE:=fun sg H Q=>wi sg H fun J H1=>lcW J g tt te (zbf caps sg) Q H1
theorem zh7{X:Cx}{scope:gO}(ok:X.Ok)(hfr:scope.names.all (fun p=>p.2 != .free||(X.env.scope.names.lookup p.1 == some .cell||X.env.scope.names.lookup p.1 == some .free))=true) :
  ∀ x,(x,Q4)∈scope.names->∃ c,X.env.cells.lookup x=some c:=fun x hx=>by
 have q:=jm.mp hfr (x,.free) hx;simp only[bne_self_eq_false,WM,jX] at q;exact ok.has x (q.imp (fun z=>eq_of_beq z) fun z=>eq_of_beq z)
theorem zqf(hc:X.calm=true)(hi:PI X tg iter wi)(hg:∀ cl C s0 H0 fp,PG (zaV X N scope cl C s0 H0 fp) tg g)(hgk:zhW caps g)(ht:∀ cl C s0 H0 fp,PTs (zaV X N scope cl C s0 H0 fp) ifs tt)(he:∀ cl C s0 H0 fp,PE (zaV X N scope cl C s0 H0 fp) elt te)
  (hcap:capOk N X.N scope X.env.scope caps=true:=by rfl) (hkind:scope.kind=.function:=by rfl) (hcell:scope.names.all (fun p=>p.2 != .cell)=true:=by rfl)
  (hnames:scope.names.all (fun p=>p.2 != .local||scope.names.lookup p.1 == some .local)=true:=by rfl)
  (hfr:scope.names.all (fun p=>p.2 != .free||(X.env.scope.names.lookup p.1 == some .cell||X.env.scope.names.lookup p.1 == some .free))=true:=by rfl)
  (hs:∀ x,Z1 iter X.env x=pure x:=by intro _; rfl):PE X (.ListComp elt [⟨tg,iter,ifs,0⟩] scope pos) (tLC caps wi g tt te):=by
 intro pc s sg H Q I h;have hcell':∀ y∈scope.names,y.2≠.cell:=fun y hy=>by simpa using jm.mp hcell y hy
 have hnames':∀ x∈scope.names,x.2=.local->scope.names.lookup x.1=some .local:=fun x hx e=>by
  have q:=jm.mp hnames x hx;rw[e] at q;simpa using q
 obtain⟨cl,hclos,hcl1,hcl2⟩:=zcw (scope:=scope) (env:=X.env) (zh7 I.ok hfr);rw[eval_ListComp];refine Yc (use:=none) rfl hs hclos hkind hnames' (thn (hi pc s sg H _ I h) fun v s1 h1=>thn h1 fun itv s2 h2=>?_);obtain⟨it,fp,tn,J,H2,e,I2,T,st2,f2,hw⟩:=h2;subst e;refine zgW (RR:=fun acc C=>compPost (jE X.prog X.w) X.A X.xe none (EP X pc sg Q) acc C) hc hcap hkind hcell' hg hgk ht he hcl1 hcl2 I2 T st2 f2 hw ?_;intro D C s' H' m' I' hn hfree hCs hCc hCp hCl q;refine⟨m',hn,fun h' hs'=>⟨.ref D,H',?_,rfl,q⟩⟩;exact I'.turned (t':=s'.toks) (it:=C) (fun b o hb e=>(hs'.2 b hb).trans e) hfree hCl (.inr (Q2 I2.sz hCs)) hCc hCp
theorem zk9{i:Nat}{y:Str}{py spos:Pos}(hN:X.N.Nodup)(hiy:X.N[i]?=some y)(hy:X.env.scope.names.lookup y=some .local)(hc:X.calm=true)(hi:PI X tg iter wi)(hg:∀ cl C s0 H0 fp,PG (zaV X N scope cl C s0 H0 fp) tg g)(hgk:zhW caps g)(ht:∀ cl C s0 H0 fp,PTs (zaV X N scope cl C s0 H0 fp) ifs tt)(he:∀ cl C s0 H0 fp,PE (zaV X N scope cl C s0 H0 fp) elt te)
  (hsw:gD (.ListComp elt [⟨tg,iter,ifs,0⟩] scope pos) (some (.Name y py)) spos.line X.env=pure true:=by rfl)
  (hcap:capOk N X.N scope X.env.scope caps=true:=by rfl) (hkind:scope.kind=.function:=by rfl) (hcell:scope.names.all (fun p=>p.2 != .cell)=true:=by rfl)
  (hnames:scope.names.all (fun p=>p.2 != .local||scope.names.lookup p.1 == some .local)=true:=by rfl)
  (hfr:scope.names.all (fun p=>p.2 != .free||(X.env.scope.names.lookup p.1 == some .cell||X.env.scope.names.lookup p.1 == some .free))=true:=by rfl)
  (hs:∀ x,Z1 iter X.env x=pure x:=by intro _; rfl):PS X (.Assign [.Name y py] (.ListComp elt [⟨tg,iter,ifs,0⟩] scope pos) spos) (zeU (tLC caps wi g tt te) (zcF i)):=by
 intro pc s sg H D0 I h;have hcell':∀ y∈scope.names,y.2≠.cell:=fun y hy=>by simpa using jm.mp hcell y hy
 have hnames':∀ x∈scope.names,x.2=.local->scope.names.lookup x.1=some .local:=fun x hx e=>by
  have q:=jm.mp hnames x hx;rw[e] at q;simpa using q
 obtain⟨cl,hclos,hcl1,hcl2⟩:=zcw (scope:=scope) (env:=X.env) (zh7 I.ok hfr);rw[exec_Assign_Name_used _ _ _ _ hsw];refine j4 (Nx (j4 ?_))
 refine j4 (Q7 (Yc (use:=some (Wi (.Name y py) X.env)) (Q:=fun _ s'=>SP X pc D0 .next s') rfl hs hclos hkind hnames'
  (thn (hi pc s sg H _ I h) fun v s1 h1=>thn h1 fun itv s2 h2=>?_)) (fun _ s' hq=>jf (jf hq)) fun _ _ e=>e)
 obtain⟨it,fp,tn,J,H2,e,I2,T,st2,f2,hw⟩:=h2;subst e;refine zgW (Q:=fun x H1=>zcF i x sg H1 D0.nx) (RR:=fun acc C=>compPost (jE X.prog X.w) X.A X.xe (some (Wi (.Name y py) X.env)) (fun _ s'=>SP X pc D0 .next s') acc C) hc hcap hkind hcell' hg hgk ht he hcl1 hcl2 I2 T st2 f2 hw ?_
 intro D C s' H' m' I' hn hfree hCs hCc hCp hCl q;refine NK (zdj I' hN hiy (.inl hy) (v:=.ref D) rfl (fun s3 I3 ⟨a,hs3,ha⟩=>?_) (.inr hy));have hCa:C≠a:=by
  rcases ha with z |z
  ·rw[z]; exact hCl
  ·exact fun z'=>hCc y a z z'.symm
 refine⟨m',hn.sameBut hs3 hCa,fun h' hs'=>?_⟩;exact⟨_,H',I3.turned (t':=s3.toks) (it:=C) (fun b o hb e=>(hs'.2 b hb).trans e) hfree hCl (.inr (Q2 I2.sz hCs)) hCc hCp,q⟩
end
section
def zrH:V->Option Int->Option Int->Hp->VK->Prop:=fun x lo hi H Q=>∃ z,x=.str z/\z.length<=ja/\Q (.str (gJ z lo hi)) H
theorem znx:SlR X zrH:=by
 intro pc s sg H x v vl vu lo hi sl Q I rx hs pl pu h;obtain⟨z,rfl,hz,q⟩:=h;obtain⟨t,rfl⟩:=rx;refine⟨"str",_,F.slot_str_getitem.lookup,N6 _ _ _,?_⟩;have fin:∀ t' k,EP X pc sg Q (.str (gJ z lo hi) t') { s with toks:=k }:=fun t' k=>⟨.str _,H,I.tok _,⟨_,rfl⟩,q⟩;have le:=Q2 (Txt.slice_le z lo hi) hz;cases pl with
 |none=>
  cases pu with
  |none=>exact Zc (l:=none) (u:=none) (st:=none) hs rfl (gK ⟨le,fin⟩)
  |int j uj=>exact Zc (l:=none) (u:=some (j,uj)) (st:=none) hs rfl (gK ⟨le,fin⟩)
 |int i ui=>
  cases pu with
  |none=>exact Zc (l:=some (i,ui)) (u:=none) (st:=none) hs rfl (gK ⟨le,fin⟩)
  |int j uj=>exact Zc (l:=some (i,ui)) (u:=some (j,uj)) (st:=none) hs rfl (gK ⟨le,fin⟩)
theorem zdV:∀ {ys:List Str} {us:List j5},Vals (ys.map V.str) us->Wn us ys
 |[],_,.nil=>.nil
 |y::ys,_,.cons r t=>by
  obtain⟨t',rfl⟩:=r;exact .cons _ _ (zdV t)
def zm2(K:j9):V->List V->Hp->VK->Prop:=fun x vs H Q=>∃ z a ys,x=.str z/\vs=[.ref a]/\SqL K H a (ys.map V.str)/\(ys.map (·.length)).sum+ys.length*z.length<=16777216/\Q (.str (gA z ys)) H
theorem zer:MtR X "str.join" (zm2 X.K):=by
 intro pc s sg H x xs v us Q I rx rv h;obtain⟨z,a,ys,rfl,rfl,ha,hz,q⟩:=h;obtain⟨t,rfl⟩:=rx;obtain⟨u,rfl,ru⟩:=rv.one;cases ru;obtain⟨its,r,pl,hz'⟩:=I.list ha;exact join_list pl.isList (by simpa using zdV r) hz fun t' k=>⟨.str _,H,I.tok _,⟨_,rfl⟩,q⟩
end
theorem zoL:Qj "int"=some (.type "int"):=by decide +kernel
theorem zaU:Qj "isinstance"=some (.builtin "isinstance"):=by decide +kernel
section
theorem zm0{k:Key}{v:j5}(h:zgf k v=true):RelV (kV k) v:=by
 rcases zar h with ⟨i,t,rfl,rfl⟩ |⟨x,t,rfl,rfl⟩
 ·exact⟨t,rfl⟩
 ·exact⟨t,rfl⟩
theorem zfW:∀ {xs:List V} {us:List j5},xs.length=us.length->(∀(j:Nat) x u,xs[j]?=some x->us[j]?=some u->RelV x u)->Vals xs us:=by
 intro xs
 induction xs with
 |nil=>
  intro us hl _;cases us with
  |nil=>exact .nil
  |cons _ _=>cases hl
 |cons x xs ih=>
  intro us hl h;cases us with
  |nil=>cases hl
  |cons u us=>exact .cons (h 0 x u rfl rfl) (ih (J3 hl) fun j y v e1 e2=>h (j+1) y v e1 e2)
theorem zld{κ:Type}{kvs:List (κ × V)}{vs:List (κ × j5)}{j:Nat}{p:κ × V}(h:KV kvs vs):kvs[j]?=some p->∃ q,vs[j]?=some q/\p.1=q.1/\RelV p.2 q.2:=by
 induction h generalizing j with
 |nil=>intro e; cases e
 |cons r t ih=>
  intro e;cases j with
  |zero=>obtain rfl:=jg e; exact⟨_,rfl,r⟩
  |succ j=>exact ih (j:=j) e
end
section
variable {a:jU}{ta:TA}{pos p p' pos':Pos}
def tLR(ta:TA):TE:=fun σ H Q=>ta σ H fun vs H1=>∃ j:Int,vs=[.int j]/\-(2 ^ 62)<=j/\j<=16777216/\∀ l,H1 l=none->Q (.ref l) (upd H1 l (.lst ((jK j.toNat).map fun(k:Nat)=>V.int k)))
theorem zfh(hc:X.calm=true)(hg:Gl X "list")(hm:X.mg "list"=none)(hg':Gl X "range")(hm':X.mg "range"=none)(ha:PA X [a] ta)(hs:jb [a] X.env=[(false,eval a X.env)]:=by rfl)
  (hs':jb [.Call (.Name "range" p') [a] [] pos'] X.env=[(false,eval (.Call (.Name "range" p') [a] [] pos') X.env)]:=by rfl) :
  PE X (.Call (.Name "list" p) [.Call (.Name "range" p') [a] [] pos'] [] pos) (tLR ta):=by
 intro pc s σ H Q I h;refine Call_ (zdC I hg hm boot_list (Qd ?_ hs' rfl));rw[hs'];refine Qf (Call_ (zdC I hg' hm' WC (Qd (thn (ha pos' pc s σ H _ I h) fun us s1 ⟨vs,H1,I1,r1,q1⟩=>?_) hs rfl)));obtain⟨j,e,q1,q2,q⟩:=q1;subst e;cases r1 with
 |cons r rr=>
  cases rr;obtain⟨t,rfl⟩:=r;refine call_range_1 (g9 ?_);have I2:Inv X pc σ H1 { s1 with heap:=s1.heap.push { cls:=.type "range",data:=.fields #[.int 0 s1.toks,.int j t,.int 1 (s1.toks+1)] },toks:=s1.toks+1+1 }:=I1.kept fun b o e=>j7 _ e;have hn:Yr 0 j 1=(j.toNat:Int):=by rw[rangeSize_one]; split<;>lia
  refine call_list_range (I2.ok.hd hc) (Jb ..) (small_one (by lia) (by lia) q1 (by lia)) hn (by lia) fun h' tk acc c hk hnew hit=>?_
  have hv:Vals ((jK j.toNat).map fun(k:Nat)=>V.int k) acc.toList:=by
   refine zfW (by have h1:=hit.1; simp only[je,ZB,jB]; lia) fun i x u e1 e2=>?_
   rw[jk] at e1;obtain⟨k,h1,h2⟩:=Qm e1;obtain⟨tk',h3⟩:=hit.2 i u (by simpa using e2)
   obtain⟨h4,rfl⟩:=jd.mp h1;subst h2 h3;rw[NB];exact⟨tk',by rw[W9,Int.mul_one]⟩
  exact⟨.ref _,_,I2.laid (o:=.lst ((jK j.toNat).map fun(k:Nat)=>V.int k)) (t':=tk) hk (jl _) ⟨by rw[je,ZB,Qs]; lia,acc.toList,c,hv,by rw[hnew]⟩,rfl,q _ (I2.hok.fresh (jl _))⟩
end
end L2
namespace Dw
open PySem PySem.Spec PyProof.Rows L2
def Sx(l:List Nat):Str:=⟨l.toArray⟩
theorem zcy(l:List Nat):(Sx l).cps.toList=l:=by simp[Sx]
theorem zb1(l:List Nat):(Sx l).length=l.length:=by simp[Sx,NN]
theorem zlt{l m:List Nat}(h:Sx l=Sx m):l=m:=by
 have:=congrArg (fun x=>x.cps.toList) h;simpa[Sx] using this
theorem zoS(l m:List Nat):Sx l++Sx m=Sx (l++m):=by
 show Str.mk _=_;simp[Sx]
theorem zoR(l:List Nat){j:Int}(h0:0<=j)(h:j<=l.length):gJ (Sx l) none (some j)=Sx (l.take j.toNat):=by
 have:=slice_closes_to (x:=Sx l) (j:=j) ⟨h0,by rw[zcy]; exact h⟩
 rw[eq_of_beq this,zcy];simp[Sx]
theorem zgB(l:List Nat){j:Int}(h0:0<=j)(h:j<=l.length):gJ (Sx l) (some j) none=Sx (l.drop j.toNat):=by
 have:=slice_closes_from (x:=Sx l) (i:=j) ⟨h0,by rw[zcy]; exact h⟩
 rw[eq_of_beq this,zcy,QH (by rw[Qk]; lia)]
 rfl
def zbp(x:Str):Prop:=1<=x.length/\x.length<=8/\∀ c∈x.cps.toList,97<=c/\c<=122
abbrev letters:Str:="abcdefghijklmnopqrstuvwxyz"
theorem zhG{i:Int}(h0:0<=i)(h:i < 26):atI letters.cps.toList i=some (97+i.toNat):=by
 have key:∀ j:Nat,j < 26->letters.cps.toList[j]?=some (97+j):=by decide +kernel
 have ek:i=((i.toNat:Nat):Int):=by lia
 have q:=zjD (key i.toNat (by lia))
 rw[<-ek] at q;exact q
theorem zge:letters.length<=ja:=by decide +kernel
structure Pairing (ps:List Nat) (n:Nat):Prop where
 len:ps.length=2*n
 lt:∀ k∈ps,k < n
 two:∀ k,k < n->ps.count k=2
structure Half (pl:List (Option Nat)) (n i:Nat):Prop where
 len:pl.length=2*n
 lt:∀ k,some k∈pl->k < i
 two:∀ k,k < i->pl.count (some k)=2
 free:pl.count none+2*i=2*n
theorem Half.start(n:Nat):Half (gf (2*n) none) n 0:=by
 refine⟨Zq ..,fun k hk=>?_,fun k hk=>absurd hk (gL k),?_⟩
 ·have:=Yd hk;cases this
 ·rw[List.count_replicate_self]; lia
theorem zcv{α β:Type}[BEq α][LawfulBEq α][BEq β][LawfulBEq β]{f:α->β}(hf:∀ a b,f a=f b->a=b)(x:α):∀ l:List α,(l.map f).count (f x)=l.count x
 |[]=>rfl
 |a::r=>by
  rw[jp,QB,QB,zcv hf x r]
  by_cases e:a=x
  ·subst e; simp
  ·have e1:(a == x)=false:=by simpa using e
   have e2:(f a == f x)=false:=by simpa using fun z=>e (hf _ _ z)
   rw[e1,e2]
theorem zdF{l:List Str}{k:Nat}(h:k < l.length):l.getD k Qh=l[k]:=by
 simp[List.getD,j3 h]
theorem Half.next{pl:List (Option Nat)}{n i f0 f1:Nat}(h:Half pl n i)(hi:i < n)(h0:pl[f0]?=some none)(h1:pl[f1]?=some none)(hne:f0≠f1):Half ((pl.set f1 (some i)).set f0 (some i)) n (i+1):=by
 obtain⟨l1,e1⟩:=jd.mp h1;have h0':(pl.set f1 (some i))[f0]?=some none:=by rw[jc (Zp hne)]; exact h0
 obtain⟨l0,e0⟩:=jd.mp h0';have ci:pl.count (some i)=0:=by
  refine Y0.mpr fun hm=>?_;exact absurd (h.lt i hm) (Qc _)
 have cn:=h.free;have key:∀ x,((pl.set f1 (some i)).set f0 (some i)).count x=pl.count x - (if (none:Option Nat) == x then 1 else 0)+(if some i == x then 1 else 0) - (if (none:Option Nat) == x then 1 else 0)+(if some i == x then 1 else 0):=fun x=>by
  rw[Ww l0,e0,Ww l1,e1]
 refine⟨by rw[jT,jT]; exact h.len,fun k hk=>?_,fun k hk=>?_,?_⟩
 ·rcases Y4 hk with z |z
  ·rcases Y4 z with z |z
   ·exact Z2 (h.lt k z)
   ·cases z; exact gp _
  ·cases z; exact gp _
 ·rw[key]
  by_cases e:k=i
  ·subst e;rw[ci];simp
  ·have:(some i == some k)=false:=by simpa using fun z=>e z.symm
   rw[this];simpa using h.two k (by lia)
 ·rw[key];have:(some i == (none:Option Nat))=false:=rfl;rw[this];have:((none:Option Nat) == none)=true:=rfl;rw[this];simp only[if_true,Bool.false_eq_true,if_false];lia
theorem Half.done{pl:List (Option Nat)}{n:Nat}(h:Half pl n n):∃ ps:List Nat,Pairing ps n/\pl=ps.map some:=by
 have hz:pl.count none=0:=by have:=h.free; lia
 have hn:none∉pl:=Y0.mp hz;obtain⟨ps,rfl⟩:∃ ps:List Nat,pl=ps.map some:=by
  clear h hz
  induction pl with
  |nil=>exact⟨[],rfl⟩
  |cons o r ih=>
   obtain⟨ps,rfl⟩:=ih fun z=>hn (jh _ z);cases o with
   |none=>exact absurd jG hn
   |some j=>exact⟨j::ps,rfl⟩
 refine⟨ps,⟨by have:=h.len; rwa [je] at this,fun k hk=>h.lt k (List.mem_map_of_mem hk),fun k hk=>?_⟩,rfl⟩
 have:=h.two k hk
 rwa [zcv (fun a b z=>jg z)] at this
structure GoodWord (wd:List Str):Prop where
 name:∀ x∈wd,zbp x
 two:∀ x∈wd,wd.count x=2
 len:wd.length<=60
theorem zgg{names:List Str}{ps:List Nat}{n:Nat}(hn:n<=30)(hl:names.length=n)(hd:names.Nodup)(hN:∀ x∈names,zbp x)(hp:Pairing ps n):GoodWord (ps.map fun k=>names.getD k Qh):=by
 have inj:∀ j k,j < n->k < n->names.getD j Qh=names.getD k Qh->j=k:=fun j k hj hk e=>by
  rw[zdF (by lia),zdF (by lia)] at e
  exact(Wb hd).mp e
 have memn:∀ k,k < n->names.getD k Qh∈names:=fun k hk=>by
  rw[zdF (by lia)]
  exact Q8 _
 have cnt:∀(l:List Nat),(∀ k∈l,k < n)->∀ k,k < n->(l.map fun k=>names.getD k Qh).count (names.getD k Qh)=l.count k:=by
  intro l
  induction l with
  |nil=>intro _ _ _; rfl
  |cons j r ih=>
   intro hl' k hk;rw[jp,QB,QB,ih (fun k hk=>hl' k (jh _ hk)) k hk]
   by_cases e:j=k
   ·subst e; simp
   ·have e1:(j == k)=false:=by simpa using e
    have e2:(names.getD j Qh == names.getD k Qh)=false:=by
     simp only[beq_eq_false_iff_ne,ne_eq];exact fun z=>e (inj j k (hl' j jG) hk z)
    rw[e1,e2]
 refine⟨fun x hx=>?_,fun x hx=>?_,?_⟩
 ·obtain⟨k,hk,rfl⟩:=Q5.mp hx;exact hN _ (memn k (hp.lt k hk))
 ·obtain⟨k,hk,rfl⟩:=Q5.mp hx;rw[cnt ps hp.lt k (hp.lt k hk),hp.two k (hp.lt k hk)]
 ·rw[je,hp.len]; lia
def stp(acc:List Str)(x:Str):List Str:=if x∈acc then acc else acc++[x]
def za4(wd:List Str):List Str:=wd.foldl stp []
theorem zdH{wd:List Str}{i:Nat}{x:Str}(h:wd[i]?=some x):za4 (wd.take (i+1))=stp (za4 (wd.take i)) x:=by
 unfold za4;rw[Y5,h,NC,List.foldl_append];rfl
theorem ze9:∀(wd acc:List Str),(wd.foldl stp acc).length<=acc.length+wd.length
 |[],acc=>by simp
 |x::wd,acc=>by
  rw[QC];have:=ze9 wd (stp acc x);have h:(stp acc x).length<=acc.length+1:=by unfold stp; split<;>simp
  rw[jw];lia
end Dw
namespace L3
open PySem PySem.Spec PyProof.Rows L2
class TheK where
 K:j9
variable [TheK]
inductive T where
 |non |bl (b:Bool) |int (i:Int) |str (x:Str)
 |lst (xs:List T) |tup (xs:List T) |dct (kvs:List (Key × T)) |set (S:Int->Bool) (n:Nat)
 /-- a dict that will not be changed any more: it may be walked -/
 |fd (kvs:List (Key × T))
 /-- the script -/
 |scr (ns:List Int)
 /-- nothing is known -/
 |any
abbrev Sg:=List (Option T)
inductive Rep (C:ji->Prop) (H:Hp):V->T->Prop
 |non:Rep C H .non .non
 |bl (b:Bool):Rep C H (.bl b) (.bl b)
 |int (i:Int):Rep C H (.int i) (.int i)
 |str (x:Str):Rep C H (.str x) (.str x)
 |lst {a:ji} {vs:List V} {ts:List T} (c:C a) (r:H a=some (.lst vs)) (l:vs.length=ts.length) (h:∀(i:Nat) v t,vs[i]?=some v->ts[i]?=some t->Rep C H v t):Rep C H (.ref a) (.lst ts)
 |tup {a:ji} {vs:List V} {ts:List T} (c:C a) (r:H a=some (.tup vs)) (l:vs.length=ts.length) (h:∀(i:Nat) v t,vs[i]?=some v->ts[i]?=some t->Rep C H v t):Rep C H (.ref a) (.tup ts)
 |dct {a:ji} {kvs:List (Key × V)} {ts:List (Key × T)} (c:C a) (r:H a=some (.dK kvs)) (l:kvs.map (·.1)=ts.map (·.1)) (h:∀(i:Nat) v t,kvs[i]?=some v->ts[i]?=some t->Rep C H v.2 t.2):Rep C H (.ref a) (.dct ts)
 |set {a:ji} {S:Int->Bool} {n:Nat} (c:C a) (r:H a=some (.set S n)):Rep C H (.ref a) (.set S n)
 |fd {a:ji} {o:Obj} {kvs:List (Key × V)} {ts:List (Key × T)} (c:C a) (r:H a=some (.frz o (.dK kvs))) (l:kvs.map (·.1)=ts.map (·.1)) (h:∀(i:Nat) v t,kvs[i]?=some v->ts[i]?=some t->Rep C H v.2 t.2):Rep C H (.ref a) (.fd ts)
 |scr {a:ji} {ns:List Int} {o:Obj} (c:C a) (r:H a=some (.frz o (.lst (ns.map V.int)))):Rep C H (.ref a) (.scr ns)
 /-- the script,as an object of the module -/
 |scrK {a:ji} {ns:List Int} (r:∀ H',SqL TheK.K H' a (ns.map V.int)):Rep C H (.ref a) (.scr ns)
 |any {v:V}:Rep C H v .any
def Reps(C:ji->Prop)(H:Hp)(vs:List V)(ts:List T):Prop:=vs.length=ts.length/\∀(i:Nat) v t,vs[i]?=some v->ts[i]?=some t->Rep C H v t
def RepK(C:ji->Prop)(H:Hp)(vs:List (Key × V))(ts:List (Key × T)):Prop:=vs.map (·.1)=ts.map (·.1)/\∀(i:Nat) v t,vs[i]?=some v->ts[i]?=some t->Rep C H v.2 t.2
section
variable {C C':ji->Prop}{H H':Hp}{v:V}{t:T}{vs:List V}{ts:List T}
theorem Rep.mono(h:Rep C H v t)(hc:∀ a,C a->C' a)(hh:∀ a o,C a->H a=some o->H' a=some o):Rep C' H' v t:=by
 induction h with
 |non=>exact .non
 |bl b=>exact .bl b
 |int i=>exact .int i
 |str x=>exact .str x
 |lst c r l h ih=>exact .lst (hc _ c) (hh _ _ c r) l ih
 |tup c r l h ih=>exact .tup (hc _ c) (hh _ _ c r) l ih
 |dct c r l h ih=>exact .dct (hc _ c) (hh _ _ c r) l ih
 |set c r=>exact .set (hc _ c) (hh _ _ c r)
 |fd c r l h ih=>exact .fd (hc _ c) (hh _ _ c r) l ih
 |scr c r=>exact .scr (hc _ c) (hh _ _ c r)
 |scrK r=>exact .scrK r
 |any=>exact .any
theorem Rep.there(h:Rep C H v t):Rep (fun a=>C a/\H a≠none) H v t:=by
 induction h with
 |non=>exact .non
 |bl b=>exact .bl b
 |int i=>exact .int i
 |str x=>exact .str x
 |lst c r l h ih=>exact .lst ⟨c,by rw[r]; simp⟩ r l ih
 |tup c r l h ih=>exact .tup ⟨c,by rw[r]; simp⟩ r l ih
 |dct c r l h ih=>exact .dct ⟨c,by rw[r]; simp⟩ r l ih
 |set c r=>exact .set ⟨c,by rw[r]; simp⟩ r
 |fd c r l h ih=>exact .fd ⟨c,by rw[r]; simp⟩ r l ih
 |scr c r=>exact .scr ⟨c,by rw[r]; simp⟩ r
 |scrK r=>exact .scrK r
 |any=>exact .any
theorem Reps.mono(h:Reps C H vs ts)(hc:∀ a,C a->C' a)(hh:∀ a o,C a->H a=some o->H' a=some o):Reps C' H' vs ts:=⟨h.1,fun i v t e1 e2=>(h.2 i v t e1 e2).mono hc hh⟩
theorem RepK.mono{ks:List (Key × V)}{kt:List (Key × T)}(h:RepK C H ks kt)(hc:∀ a,C a->C' a)(hh:∀ a o,C a->H a=some o->H' a=some o):RepK C' H' ks kt:=⟨h.1,fun i v t e1 e2=>(h.2 i v t e1 e2).mono hc hh⟩
theorem Reps.there(h:Reps C H vs ts):Reps (fun a=>C a/\H a≠none) H vs ts:=⟨h.1,fun i v t e1 e2=>(h.2 i v t e1 e2).there⟩
theorem RepK.there{ks:List (Key × V)}{kt:List (Key × T)}(h:RepK C H ks kt):RepK (fun a=>C a/\H a≠none) H ks kt:=⟨h.1,fun i v t e1 e2=>(h.2 i v t e1 e2).there⟩
theorem Reps.nil:Reps C H [] []:=⟨rfl,fun i v t e=>by simp at e⟩
theorem Reps.cons(h:Rep C H v t)(hs:Reps C H vs ts):Reps C H (v::vs) (t::ts):=by
 refine⟨by simp[hs.1],fun i v' t' e1 e2=>?_⟩
 cases i with
 |zero=>simp at e1 e2; subst e1 e2; exact h
 |succ i=>exact hs.2 i v' t' (by simpa using e1) (by simpa using e2)
theorem Reps.head(hs:Reps C H (v::vs) (t::ts)):Rep C H v t:=hs.2 0 v t rfl rfl
theorem Reps.tail(hs:Reps C H (v::vs) (t::ts)):Reps C H vs ts:=⟨by simpa using hs.1,fun i v' t' e1 e2=>hs.2 (i+1) v' t' (by simpa using e1) (by simpa using e2)⟩
theorem Reps.get{i:Nat}(hs:Reps C H vs ts)(e:ts[i]?=some t):∃ v,vs[i]?=some v/\Rep C H v t:=by
 have hi:=(jd.mp e).1;have hv:i < vs.length:=by rw[hs.1]; exact hi
 exact⟨vs[i],j3 hv,hs.2 i _ t (j3 hv) e⟩
theorem Reps.append{vs':List V}{ts':List T}(h:Reps C H vs ts)(h':Reps C H vs' ts'):Reps C H (vs++vs') (ts++ts'):=by
 refine⟨by simp[h.1,h'.1],fun i v t e1 e2=>?_⟩
 by_cases hi:i < vs.length
 ·rw[Qn hi] at e1;rw[Qn (by rw[<-h.1]; exact hi)] at e2
  exact h.2 i v t e1 e2
 ·rw[QJ (by lia)] at e1
  rw[QJ (by rw[<-h.1]; lia),<-h.1] at e2
  exact h'.2 _ v t e1 e2
theorem Reps.drop(n:Nat)(h:Reps C H vs ts):Reps C H (vs.drop n) (ts.drop n):=⟨by simp[h.1],fun i v t e1 e2=>h.2 (n+i) v t (by simpa using e1) (by simpa using e2)⟩
theorem Reps.take(n:Nat)(h:Reps C H vs ts):Reps C H (vs.take n) (ts.take n):=⟨by simp[h.1],fun i v t e1 e2=>by
 rw[List.getElem?_take] at e1 e2;split at e1
 ·rename_i hi;rw[Ip_ hi] at e2;exact h.2 i v t e1 e2
 ·cases e1⟩
theorem Reps.set(n:Nat)(h:Reps C H vs ts)(r:Rep C H v t):Reps C H (vs.set n v) (ts.set n t):=⟨by simp[h.1],fun i v' t' e1 e2=>by
 rw[List.getElem?_set] at e1 e2
 by_cases hi:n=i
 ·rw[Ip_ hi] at e1 e2;split at e1
  ·split at e2
   ·cases e1; cases e2; exact r
   ·cases e2
  ·cases e1
 ·rw[In_ hi] at e1 e2
  exact h.2 i v' t' e1 e2⟩
inductive Live (C:ji->Prop) (H:Hp):ji->T->Prop
 |lst {a:ji} {vs:List V} {ts:List T} (r:H a=some (.lst vs)) (h:Reps C H vs ts):Live C H a (.lst ts)
 |dct {a:ji} {kvs:List (Key × V)} {ts:List (Key × T)} (r:H a=some (.dK kvs)) (h:RepK C H kvs ts):Live C H a (.dct ts)
 |set {a:ji} {S:Int->Bool} {n:Nat} (r:H a=some (.set S n)):Live C H a (.set S n)
 |any {a:ji} {o:HO} (r:H a=some o):Live C H a .any
variable {a:ji}
theorem Live.mono(h:Live C H a t)(hc:∀ a,C a->C' a)(hh:∀ a o,C a->H a=some o->H' a=some o)(ha:∀ o,H a=some o->H' a=some o):Live C' H' a t:=by
 cases h with
 |lst r h=>exact .lst (ha _ r) (h.mono hc hh)
 |dct r h=>exact .dct (ha _ r) (h.mono hc hh)
 |set r=>exact .set (ha _ r)
 |any r=>exact .any (ha _ r)
theorem Live.there(h:Live C H a t):Live (fun a=>C a/\H a≠none) H a t:=by
 cases h with
 |lst r h=>exact .lst r h.there
 |dct r h=>exact .dct r h.there
 |set r=>exact .set r
 |any r=>exact .any r
theorem Live.ne(h:Live C H a t):H a≠none:=by
 cases h with
 |lst r h=>rw[r]; simp
 |dct r h=>rw[r]; simp
 |set r=>rw[r]; simp
 |any r=>rw[r]; simp
theorem Live.rep(h:Live C H a t)(hc:∀ b,C b->C' b)(ha:C' a):Rep C' H (.ref a) t:=by
 cases h with
 |lst r h=>exact .lst ha r h.1 fun i v t e1 e2=>(h.2 i v t e1 e2).mono hc fun _ _ _ e=>e
 |dct r h=>exact .dct ha r h.1 fun i v t e1 e2=>(h.2 i v t e1 e2).mono hc fun _ _ _ e=>e
 |set r=>exact .set ha r
 |any r=>exact .any
end
structure Fr where
 H0:Hp
 C0:ji->Prop
 D:ji->Prop
 adr:Nat->ji
def Free(F:Fr)(O:ji->Prop):ji->Prop:=fun a=>¬ O a/\(F.C0 a∨F.H0 a=none)
theorem Free.weak{F:Fr}{O O':ji->Prop}{a:ji}(h:∀ b,O' b->O b)(x:Free F O a):Free F O' a:=⟨fun z=>x.1 (h _ z),x.2⟩
structure Rel (F:Fr) (O:ji->Prop) (M:List Nat) (s:Sg) (σ:L2.St) (H:Hp):Prop where
 len:s.length=σ.length
 val:∀(i:Nat) t,s[i]?=some (some t)->i∉M->∃ v,σ[i]?=some (some v)/\Rep (Free F O) H v t
 own:∀(i:Nat) t,s[i]?=some (some t)->i∈M->∃ a,σ[i]?=some (some (.ref a))/\Live (Free F O) H a t
 ow:∀(i:Nat) a,i∈M->σ[i]?=some (some (.ref a))->O a
 dis:∀(i j:Nat) a,i∈M->j∈M->σ[i]?=some (some (.ref a))->σ[j]?=some (some (.ref a))->i=j
 keep:∀ b o,¬ F.D b->F.H0 b=some o->H b=some o
 dom:∀ b,H b=none->F.H0 b=none
 fresh:∀ a,O a->F.D a∨F.H0 a=none
 inD:∀ a,F.D a->O a
 al:∀ a,O a->H a≠none
structure Step (σ:L2.St) (M:List Nat) (H H':Hp):Prop where
 keep:∀ b o,(∀(i:Nat),i∈M->σ[i]?≠some (some (.ref b)))->H b=some o->H' b=some o
 dom:∀ b,H' b=none->H b=none
section
variable {F:Fr}{O:ji->Prop}{M:List Nat}{s s':Sg}{σ:L2.St}{H H' H'':Hp}{v:V}{t:T}{a:ji}
theorem Step.refl:Step σ M H H:=⟨fun _ _ _ h=>h,fun _ h=>h⟩
theorem Step.trans(x:Step σ M H H')(y:Step σ M H' H''):Step σ M H H'':=⟨fun b o n h=>y.keep b o n (x.keep b o n h),fun b h=>x.dom b (y.dom b h)⟩
theorem Step.new(h:H a=none)(o:HO):Step σ M H (upd H a o):=⟨fun b u _ q=>by rw[za1 (zaa q h)]; exact q,fun b h'=>by
 unfold upd at h';split at h'
 ·cases h'
 ·exact h'⟩
theorem Rel.notOwned(R:Rel F O M s σ H)(h:¬ O a):∀(i:Nat),i∈M->σ[i]?≠some (some (.ref a)):=fun i hi e=>h (R.ow i a hi e)
theorem Rel.stay(R:Rel F O M s σ H)(S:Step σ M H H')(h:Rep (Free F O) H v t):Rep (Free F O) H' v t:=
 h.mono (fun _ c=>c) fun a o c e=>S.keep a o (R.notOwned c.1) e
theorem Rel.less{O':ji->Prop}(R:Rel F O M s σ H)(h:∀ b,O' b->O b)(hw:∀(i:Nat) a,i∈M->σ[i]?=some (some (.ref a))->O' a)(hD:∀ a,F.D a->O' a):Rel F O' M s σ H where
 len:=R.len
 val:=fun i t e n=>by
  obtain⟨v,h1,h2⟩:=R.val i t e n;exact⟨v,h1,h2.mono (fun _ c=>c.weak h) fun _ _ _ e=>e⟩
 own:=fun i t e n=>by
  obtain⟨a,h1,h2⟩:=R.own i t e n;exact⟨a,h1,h2.mono (fun _ c=>c.weak h) (fun _ _ _ e=>e) fun _ e=>e⟩
 ow:=hw
 dis:=R.dis
 keep:=R.keep
 dom:=R.dom
 fresh:=fun a z=>R.fresh a (h a z)
 inD:=hD
 al:=fun a z=>R.al a (h a z)
theorem Rel.new(R:Rel F O M s σ H)(h:H a=none)(o:HO):Rel F (fun b=>O b∨b=a) M s σ (upd H a o):=by
 have k:∀ b u,H b=some u->upd H a o b=some u:=fun b u q=>by rw[za1 (zaa q h)]; exact q
 have fr:∀ b,Free F O b/\H b≠none->Free F (fun b=>O b∨b=a) b:=fun b c=>⟨fun z=>z.elim c.1.1 fun z=>c.2 (z▸h),c.1.2⟩;refine⟨R.len,fun i t e n=>?_,fun i t e n=>?_,fun i b hi e=>.inl (R.ow i b hi e),R.dis,fun b u n e=>k _ _ (R.keep b u n e),fun b e=>?_,fun b z=>?_,fun b z=>.inl (R.inD b z),fun b z=>?_⟩
 ·obtain⟨v,h1,h2⟩:=R.val i t e n;exact⟨v,h1,h2.there.mono fr fun b u _ e=>k b u e⟩
 ·obtain⟨b,h1,h2⟩:=R.own i t e n;exact⟨b,h1,h2.there.mono fr (fun b u _ e=>k b u e) fun u e=>k b u e⟩
 ·refine R.dom b ?_;unfold upd at e;split at e
  ·cases e
  ·exact e
 ·rcases z with z |z
  ·exact R.fresh b z
  ·subst z; exact .inr (R.dom _ h)
 ·rcases z with z |z
  ·intro e;refine R.al b z ?_;unfold upd at e;split at e
   ·cases e
   ·exact e
  ·subst z; rw[za5]; simp
end
end L3
namespace L3
open PySem PySem.Spec PyProof.Rows L2
variable [TheK]
variable {M:List Nat}{H:Hp}{X:Cx}
inductive Kd where
 |e |b |n
def BRep(C:ji->Prop)(H:Hp)(v:V)(t:T):Prop:=Rep C H v t∨∃ a,v=.ref a/\Live C H a t
def Post(k:Kd)(F:Fr)(O:ji->Prop)(M:List Nat)(σ:L2.St)(H:Hp)(s':Sg)(t:T)(v:V)(H':Hp):Prop:=match k with
 |.e=>Rel F O M s' σ H'/\Rep (Free F O) H' v t
 |.b=>Rel F O M s' σ H'/\(Rep (Free F O) H' v t∨∃ i:Nat,i∈M/\σ[i]?=some (some v)/\s'[i]?=some (some t))
 |.n=>∃ a,v=.ref a/\H a=none/\Rel F (fun b=>O b∨b=a) M s' σ H'/\Live (Free F (fun b=>O b∨b=a)) H' a t
abbrev DE:=Sg->Option (T × Sg)
abbrev DT:=Sg->Option (Bool × Sg)
abbrev DA:=Sg->Option (List T × Sg)
def cE(k:Kd)(M:List Nat)(f:DE):TE:=fun σ H Q=>∃ F O s t s',Rel F O M s σ H/\f s=some (t,s')/\∀ v H',Step σ M H H'->Post k F O M σ H s' t v H'->Q v H'
theorem cE_{k:Kd}{M:List Nat}{f:DE}{σ:L2.St}{H:Hp}{Q:VK}(h:cE k M f σ H Q){G:Prop}(g:∀ F O s t s',Rel F O M s σ H->f s=some (t,s')->(∀ v H',Step σ M H H'->Post k F O M σ H s' t v H'->Q v H')->G):G:=by
 obtain⟨F,O,s,t,s',R,hf,q⟩:=h;exact g F O s t s' R hf q
def cT(M:List Nat)(f:DT):TT:=fun σ H Q=>∃ F O s b s',Rel F O M s σ H/\f s=some (b,s')/\∀ H',Step σ M H H'->Rel F O M s' σ H'->Q b H'
theorem cT_{M:List Nat}{f:DT}{σ:L2.St}{H:Hp}{Q:Bool->Hp->Prop}(h:cT M f σ H Q){G:Prop}(g:∀ F O s b s',Rel F O M s σ H->f s=some (b,s')->(∀ H',Step σ M H H'->Rel F O M s' σ H'->Q b H')->G):G:=by
 obtain⟨F,O,s,b,s',R,hf,q⟩:=h;exact g F O s b s' R hf q
def cA(M:List Nat)(f:DA):TA:=fun σ H Q=>∃ F O s ts s',Rel F O M s σ H/\f s=some (ts,s')/\∀ vs H',Step σ M H H'->Rel F O M s' σ H'->Reps (Free F O) H' vs ts->Q vs H'
theorem weak{X:Cx}{e:jU}{t t':TE}(h:PE X e t)(hw:∀ σ H Q,t' σ H Q->t σ H Q):PE X e t':=fun pc s σ H Q I q=>h pc s σ H Q I (hw _ _ _ q)
theorem zec{X:Cx}{e:jU}{t t':TT}(h:PT X e t)(hw:∀ σ H Q,t' σ H Q->t σ H Q):PT X e t':=fun pc s σ H Q I q=>h pc s σ H Q I (hw _ _ _ q)
theorem zp7{X:Cx}{e:jU}{t t':TT}(h:PW X e t)(hw:∀ σ H Q,t' σ H Q->t σ H Q):PW X e t':=fun wh pc s σ H Q I q=>h wh pc s σ H Q I (hw _ _ _ q)
theorem zlv{X:Cx}{es:List jU}{t t':TA}(h:PA X es t)(hw:∀ σ H Q,t' σ H Q->t σ H Q):PA X es t':=fun pos pc s σ H Q I q=>h pos pc s σ H Q I (hw _ _ _ q)
theorem zcb{X:Cx}{e:QR}{t t':TS}(h:PS X e t)(hw:∀ D σ H,t' D σ H->t D σ H):PS X e t':=fun pc s σ H D I q=>h pc s σ H D I (hw _ _ _ q)
theorem zi1{X:Cx}{e:List QR}{t t':TS}(h:PSs X e t)(hw:∀ D σ H,t' D σ H->t D σ H):PSs X e t':=fun pc s σ H D I q=>h pc s σ H D I (hw _ _ _ q)
section
variable {F:Fr}{O:ji->Prop}{s s':Sg}{σ:L2.St}{H':Hp}{v:V}{t:T}{a:ji}
theorem Post.ne(R:Rel F O M s σ H)(h:Post .n F O M σ H s' t v H'):Post .e F O M σ H s' t v H':=by
 obtain⟨a,rfl,h0,R',L⟩:=h;have w:∀ b,O b->(O b∨b=a):=fun b z=>.inl z;refine⟨R'.less w R.ow R.inD,L.rep (fun b c=>c.weak w) ⟨fun z=>R.al a z h0,.inr (R.dom a h0)⟩⟩
theorem Post.eb(h:Post .e F O M σ H s' t v H'):Post .b F O M σ H s' t v H':=⟨h.1,.inl h.2⟩
theorem Post.view(h:Post .b F O M σ H s' t v H'):BRep (Free F O) H' v t:=by
 rcases h.2 with h2 |⟨i,hi,e1,e2⟩
 ·exact .inl h2
 ·obtain⟨a,e3,L⟩:=h.1.own i t e2 hi;rw[e1] at e3;exact .inr ⟨a,by injection e3 with e3; injection e3,L⟩
theorem Post.mkN(R:Rel F O M s σ H)(R1:Rel F O M s' σ H')(S:Step σ M H H'){p:ji}{o:HO}(hp:H' p=none)(L:∀ C:ji->Prop,(∀ b,Free F O b/\H' b≠none->C b)->Live C (upd H' p o) p t):Post .n F O M σ H s' t (.ref p) (upd H' p o):=
 ⟨p,rfl,S.dom p hp,R1.new hp o,L _ fun b c=>⟨fun z=>z.elim c.1.1 fun z=>c.2 (z▸hp),c.1.2⟩⟩
theorem Post.mkE(R1:Rel F O M s' σ H'){p:ji}{o:HO}(hp:H' p=none)(L:∀ C:ji->Prop,(∀ b,Free F O b/\H' b≠none->C b)->C p->Rep C (upd H' p o) (.ref p) t):Post .e F O M σ H s' t (.ref p) (upd H' p o):=by
 have w:∀ b,O b->(O b∨b=p):=fun b z=>.inl z;exact⟨(R1.new hp o).less w R1.ow R1.inD,L _ (fun b c=>c.1) ⟨fun z=>R1.al p z hp,.inr (R1.dom p hp)⟩⟩
end
section
variable {e a b:jU}{fa fb:DE}
theorem ne(h:PE X e (cE .n M fa)):PE X e (cE .e M fa):=weak h fun σ H Q h_=>cE_ h_ fun F O s t s' R hf q=>⟨F,O,s,t,s',R,hf,fun v H' S p=>q v H' S (p.ne R)⟩
theorem eb(h:PE X e (cE .e M fa)):PE X e (cE .b M fa):=weak h fun σ H Q h_=>cE_ h_ fun F O s t s' R hf q=>⟨F,O,s,t,s',R,hf,fun v H' S p=>q v H' S p.eb⟩
theorem nb(h:PE X e (cE .n M fa)):PE X e (cE .b M fa):=eb (ne h)
def dV(i:Nat):DE:=fun s=>(s[i]?).join.map fun t=>(t,s)
def dC(t:T):DE:=fun s=>some (t,s)
theorem za9{α:Type}{o:Option (Option α)}{x:α}(h:o.join=some x):o=some (some x):=by
 cases o with
 |none=>cases h
 |some o=>cases o with
  |none=>cases h
  |some y=>injection h with h; rw[h]
theorem zjq{i:Nat}{s s':Sg}{t:T}(h:dV i s=some (t,s')):s[i]?=some (some t)/\s'=s:=by
 unfold dV at h;cases e:(s[i]?).join with
 |none=>rw[e] at h; cases h
 |some x=>
  rw[e] at h;cases h;exact⟨za9 e,rfl⟩
theorem zjl{v:V}{t:T}(hr:∀ C H,Rep C H v t)(h:PE X e (tC v)):PE X e (cE .e M (dC t)):=weak h fun σ H Q h_=>cE_ h_ fun F O s t' s' R hf q=>by
 cases hf;exact q v H .refl ⟨R,hr _ _⟩
def d2(g:T->T->Option T)(fa fb:DE):DE:=fun s=>(fa s).bind fun p=>(fb p.2).bind fun q=>(g p.1 q.1).map fun t=>(t,q.2)
def d2v(g:T->T->Option T)(i:Nat)(fb:DE):DE:=fun s=>(s[i]?).join.bind fun _=>(fb s).bind fun q=>(q.2[i]?).join.bind fun x=>(g x q.1).map fun t=>(t,q.2)
theorem zgs{g:T->T->Option T}{s s':Sg}{t:T}(h:d2 g fa fb s=some (t,s')):∃ x s1 y,fa s=some (x,s1)/\fb s1=some (y,s')/\g x y=some t:=by
 unfold d2 at h;cases e:fa s with
 |none=>rw[e] at h; cases h
 |some p=>
  rw[e] at h;cases e2:fb p.2 with
  |none=>simp[e2] at h
  |some q=>
   simp only[j8,e2] at h;cases e3:g p.1 q.1 with
   |none=>rw[e3] at h; cases h
   |some u=>
    rw[e3] at h;cases h;exact⟨p.1,p.2,q.1,rfl,by rw[e2],e3⟩
theorem zhc{g:T->T->Option T}{i:Nat}{s s':Sg}{t:T}(h:d2v g i fb s=some (t,s')):∃ x0 x y,s[i]?=some (some x0)/\fb s=some (y,s')/\s'[i]?=some (some x)/\g x y=some t:=by
 unfold d2v at h;cases e0:(s[i]?).join with
 |none=>rw[e0] at h; cases h
 |some x0=>
 rw[e0] at h;simp only[j8] at h;cases e:fb s with
 |none=>rw[e] at h; cases h
 |some q=>
  simp only[e,j8] at h;cases e2:(q.2[i]?).join with
  |none=>rw[e2] at h; cases h
  |some x=>
   simp only[e2,j8] at h;cases e3:g x q.1 with
   |none=>rw[e3] at h; cases h
   |some u=>
    rw[e3] at h;cases h;exact⟨x0,x,q.1,za9 e0,rfl,za9 e2,e3⟩
def S2E(r:R2)(g:T->T->Option T):Prop:=∀(C:ji->Prop) (H:Hp) x y tx ty t (Q:VK),BRep C H x tx->BRep C H y ty->g tx ty=some t->(∀ v,Rep C H v t->Q v H)->r x y H Q
def S2N(r:R2)(g:T->T->Option T):Prop:=∀(C:ji->Prop) (H:Hp) x y tx ty t (Q:VK),BRep C H x tx->BRep C H y ty->g tx ty=some t->
 (∀ p o,H p=none->(∀ C':ji->Prop,(∀ b,C b/\H b≠none->C' b)->Live C' (upd H p o) p t)->Q (.ref p) (upd H p o))->r x y H Q
theorem zcd{r:R2}{g:T->T->Option T}(h:S2E r g):∀ σ H Q,cE .e M (d2 g fa fb) σ H Q->tOp r (cE .e M fa) (cE .b M fb) σ H Q:=by
 intro σ H Q h_;refine cE_ h_ fun F O s t s' R hf q=>?_;obtain⟨x,s1,y,h1,h2,h3⟩:=zgs hf;refine⟨F,O,s,x,s1,R,h1,fun v H1 S1 p1=>?_⟩;refine⟨F,O,s1,y,s',p1.1,h2,fun u H2 S2 p2=>?_⟩;exact h (Free F O) H2 v u x y t Q (.inl (p1.1.stay S2 p1.2)) p2.view h3 fun w rw=>q w H2 (S1.trans S2) ⟨p2.1,rw⟩
theorem zpM{r:R2}{g:T->T->Option T}(h:S2N r g):∀ σ H Q,cE .n M (d2 g fa fb) σ H Q->tOp r (cE .e M fa) (cE .b M fb) σ H Q:=by
 intro σ H Q h_;refine cE_ h_ fun F O s t s' R hf q=>?_;obtain⟨x,s1,y,h1,h2,h3⟩:=zgs hf;refine⟨F,O,s,x,s1,R,h1,fun v H1 S1 p1=>?_⟩;refine⟨F,O,s1,y,s',p1.1,h2,fun u H2 S2 p2=>?_⟩;exact h (Free F O) H2 v u x y t Q (.inl (p1.1.stay S2 p1.2)) p2.view h3 fun p o hp L=>q _ _ ((S1.trans S2).trans (.new hp o)) (.mkN R p2.1 (S1.trans S2) hp L)
theorem zgK{F:Fr}{O:ji->Prop}{s s':Sg}{σ:L2.St}{H H':Hp}{i:Nat}{t0 t:T}(hi:i∈M)(R:Rel F O M s σ H)(R':Rel F O M s' σ H')(e0:s[i]?=some (some t0))(e:s'[i]?=some (some t)):∃ v,σ[i]?=some (some v)/\BRep (Free F O) H' v t:=by
 obtain⟨a,h1,_⟩:=R.own i t0 e0 hi;obtain⟨b,h2,L⟩:=R'.own i t e hi;rw[h1] at h2;injection h2 with h2;cases h2;exact⟨_,h1,.inr ⟨a,rfl,L⟩⟩
theorem zkR{r:R2}{g:T->T->Option T}{i:Nat}(hi:M.contains i=true)(h:S2E r g):∀ σ H Q,cE .e M (d2v g i fb) σ H Q->tOp r (zcY i) (cE .b M fb) σ H Q:=by
 intro σ H Q h_;refine cE_ h_ fun F O s t s' R hf q=>?_;obtain⟨x0,x,y,h0,h1,h2,h3⟩:=zhc hf;have hi':i∈M:=by simpa using hi
 obtain⟨a,e1,_⟩:=R.own i x0 h0 hi';refine⟨_,e1,F,O,s,y,s',R,h1,fun u H2 S2 p2=>?_⟩;obtain⟨v,e2,B⟩:=zgK hi' R p2.1 h0 h2;rw[e1] at e2;cases e2;exact h (Free F O) H2 _ u x y t Q B p2.view h3 fun w rw=>q w H2 S2 ⟨p2.1,rw⟩
end
section
variable {C:ji->Prop}{v:V}
theorem BRep.non(h:BRep C H v .non):v=.non:=by
 rcases h with h |⟨a,rfl,h⟩<;>cases h
 rfl
theorem BRep.bl{b:Bool}(h:BRep C H v (.bl b)):v=.bl b:=by
 rcases h with h |⟨a,rfl,h⟩<;>cases h
 rfl
theorem BRep.int{i:Int}(h:BRep C H v (.int i)):v=.int i:=by
 rcases h with h |⟨a,rfl,h⟩<;>cases h
 rfl
theorem BRep.str{x:Str}(h:BRep C H v (.str x)):v=.str x:=by
 rcases h with h |⟨a,rfl,h⟩<;>cases h
 rfl
theorem BRep.lst{ts:List T}(h:BRep C H v (.lst ts)):∃ a vs,v=.ref a/\H a=some (.lst vs)/\Reps C H vs ts:=by
 rcases h with h |⟨a,rfl,h⟩
 ·cases h with |lst c r l h=>exact⟨_,_,rfl,r,l,h⟩
 ·cases h with |lst r h=>exact⟨_,_,rfl,r,h⟩
theorem BRep.tup{ts:List T}(h:BRep C H v (.tup ts)):∃ a vs,v=.ref a/\H a=some (.tup vs)/\Reps C H vs ts:=by
 rcases h with h |⟨a,rfl,h⟩
 ·cases h with |tup c r l h=>exact⟨_,_,rfl,r,l,h⟩
 ·cases h
theorem BRep.dct{ts:List (Key × T)}(h:BRep C H v (.dct ts)):∃ a kvs,v=.ref a/\H a=some (.dK kvs)/\RepK C H kvs ts:=by
 rcases h with h |⟨a,rfl,h⟩
 ·cases h with |dct c r l h=>exact⟨_,_,rfl,r,l,h⟩
 ·cases h with |dct r h=>exact⟨_,_,rfl,r,h⟩
theorem BRep.fd{ts:List (Key × T)}(h:BRep C H v (.fd ts)):∃ a o kvs,v=.ref a/\H a=some (.frz o (.dK kvs))/\RepK C H kvs ts/\C a:=by
 rcases h with h |⟨a,rfl,h⟩
 ·cases h with |fd c r l h=>exact⟨_,_,_,rfl,r,⟨l,h⟩,c⟩
 ·cases h
theorem BRep.scr{ns:List Int}(h:BRep C H v (.scr ns)):∃ a,v=.ref a/\SqL TheK.K H a (ns.map V.int):=by
 rcases h with h |⟨a,rfl,h⟩
 ·cases h with
  |scr c r=>exact⟨_,rfl,.inl (.inr ⟨_,r⟩)⟩
  |scrK r=>exact⟨_,rfl,r H⟩
 ·cases h
end
def zjH:T->T->Option T
 |.int i,.int j=>some (.int (i+j))
 |.str x,.str y=>if x.length+y.length<=ja then some (.str (x++y)) else none
 |_,_=>none
def zmC:T->T->Option T
 |.lst a,.lst b=>if a.length+b.length<=ja then some (.lst (a++b)) else none
 |_,_=>none
def gI(C:Int->Int->Bool)(g:Int->Int->Int):T->T->Option T
 |.int i,.int j=>if C i j=true then some (.int (g i j)) else none
 |_,_=>none
def zfV(i j:Int):Bool:=decide (-(2 ^ 64) < i/\i < 2 ^ 64)||decide (-(2 ^ 64) < j/\j < 2 ^ 64)
def zn5(i j:Int):Bool:=decide (0 < j/\j < 1073741824)
def zn4(i j:Int):Bool:=decide (0 < j)
def gSb:=gI (fun _ _=>true) fun i j=>i - j
def zgh:=gI zfV fun i j=>i*j
def zh6:=gI zn5 fun i j=>i / j
def zex:=gI zn4 fun i j=>i%j
def zn0(p:Int->Int->Bool)(ps:Str->Str->Bool):T->T->Option T
 |.int i,.int j=>some (.bl (p i j))
 |.str i,.str j=>some (.bl (ps i j))
 |_,_=>none
section
theorem zq0:S2E (fun x y H Q=>rI0 (fun i j=>.int (i+j)) x y H Q∨∃ i j,x=.str i/\y=.str j/\i.length+j.length<=ja/\Q (.str (i++j)) H) zjH:=by
 intro C H x y tx ty t Q bx by' hg q;unfold zjH at hg;split at hg
 ·injection hg with hg; subst hg;exact .inl ⟨_,_,bx.int,by'.int,q _ (.int _)⟩
 ·split at hg
  ·rename_i h;injection hg with hg; subst hg;exact .inr ⟨_,_,bx.str,by'.str,h,q _ (.str _)⟩
  ·cases hg
 ·cases hg
theorem zpY:S2N zqZ zmC:=by
 intro C H x y tx ty t Q bx by' hg q;unfold zmC at hg;split at hg
 ·split at hg
  ·rename_i h;injection hg with hg; subst hg;obtain⟨a,vs,rfl,ha,ra⟩:=bx.lst;obtain⟨b,us,rfl,hb,rb⟩:=by'.lst;refine⟨a,b,vs,us,rfl,rfl,ha,hb,by rw[ra.1,rb.1]; exact h,fun p hp=>q p _ hp fun C' hC=>?_⟩
   exact .lst za5 ((ra.append rb).there.mono hC fun c o hc e=>by rw[za1 (zaa e hp)]; exact e)
  ·cases hg
 ·cases hg
theorem s_I{P:Int->Int->Prop}{C:Int->Int->Bool}{g:Int->Int->Int}(hC:∀ i j,C i j=true->P i j):S2E (rI P fun i j=>.int (g i j)) (gI C g):=by
 intro C' H x y tx ty t Q bx by' hg q;unfold gI at hg;split at hg
 ·split at hg
  ·rename_i h;injection hg with hg; subst hg;exact⟨_,_,bx.int,by'.int,hC _ _ h,q _ (.int _)⟩
  ·cases hg
 ·cases hg
theorem zlW{p:Int->Int->Bool}{ps:Str->Str->Bool}:S2E (fun x y H Q=>rI0 (fun i j=>.bl (p i j)) x y H Q∨∃ i j,x=.str i/\y=.str j/\Q (.bl (ps i j)) H) (zn0 p ps):=by
 intro C H x y tx ty t Q bx by' hg q;unfold zn0 at hg;split at hg
 ·injection hg with hg; subst hg;exact .inl ⟨_,_,bx.int,by'.int,q _ (.bl _)⟩
 ·injection hg with hg; subst hg;exact .inr ⟨_,_,bx.str,by'.str,q _ (.bl _)⟩
 ·cases hg
variable {a b:jU}{fa fb:DE}{pos:Pos}
theorem zqG(ha:PE X a (cE .e M fa))(hb:PE X b (cE .b M fb)):PE X (.BinOp a .Add b pos) (cE .e M (d2 zjH fa fb)):=weak (ziC (op_add.or zhz) ha hb) (zcd zq0)
theorem zqF(ha:PE X a (cE .e M fa))(hb:PE X b (cE .b M fb)):PE X (.BinOp a .Add b pos) (cE .n M (d2 zmC fa fb)):=weak (ziC zo4 ha hb) (zpM zpY)
end
def scE:T->T->Option Bool
 |.non,.non=>some true |.non,.bl _=>some false |.non,.int _=>some false |.non,.str _=>some false
 |.bl a,.bl b=>some (a == b) |.bl _,.non=>some false |.bl a,.int b=>some ((if a then 1 else 0) == b) |.bl _,.str _=>some false
 |.int a,.int b=>some (a == b) |.int _,.non=>some false |.int a,.bl b=>some (a == (if b then 1 else 0)) |.int _,.str _=>some false
 |.str a,.str b=>some (a == b) |.str _,.non=>some false |.str _,.bl _=>some false |.str _,.int _=>some false
 |_,_=>none
def zeb(f:T->T->Option Bool):List T->List T->Option Bool
 |x::xs,y::ys=>(f x y).bind fun b=>(zeb f xs ys).map fun c=>b&&c
 |_,_=>some true
def eqD:Nat->T->T->Option Bool
 |n+1,.lst xs,.lst ys=>if xs.length=ys.length then zeb (eqD n) xs ys else some false
 |n+1,.tup xs,.tup ys=>(zeb (eqD n) xs ys).map fun b=>b&&xs.length == ys.length
 |_+1,.lst _,.tup _=>some false
 |_+1,.tup _,.lst _=>some false
 |_,x,y=>scE x y
def eqS(n:Nat)(x y:T):Option Bool:=match x,y with
 |.lst xs,.lst ys=>if xs.length=ys.length then zeb (eqD n) xs ys else some false
 |.tup xs,.tup ys=>(zeb (eqD n) xs ys).map fun b=>b&&xs.length == ys.length
 |.lst _,.tup _=>some false
 |.tup _,.lst _=>some false
 |x,y=>scE x y
theorem zh8(n:Nat)(x y:T):eqD (n+1) x y=eqS n x y:=by cases x<;>cases y<;>rfl
theorem zdf{f:T->T->Option Bool}:∀ {xs ys:List T} {b:Bool},zeb f xs ys=some b->∃ e:Nat->Bool,(∀ j x y,xs[j]?=some x->ys[j]?=some y->f x y=some (e j))/\b=(jK (min xs.length ys.length)).all e
 |[],_,b,h=>⟨fun _=>true,fun j x y e=>by simp at e,by unfold zeb at h; simp at h; simp[h]⟩
 |x::xs,[],b,h=>⟨fun _=>true,fun j x y _ e=>by simp at e,by unfold zeb at h; simp at h; simp[h]⟩
 |x::xs,y::ys,b,h=>by
  unfold zeb at h;cases h1:f x y with
  |none=>rw[h1] at h; cases h
  |some c=>
   rw[h1,j8] at h;cases h2:zeb f xs ys with
   |none=>rw[h2] at h; cases h
   |some d=>
    rw[h2] at h;injection h with h;obtain⟨e,he,hd⟩:=zdf h2;refine⟨fun j=>match j with |0=>c |j+1=>e j,fun j x' y' e1 e2=>?_,?_⟩
    ·cases j with
     |zero=>simp at e1 e2; subst e1 e2; exact h1
     |succ j=>exact he j x' y' (by simpa using e1) (by simpa using e2)
    ·rw[<-h,hd,jw,jw,Nat.succ_min_succ,List.range_succ_eq_map,gz,gh];rfl
def scl:T->Option V
 |.non=>some .non |.bl b=>some (.bl b) |.int i=>some (.int i) |.str x=>some (.str x)
 |_=>none
theorem zap{C:ji->Prop}{H:Hp}{v u:V}{t:T}(h:Rep C H v t)(e:scl t=some u):v=u:=by
 cases h<;>first |exact jg e |cases e
theorem zlT{t t':T}{b:Bool}(e:scE t t'=some b):∃ u u',scl t=some u/\scl t'=some u'/\(u=u'->b=true):=by
 cases t with
 |non=>cases t'<;>first |(cases e; done) |exact⟨_,_,rfl,rfl,fun z=>by cases z<;>exact(jg e).symm⟩
 |bl x=>cases t'<;>first |(cases e; done) |exact⟨_,_,rfl,rfl,fun z=>by cases z<;>exact(jg e).symm.trans (beq_self_eq_true _)⟩
 |int x=>cases t'<;>first |(cases e; done) |exact⟨_,_,rfl,rfl,fun z=>by cases z<;>exact(jg e).symm.trans (beq_self_eq_true _)⟩
 |str x=>cases t'<;>first |(cases e; done) |exact⟨_,_,rfl,rfl,fun z=>by cases z<;>exact(jg e).symm.trans (beq_self_eq_true _)⟩
 |_=>cases e
theorem zjV{C:ji->Prop}{H:Hp}:∀(n:Nat) {v:V} {t t':T} {b:Bool},Rep C H v t->Rep C H v t'->eqD n t t'=some b->b=true:=by
 have sc:∀ {v:V} {t t':T} {b:Bool},Rep C H v t->Rep C H v t'->scE t t'=some b->b=true:=by
  intro v t t' b h h' e;obtain⟨u,u',e1,e2,k⟩:=zlT e;exact k ((zap h e1).symm.trans (zap h' e2))
 intro n
 induction n with
 |zero=>intro v t t' b h h' e; exact sc h h' e
 |succ n ih=>
  intro v t t' b h h' e;rw[zh8] at e;have lists:∀ {vs:List V} {xs ys:List T} {b:Bool},Reps C H vs xs->Reps C H vs ys->zeb (eqD n) xs ys=some b->b=true:=by
   intro vs xs ys b hx hy h;obtain⟨e,he,rfl⟩:=zdf h;refine jm.mpr fun j hj=>?_;have hj':=jR.mp hj;have h1:j < xs.length:=by lia
   have h2:j < ys.length:=by lia
   have h3:j < vs.length:=by rw[hx.1]; exact h1
   have q1:=hx.2 j _ _ (j3 h3) (j3 h1);have q2:=hy.2 j _ _ (j3 h3) (j3 h2);exact ih q1 q2 (he j _ _ (j3 h1) (j3 h2))
  cases t with
  |lst xs=>
   obtain⟨p,vs,rfl,hp,rp⟩:=BRep.lst (.inl h);cases t' with
   |lst ys=>
    obtain⟨q,us,z,hq,rq⟩:=BRep.lst (.inl h');cases z;cases hp.symm.trans hq;have e:(if xs.length=ys.length then zeb (eqD n) xs ys else some false)=some b:=e
    rw[Ip_ (rp.1.symm.trans rq.1)] at e;exact lists rp rq e
   |tup ys=>
    obtain⟨q,us,z,hq,rq⟩:=BRep.tup (.inl h');cases z;cases hp.symm.trans hq
   |_=>cases e
  |tup xs=>
   obtain⟨p,vs,rfl,hp,rp⟩:=BRep.tup (.inl h);cases t' with
   |tup ys=>
    obtain⟨q,us,z,hq,rq⟩:=BRep.tup (.inl h');cases z;cases hp.symm.trans hq;obtain⟨d,h2,rfl⟩:=Qm (show (zeb (eqD n) xs ys).map _=some b from e);rw[lists rp rq h2,<-rp.1,<-rq.1,beq_self_eq_true];rfl
   |lst ys=>
    obtain⟨q,us,z,hq,rq⟩:=BRep.lst (.inl h');cases z;cases hp.symm.trans hq
   |_=>cases e
  |_=>exact sc h h' e
open PySem.SeqAt
section
variable {pc:List (ji × Obj)}{σ:L2.St}{s:j6}{C:ji->Prop}
theorem znB{A:jP}{x0 y0:V}{tx ty:T}{b:Bool}{u w:j5}(hx:Rep C H x0 tx)(hy:Rep C H y0 ty)(rx:RelV x0 u)(ry:RelV y0 w)(h:scE tx ty=some b):EqAt A s u w b/\RcAt A s u w b/\RcNeAt A s u w (!b):=by
 cases tx with
 |non=>
  obtain rfl:x0=.non:=zap hx rfl;cases rx;cases ty with
  |non=>obtain rfl:y0=.non:=zap hy rfl; cases ry; cases h; exact⟨.same _,.none_none,.none_none⟩
  |bl y=>obtain rfl:y0=.bl y:=zap hy rfl; cases ry; cases h; exact⟨.none_bool _,.none_bool _,.none_bool _⟩
  |int y=>obtain rfl:y0=.int y:=zap hy rfl; obtain⟨t,rfl⟩:=ry; cases h; exact⟨.none_int _ _,.none_int _ _,.none_int _ _⟩
  |str y=>obtain rfl:y0=.str y:=zap hy rfl; obtain⟨t,rfl⟩:=ry; cases h; exact⟨.none_str _ _,.none_str _ _,.none_str _ _⟩
  |_=>cases h
 |bl x=>
  obtain rfl:x0=.bl x:=zap hx rfl;cases rx;cases ty with
  |non=>obtain rfl:y0=.non:=zap hy rfl; cases ry; cases h; exact⟨.bool_none _,.bool_none _,.bool_none _⟩
  |bl y=>obtain rfl:y0=.bl y:=zap hy rfl; cases ry; cases h; exact⟨.bool_bool _ _,.bool_bool _ _,.bool_bool _ _⟩
  |int y=>obtain rfl:y0=.int y:=zap hy rfl; obtain⟨t,rfl⟩:=ry; cases h; exact⟨.bool_int _ _ _,.bool_int _ _ _,.bool_int _ _ _⟩
  |str y=>obtain rfl:y0=.str y:=zap hy rfl; obtain⟨t,rfl⟩:=ry; cases h; exact⟨.bool_str _ _ _,.bool_str _ _ _,.bool_str _ _ _⟩
  |_=>cases h
 |int x=>
  obtain rfl:x0=.int x:=zap hx rfl;obtain⟨t0,rfl⟩:=rx;cases ty with
  |non=>obtain rfl:y0=.non:=zap hy rfl; cases ry; cases h; exact⟨.int_none _ _,.int_none _ _,.int_none _ _⟩
  |bl y=>obtain rfl:y0=.bl y:=zap hy rfl; cases ry; cases h; exact⟨.int_bool _ _ _,.int_bool _ _ _,.int_bool _ _ _⟩
  |int y=>obtain rfl:y0=.int y:=zap hy rfl; obtain⟨t,rfl⟩:=ry; cases h; exact⟨.int_int _ _ _ _,.int_int _ _ _ _,.int_int _ _ _ _⟩
  |str y=>obtain rfl:y0=.str y:=zap hy rfl; obtain⟨t,rfl⟩:=ry; cases h; exact⟨.int_str _ _ _ _,.int_str _ _ _ _,.int_str _ _ _ _⟩
  |_=>cases h
 |str x=>
  obtain rfl:x0=.str x:=zap hx rfl;obtain⟨t0,rfl⟩:=rx;cases ty with
  |non=>obtain rfl:y0=.non:=zap hy rfl; cases ry; cases h; exact⟨.str_none _ _,.str_none _ _,.str_none _ _⟩
  |bl y=>obtain rfl:y0=.bl y:=zap hy rfl; cases ry; cases h; exact⟨.str_bool _ _ _,.str_bool _ _ _,.str_bool _ _ _⟩
  |int y=>obtain rfl:y0=.int y:=zap hy rfl; obtain⟨t,rfl⟩:=ry; cases h; exact⟨.str_int _ _ _ _,.str_int _ _ _ _,.str_int _ _ _ _⟩
  |str y=>obtain rfl:y0=.str y:=zap hy rfl; obtain⟨t,rfl⟩:=ry; cases h; exact⟨.str_str _ _ _ _,.str_str _ _ _ _,.str_str _ _ _ _⟩
  |_=>cases h
 |_=>cases h
theorem zos(I:Inv X pc σ H s):∀(n:Nat) (A:jP) {x y:V} {tx ty:T} {b:Bool} {u w:j5},A.units+n < g8->Rep C H x tx->Rep C H y ty->RelV x u->RelV y w->eqD n tx ty=some b->EqAt A s u w b/\RcAt A s u w b/\RcNeAt A s u w (!b):=by
 intro n
 induction n with
 |zero=>intro A x y tx ty b u w hu hx hy rx ry h; unfold eqD at h; exact znB hx hy rx ry h
 |succ n ih=>
  intro A x y tx ty b u w hu hx hy rx ry h;have hu':A.units < g8:=by lia
  have hin:A.in1.units+n < g8:=by
   have:A.in1.units=A.units+1:=rfl;lia
  have parts:∀ {vs us:List V} {xs ys:List T} {its its2:List j5} {e:Nat->Bool},Reps C H vs xs->Reps C H us ys->Vals vs its->Vals us its2->(∀ j x y,xs[j]?=some x->ys[j]?=some y->eqD n x y=some (e j))->
    ∀ j (h1:j < its.toArray.size) (h2:j < its2.toArray.size),EqAt A.in1 s its.toArray[j] its2.toArray[j] (e j):=by
   intro vs us xs ys its its2 e hvs hus r r2 he j h1 h2;rw[jj] at h1 h2;have v1:j < vs.length:=by rw[r.length]; exact h1
   have v2:j < us.length:=by rw[r2.length]; exact h2
   have x1:j < xs.length:=by rw[<-hvs.1]; exact v1
   have y1:j < ys.length:=by rw[<-hus.1]; exact v2
   obtain⟨w1,e1,q1⟩:=r.get (j3 v1);obtain⟨w2,e2,q2⟩:=r2.get (j3 v2);rw[j3 h1] at e1;rw[j3 h2] at e2;injection e1 with e1;injection e2 with e2;simp only[List.getElem_toArray,e1,e2];exact(ih A.in1 hin (hvs.2 j _ _ (j3 v1) (j3 x1)) (hus.2 j _ _ (j3 v2) (j3 y1)) q1 q2 (he j _ _ (j3 x1) (j3 y1))).1
  have refs:∀ {p q:ji},x=.ref p->y=.ref q->RcAt A s (.ref p) (.ref q) b->EqAt A s (.ref p) (.ref q) b:=by
   intro p q ep eq hr
   by_cases hpq:p=q
   ·subst hpq;have:b=true:=zjV (n+1) (v:=.ref p) (ep▸hx) (eq▸hy) h;rw[this];exact .same _
   ·exact .of_refs hpq hr
  have scs:scE tx ty=some b->EqAt A s u w b/\RcAt A s u w b/\RcNeAt A s u w (!b):=znB hx hy rx ry;rw[zh8] at h;unfold eqS at h;split at h
  ·rename_i xs ys;obtain⟨p,vs,rfl,hp,rp⟩:=BRep.lst (.inl hx);obtain⟨q,us,rfl,hq,rq⟩:=BRep.lst (.inl hy);cases rx; cases ry;obtain⟨its,r,pl,_⟩:=I.list (SqL.of hp);obtain⟨its2,r2,pl2,_⟩:=I.list (SqL.of hq);have l1:=r.length;have l2:=r2.length;have l3:=rp.1;have l4:=rq.1;split at h
   ·rename_i hl;obtain⟨e,he,hb⟩:=zdf h;have sz:its.toArray.size=its2.toArray.size:=by rw[jj,jj]; lia
    have rc:=RcAt.lists pl.isList pl2.isList sz hu' (parts rp rq r r2 he);have rn:=RcNeAt.lists pl.isList pl2.isList sz hu' (parts rp rq r r2 he);have hb':b=(jK its.toArray.size).all e:=by rw[hb,jj,hl,Nat.min_self,show its.length=ys.length by lia]
    rw[<-hb'] at rc rn;exact⟨refs rfl rfl rc,rc,rn⟩
   ·rename_i hl;cases h;have sz:(its.toArray.size != its2.toArray.size)=true:=by simp; lia
    have rc:=RcAt.lists_lengths pl.isList pl2.isList sz hu';exact⟨refs rfl rfl rc,rc,RcNeAt.lists_lengths pl.isList pl2.isList sz hu'⟩
  ·rename_i xs ys;obtain⟨p,vs,rfl,hp,rp⟩:=BRep.tup (.inl hx);obtain⟨q,us,rfl,hq,rq⟩:=BRep.tup (.inl hy);cases rx; cases ry;obtain⟨its,r,pl,_⟩:=I.tuple (SqT.of hp);obtain⟨its2,r2,pl2,_⟩:=I.tuple (SqT.of hq);have l1:=r.length;have l2:=r2.length;have l3:=rp.1;have l4:=rq.1;cases h2:zeb (eqD n) xs ys with
   |none=>rw[h2] at h; cases h
   |some d=>
    rw[h2] at h;injection h with h;obtain⟨e,he,hb⟩:=zdf h2;have rc:=RcAt.tuples pl pl2 hu' (parts rp rq r r2 he);have rn:=RcNeAt.tuples pl pl2 hu' (parts rp rq r r2 he);have hb':b=((jK (min its.toArray.size its2.toArray.size)).all e&&its.toArray.size == its2.toArray.size):=by
     rw[<-h,hb,jj,jj,show its.length=xs.length by lia,show its2.length=ys.length by lia]
    rw[<-hb'] at rc rn;exact⟨refs rfl rfl rc,rc,rn⟩
  ·obtain⟨p,vs,rfl,hp,rp⟩:=BRep.lst (.inl hx);obtain⟨q,us,rfl,hq,rq⟩:=BRep.tup (.inl hy);cases rx; cases ry;obtain⟨its,r,pl,_⟩:=I.list (SqL.of hp);obtain⟨its2,r2,pl2,_⟩:=I.tuple (SqT.of hq);cases h;exact⟨.list_tuple pl.isList pl2 hu',.list_tuple pl.isList pl2 hu',.list_tuple pl.isList pl2 hu'⟩
  ·obtain⟨p,vs,rfl,hp,rp⟩:=BRep.tup (.inl hx);obtain⟨q,us,rfl,hq,rq⟩:=BRep.lst (.inl hy);cases rx; cases ry;obtain⟨its,r,pl,_⟩:=I.tuple (SqT.of hp);obtain⟨its2,r2,pl2,_⟩:=I.list (SqL.of hq);cases h;exact⟨.tuple_list pl pl2.isList hu',.tuple_list pl pl2.isList hu',.tuple_list pl pl2.isList hu'⟩
  ·exact scs h
end
end L3
namespace L3
open PySem PySem.Spec PyProof.Rows L2
variable [TheK]
variable {X:Cx}{M M' Mb io:List Nat}{pos:Pos}{e:jU}{fe:DE}{fa:DA}{rk:Kd}
theorem BRep.all{C:ji->Prop}{H:Hp}{v:V}{t:T}(h:BRep C H v t):Rep (fun _=>True) H v t:=by
 rcases h with h |⟨a,rfl,h⟩
 ·exact h.mono (fun _ _=>trivial) fun _ _ _ e=>e
 ·exact h.rep (fun _ _=>trivial) trivial
def gEq(x y:T):Option T:=(eqD 8 x y).map .bl
def gNe(x y:T):Option T:=(eqD 8 x y).map fun b=>.bl (!b)
def zoY(neg:Bool):R2:=fun x y H Q=>∃ tx ty b,Rep (fun _=>True) H x tx/\Rep (fun _=>True) H y ty/\eqD 8 tx ty=some b/\Q (.bl (if neg then !b else b)) H
theorem zla{X:Cx}(hu:X.A.units+8 < g8):OpR X (QM .Eq) (zoY false):=by
 intro pc s sg H x y v u Q I rx ry h;obtain⟨tx,ty,b,hx,hy,e,q⟩:=h;exact(zos I 8 X.A hu hx hy rx ry e).2.1 _ _ _ _ ⟨.bl b,H,I,rfl,q⟩
theorem zo1{X:Cx}(hu:X.A.units+8 < g8):OpR X (QM .NotEq) (zoY true):=by
 intro pc s sg H x y v u Q I rx ry h;obtain⟨tx,ty,b,hx,hy,e,q⟩:=h;exact(zos I 8 X.A hu hx hy rx ry e).2.2 _ _ _ _ ⟨.bl (!b),H,I,rfl,q⟩
theorem zqT:S2E (zoY false) gEq:=by
 intro C H x y tx ty t Q bx by' hg q;unfold gEq at hg;cases e:eqD 8 tx ty with
 |none=>rw[e] at hg; cases hg
 |some b=>
  rw[e] at hg;injection hg with hg; subst hg;exact⟨tx,ty,b,bx.all,by'.all,e,q _ (.bl b)⟩
theorem zrE:S2E (zoY true) gNe:=by
 intro C H x y tx ty t Q bx by' hg q;unfold gNe at hg;cases e:eqD 8 tx ty with
 |none=>rw[e] at hg; cases hg
 |some b=>
  rw[e] at hg;injection hg with hg; subst hg;exact⟨tx,ty,b,bx.all,by'.all,e,q _ (.bl (!b))⟩
def gLt:=zn0 (fun i j=>decide (i < j)) fun i j=>decide (i.cps.toList < j.cps.toList)
def gI1(p:Int->Int->Bool):T->T->Option T
 |.int i,.int j=>some (.bl (p i j))
 |_,_=>none
def gLe:=gI1 fun i j=>decide (i<=j)
def gGt:=gI1 fun i j=>decide (j < i)
def gGe:=gI1 fun i j=>decide (j<=i)
theorem zqU{p:Int->Int->Bool}:S2E (rI0 (fun i j=>.bl (p i j))) (gI1 p):=by
 intro C H x y tx ty t Q bx by' hg q;unfold gI1 at hg;split at hg
 ·injection hg with hg; subst hg;exact⟨_,_,bx.int,by'.int,q _ (.bl _)⟩
 ·cases hg
def toV:T->Option V
 |.non=>some .non |.bl b=>some (.bl b) |.int i=>some (.int i) |.str x=>some (.str x) |_=>none
def zhq:List T->Option (List V)
 |[]=>some []
 |t::ts=>(toV t).bind fun v=>(zhq ts).map fun vs=>v::vs
theorem zia{C:ji->Prop}{H:Hp}{v u:V}{t:T}(h:BRep C H v t)(e:toV t=some u):u=v/\zcH v=true:=by
 cases t<;>simp[toV] at e
 ·exact⟨by rw[h.non,<-e],by rw[h.non]; rfl⟩
 ·exact⟨by rw[h.bl,<-e],by rw[h.bl]; rfl⟩
 ·exact⟨by rw[h.int,<-e],by rw[h.int]; rfl⟩
 ·exact⟨by rw[h.str,<-e],by rw[h.str]; rfl⟩
theorem zg0{C:ji->Prop}{H:Hp}:∀ {vs us:List V} {ts:List T},Reps C H vs ts->zhq ts=some us->us=vs/\vs.all zcH=true
 |[],us,[],_,e=>by unfold zhq at e; injection e with e; exact⟨e.symm,rfl⟩
 |v::vs,us,[],h,_=>by have:=h.1; simp at this
 |[],us,t::ts,h,_=>by have:=h.1; simp at this
 |v::vs,us,t::ts,h,e=>by
  unfold zhq at e;cases e1:toV t with
  |none=>rw[e1] at e; cases e
  |some a=>
   rw[e1,j8] at e;cases e2:zhq ts with
   |none=>rw[e2] at e; cases e
   |some as=>
    rw[e2] at e;injection e with e;obtain⟨q1,q2⟩:=zia (.inl h.head) e1;obtain⟨q3,q4⟩:=zg0 h.tail e2;exact⟨by rw[<-e,q1,q3],by rw[gz,q2,q4]; rfl⟩
def zbl(kvs:List (Key × T))(k:Key):Option T:=(kvs.find? fun kv=>decide (kv.1=k)).map (·.2)
theorem zhF(p:Key × T)(r:List (Key × T))(k:Key):zbl (p::r) k=if p.1=k then some p.2 else zbl r k:=by
 unfold zbl;rw[Qz]
 by_cases h:p.1=k
 ·rw[Ip_ h,Dt_ h]; rfl
 ·rw[In_ h,Df_ h]
theorem RepK.tail{C:ji->Prop}{H:Hp}{p:Key × V}{q:Key × T}{vs:List (Key × V)}{ts:List (Key × T)}(h:RepK C H (p::vs) (q::ts)):p.1=q.1/\Rep C H p.2 q.2/\RepK C H vs ts:=by
 have h1:=h.1;rw[jp,jp] at h1;injection h1 with a b;exact⟨a,h.2 0 p q rfl rfl,b,fun i v t e1 e2=>h.2 (i+1) v t (by simpa using e1) (by simpa using e2)⟩
theorem RepK.cons{C:ji->Prop}{H:Hp}{p:Key × V}{q:Key × T}{vs:List (Key × V)}{ts:List (Key × T)}(e:p.1=q.1)(r:Rep C H p.2 q.2)(h:RepK C H vs ts):RepK C H (p::vs) (q::ts):=by
 refine⟨by rw[jp,jp,e,h.1],fun i v t e1 e2=>?_⟩
 cases i with
 |zero=>simp at e1 e2; subst e1 e2; exact r
 |succ i=>exact h.2 i v t (by simpa using e1) (by simpa using e2)
theorem RepK.look{C:ji->Prop}{H:Hp}(k:Key):∀ {vs:List (Key × V)} {ts:List (Key × T)},RepK C H vs ts->(zfX vs k=none/\zbl ts k=none)∨∃ v t,zfX vs k=some v/\zbl ts k=some t/\Rep C H v t
 |[],[],_=>.inl ⟨rfl,rfl⟩
 |p::vs,[],h=>by have:=h.1; simp at this
 |[],q::ts,h=>by have:=h.1; simp at this
 |p::vs,q::ts,h=>by
  obtain⟨e,r,h'⟩:=h.tail;rw[zhF]
  by_cases hk:q.1=k
  ·rw[Ip_ hk,zd0 (e.trans hk)];exact .inr ⟨_,_,rfl,rfl,r⟩
  ·rw[In_ hk,zd1 (fun z=>hk (e.symm.trans z))];exact RepK.look k h'
def zhH:T->Option Key
 |.int i=>some (.inl i)
 |.str x=>some (.inr x)
 |_=>none
theorem zcD{C:ji->Prop}{H:Hp}{v:V}{t:T}{k:Key}(h:BRep C H v t)(e:zhH t=some k):v=kV k:=by
 cases t<;>simp[zhH] at e
 ·rw[h.int,<-e]; rfl
 ·rw[h.str,<-e]; rfl
def zmz(x y:T):Option Bool:=match y with
 |.lst ys=>(toV x).bind fun v=>(zhq ys).map fun vs=>inV v vs
 |.tup ys=>(toV x).bind fun v=>(zhq ys).map fun vs=>inV v vs
 |_=>none
def gIn(x y:T):Option T:=(zmz x y).map .bl
def zh5(x y:T):Option T:=(zmz x y).map fun b=>.bl (!b)
def zmB(x y:T):Option Bool:=match y with
 |.dct kvs=>(zhH x).map fun k=>(zbl kvs k).isSome
 |.fd kvs=>(zhH x).map fun k=>(zbl kvs k).isSome
 |_=>none
def zrS(x y:T):Option T:=(zmB x y).map .bl
def zje(x y:T):Option T:=(zmB x y).map fun b=>.bl (!b)
theorem zpW{K:j9}{neg:Bool}:S2E (rIn K neg) fun x y=>(zmz x y).map fun b=>.bl (if neg then !b else b):=by
 intro C H x y tx ty t Q bx by' hg q;obtain⟨b,e,rfl⟩:=Qm hg;have fin:∀ {p vs ys},y=.ref p->(SqL K H p vs∨SqT K H p vs)->Reps C H vs ys->((toV tx).bind fun v=>(zhq ys).map fun vs=>inV v vs)=some b->rIn K neg x y H Q:=by
  intro p vs ys e1 e2 r e5;obtain⟨v,e3,e5⟩:=Qb e5;obtain⟨us,e4,rfl⟩:=Qm e5;obtain⟨q1,q2⟩:=zia bx e3;obtain⟨q3,q4⟩:=zg0 r e4;subst q1 q3;exact⟨p,_,e1,e2,q2,q4,q _ (.bl _)⟩
 cases ty with
 |lst ys=>
  obtain⟨p,vs,e1,e2,r⟩:=by'.lst;exact fin e1 (.inl (SqL.of e2)) r e
 |tup ys=>
  obtain⟨p,vs,e1,e2,r⟩:=by'.tup;exact fin e1 (.inr (SqT.of e2)) r e
 |_=>cases e
theorem zpX{neg:Bool}:S2E (fun y x H Q=>∃ a o,x=.ref a/\DGet H a y o/\Q (.bl (if neg then !o.isSome else o.isSome)) H) fun x y=>(zmB x y).map fun b=>.bl (if neg then !b else b):=by
 intro C H x y tx ty t Q bx by' hg q;obtain⟨b,e,rfl⟩:=Qm hg;cases ty with
 |dct kts=>
  obtain⟨p,kvs,rfl,e2,r⟩:=by'.dct;obtain⟨k,e3,rfl⟩:=Qm e;cases zcD bx e3;refine⟨p,_,rfl,DGet.k e2,?_⟩;have:(zbl kts k).isSome=(zfX kvs k).isSome:=by
   rcases r.look k with ⟨h1,h2⟩ |⟨_,_,h1,h2,_⟩<;>rw[h1,h2]<;>rfl
  rw[<-this];exact q _ (.bl _)
 |fd kts=>
  obtain⟨p,ob,kvs,rfl,e2,r,_⟩:=by'.fd;obtain⟨k,e3,rfl⟩:=Qm e;cases zcD bx e3;refine⟨p,_,rfl,.inl ⟨kvs,k,.inr ⟨ob,e2⟩,rfl,rfl⟩,?_⟩;have:(zbl kts k).isSome=(zfX kvs k).isSome:=by
   rcases r.look k with ⟨h1,h2⟩ |⟨_,_,h1,h2,_⟩<;>rw[h1,h2]<;>rfl
  rw[<-this];exact q _ (.bl _)
 |_=>cases e
def gIx:T->T->Option T
 |.lst xs,.int i=>atI xs i
 |.tup xs,.int i=>atI xs i
 |.str x,.int i=>if x.length<=ja then (atI x.cps.toList i).map fun c=>.str ⟨#[c]⟩ else none
 |.scr ns,.int i=>(atI ns i).map .int
 |_,_=>none
def zmA(x y:T):Option T:=match x with
 |.dct kvs=>(zhH y).bind fun k=>zbl kvs k
 |.fd kvs=>(zhH y).bind fun k=>zbl kvs k
 |_=>none
theorem Reps.at{C:ji->Prop}{H:Hp}{vs:List V}{ts:List T}{i:Int}{t:T}(h:Reps C H vs ts)(e:atI ts i=some t):∃ v,atI vs i=some v/\Rep C H v t:=by
 unfold atI at e ⊢;rw[h.1];cases e1:ixN ts.length i with
 |none=>rw[e1] at e; cases e
 |some j=>
  rw[e1] at e;exact h.get e
theorem zqS:S2E (rIx TheK.K) gIx:=by
 intro C H x y tx ty t Q bx by' hg q;unfold gIx at hg;split at hg
 ·obtain⟨p,vs,rfl,e2,r⟩:=bx.lst;obtain⟨v,h1,h2⟩:=r.at hg;exact .inl ⟨p,vs,_,v,rfl,by'.int,SqL.of e2,h1,q v h2⟩
 ·obtain⟨p,vs,rfl,e2,r⟩:=bx.tup;obtain⟨v,h1,h2⟩:=r.at hg;exact .inr (.inl ⟨p,vs,_,v,rfl,by'.int,SqT.of e2,h1,q v h2⟩)
 ·split at hg
  ·rename_i hl;obtain⟨c,h1,h2⟩:=Qm hg;subst h2;exact .inr (.inr ⟨_,_,c,bx.str,by'.int,hl,h1,q _ (.str _)⟩)
  ·cases hg
 ·obtain⟨p,rfl,e2⟩:=bx.scr;obtain⟨c,h1,h2⟩:=Qm hg;subst h2;refine .inl ⟨p,_,_,.int c,rfl,by'.int,e2,?_,q _ (.int c)⟩;unfold atI at h1 ⊢;rw[je];cases e1:ixN _ _ with
  |none=>rw[e1] at h1; cases h1
  |some j=>
   rw[e1,j8] at h1;rw[j8,jk,h1];rfl
 ·cases hg
theorem znC:S2E (fun x y H Q=>∃ a v,x=.ref a/\DGet H a y (some v)/\Q v H) zmA:=by
 intro C H x y tx ty t Q bx by' hg q;unfold zmA at hg;split at hg
 ·obtain⟨p,kvs,rfl,e2,r⟩:=bx.dct;cases e3:zhH ty with
  |none=>rw[e3] at hg; cases hg
  |some k=>
   rw[e3,j8] at hg;cases zcD by' e3;rcases r.look k with ⟨h1,h2⟩ |⟨v,t',h1,h2,h3⟩
   ·rw[h2] at hg; cases hg
   ·rw[h2] at hg;injection hg with hg; subst hg;exact⟨p,v,rfl,h1▸DGet.k e2,q v h3⟩
 ·obtain⟨p,ob,kvs,rfl,e2,r,_⟩:=bx.fd;cases e3:zhH ty with
  |none=>rw[e3] at hg; cases hg
  |some k=>
   rw[e3,j8] at hg;cases zcD by' e3;rcases r.look k with ⟨h1,h2⟩ |⟨v,t',h1,h2,h3⟩
   ·rw[h2] at hg; cases hg
   ·rw[h2] at hg;injection hg with hg; subst hg;exact⟨p,v,rfl,.inl ⟨kvs,k,.inr ⟨ob,e2⟩,rfl,h1.symm⟩,q v h3⟩
 ·cases hg
section
variable {a b:jU}{fa fb:DE}
theorem zrU(hK:X.K=TheK.K)(ha:PE X a (cE .e M fa))(hb:PE X b (cE .b M fb))(hs:zdP b):PE X (.Subscript a b pos) (cE .e M (d2 gIx fa fb)):=weak (zmq (hK▸zle) ha hb hs) (zcd zqS)
theorem zqD{i:Nat}(hK:X.K=TheK.K)(hi:M.contains i=true)(ha:PE X a (zcY i))(hb:PE X b (cE .b M fb))(hs:zdP b):PE X (.Subscript a b pos) (cE .e M (d2v gIx i fb)):=weak (zmq (hK▸zle) ha hb hs) (zkR hi zqS)
theorem zqE(hu:X.A.units+1 < g8)(ha:PE X a (cE .e M fa))(hb:PE X b (cE .b M fb))(hs:zp6 b):PE X (.Subscript a b pos) (cE .e M (d2 zmA fa fb)):=weak (ziD hu ha hb hs) fun σ H Q h=>zcd znC σ H Q h
theorem zou{i:Nat}(hi:M.contains i=true)(hu:X.A.units+1 < g8)(ha:PE X a (zcY i))(hb:PE X b (cE .b M fb))(hs:zp6 b):PE X (.Subscript a b pos) (cE .e M (d2v zmA i fb)):=weak (ziD hu ha hb hs) fun σ H Q h=>zkR hi znC σ H Q h
end
def dB(f:DE):DT:=fun s=>(f s).bind fun p=>match p.1 with
 |.bl b=>some (b,p.2)
 |_=>none
theorem zgr{f:DE}{s s':Sg}{b:Bool}(h:dB f s=some (b,s')):f s=some (.bl b,s'):=by
 obtain⟨p,h1,h2⟩:=Qb h;obtain⟨t,s1⟩:=p;cases t<;>simp at h2
 rw[h1,h2.1,h2.2]
theorem tst{M:List Nat}{f:DE}{t:TE}(h:∀ σ H Q,cE .e M f σ H Q->t σ H Q):∀ σ H Q,cT M (dB f) σ H Q->znt t σ H Q:=by
 intro σ H Q h_;refine cT_ h_ fun F O s b s' R hf q=>?_;exact h σ H _ ⟨F,O,s,.bl b,s',R,zgr hf,fun v H' S p=>⟨b,BRep.bl (.inl p.2),q H' S p.1⟩⟩
def tru:T->Option Bool
 |.non=>some false |.bl b=>some b |.int i=>some (i != 0)
 |.str x=>if x.length<=ja then some ((x.length:Int) != 0) else none
 |.lst xs=>some (!xs.isEmpty) |.tup xs=>some (!xs.isEmpty) |.dct xs=>some (!xs.isEmpty)
 |_=>none
theorem zdB{α β:Type}{xs:List α}{ys:List β}(h:xs.length=ys.length):(!ys.isEmpty)=!xs.isEmpty:=by
 cases xs<;>cases ys<;>simp at h<;>rfl
theorem zlJ{K:j9}{C:ji->Prop}{H:Hp}{v:V}{t:T}{b:Bool}(h:BRep C H v t)(e:tru t=some b):zqN K v H b:=by
 cases t with
 |non=>rw[h.non]; injection e with e; exact e.symm
 |bl x=>rw[h.bl]; injection e with e; exact e.symm
 |int x=>rw[h.int]; injection e with e; exact e.symm
 |str x=>
  rw[h.str]
  by_cases hl:x.length<=ja
  ·have e':(if x.length<=ja then some ((x.length:Int) != 0) else none)=some b:=e
   rw[Ip_ hl] at e';injection e' with e';exact⟨hl,e'.symm⟩
  ·have e':(if x.length<=ja then some ((x.length:Int) != 0) else none)=some b:=e
   rw[In_ hl] at e';cases e'
 |lst xs=>
  obtain⟨p,vs,rfl,e2,r⟩:=h.lst;injection e with e;exact .inl ⟨vs,SqL.of e2,by rw[<-e]; exact zdB r.1⟩
 |tup xs=>
  obtain⟨p,vs,rfl,e2,r⟩:=h.tup;injection e with e;exact .inr (.inl ⟨vs,SqT.of e2,by rw[<-e]; exact zdB r.1⟩)
 |dct xs=>
  obtain⟨p,vs,rfl,e2,r⟩:=h.dct;injection e with e;have l:vs.length=xs.length:=by simpa using congrArg gF r.1
  exact .inr (.inr ⟨vs,e2,by rw[<-e]; exact zdB l⟩)
 |_=>cases e
def zeK(f:DE):DT:=fun s=>(f s).bind fun p=>(tru p.1).map fun b=>(b,p.2)
def dOr(f g:DT):DT:=fun s=>(f s).bind fun p=>if p.1 then some (true,p.2) else g p.2
def zeL(f:DT):DT:=fun s=>(f s).map fun p=>(!p.1,p.2)
def zhS(f g:DE):DE:=fun s=>(dB f s).bind fun p=>if p.1 then g p.2 else some (.bl false,p.2)
section
variable {a b c:jU}{fa fb:DE}{ft fu:DT}{k:Kd}
theorem zlK(ha:PE X a (cE .e M fa))(hb:PE X b (cE .b M fb))(hm:Z8 .NotIn b=false):PT X (.Compare a [.NotIn] [b] pos) (cT M (dB (d2 zh5 fa fb))):=zec (zcB zfk ha hb hm) (tst (zcd (zpW (neg:=true))))
theorem zjM(hu:X.A.units+1 < g8)(ha:PE X a (cE .e M fa))(hb:PE X b (cE .b M fb))(hm:Z8 .NotIn b=false):PT X (.Compare a [.NotIn] [b] pos) (cT M (dB (d2 zje fa fb))):=zec (znP (ziF hu ha hb) hm) fun σ H Q h=>tst (zcd (zpX (neg:=true))) σ H Q h
end
def dAn:DA:=fun s=>some ([],s)
def dAc(f:DE)(g:DA):DA:=fun s=>(f s).bind fun p=>(g p.2).map fun q=>(p.1::q.1,q.2)
def zeM(f:DA):DE:=fun s=>(f s).bind fun p=>if p.1.length<=ja then some (.lst p.1,p.2) else none
def zmK(f:DA):DE:=fun s=>(f s).bind fun p=>if p.1.length<=ja then some (.tup p.1,p.2) else none
section
variable {es:List jU}
def zmN:DE:=fun s=>some (.dct [],s)
end
abbrev DO:=Sg->Option (Option Int × Sg)
def cO(M:List Nat)(f:DO):TO:=fun σ H Q=>∃ F O s t s',Rel F O M s σ H/\f s=some (t,s')/\∀ H',Step σ M H H'->Rel F O M s' σ H'->Q t H'
def dOn:DO:=fun s=>some (none,s)
def dOs(f:DE):DO:=fun s=>(f s).bind fun p=>match p.1 with
 |.int i=>some (some i,p.2)
 |_=>none
def zcu{α:Type}(xs:List α)(lo hi:Option Int):List α:=(xs.drop (HT.sIx xs.length 0 lo)).take (HT.sIx xs.length xs.length hi - HT.sIx xs.length 0 lo)
def gSl(t:T)(lo hi:Option Int):Option T:=match t with
 |.lst xs=>some (.lst (zcu xs lo hi))
 |.scr ns=>some (.lst ((zcu ns lo hi).map .int))
 |_=>none
def zkx(t:T)(lo hi:Option Int):Option T:=match t with
 |.str x=>if x.length<=ja then some (.str (gJ x lo hi)) else none
 |_=>none
def dSl(g:T->Option Int->Option Int->Option T)(f:DE)(l h:DO):DE:=fun s=>(f s).bind fun p=>(l p.2).bind fun q=>(h q.2).bind fun r=>(g p.1 q.1 r.1).map fun t=>(t,r.2)
def zoA(g:T->Option Int->Option Int->Option T)(i:Nat)(l h:DO):DE:=fun s=>(s[i]?).join.bind fun _=>(l s).bind fun q=>(h q.2).bind fun r=>(r.2[i]?).join.bind fun x=>(g x q.1 r.1).map fun t=>(t,r.2)
theorem Reps.cut{C:ji->Prop}{H:Hp}{vs:List V}{ts:List T}(h:Reps C H vs ts)(lo hi:Option Int):Reps C H (zlq vs lo hi) (zcu ts lo hi):=by
 unfold zlq zcu;rw[h.1];exact(h.drop _).take _
theorem zbJ{C:ji->Prop}{H:Hp}:∀(ns:List Int),Reps C H (ns.map V.int) (ns.map T.int)
 |[]=>.nil
 |n::ns=>.cons (.int n) (zbJ ns)
def S3N(r:V->Option Int->Option Int->Hp->VK->Prop)(g:T->Option Int->Option Int->Option T):Prop:=∀(C:ji->Prop) (H:Hp) x lo hi tx t (Q:VK),BRep C H x tx->g tx lo hi=some t->
 (∀ p o,H p=none->(∀ C':ji->Prop,(∀ b,C b/\H b≠none->C' b)->Live C' (upd H p o) p t)->Q (.ref p) (upd H p o))->r x lo hi H Q
theorem zqR:S3N (zqV TheK.K) gSl:=by
 intro C H x lo hi tx t Q bx hg q;cases tx<;>simp[gSl] at hg
 ·subst hg;obtain⟨a,vs,rfl,ha,ra⟩:=bx.lst;refine⟨a,vs,rfl,SqL.of ha,fun p hp=>q p _ hp fun C' hC=>?_⟩;exact .lst za5 ((ra.cut lo hi).there.mono hC fun c o _ e=>by rw[za1 (zaa e hp)]; exact e)
 ·rename_i ns;subst hg;obtain⟨a,rfl,ha⟩:=bx.scr;refine⟨a,_,rfl,ha,fun p hp=>q p _ hp fun C' hC=>.lst za5 ?_⟩;have:zlq (ns.map V.int) lo hi=(zcu ns lo hi).map V.int:=by
   unfold zlq zcu;rw[je,<-WP,<-WQ]
  rw[this];exact zbJ _
section
variable {lo hi:Option jU}{fl fh:DO}{p2:Pos}
theorem zrB{g:T->Option Int->Option Int->Option T}{r:V->Option Int->Option Int->Hp->VK->Prop}(hs:S3N r g):∀ σ H Q,cE .n M (dSl g fe fl fh) σ H Q->tSl r (cE .e M fe) (cO M fl) (cO M fh) σ H Q:=by
 intro σ H Q h_;refine cE_ h_ fun F O s t s' R hf q=>?_;obtain⟨p,h1,h2⟩:=Qb hf;obtain⟨l,h3,h4⟩:=Qb h2;obtain⟨u,h5,h6⟩:=Qb h4;obtain⟨t',h7,h8⟩:=Qm h6;injection h8 with h8 h9;subst h8 h9;refine⟨F,O,s,p.1,p.2,R,h1,fun v H1 S1 p1=>⟨F,O,p.2,l.1,l.2,p1.1,h3,fun H2 S2 R2=>⟨F,O,l.2,u.1,u.2,R2,h5,fun H3 S3 R3=>?_⟩⟩⟩;have S:=(S1.trans S2).trans S3;exact hs (Free F O) H3 v l.1 u.1 p.1 t' Q (.inl (R2.stay S3 (p1.1.stay S2 p1.2))) h7 fun a o ha L=>q _ _ (S.trans (.new ha o)) (.mkN R R3 S ha L)
theorem zpU{g:T->Option Int->Option Int->Option T}{r:V->Option Int->Option Int->Hp->VK->Prop}{i:Nat}(hi:M.contains i=true)(hs:S3N r g):∀ σ H Q,cE .n M (zoA g i fl fh) σ H Q->tSl r (zcY i) (cO M fl) (cO M fh) σ H Q:=by
 intro σ H Q h_;refine cE_ h_ fun F O s t s' R hf q=>?_;obtain⟨x0,h0,hf⟩:=Qb hf;obtain⟨l,h3,h4⟩:=Qb hf;obtain⟨u,h5,h6⟩:=Qb h4;obtain⟨x,h6',h6⟩:=Qb h6;obtain⟨t',h7,h8⟩:=Qm h6;injection h8 with h8 h9;subst h8 h9;have hi':i∈M:=by simpa using hi
 obtain⟨a,e1,_⟩:=R.own i x0 (za9 h0) hi';refine⟨_,e1,F,O,s,l.1,l.2,R,h3,fun H2 S2 R2=>⟨F,O,l.2,u.1,u.2,R2,h5,fun H3 S3 R3=>?_⟩⟩;have S:=S2.trans S3;obtain⟨v,e2,B⟩:=zgK hi' R R3 (za9 h0) (za9 h6');rw[e1] at e2;cases e2;exact hs (Free F O) H3 _ l.1 u.1 x t' Q B h7 fun a o ha L=>q _ _ (S.trans (.new ha o)) (.mkN R R3 S ha L)
theorem zrT(hK:X.K=TheK.K)(he:PE X e (cE .e M fe))(hl:PO X lo (cO M fl))(hu:PO X hi (cO M fh)):PE X (.Subscript e (.Slice lo hi none p2) pos) (cE .n M (dSl gSl fe fl fh)):=weak (zep (hK▸zid) he hl hu) (zrB zqR)
theorem zqC(he:PE X e (cE .e M fe))(hl:PO X lo (cO M fl))(hu:PO X hi (cO M fh)):PE X (.Subscript e (.Slice lo hi none p2) pos) (cE .e M (dSl zkx fe fl fh)):=weak (zep znx he hl hu) (by
 intro σ H Q h_;refine cE_ h_ fun F O s t s' R hf q=>?_;obtain⟨p,h1,h2⟩:=Qb hf;obtain⟨l,h3,h4⟩:=Qb h2;obtain⟨u,h5,h6⟩:=Qb h4;obtain⟨t',h7,h8⟩:=Qm h6;cases h8;refine⟨F,O,s,p.1,p.2,R,h1,fun v H1 S1 p1=>⟨F,O,p.2,l.1,l.2,p1.1,h3,fun H2 S2 R2=>⟨F,O,l.2,u.1,u.2,R2,h5,fun H3 S3 R3=>?_⟩⟩⟩;have S:=(S1.trans S2).trans S3;obtain⟨pt,ps⟩:=p;cases pt<;>simp[zkx] at h7
 rename_i x;obtain⟨h7,h8⟩:=h7
 exact⟨x,BRep.str (.inl p1.2),h7,q _ _ S ⟨R3,by rw[<-h8]; exact .str _⟩⟩)
end
inductive Fl where
 |nx (s:Sg) |rt (t:T) (s:Sg) |bk (s:Sg) |ct (s:Sg)
abbrev DS:=Sg->Option Fl
structure Ios (F:Fr) (io M:List Nat) (σ:L2.St):Prop where
 at_:∀(i:Nat),i∈io->i∈M/\σ[i]?=some (some (.ref (F.adr i)))
 D:∀ a,F.D a->∃ j,j∈io/\a=F.adr j
def KeepO(O:ji->Prop)(H:Hp)(O':ji->Prop)(H':Hp):Prop:=(∀ b o,¬ O b->H b=some o->H' b=some o/\¬ O' b)/\∀ b,H' b=none->H b=none
def C1(F:Fr):ji->Prop:=fun b=>¬ F.D b/\(F.C0 b∨F.H0 b=none)
structure RetOk (F:Fr) (rk:Kd) (io:List Nat) (s':Sg) (t:T) (v:V) (H':Hp):Prop where
 keep:∀ b o,¬ F.D b->F.H0 b=some o->H' b=some o
 dom:∀ b,H' b=none->F.H0 b=none
 res:match rk with
  |.n=>∃ r,v=.ref r/\F.H0 r=none/\¬ F.D r/\Live (fun b=>C1 F b/\b≠r) H' r t/\∀(i:Nat),i∈io->∃ t',s'[i]?=some (some t')/\Live (fun b=>C1 F b/\b≠r) H' (F.adr i) t'
  |.b=>Rep (fun b=>F.H0 b=none) H' v t
  |.e=>Rep (C1 F) H' v t/\∀(i:Nat),i∈io->∃ t',s'[i]?=some (some t')/\Live (C1 F) H' (F.adr i) t'
def EndOk(F:Fr)(rk:Kd)(io M' Mb:List Nat)(O:ji->Prop)(H:Hp)(D:Ends):Fl->Prop
 |.nx s'=>∀ O' σ' H',KeepO O H O' H'->Rel F O' M' s' σ' H'->Ios F io M' σ'->D.nx σ' H'
 |.bk s'=>∀ O' σ' H',KeepO O H O' H'->Rel F O' Mb s' σ' H'->Ios F io Mb σ'->D.bk σ' H'
 |.ct s'=>∀ O' σ' H',KeepO O H O' H'->Rel F O' Mb s' σ' H'->Ios F io Mb σ'->D.ct σ' H'
 |.rt t s'=>∀ v H',RetOk F rk io s' t v H'->D.rt v H'
def cS(rk:Kd)(io M M' Mb:List Nat)(d:DS):TS:=fun D σ H=>∃ F O s r,Rel F O M s σ H/\Ios F io M σ/\d s=some r/\EndOk F rk io M' Mb O H D r
theorem cS_{rk:Kd}{io M M' Mb:List Nat}{d:DS}{D:_}{σ:L2.St}{H:Hp}(h:cS rk io M M' Mb d D σ H){G:Prop}(g:∀ F O s r,Rel F O M s σ H->Ios F io M σ->d s=some r->EndOk F rk io M' Mb O H D r->G):G:=by
 obtain⟨F,O,s,r,R,I,hd,q⟩:=h;exact g F O s r R I hd q
section
variable {F:Fr}{O O' O'':ji->Prop}{s s':Sg}{σ:L2.St}{H H' H'':Hp}{v:V}{t:T}{a:ji}
theorem KeepO.refl:KeepO O H O H:=⟨fun _ _ n h=>⟨h,n⟩,fun _ h=>h⟩
theorem KeepO.trans(x:KeepO O H O' H')(y:KeepO O' H' O'' H''):KeepO O H O'' H'':=⟨fun b o n h=>by
 obtain⟨h1,n1⟩:=x.1 b o n h
 exact y.1 b o n1 h1,fun b h=>x.2 b (y.2 b h)⟩
theorem Step.keepO(S:Step σ M H H')(R:Rel F O M s σ H):KeepO O H O H':=⟨fun b o n h=>⟨S.keep b o (R.notOwned n) h,n⟩,S.dom⟩
theorem EndOk.more{D:Ends}{r:Fl}(h:EndOk F rk io M' Mb O H D r)(k:KeepO O H O' H'):EndOk F rk io M' Mb O' H' D r:=by
 cases r with
 |nx s'=>exact fun O2 σ2 H2 k2=>h O2 σ2 H2 (k.trans k2)
 |bk s'=>exact fun O2 σ2 H2 k2=>h O2 σ2 H2 (k.trans k2)
 |ct s'=>exact fun O2 σ2 H2 k2=>h O2 σ2 H2 (k.trans k2)
 |rt t s'=>exact h
theorem Rel.freeze(R:Rel F O M s σ H)(I:Ios F io M σ)(hM:∀ i,i∈M'->i∈M)(hio:∀ i,i∈io->i∈M'):∃ O',(∀ b,O' b->O b)/\Rel F O' M' s σ H/\Ios F io M' σ:=by
 refine⟨fun b=>O b/\¬ ∃ j:Nat,j∈M/\j∉M'/\σ[j]?=some (some (.ref b)),fun b z=>z.1,?_,⟨fun i hi=>⟨hio i hi,(I.at_ i hi).2⟩,I.D⟩⟩;have w:∀ b,(O b/\¬ ∃ j:Nat,j∈M/\j∉M'/\σ[j]?=some (some (.ref b)))->O b:=fun b z=>z.1;have notD:∀(i:Nat) b,i∈M->i∉M'->σ[i]?=some (some (.ref b))->¬ F.D b:=fun i b hi hi' e z=>by
  obtain⟨j,hj,rfl⟩:=I.D b z;obtain⟨h1,h2⟩:=I.at_ j hj;have:=R.dis i j _ hi h1 e h2;subst this;exact hi' (hio i hj)
 refine⟨R.len,fun i t e n=>?_,fun i t e n=>?_,fun i b hi e=>⟨R.ow i b (hM i hi) e,fun⟨j,h1,h2,h3⟩=>?_⟩,fun i j b hi hj=>R.dis i j b (hM i hi) (hM j hj),R.keep,R.dom,fun b z=>R.fresh b z.1,fun b z=>⟨R.inD b z,fun⟨j,h1,h2,h3⟩=>notD j b h1 h2 h3 z⟩,fun b z=>R.al b z.1⟩
 ·by_cases hi:i∈M
  ·obtain⟨b,h1,L⟩:=R.own i t e hi;refine⟨_,h1,L.rep (fun c z=>z.weak w) ⟨fun z=>z.2 ⟨i,hi,n,h1⟩,?_⟩⟩;rcases R.fresh b (R.ow i b hi h1) with z |z
   ·exact absurd z (notD i b hi n h1)
   ·exact .inr z
  ·obtain⟨v,h1,h2⟩:=R.val i t e hi;exact⟨v,h1,h2.mono (fun _ c=>c.weak w) fun _ _ _ e=>e⟩
 ·obtain⟨b,h1,h2⟩:=R.own i t e (hM i n);exact⟨b,h1,h2.mono (fun _ c=>c.weak w) (fun _ _ _ e=>e) fun _ e=>e⟩
 ·have:=R.dis j i b h1 (hM i hi) h3 e;subst this;exact h2 hi
theorem zdU{A B:List Nat}(h:A.all (B.contains ·)=true):∀ i,i∈A->i∈B:=fun i hi=>by simpa using jm.mp h i hi
theorem Rel.write{i:Nat}{t0 t':T}{o:HO}(R:Rel F O M s σ H)(hi:i∈M)(e:σ[i]?=some (some (.ref a)))(hs:s[i]?=some (some t0))(L:∀ H1,(∀ b u,Free F O b->H b=some u->H1 b=some u)->H1 a=some o->Live (Free F O) H1 a t'):Rel F O M (s.set i (some t')) σ (upd H a o):=by
 have oa:=R.ow i a hi e;have k:∀ b u,Free F O b->H b=some u->upd H a o b=some u:=fun b u c q=>(za1 (fun z:b=a=>c.1 (z▸oa))).trans q;have hl:=(jd.mp hs).1;refine⟨by rw[jT]; exact R.len,fun j t e' n=>?_,fun j t e' n=>?_,R.ow,R.dis,fun b u n q=>?_,fun b q=>?_,R.fresh,R.inD,fun b z=>?_⟩
 ·have hij:i≠j:=fun z=>n (z▸hi);rw[jc hij] at e';obtain⟨v,h1,h2⟩:=R.val j t e' n;exact⟨v,h1,h2.mono (fun _ c=>c) k⟩
 ·by_cases hij:i=j
  ·subst hij;rw[jF hl] at e';cases e';exact⟨a,e,L _ k za5⟩
  ·rw[jc hij] at e';obtain⟨b,h1,h2⟩:=R.own j t e' n;have hne:b≠a:=fun z=>hij (R.dis i j a hi n e (z▸h1));exact⟨b,h1,h2.mono (fun _ c=>c) k fun u q=>by rw[za1 hne]; exact q⟩
 ·refine(za1 (fun z=>?_)).trans (R.keep b u n q);subst z;rcases R.fresh b oa with z |z
  ·exact n z
  ·rw[z] at q; cases q
 ·refine R.dom b ?_;unfold upd at q;split at q
  ·cases q
  ·exact q
 ·intro q;refine R.al b z ?_;unfold upd at q;split at q
  ·cases q
  ·exact q
theorem Step.write{i:Nat}{o:HO}(hi:i∈M)(e:σ[i]?=some (some (.ref a)))(_:H a≠none):Step σ M H (upd H a o):=⟨fun b u n q=>by
 exact(za1 (fun z:b=a=>n i hi (z▸e))).trans q,fun b q=>by
 unfold upd at q;split at q
 ·cases q
 ·exact q⟩
theorem Rel.setE{i:Nat}(R:Rel F O M s σ H)(hM:∀ j,j∈M'->j∈M/\j≠i)(hk:∀ j,j∈M->j∈M'∨j=i)(hi:i < s.length)(r:Rep (Free F O) H v t):Rel F O M' (s.set i (some t)) (σ.set i (some v)) H:=by
 have hi2:i < σ.length:=by rw[<-R.len]; exact hi
 refine⟨by rw[jT,jT]; exact R.len,fun j t' e n=>?_,fun j t' e n=>?_,fun j b hj e=>?_,fun j k b hj hk e1 e2=>?_,R.keep,R.dom,R.fresh,R.inD,R.al⟩
 ·by_cases hij:i=j
  ·subst hij;rw[jF hi] at e;cases e;exact⟨v,jF hi2,r⟩
  ·rw[jc hij] at e;rw[jc hij];exact R.val j t' e fun z=>(hk j z).elim n fun z=>hij z.symm
 ·obtain⟨h1,h2⟩:=hM j n;rw[jc (Zp h2)] at e;rw[jc (Zp h2)];exact R.own j t' e h1
 ·obtain⟨h1,h2⟩:=hM j hj;rw[jc (Zp h2)] at e;exact R.ow j b h1 e
 ·obtain⟨h1,h2⟩:=hM j hj;obtain⟨h3,h4⟩:=hM k hk;rw[jc (Zp h2)] at e1;rw[jc (Zp h4)] at e2;exact R.dis j k b h1 h3 e1 e2
theorem Rel.setN{i:Nat}(R:Rel F O M s σ H)(hM:∀ j,j∈M'->j=i∨j∈M)(hk:∀ j,j∈M->j∈M')(hi:i < s.length)(him:i∈M')(oa:O a)(nw:∀ j,j∈M->j≠i->σ[j]?≠some (some (.ref a)))(L:Live (Free F O) H a t):Rel F O M' (s.set i (some t)) (σ.set i (some (.ref a))) H:=by
 have hi2:i < σ.length:=by rw[<-R.len]; exact hi
 refine⟨by rw[jT,jT]; exact R.len,fun j t' e n=>?_,fun j t' e n=>?_,fun j b hj e=>?_,fun j k b hj hk' e1 e2=>?_,R.keep,R.dom,R.fresh,R.inD,R.al⟩
 ·have hij:i≠j:=fun z=>n (z▸him);rw[jc hij] at e;rw[jc hij];exact R.val j t' e fun z=>n (hk j z)
 ·by_cases hij:i=j
  ·subst hij;rw[jF hi] at e;cases e;exact⟨a,jF hi2,L⟩
  ·rw[jc hij] at e;rw[jc hij];exact R.own j t' e ((hM j n).resolve_left fun z=>hij z.symm)
 ·by_cases hij:i=j
  ·subst hij;rw[jF hi2] at e;injection e with e;injection e with e;injection e with e;exact e▸oa
  ·rw[jc hij] at e;exact R.ow j b ((hM j hj).resolve_left fun z=>hij z.symm) e
 ·by_cases hij:i=j
  ·by_cases hik:i=k
   ·exact hij.symm.trans hik
   ·subst hij;rw[jF hi2] at e1;rw[jc hik] at e2;injection e1 with e1;cases e1;exact absurd e2 (nw k ((hM k hk').resolve_left fun z=>hik z.symm) (Zp hik))
  ·rw[jc hij] at e1
   by_cases hik:i=k
   ·subst hik;rw[jF hi2] at e2;injection e2 with e2;cases e2;exact absurd e1 (nw j ((hM j hj).resolve_left fun z=>hij z.symm) (Zp hij))
   ·rw[jc hik] at e2;exact R.dis j k b ((hM j hj).resolve_left fun z=>hij z.symm) ((hM k hk').resolve_left fun z=>hik z.symm) e1 e2
theorem Ios.set{i:Nat}{x:Option V}(I:Ios F io M σ)(hio:i∉io)(hM:∀ j,j∈io->j∈M'):Ios F io M' (σ.set i x):=⟨fun j hj=>by
 refine⟨hM j hj,?_⟩;rw[jc (fun z:i=j=>hio (z▸hj))]
 exact(I.at_ j hj).2,I.D⟩
end
def zax(f g:DS):DS:=fun s=>(f s).bind fun r=>match r with
 |.nx s'=>g s'
 |r=>some r
def zav:DS:=fun s=>some (.nx s)
def zbn(i:Nat)(f:DE):DS:=fun s=>(f s).bind fun p=>if i < p.2.length then some (.nx (p.2.set i (some p.1))) else none
def zbe(c:DT)(f g:DS):DS:=fun s=>(c s).bind fun p=>if p.1 then f p.2 else g p.2
def dDo(f:DE):DS:=fun s=>(f s).map fun p=>.nx p.2
section
variable {M'':List Nat}{st:QR}{sts:List QR}{c:jU}{a b:List QR}{d d':DS}{ft:DT}{pos':Pos}
def znz(M M' io:List Nat)(i:Nat):Bool:=M'.all (fun j=>M.contains j&&j != i)&&M.all (fun j=>M'.contains j||j == i)&&!io.contains i&&io.all (M'.contains ·)
def zny(M M' io:List Nat)(i:Nat):Bool:=M'.all (fun j=>j == i||M.contains j)&&M.all (M'.contains ·)&&M'.contains i&&!io.contains i&&io.all (M'.contains ·)
theorem Free.c1{F:Fr}{O:ji->Prop}{M:List Nat}{s:Sg}{σ:L2.St}{H:Hp}(R:Rel F O M s σ H){b:ji}(c:Free F O b):C1 F b:=⟨fun z=>c.1 (R.inD b z),c.2⟩
theorem zq4{F:Fr}{O:ji->Prop}{s:Sg}{σ:L2.St}{H:Hp}{v:V}{t:T}(R:Rel F O M s σ H)(I:Ios F io M σ)(hio:∀ i,i∈io->∃ t,s[i]?=some (some t))(r:Rep (Free F O) H v t):RetOk F .e io s t v H:=by
 refine⟨R.keep,R.dom,r.mono (fun _ c=>c.c1 R) (fun _ _ _ e=>e),fun i hi=>?_⟩;obtain⟨t',ht⟩:=hio i hi;obtain⟨h1,h2⟩:=I.at_ i hi;obtain⟨a,h3,L⟩:=R.own i t' ht h1;rw[h2] at h3;injection h3 with h3;cases h3;exact⟨t',ht,L.mono (fun _ c=>c.c1 R) (fun _ _ _ e=>e) fun _ e=>e⟩
theorem zq3{F:Fr}{O:ji->Prop}{s:Sg}{σ:L2.St}{H:Hp}{t:T}{a:ji}(R:Rel F O M s σ H)(I:Ios F io M σ)(hio:∀ i,i∈io->∃ t,s[i]?=some (some t))(oa:O a)(h0:F.H0 a=none)(nd:¬ F.D a)(L:Live (Free F O) H a t):RetOk F .n io s t (.ref a) H:=by
 have w:∀ b,Free F O b->C1 F b/\b≠a:=fun b c=>⟨c.c1 R,fun z=>c.1 (z▸oa)⟩;refine⟨R.keep,R.dom,a,rfl,h0,nd,L.mono w (fun _ _ _ e=>e) fun _ e=>e,fun i hi=>?_⟩;obtain⟨t',ht⟩:=hio i hi;obtain⟨h1,h2⟩:=I.at_ i hi;obtain⟨b,h3,L⟩:=R.own i t' ht h1;rw[h2] at h3;injection h3 with h3;cases h3;exact⟨t',ht,L.mono w (fun _ _ _ e=>e) fun _ e=>e⟩
def hasAll(io:List Nat)(s:Sg):Bool:=io.all fun i=>(s[i]?).join.isSome
theorem hasAll.get{io:List Nat}{s:Sg}(h:hasAll io s=true):∀ i,i∈io->∃ t,s[i]?=some (some t):=fun i hi=>by
 have:=jm.mp h i hi;cases e:(s[i]?).join with
 |none=>rw[e] at this; cases this
 |some t=>exact⟨t,za9 e⟩
def zan(io:List Nat)(f:DE):DS:=fun s=>(f s).bind fun p=>if hasAll io p.2 then some (.rt p.1 p.2) else none
end
def zj6:T->Bool
 |.lst _=>true
 |_=>false
def SM(r:V->List V->Hp->VK->Prop)(g:T->List T->Option (T × T)):Prop:=∀(C:ji->Prop) (H:Hp) a tx vs ts t' tr (Q:VK),¬ C a->Live C H a tx->Reps C H vs ts->g tx ts=some (t',tr)->
 (∀ o v,(∀ H1,(∀ b u,C b->H b=some u->H1 b=some u)->H1 a=some o->Live C H1 a t')->Rep C H v tr->Q v (upd H a o))->r (.ref a) vs H Q
def zmL(g:T->List T->Option (T × T))(i:Nat)(fa:DA):DE:=fun s=>(s[i]?).join.bind fun t0=>if zj6 t0 then (fa s).bind fun p=>(p.2[i]?).join.bind fun t=>(g t p.1).map fun q=>(q.2,p.2.set i (some q.1)) else none
def zlb:T->List T->Option (T × T)
 |.lst xs,[t]=>if xs.length < ja then some (.lst (xs++[t]),.non) else none
 |_,_=>none
def zcm:T->List T->Option (T × T)
 |.lst xs,[.int i]=>if 0<=i/\i<=1000000 then (xs[i.toNat]?).map fun y=>(.lst (xs.eraseIdx i.toNat),y) else none
 |_,_=>none
theorem Live.lst'{C:ji->Prop}{H:Hp}{a:ji}{ts:List T}(h:Live C H a (.lst ts)):∃ vs,H a=some (.lst vs)/\Reps C H vs ts:=by
 cases h with |lst r h=>exact⟨_,r,h⟩
theorem Reps.one{C:ji->Prop}{H:Hp}{vs:List V}{t:T}(h:Reps C H vs [t]):∃ v,vs=[v]/\Rep C H v t:=by
 obtain⟨v,rfl⟩:=YR.mp h.1;exact⟨v,rfl,h.head⟩
theorem Reps.snoc{C:ji->Prop}{H:Hp}{vs:List V}{ts:List T}{v:V}{t:T}(h:Reps C H vs ts)(r:Rep C H v t):Reps C H (vs++[v]) (ts++[t]):=h.append (.cons r .nil)
theorem zqr:SM zg9 zlb:=by
 intro C H a tx vs ts t' tr Q hn L R hg q;unfold zlb at hg;split at hg
 ·split at hg
  ·rename_i hl;cases hg;obtain⟨us,h1,h2⟩:=L.lst';obtain⟨v,rfl,rv⟩:=R.one;refine⟨a,us,v,rfl,rfl,h1,by rw[h2.1]; exact hl,q _ _ (fun H1 k e=>.lst e ?_) .non⟩
   exact(h2.snoc rv).mono (fun _ c=>c) k
  ·cases hg
 ·cases hg
theorem Reps.erase{C:ji->Prop}{H:Hp}{vs:List V}{ts:List T}(h:Reps C H vs ts)(k:Nat):Reps C H (vs.eraseIdx k) (ts.eraseIdx k):=by
 rw[Z3,Z3];exact(h.take _).append (h.drop _)
theorem zmu:SM ziq zcm:=by
 intro C H a tx vs ts t' tr Q hn L R hg q;unfold zcm at hg;split at hg
 ·split at hg
  ·rename_i xs i hi;obtain⟨y,hy,h0⟩:=Qm hg;cases h0;obtain⟨us,h1,h2⟩:=L.lst';obtain⟨v0,rfl,rv0⟩:=R.one;have e0:=BRep.int (.inl rv0);subst e0;obtain⟨v,hv,rv⟩:=h2.get hy;have hlt:=(jd.mp hv).1;have sx:NA i us.length=some i.toNat:=by
    unfold NA;dsimp only;rw[In_ (by lia:¬ i < 0),Ip_ (by simp; lia)]
   exact⟨a,us,i,i.toNat,v,rfl,rfl,h1,by lia,by lia,sx,hv,q _ _ (fun H1 k e=>.lst e ((h2.erase _).mono (fun _ c=>c) k)) rv⟩
  ·cases hg
 ·cases hg
section
theorem zo8{r:V->List V->Hp->VK->Prop}{g:T->List T->Option (T × T)}{i:Nat}(hi:M.contains i=true)(hs:SM r g):∀ σ H Q,cE .e M (zmL g i fa) σ H Q->tBM X.K "list" r (zcY i) (cA M fa) σ H Q:=by
 intro σ H Q h_;refine cE_ h_ fun F O s t s' R hf q=>?_;have hi':i∈M:=by simpa using hi
 obtain⟨t0,h0,hf⟩:=Qb hf;split at hf
 ·rename_i hl;obtain⟨p,h1,hf⟩:=Qb hf;obtain⟨t1,h2,hf⟩:=Qb hf;obtain⟨w,h3,h4⟩:=Qm hf;cases h4;obtain⟨a,e1,L0⟩:=R.own i t0 (za9 h0) hi';refine⟨_,e1,?_,F,O,s,p.1,p.2,R,h1,fun vs H1 S1 R1 rs=>?_⟩
  ·cases L0 with
   |lst r h=>exact .inl ⟨rfl,_,SqL.of r⟩
   |_=>cases hl
  obtain⟨b,e2,L⟩:=R1.own i t1 (za9 h2) hi';rw[e1] at e2;injection e2 with e2;cases e2;refine hs (Free F O) H1 a t1 vs p.1 w.1 w.2 Q (fun z=>z.1 (R1.ow i a hi' e1)) L rs h3 fun o v hL rv=>?_;have R2:=R1.write (o:=o) hi' e1 (za9 h2) hL;refine q v _ (S1.trans (.write hi' e1 L.ne)) ⟨R2,?_⟩;exact R1.stay (.write hi' e1 L.ne) rv
 ·cases hf
end
def zk6(kvs:List (Key × T))(k:Key)(v:T):List (Key × T):=
 if kvs.any fun kv=>decide (kv.1=k) then kvs.map fun kv=>if kv.1=k then (kv.1,v) else kv else kvs++[(k,v)]
theorem RepK.any{C:ji->Prop}{H:Hp}(k:Key):∀ {vs:List (Key × V)} {ts:List (Key × T)},RepK C H vs ts->(vs.any fun kv=>decide (kv.1=k))=ts.any fun kv=>decide (kv.1=k)
 |[],[],_=>rfl
 |p::vs,[],h=>by have:=h.1; simp at this
 |[],q::ts,h=>by have:=h.1; simp at this
 |p::vs,q::ts,h=>by
  obtain⟨e,r,h'⟩:=h.tail;rw[ZA,ZA,RepK.any k h',e]
theorem RepK.mapPut{C:ji->Prop}{H:Hp}{k:Key}{v:V}{t:T}(r:Rep C H v t):∀ {vs:List (Key × V)} {ts:List (Key × T)},RepK C H vs ts->RepK C H (vs.map fun kv=>if kv.1=k then (kv.1,v) else kv) (ts.map fun kv=>if kv.1=k then (kv.1,t) else kv)
 |[],[],h=>h
 |p::vs,[],h=>by have:=h.1; simp at this
 |[],q::ts,h=>by have:=h.1; simp at this
 |p::vs,q::ts,h=>by
  obtain⟨e,r',h'⟩:=h.tail;rw[jp,jp]
  by_cases hk:q.1=k
  ·rw[Ip_ hk,Ip_ (e.trans hk)];exact .cons e r (RepK.mapPut r h')
  ·rw[In_ hk,In_ (fun z=>hk (e.symm.trans z))];exact .cons e r' (RepK.mapPut r h')
theorem RepK.append{C:ji->Prop}{H:Hp}:∀ {vs ws:List (Key × V)} {ts us:List (Key × T)},RepK C H vs ts->RepK C H ws us->RepK C H (vs++ws) (ts++us)
 |[],_,[],_,_,h=>h
 |p::vs,_,[],_,h,_=>by have:=h.1; simp at this
 |[],_,q::ts,_,h,_=>by have:=h.1; simp at this
 |p::vs,_,q::ts,_,h,h2=>by
  obtain⟨e,r',h'⟩:=h.tail;exact .cons e r' (RepK.append h' h2)
theorem RepK.put{C:ji->Prop}{H:Hp}{k:Key}{v:V}{t:T}{vs:List (Key × V)}{ts:List (Key × T)}(h:RepK C H vs ts)(r:Rep C H v t):RepK C H (zhx vs k v) (zk6 ts k t):=by
 unfold zhx zk6;rw[h.any k];split
 ·exact RepK.mapPut r h
 ·exact RepK.append h (.cons rfl r ⟨rfl,fun i v t e=>by simp at e⟩)
theorem RepK.len{C:ji->Prop}{H:Hp}{vs:List (Key × V)}{ts:List (Key × T)}(h:RepK C H vs ts):vs.length=ts.length:=by simpa using congrArg gF h.1
def zqJ(i:Nat)(fk fv:DE):DS:=fun s=>(fv s).bind fun p=>(p.2[i]?).join.bind fun _=>(fk p.2).bind fun q=>(q.2[i]?).join.bind fun t=>match t with
 |.dct kvs=>(zhH q.1).bind fun k=>if kvs.length < ja then some (.nx (q.2.set i (some (.dct (zk6 kvs k p.1))))) else none
 |_=>none
def zfC(i:Nat)(fk fv:DE):DS:=fun s=>(fv s).bind fun p=>(p.2[i]?).join.bind fun _=>(fk p.2).bind fun q=>(q.2[i]?).join.bind fun t=>match t,q.1 with
 |.lst xs,.int k=>(ixN xs.length k).map fun j=>.nx (q.2.set i (some (.lst (xs.set j p.1))))
 |_,_=>none
section
variable {st:QR}{fk fv:DE}
def zkU:List Nat->List T->Sg->Option Sg
 |[],[],s=>some s
 |i::is,t::ts,s=>if i < s.length then zkU is ts (s.set i (some t)) else none
 |_,_,_=>none
def zol:T->Option (List T)
 |.lst xs=>some xs
 |.tup xs=>some xs
 |_=>none
end
def zn7(F:Fr)(O:ji->Prop)(its:List T)(J:It)(H1:Hp):Prop:=∀ H2,(∀ b o,Free F O b->H1 b=some o->H2 b=some o)->
 ∀ i:Nat,(∀ t,its[i]?=some t->J.go i H2/\∀ x H3,J.yld i H2 x H3->(H3=H2∨∃ p o,H2 p=none/\H3=upd H2 p o)/\Rep (fun b=>(Free F O b/\H1 b≠none)∨H2 b=none) H3 x t)/\(its.length<=i->J.stop i H2)
abbrev DI:=Sg->Option (List T × Sg)
def cI(M:List Nat)(f:DI):TI:=fun σ H R=>∃ F O s its s',Rel F O M s σ H/\f s=some (its,s')/\∀ J H',Step σ M H H'->Rel F O M s' σ H'->zn7 F O its J H'->R J H'
theorem cI_{M:List Nat}{f:DI}{σ:L2.St}{H:Hp}{R:_}(h:cI M f σ H R){G:Prop}(g:∀ F O s its s',Rel F O M s σ H->f s=some (its,s')->(∀ J H',Step σ M H H'->Rel F O M s' σ H'->zn7 F O its J H'->R J H')->G):G:=by
 obtain⟨F,O,s,its,s',Rl,hf,q⟩:=h;exact g F O s its s' Rl hf q
theorem zeP{X:Cx}{tg e:jU}{t t':TI}(h:PI X tg e t)(hw:∀ σ H R,t' σ H R->t σ H R):PI X tg e t':=fun pc s σ H R I q=>h pc s σ H R I (hw _ _ _ q)
def dIt(f:DE):DI:=fun s=>(f s).bind fun p=>match p.1 with
 |.lst xs=>some (xs,p.2)
 |.scr ns=>some (ns.map .int,p.2)
 |_=>none
def zr2(f:DE):DI:=fun s=>(f s).bind fun p=>match p.1 with
 |.tup xs=>some (xs,p.2)
 |_=>none
def zaJ(lo:Int)(n:Nat):List T:=(jK n).map fun(i:Nat)=>T.int (lo+i)
def zf6(j:Int):Bool:=(j+2000).natAbs.ble 4000
theorem zd5{j:Int}(h:zf6 j=true):-(2 ^ 62)<=j/\j < 2 ^ 62:=by
 unfold zf6 at h;have:=YY h;lia
def zp2(f:DA):DI:=fun s=>(f s).bind fun p=>match p.1 with
 |[.int j]=>if zf6 j=true then some (zaJ 0 j.toNat,p.2) else none
 |_=>none
def zoB(f:DA):DI:=fun s=>(f s).bind fun p=>match p.1 with
 |[.int i,.int j]=>if zf6 i=true/\zf6 j=true then some (zaJ i (j - i).toNat,p.2) else none
 |_=>none
section
variable {tg:jU}
theorem zmw{F:Fr}{O:ji->Prop}{H1:Hp}{a:ji}{vs:List V}{ts:List T}{K:j9}(fr:Free F O a)(ha:H1 a=some (.lst vs))(r:Reps (Free F O) H1 vs ts):zn7 F O ts (Itl K a) H1:=by
 intro H2 k i;have h2:=k a _ fr ha;refine⟨fun t ht=>?_,fun hl=>⟨vs,SqL.of h2,by rw[r.1]; exact hl⟩⟩
 obtain⟨v,hv,rv⟩:=r.get ht;refine⟨⟨vs,v,SqL.of h2,hv⟩,fun x H3 ⟨e1,e2⟩=>⟨.inl e1,?_⟩⟩;have:=e2 vs (SqL.of h2);rw[hv] at this;obtain rfl:v=x:=jg this;subst e1;exact rv.there.mono (fun b c=>.inl c) fun b o c e=>k b o c.1 e
theorem zlg{F:Fr}{O:ji->Prop}{H1:Hp}{a:ji}{ns:List Int}{K:j9}(h:∀ H2,(∀ b o,Free F O b->H1 b=some o->H2 b=some o)->SqL K H2 a (ns.map V.int)):zn7 F O (ns.map T.int) (Itl K a) H1:=by
 intro H2 k i;have h2:=h H2 k;refine⟨fun t ht=>?_,fun hl=>⟨_,h2,by simpa using hl⟩⟩
 obtain⟨v,hv,rv⟩:=(zbJ (C:=fun b=>(Free F O b/\H1 b≠none)∨H2 b=none) (H:=H2) ns).get ht;refine⟨⟨_,v,h2,hv⟩,fun x H3 ⟨e1,e2⟩=>⟨.inl e1,?_⟩⟩;have:=e2 _ h2;rw[hv] at this;obtain rfl:v=x:=jg this;subst e1;exact rv
theorem zon(hK:X.K=TheK.K)(h:PE X e (cE .e M fe)):PI X tg e (cI M (dIt fe)):=zeP (t:=zj8 TheK.K (cE .e M fe)) (hK▸ziB h) (by
 intro σ H R h_;refine cI_ h_ fun F O s its s' Rl hf q=>?_;obtain⟨⟨p1,p2⟩,h1,h2⟩:=Qb hf;refine⟨F,O,s,p1,p2,Rl,h1,fun v H1 S1 po=>?_⟩;cases p1<;>simp at h2
 ·obtain⟨h3,h4⟩:=h2;subst h3 h4;have po2:=po.2;cases po2 with
  |lst c r l h=>
   exact⟨_,rfl,⟨_,SqL.of r⟩,q _ H1 S1 po.1 (zmw c r ⟨l,h⟩)⟩
 ·obtain⟨h3,h4⟩:=h2;subst h3 h4;have po2:=po.2;cases po2 with
  |@scr a ns o c r=>
   refine⟨a,rfl,⟨_,.inl (.inr ⟨o,r⟩)⟩,q _ H1 S1 po.1 ?_⟩;exact zlg fun H2 k=>.inl (.inr ⟨o,k a _ c r⟩)
  |@scrK a ns r=>
   refine⟨a,rfl,⟨_,r H1⟩,q _ H1 S1 po.1 ?_⟩
   exact zlg fun H2 k=>r H2)
theorem zqu(h:PE X e (cE .e M fe)):PI X tg e (cI M (zr2 fe)):=zeP (znT h) (by
 intro σ H R h_;refine cI_ h_ fun F O s its s' Rl hf q=>?_;obtain⟨⟨p1,p2⟩,h1,h2⟩:=Qb hf;refine⟨F,O,s,p1,p2,Rl,h1,fun v H1 S1 po=>?_⟩;cases p1<;>simp at h2
 obtain⟨h3,h4⟩:=h2;subst h3 h4;have po2:=po.2;cases po2 with
 |tup c r l h=>
  rename_i a vs;refine⟨a,rfl,⟨vs,SqT.of r⟩,q _ H1 S1 po.1 ?_⟩;intro H2 k i;have h2:=k a _ c r;refine⟨fun t ht=>?_,fun hl=>⟨vs,SqT.of h2,by rw[l]; exact hl⟩⟩
  obtain⟨v,hv,rv⟩:=Reps.get (⟨l,h⟩:Reps (Free F O) H1 vs _) ht;refine⟨⟨vs,v,SqT.of h2,hv⟩,fun x H3 ⟨e1,e2⟩=>⟨.inl e1,?_⟩⟩;have:=e2 vs (SqT.of h2);rw[hv] at this;obtain rfl:v=x:=jg this;subst e1
  exact rv.there.mono (fun b c=>.inl c) fun b o c e=>k b o c.1 e)
theorem zh0{F:Fr}{O:ji->Prop}{H1:Hp}{lo:Int}{n:Nat}:zn7 F O (zaJ lo n) (Itr lo n) H1:=by
 intro H2 k i;unfold zaJ;refine⟨fun t ht=>?_,fun hl=>by show n<=i; simpa using hl⟩
 rw[jk] at ht;obtain⟨j,hj,e⟩:=Qm ht;have hi:i < n:=by simpa using (jd.mp hj).1
 rw[Np hi] at hj;obtain rfl:i=j:=jg hj;refine⟨hi,fun x H3 ⟨e1,e2⟩=>⟨.inl e1,?_⟩⟩;subst e1 e2 e;exact .int _
end
abbrev DG:=T->Sg->Option Sg
def cG(io M:List Nat)(g:DG):TG:=fun v σ H Q=>∃ F O s t s',Rel F O M s σ H/\Ios F io M σ/\Rep (Free F O) H v t/\g t s=some s'/\∀ σ',Rel F O M s' σ' H->Ios F io M σ'->Q σ' H
def dGn(i:Nat):DG:=fun t s=>if i < s.length then some (s.set i (some t)) else none
theorem zp8{X:Cx}{e:jU}{t t':TG}(h:PG X e t)(hw:∀ v σ H Q,t' v σ H Q->t v σ H Q):PG X e t':=fun pc s σ H v u Q I r q=>h pc s σ H v u Q I r (hw _ _ _ _ q)
section
variable {tg iter:jU}{body:List QR}{fi:DI}{g:DG}{db:DS}
theorem gn{i:Nat}(hi:M.contains i=false)(hio:io.all (M.contains ·)=true):∀ v σ H Q,cG io M (dGn i) v σ H Q->zcF i v σ H Q:=by
 rintro v σ H Q ⟨F,O,s,t,s',R,I,r,hg,q⟩;have hi':i∉M:=by simpa using hi
 unfold dGn at hg;split at hg
 ·rename_i hl;cases hg;exact q _ (R.setE (fun j hj=>⟨hj,fun z=>hi' (z▸hj)⟩) (fun j hj=>.inl hj) hl r) (I.set (fun z=>hi' (zdU hio i z)) (zdU hio))
 ·cases hg
def zbD(g:DG)(db:DS):List T->Sg->Option Fl
 |[],s=>some (.nx s)
 |x::xs,s=>(g x s).bind fun s1=>(db s1).bind fun r=>match r with
  |.nx s2=>zbD g db xs s2
  |.ct s2=>zbD g db xs s2
  |.bk s2=>some (.nx s2)
  |.rt t s2=>some (.rt t s2)
def zhb(fi:DI)(g:DG)(db:DS):DS:=fun s=>(fi s).bind fun p=>zbD g db p.1 p.2
theorem zin{F:Fr}{O O1:ji->Prop}{s:Sg}{σ:L2.St}{H1 H2 H3:Hp}{x:V}{t:T}(k:KeepO O H1 O1 H2)(R:Rel F O1 M s σ H2)(hy:H3=H2∨∃ p o,H2 p=none/\H3=upd H2 p o)(r:Rep (fun b=>(Free F O b/\H1 b≠none)∨H2 b=none) H3 x t) :
  Rel F O1 M s σ H3/\KeepO O1 H2 O1 H3/\Rep (Free F O1) H3 x t:=by
 have fr:∀ b,((Free F O b/\H1 b≠none)∨H2 b=none)->Free F O1 b:=fun b c=>by
  rcases c with ⟨c,n⟩ |n
  ·cases e:H1 b with
   |none=>exact absurd e n
   |some o=>exact⟨(k.1 b o c.1 e).2,c.2⟩
  ·exact⟨fun z=>R.al b z n,.inr (R.dom b n)⟩
 refine⟨?_,?_,r.mono fr fun _ _ _ e=>e⟩
 ·rcases hy with rfl |⟨p,o,hp,rfl⟩
  ·exact R
  ·exact(R.new hp o).less (fun b z=>.inl z) R.ow R.inD
 ·rcases hy with rfl |⟨p,o,hp,rfl⟩
  ·exact .refl
  ·exact⟨fun b u n e=>⟨by rw[za1 (zaa e hp)]; exact e,n⟩,fun b e=>by
    unfold upd at e;split at e
    ·cases e
    ·exact e⟩
theorem zop:∀ D σ H,cS rk io M M Mb (zhb fi g db) D σ H->zoW (cI M fi) (cG io M g) (cS rk io M M M db) D σ H:=by
 intro D σ H h_;refine cS_ h_ fun F O s r R I hd q=>?_;obtain⟨⟨its,s1⟩,h1,h2⟩:=Qb hd;refine⟨F,O,s,its,s1,R,h1,fun J H1 S1 R1 IT=>?_⟩;have k1:=S1.keepO R;refine⟨fun i m σ' H'=>m=its.length - i/\i<=its.length/\∃ O' s',KeepO O H1 O' H'/\Rel F O' M s' σ' H'/\Ios F io M σ'/\zbD g db (its.drop i) s'=some r,⟨its.length,by simp,Zs _,O,s1,.refl,R1,I,h2⟩,?_⟩
 rintro i m σ2 H2 ⟨rfl,hi,O2,s2,k2,R2,I2,hl⟩;have it:=IT H2 (fun b o c e=>(k2.1 b o c.1 e).1) i
 by_cases hlt:i < its.length
 ·refine .inr ?_;obtain⟨go,yl⟩:=it.1 its[i] (j3 hlt);rw[ZF hlt] at hl;unfold zbD at hl;obtain⟨s3,hg,hl⟩:=Qb hl;obtain⟨r1,hb,hl⟩:=Qb hl;refine⟨go,fun σ' H'=>∃ O' s',KeepO O H1 O' H'/\Rel F O' M s' σ' H'/\Ios F io M σ'/\zbD g db (its.drop (i+1)) s'=some r,fun σ' H' ⟨O',s',h⟩=>⟨its.length - (i+1),by lia,rfl,hlt,O',s',h⟩,fun x H3 hy=>?_⟩
  obtain⟨y1,y2⟩:=yl x H3 hy;obtain⟨R3,k3,rx⟩:=zin k2 R2 y1 y2;have k13:=k2.trans k3;refine⟨F,O2,s2,its[i],s3,R3,I2,rx,hg,fun σ4 R4 I4=>⟨F,O2,s3,r1,R4,I4,hb,?_⟩⟩;cases r1 with
  |nx s5=>exact fun O5 σ5 H5 k5 R5 I5=>⟨O5,s5,k13.trans k5,R5,I5,hl⟩
  |ct s5=>exact fun O5 σ5 H5 k5 R5 I5=>⟨O5,s5,k13.trans k5,R5,I5,hl⟩
  |bk s5=>
   cases hl;exact fun O5 σ5 H5 k5 R5 I5=>q O5 σ5 H5 (k1.trans (k13.trans k5)) R5 I5
  |rt t s5=>
   cases hl;exact q
 ·have e:i=its.length:=by lia
  subst e;rw[YI] at hl;cases hl;exact .inl ⟨it.2 (jl _),q O2 σ2 H2 (k1.trans k2) R2 I2⟩
end
structure CallP (rk:Kd) (C:ji->Prop) (H:Hp) (t:T) (v:V) (H':Hp):Prop where
 keep:∀ b o,H b=some o->H' b=some o
 dom:∀ b,H' b=none->H b=none
 res:match rk with
  |.n=>∃ r,v=.ref r/\H r=none/\Live (fun b=>(C b∨H b=none)/\b≠r) H' r t
  |_=>Rep (fun b=>C b∨H b=none) H' v t
def spP(rk:Kd)(np:Nat)(fn:List T->Option T):Sp:=fun vs H Q _=>∃ C ts t,ts.length=np/\Reps C H vs ts/\fn ts=some t/\∀ v H',CallP rk C H t v H'->Q v H'
structure CallI (rk:Kd) (C:ji->Prop) (a:ji) (H:Hp) (t t0:T) (v:V) (H':Hp):Prop where
 keep:∀ b o,b≠a->H b=some o->H' b=some o
 dom:∀ b,H' b=none->H b=none
 res:match rk with
  |.n=>∃ r,v=.ref r/\H r=none/\Live (fun b=>(b≠a/\(C b∨H b=none))/\b≠r) H' r t/\Live (fun b=>(b≠a/\(C b∨H b=none))/\b≠r) H' a t0
  |_=>Rep (fun b=>b≠a/\(C b∨H b=none)) H' v t/\Live (fun b=>b≠a/\(C b∨H b=none)) H' a t0
def spI(rk:Kd)(np:Nat)(fn:List T->Option (T × T)):Sp:=fun vs H Q _=>∃ C a us t0 ts t t1,(t0::ts).length=np/\vs=.ref a::us/\¬ C a/\Live C H a t0/\Reps C H us ts/\fn (t0::ts)=some (t,t1)/\∀ v H',CallI rk C a H t t1 v H'->Q v H'
def zay(n:Nat)(ts:List T):Sg:=ts.map some++gf (n - ts.length) none
def fnP(n:Nat)(d:DS):List T->Option T:=fun ts=>match d (zay n ts) with
 |some (.rt t _)=>some t
 |some (.nx _)=>some .non
 |_=>none
def zn1(n:Nat)(d:DS):List T->Option T:=fun ts=>match d (zay n ts) with
 |some (.rt t _)=>some t
 |_=>none
def fnI(n:Nat)(d:DS):List T->Option (T × T):=fun ts=>match d (zay n ts) with
 |some (.rt t s)=>(s[0]?).join.map fun u=>(t,u)
 |_=>none
theorem zdk{N:List Str}{vs:List V}{ts:List T}{C:ji->Prop}{H:Hp}(r:Reps C H vs ts)(hl:ts.length<=N.length):(zay N.length ts).length=(L2.start N vs).length/\∀(i:Nat) t,(zay N.length ts)[i]?=some (some t)->∃ v,(L2.start N vs)[i]?=some (some v)/\ts[i]?=some t/\vs[i]?=some v/\Rep C H v t:=by
 have rl:=r.1;unfold zay L2.start;refine⟨by simp[rl],fun i t e=>?_⟩
 by_cases hi:i < ts.length
 ·rw[Qn (by rw[je]; exact hi),jk] at e
  obtain⟨t',h1,h2⟩:=Qm e;cases h2;obtain⟨v,hv,rv⟩:=r.get h1;refine⟨v,?_,h1,hv,rv⟩;rw[Qn (by rw[je,rl]; exact hi),jk,hv]
  rfl
 ·rw[QJ (by rw[je]; lia)] at e
  have:=jZ e;have:=Yd this;cases this
section
variable {d:DS}{N:List Str}{np:Nat}
theorem zlZ{fn:List T->Option T}(hfn:∀ ts t,fn ts=some t->(∃ s',d (zay N.length ts)=some (.rt t s'))∨(rk=.e/\t=.non/\∃ s',d (zay N.length ts)=some (.nx s')))(hrk:rk=.e∨rk=.n)(hN:np<=N.length){vs:List V}{H:Hp}{Q:VK}{E:XK}(h:spP rk np fn vs H Q E) :
  cS rk [] [] M' Mb d { nx:=fun _ H'=>Q .non H',rt:=Q } (L2.start N vs) H:=by
 obtain⟨C,ts,t,hl,r,hf,q⟩:=h;obtain⟨l1,l2⟩:=zdk (N:=N) r (by lia)
 have w:∀ b,C b->Free ⟨H,C,fun _=>False,fun _=>0⟩ (fun _=>False) b:=fun b c=>⟨fun z=>z,.inl c⟩;have R:Rel ⟨H,C,fun _=>False,fun _=>0⟩ (fun _=>False) [] (zay N.length ts) (L2.start N vs) H:=by
  refine⟨l1,fun i t e _=>?_,fun i t e n=>by simp at n,fun i a n=>by simp at n,fun i j a n=>by simp at n,fun b o _ e=>e,fun b e=>e,fun a z=>z.elim,fun a z=>z,fun a z=>z.elim⟩
  obtain⟨v,h1,_,_,rv⟩:=l2 i t e;exact⟨v,h1,rv.mono w fun _ _ _ e=>e⟩
 have I:Ios ⟨H,C,fun _=>False,fun _=>0⟩ [] [] (L2.start N vs):=⟨fun i hi=>by simp at hi,fun a z=>z.elim⟩
 rcases hfn ts t hf with ⟨s',hd⟩ |⟨e1,e2,s',hd⟩
 ·refine⟨_,_,_,_,R,I,hd,fun v H' ro=>q v H' ⟨fun b o e=>ro.keep b o (fun z=>z) e,ro.dom,?_⟩⟩;rcases hrk with rfl |rfl
  ·exact ro.res.1.mono (fun b c=>c.2) fun _ _ _ e=>e
  ·obtain⟨r,h1,h2,_,h3,_⟩:=ro.res;exact⟨r,h1,h2,h3.mono (fun b c=>⟨c.1.2,c.2⟩) (fun _ _ _ e=>e) fun _ e=>e⟩
 ·subst e1 e2;refine⟨_,_,_,_,R,I,hd,fun O' σ' H' k R' I'=>q .non H' ⟨fun b o e=>R'.keep b o (fun z=>z) e,R'.dom,.non⟩⟩
theorem zq2(hrk:rk=.e∨rk=.n)(hN:np<=N.length){vs:List V}{H:Hp}{Q:VK}{E:XK}(h:spI rk np (fnI N.length d) vs H Q E) :
  cS rk [0] [0] M' Mb d { nx:=fun _ H'=>Q .non H',rt:=Q } (L2.start N vs) H:=by
 obtain⟨C,a,us,t0,ts,t,t1,hl,rfl,na,L,r,hf,q⟩:=h;have hlu:us.length+1<=N.length:=by rw[r.1]; simpa using Q2 (W8 hl) hN
 have r':Reps (fun b=>C b∨b=a) H (.ref a::us) (t0::ts):=.cons (L.rep (fun b c=>.inl c) (.inr rfl)) (r.mono (fun b c=>.inl c) fun _ _ _ e=>e);obtain⟨l1,l2⟩:=zdk (N:=N) r' (by rw[hl]; exact hN)
 have w:∀ b,C b->Free ⟨H,C,fun b=>b=a,fun _=>a⟩ (fun b=>b=a) b:=fun b c=>⟨fun z=>na (z▸c),.inl c⟩;have e0:(L2.start N (.ref a::us))[0]?=some (some (.ref a)):=rfl;have R:Rel ⟨H,C,fun b=>b=a,fun _=>a⟩ (fun b=>b=a) [0] (zay N.length (t0::ts)) (L2.start N (.ref a::us)) H:=by
  refine⟨l1,fun i t e n=>?_,fun i t e n=>?_,fun i b n e=>?_,fun i j b n m _ _=>?_,fun b o _ e=>e,fun b e=>e,fun b z=>.inl z,fun b z=>z,fun b z=>z▸L.ne⟩
  ·obtain⟨v,h1,h2,h3,_⟩:=l2 i t e;cases i with
   |zero=>simp at n
   |succ i=>
    have rv:=r.2 i v t (by simpa using h3) (by simpa using h2)
    exact⟨v,h1,rv.mono w fun _ _ _ e=>e⟩
  ·obtain rfl:i=0:=by simpa using n
   obtain⟨v,h1,h2,h3,_⟩:=l2 0 t e;have:t0=t:=by simpa using h2
   subst this;exact⟨a,e0,L.mono w (fun _ _ _ e=>e) fun _ e=>e⟩
  ·obtain rfl:i=0:=by simpa using n
   rw[e0] at e;injection e with e;injection e with e;injection e with e;exact e.symm
  ·have h1:i=0:=by simpa using n
   have h2:j=0:=by simpa using m
   rw[h1,h2]
 have I:Ios ⟨H,C,fun b=>b=a,fun _=>a⟩ [0] [0] (L2.start N (.ref a::us)):=⟨fun i hi=>by
  obtain rfl:i=0:=by simpa using hi
  exact⟨by simp,e0⟩,fun b z=>⟨0,by simp,z⟩⟩
 unfold fnI at hf;cases hd:d (zay N.length (t0::ts)) with
 |none=>rw[hd] at hf; cases hf
 |some r1=>
  rw[hd] at hf;cases r1 with
  |rt t' s'=>
   obtain⟨u,h1,h2⟩:=Qm hf;cases h2;refine⟨_,_,_,_,R,I,hd,fun v H' ro=>q v H' ⟨fun b o n e=>ro.keep b o n e,ro.dom,?_⟩⟩;rcases hrk with rfl |rfl
   ·obtain⟨h2,h3⟩:=ro.res;obtain⟨t2,h4,h5⟩:=h3 0 (by simp)
    rw[za9 h1] at h4;cases h4;exact⟨h2,h5⟩
   ·obtain⟨r,h2,h3,_,h4,h5⟩:=ro.res;obtain⟨t2,h6,h7⟩:=h5 0 (by simp)
    rw[za9 h1] at h6;cases h6;exact⟨r,h2,h3,h4,h7⟩
  |nx s'=>cases hf
  |bk s'=>cases hf
  |ct s'=>cases hf
end
section
variable {F:Fr}{O:ji->Prop}{s:Sg}{σ:L2.St}{H H':Hp}
theorem Rel.ext(R:Rel F O M s σ H)(k:∀ b o,H b=some o->H' b=some o)(dm:∀ b,H' b=none->H b=none):Rel F O M s σ H' where
 len:=R.len
 val:=fun i t e n=>by
  obtain⟨v,h1,h2⟩:=R.val i t e n;exact⟨v,h1,h2.mono (fun _ c=>c) fun b o _ e=>k b o e⟩
 own:=fun i t e n=>by
  obtain⟨a,h1,h2⟩:=R.own i t e n;exact⟨a,h1,h2.mono (fun _ c=>c) (fun b o _ e=>k b o e) fun o e=>k a o e⟩
 ow:=R.ow
 dis:=R.dis
 keep:=fun b o n e=>k b o (R.keep b o n e)
 dom:=fun b e=>R.dom b (dm b e)
 fresh:=R.fresh
 inD:=R.inD
 al:=fun a z e=>R.al a z (dm a e)
theorem Rel.extN{r:ji}(R:Rel F O M s σ H)(k:∀ b o,H b=some o->H' b=some o)(dm:∀ b,H' b=none->H b=none)(hr:H r=none)(hr':H' r≠none):Rel F (fun b=>O b∨b=r) M s σ H':=by
 have R':=R.ext k dm;have fr:∀ b,Free F O b/\H b≠none->Free F (fun b=>O b∨b=r) b:=fun b c=>⟨fun z=>z.elim c.1.1 fun z=>c.2 (z▸hr),c.1.2⟩;refine⟨R.len,fun i t e n=>?_,fun i t e n=>?_,fun i b hi e=>.inl (R.ow i b hi e),R.dis,R'.keep,R'.dom,fun b z=>?_,fun b z=>.inl (R.inD b z),fun b z=>?_⟩
 ·obtain⟨v,h1,h2⟩:=R.val i t e n;exact⟨v,h1,h2.there.mono fr fun b o _ e=>k b o e⟩
 ·obtain⟨b,h1,h2⟩:=R.own i t e n;exact⟨b,h1,h2.there.mono fr (fun b o _ e=>k b o e) fun o e=>k b o e⟩
 ·rcases z with z |z
  ·exact R.fresh b z
  ·subst z; exact .inr (R.dom _ hr)
 ·rcases z with z |z
  ·exact R'.al b z
  ·subst z; exact hr'
theorem Rel.freeNew(R:Rel F O M s σ H){b:ji}(h:Free F O b∨H b=none):Free F O b:=h.elim id fun z=>⟨fun w=>R.al b w z,.inr (R.dom b z)⟩
end
def Ar(fa:DA)(n:Nat):Prop:=∀ s ts s',fa s=some (ts,s')->ts.length=n
theorem zoO:Ar dAn 0:=fun s ts s' h=>by
 injection h with h;injection h with h1 _;rw[<-h1]; rfl
theorem ar_{f:DE}{fa:DA}{n:Nat}(h:Ar fa n):Ar (dAc f fa) (n+1):=fun s ts s' e=>by
 obtain⟨p,h1,h2⟩:=Qb e;obtain⟨q,h3,h4⟩:=Qm h2;injection h4 with h4 _;rw[<-h4,jw,h _ _ _ h3]
def zaj(fn:List T->Option T)(fa:DA):DE:=fun s=>(fa s).bind fun p=>(fn p.1).map fun t=>(t,p.2)
def zfE(fn:List T->Option (T × T))(i:Nat)(fa:DA):DE:=fun s=>(s[i]?).join.bind fun _=>(fa s).bind fun p=>(p.2[i]?).join.bind fun t0=>(fn (t0::p.1)).map fun q=>(q.1,p.2.set i (some q.2))
section
variable {f0:DE}{np:Nat}
theorem zoI{fn:List T->Option T}(hn:Ar fa np):∀ σ H Q,cE .e M (zaj fn fa) σ H Q->zg1 (spP .e np fn) [] E0 (cA M fa) σ H Q:=by
 intro σ H Q h_;refine cE_ h_ fun F O s t s' R hf q=>?_;obtain⟨p,h1,h2⟩:=Qb hf;obtain⟨t',h3,h4⟩:=Qm h2;injection h4 with h4 h5;subst h4 h5;refine⟨F,O,s,p.1,p.2,R,h1,fun vs H1 S1 R1 rs=>?_⟩
 try dsimp only
 rw[ZU];refine⟨Free F O,p.1,t',hn _ _ _ h1,rs,h3,fun v H2 c=>q v H2 (S1.trans ⟨fun b o _ e=>c.keep b o e,c.dom⟩) ⟨R1.ext c.keep c.dom,?_⟩⟩;exact c.res.mono (fun b z=>R1.freeNew z) fun _ _ _ e=>e
theorem zoH{fn:List T->Option T}(hn:Ar fa np):∀ σ H Q,cE .n M (zaj fn fa) σ H Q->zg1 (spP .n np fn) [] E0 (cA M fa) σ H Q:=by
 intro σ H Q h_;refine cE_ h_ fun F O s t s' R hf q=>?_;obtain⟨p,h1,h2⟩:=Qb hf;obtain⟨t',h3,h4⟩:=Qm h2;injection h4 with h4 h5;subst h4 h5;refine⟨F,O,s,p.1,p.2,R,h1,fun vs H1 S1 R1 rs=>?_⟩
 try dsimp only
 rw[ZU];refine⟨Free F O,p.1,t',hn _ _ _ h1,rs,h3,fun v H2 c=>?_⟩;obtain⟨r,rfl,hr,L⟩:=c.res;refine q _ H2 (S1.trans ⟨fun b o _ e=>c.keep b o e,c.dom⟩) ⟨r,rfl,S1.dom r hr,R1.extN c.keep c.dom hr L.ne,L.mono (fun b z=>?_) (fun _ _ _ e=>e) fun _ e=>e⟩;have:=R1.freeNew z.1;exact⟨fun y=>y.elim this.1 z.2,this.2⟩
theorem zmU{fn:List T->Option (T × T)}{i:Nat}(hn:Ar fa np)(hi:M.contains i=true):∀ σ H Q,cE .e M (zfE fn i fa) σ H Q->zg1 (spI .e (np+1) fn) [] E0 (zb8 (zcY i) (cA M fa)) σ H Q:=by
 intro σ H Q h_;refine cE_ h_ fun F O s t s' R hf q=>?_;have hi':i∈M:=by simpa using hi
 obtain⟨x0,h0,hf⟩:=Qb hf;obtain⟨p,h1,hf⟩:=Qb hf;obtain⟨t0,h2,hf⟩:=Qb hf;obtain⟨w,h3,h4⟩:=Qm hf;cases h4;obtain⟨a,e1,_⟩:=R.own i x0 (za9 h0) hi';refine⟨_,e1,F,O,s,p.1,p.2,R,h1,fun vs H1 S1 R1 rs=>?_⟩;obtain⟨b,e2,L⟩:=R1.own i t0 (za9 h2) hi';rw[e1] at e2;injection e2 with e2;cases e2;have oa:=R1.ow i a hi' e1
 try dsimp only
 rw[ZU];refine⟨Free F O,a,vs,t0,p.1,w.1,w.2,by rw[jw,hn _ _ _ h1],rfl,fun z=>z.1 oa,L,rs,h3,fun v H2 c=>?_⟩
 obtain⟨c1,c2⟩:=c.res;have S2:Step σ M H1 H2:=⟨fun b o n e=>c.keep b o (fun z=>n i hi' (z▸e1)) e,c.dom⟩;have fr:∀ b,(b≠a/\(Free F O b∨H1 b=none))->Free F O b:=fun b z=>R1.freeNew z.2;have kf:∀ b u,Free F O b->H1 b=some u->H2 b=some u:=fun b u z e=>c.keep b u (fun y=>z.1 (y▸oa)) e;have hl:=(jd.mp (za9 h2)).1;refine q v H2 (S1.trans S2) ⟨?_,c1.mono fr fun _ _ _ e=>e⟩;refine⟨by rw[jT]; exact R1.len,fun j t e' n=>?_,fun j t e' n=>?_,R1.ow,R1.dis,fun b u n e=>?_,fun b e=>R1.dom b (c.dom b e),R1.fresh,R1.inD,fun b z e=>R1.al b z (c.dom b e)⟩
 ·have hij:i≠j:=fun z=>n (z▸hi');rw[jc hij] at e';obtain⟨v,h1,h2⟩:=R1.val j t e' n;exact⟨v,h1,h2.mono (fun _ c=>c) kf⟩
 ·by_cases hij:i=j
  ·subst hij;rw[jF hl] at e';cases e';exact⟨a,e1,c2.mono fr (fun _ _ _ e=>e) fun _ e=>e⟩
  ·rw[jc hij] at e';obtain⟨b,h1,h2⟩:=R1.own j t e' n;have hne:b≠a:=fun z=>hij (R1.dis i j a hi' n e1 (z▸h1));exact⟨b,h1,h2.mono (fun _ c=>c) kf fun u e=>c.keep b u hne e⟩
 ·refine c.keep b u (fun z=>?_) (R1.keep b u n e);subst z;rcases R1.fresh b oa with z |z
  ·exact n z
  ·rw[z] at e; cases e
end
def S1E(r:List V->Hp->VK->Prop)(g:T->Option T):Prop:=∀(C:ji->Prop) (H:Hp) x tx t (Q:VK),BRep C H x tx->g tx=some t->(∀ v,Rep C H v t->Q v H)->r [x] H Q
def S1N(r:List V->Hp->VK->Prop)(g:T->Option T):Prop:=∀(C:ji->Prop) (H:Hp) x tx t (Q:VK),BRep C H x tx->g tx=some t->
 (∀ p o,H p=none->(∀ C':ji->Prop,(∀ b,C b/\H b≠none->C' b)->Live C' (upd H p o) p t)->Q (.ref p) (upd H p o))->r [x] H Q
def d1(g:T->Option T)(f:DE):DE:=fun s=>(f s).bind fun p=>(g p.1).map fun t=>(t,p.2)
section
variable {f:DE}
theorem zo5{r:List V->Hp->VK->Prop}{g:T->Option T}(h:S1E r g):∀ σ H Q,cE .e M (d1 g f) σ H Q->tCB r (zb8 (cE .b M f) zfT) σ H Q:=by
 intro σ H Q h_;refine cE_ h_ fun F O s t s' R hf q=>?_;obtain⟨p,h1,h2⟩:=Qb hf;obtain⟨t',h3,h4⟩:=Qm h2;injection h4 with h4 h5;subst h4 h5;exact⟨F,O,s,p.1,p.2,R,h1,fun v H1 S1 p1=>h (Free F O) H1 v p.1 t' Q p1.view h3 fun w rw=>q w H1 S1 ⟨p1.1,rw⟩⟩
theorem zql{r:List V->Hp->VK->Prop}{g:T->Option T}(h:S1N r g):∀ σ H Q,cE .n M (d1 g f) σ H Q->tCB r (zb8 (cE .b M f) zfT) σ H Q:=by
 intro σ H Q h_;refine cE_ h_ fun F O s t s' R hf q=>?_;obtain⟨p,h1,h2⟩:=Qb hf;obtain⟨t',h3,h4⟩:=Qm h2;injection h4 with h4 h5;subst h4 h5;exact⟨F,O,s,p.1,p.2,R,h1,fun v H1 S1 p1=>h (Free F O) H1 v p.1 t' Q p1.view h3 fun a o ha L=>q _ _ (S1.trans (.new ha o)) (.mkN R p1.1 S1 ha L)⟩
end
theorem CallR.or{X:Cx}{f:j5}{r r':List V->Hp->VK->Prop}(h:CallR X f r)(h':CallR X f r'):CallR X f (fun xs H Q=>r xs H Q∨r' xs H Q):=by
 intro pc s σ H xs us Q I rv q;rcases q with q |q
 ·exact h pc s σ H xs us Q I rv q
 ·exact h' pc s σ H xs us Q I rv q
theorem zjz{X:Cx}:CallR X (.builtin "len") (fun xs H Q=>∃ a kvs,xs=[V.ref a]/\Rd H a (.dK kvs)/\Q (.int kvs.length) H):=by
 intro pc s σ H xs us Q I r h;obtain⟨a,kvs,rfl,ha,q⟩:=h;obtain⟨u,rfl,ru⟩:=zi3 r;cases ru;exact zqI I ha fun t s' I'=>⟨.int kvs.length,H,I',⟨t,rfl⟩,q⟩
def zbV:T->Option T
 |.lst xs=>some (.int xs.length) |.tup xs=>some (.int xs.length) |.scr xs=>some (.int xs.length) |.dct xs=>some (.int xs.length) |.fd xs=>some (.int xs.length)
 |.str x=>if x.length<=ja then some (.int x.length) else none
 |_=>none
theorem zpV:S1E (fun xs H Q=>((∃ p ys,xs=[.ref p]/\(SqL TheK.K H p ys∨SqT TheK.K H p ys)/\Q (.int ys.length) H)∨(∃ z,xs=[.str z]/\z.length<=ja/\Q (.int z.length) H))∨∃ a kvs,xs=[V.ref a]/\Rd H a (.dK kvs)/\Q (.int kvs.length) H) zbV:=by
 intro C H x tx t Q bx hg q;cases tx with
 |lst ts=>
  injection hg with hg; subst hg;obtain⟨a,vs,rfl,ha,ra⟩:=bx.lst;exact .inl (.inl ⟨a,vs,rfl,.inl (SqL.of ha),by rw[ra.1]; exact q _ (.int _)⟩)
 |tup ts=>
  injection hg with hg; subst hg;obtain⟨a,vs,rfl,ha,ra⟩:=bx.tup;exact .inl (.inl ⟨a,vs,rfl,.inr (SqT.of ha),by rw[ra.1]; exact q _ (.int _)⟩)
 |scr ns=>
  injection hg with hg; subst hg;obtain⟨a,rfl,ha⟩:=bx.scr;exact .inl (.inl ⟨a,_,rfl,.inl ha,by rw[je]; exact q _ (.int _)⟩)
 |dct ks=>
  injection hg with hg; subst hg;obtain⟨a,kvs,rfl,ha,ra⟩:=bx.dct;exact .inr ⟨a,kvs,rfl,.inl ha,by rw[ra.len]; exact q _ (.int _)⟩
 |fd ks=>
  injection hg with hg; subst hg;obtain⟨a,ob,kvs,rfl,ha,ra,_⟩:=bx.fd;exact .inr ⟨a,kvs,rfl,.inr ⟨ob,ha⟩,by rw[ra.len]; exact q _ (.int _)⟩
 |str z=>
  have hg:(if z.length<=ja then some (T.int z.length) else none)=some t:=hg
  split at hg
  ·rename_i hl;injection hg with hg; subst hg;exact .inl (.inr ⟨z,by rw[bx.str],hl,q _ (.int _)⟩)
  ·cases hg
 |_=>cases hg
def isi(c:String):T->Option Bool
 |.non=>some (c == "NoneType") |.bl _=>some (c == "bool"||c == "int") |.int _=>some (c == "int") |.str _=>some (c == "str")
 |.lst _=>some (c == "list") |.tup _=>some (c == "tuple") |.dct _=>some (c == "dict")
 |_=>none
def dA2(g:Int->Int->Int)(fa:DA):DE:=fun s=>(fa s).bind fun p=>match p.1 with
 |[.int i,.int j]=>some (.int (g i j),p.2)
 |_=>none
theorem zjL{M:List Nat}{fa:DA}{g:Int->Int->Int}:∀ σ H Q,cE .e M (dA2 g fa) σ H Q->tCB (fun xs H Q=>∃ i j,xs=[.int i,.int j]/\Q (.int (g i j)) H) (cA M fa) σ H Q:=by
 intro σ H Q h_;refine cE_ h_ fun F O s t s' R hf q=>?_;obtain⟨⟨p1,p2⟩,h1,h2⟩:=Qb hf;refine⟨F,O,s,p1,p2,R,h1,fun vs H1 S1 R1 rs=>?_⟩;dsimp only at h2;split at h2
 ·rename_i i j;cases h2;cases vs with
  |cons v vs=>
   obtain⟨u,rfl,ru⟩:=rs.tail.one;obtain rfl:v=.int i:=BRep.int (.inl rs.head);obtain rfl:u=.int j:=BRep.int (.inl ru);exact⟨i,j,rfl,q _ H1 S1 ⟨R1,.int _⟩⟩
  |nil=>exact nomatch rs.1
 ·cases h2
def zce:List T->Option (List Str)
 |[]=>some []
 |.str x::ts=>(zce ts).map fun r=>x::r
 |_=>none
theorem zd2{C:ji->Prop}{H:Hp}:∀ {vs:List V} {ts:List T} {ys:List Str},Reps C H vs ts->zce ts=some ys->vs=ys.map V.str
 |[],[],ys,_,e=>by injection e with e; subst e; rfl
 |v::vs,[],ys,h,_=>by have:=h.1; simp at this
 |[],t::ts,ys,h,_=>by have:=h.1; simp at this
 |v::vs,t::ts,ys,h,e=>by
  cases t with
  |str x=>
   obtain⟨r,h1,h2⟩:=Qm e;subst h2;rw[jp,zd2 h.tail h1,BRep.str (.inl h.head)]
  |_=>cases e
theorem zbG(ys:List Str):zce (ys.map T.str)=some ys:=by
 induction ys with
 |nil=>rfl
 |cons y ys ih=>rw[jp]; unfold zce; rw[ih]; rfl
def zjd(z:Str)(t:T):Option T:=match t with
 |.lst ts=>(zce ts).bind fun ys=>if (ys.map (·.length)).sum+ys.length*z.length<=16777216 then some (.str (gA z ys)) else none
 |_=>none
def zgq(f:DE)(g:DE):DE:=fun s=>(f s).bind fun p=>match p.1 with
 |.str z=>(g p.2).bind fun q=>(zjd z q.1).map fun t=>(t,q.2)
 |_=>none
theorem zoj{M:List Nat}{f g:DE}{K:j9}:∀ σ H Q,cE .e M (zgq f g) σ H Q->tBM K "str" (zm2 K) (cE .e M f) (zb8 (cE .b M g) zfT) σ H Q:=by
 intro σ H Q h_;refine cE_ h_ fun F O s t s' R hf q=>?_;obtain⟨⟨p1,p2⟩,h1,h2⟩:=Qb hf;obtain⟨z,rfl⟩:∃ z,p1=.str z:=by cases p1<;>first |exact⟨_,rfl⟩ |cases h2
 obtain⟨⟨q1,q2⟩,h3,h4⟩:=Qb h2;obtain⟨t',h5,h6⟩:=Qm h4;cases h6;refine⟨F,O,s,_,_,R,h1,fun v H1 S1 pa=>?_⟩;obtain rfl:v=.str z:=BRep.str (.inl pa.2);refine⟨rfl,F,O,_,_,_,pa.1,h3,fun u H2 S2 pb=>?_⟩;obtain⟨ts,rfl⟩:∃ ts,q1=.lst ts:=by cases q1<;>first |exact⟨_,rfl⟩ |cases h5
 obtain⟨ys,h8,h9⟩:=Qb h5;split at h9
 ·rename_i hl;cases h9;obtain⟨a,vs,rfl,ha,ra⟩:=pb.view.lst;rw[zd2 ra h8] at ha;exact⟨z,a,ys,rfl,rfl,SqL.of ha,hl,q _ H2 (S1.trans S2) ⟨pb.1,.str _⟩⟩
 ·cases h9
theorem zlr{x:V}:∀ {ys:List V} {us:List j5},Vals ys us->ys.all zcH=true->us.countP (eqU x)=ys.countP fun y=>eqV y x
 |[],_,.nil,_=>rfl
 |y::ys,u::us,.cons r t,h=>by
  rw[gz,jo] at h;rw[Wd,Wd,zlr t h.2,zjh r h.1]
def zg8:V->List V->Hp->VK->Prop:=fun x vs H Q=>∃(l:ji) (ys:List V) (z:V),x=.ref l/\vs=[z]/\zcH z=true/\ys.all zcH=true/\H l=some (.lst ys)/\Q (.int (ys.countP (fun y=>eqV y z):Nat)) H
theorem ziR{X:Cx}:MtR X "list.count" zg8:=by
 intro pc s sg H x vs v us Q I rx rv h;obtain⟨l,ys,z,rfl,rfl,fz,fy,hH,q⟩:=h;cases rx;obtain⟨u,rfl,ru⟩:=rv.one;obtain⟨its,n,r,e,hz⟩:=I.lst hH;refine Yb F.slot_list_count ⟨_,e,rfl⟩ F.entry_list_count (F.args_list_count_2 _ _) (SeqAt.list_countAt l its.toArray n none #[] u (eqU z)) ⟨e,fun w hw=>zd8 ru fz r fy w (by simpa using hw),?_⟩
 refine⟨.int (ys.countP (fun y=>eqV y z):Nat),H,I.tok _,⟨s.toks,?_⟩,q⟩;rw[List.toList_toArray,zlr r fy]
def ze7(x y:T):Option T:=match x with
 |.lst ts=>(zhq ts).bind fun vs=>(toV y).map fun v=>.int (vs.countP (fun u=>eqV u v):Nat)
 |_=>none
def S2M(r:V->List V->Hp->VK->Prop)(g:T->T->Option T):Prop:=∀(C:ji->Prop) (H:Hp) x y tx ty t (Q:VK),BRep C H x tx->BRep C H y ty->g tx ty=some t->(∀ v,Rep C H v t->Q v H)->r x [y] H Q
def d2L(g:T->T->Option T)(fa fb:DE):DE:=fun s=>(fa s).bind fun p=>if zj6 p.1 then (fb p.2).bind fun q=>(g p.1 q.1).map fun t=>(t,q.2) else none
theorem zrL{M:List Nat}{fa fb:DE}{K:j9}{r:V->List V->Hp->VK->Prop}{g:T->T->Option T}(h:S2M r g):∀ σ H Q,cE .e M (d2L g fa fb) σ H Q->tBM K "list" r (cE .e M fa) (zb8 (cE .b M fb) zfT) σ H Q:=by
 intro σ H Q h_;refine cE_ h_ fun F O s t s' R hf q=>?_;obtain⟨p,h1,h2⟩:=Qb hf;split at h2
 ·rename_i hl;obtain⟨w,h3,h4⟩:=Qb h2;obtain⟨t',h5,h6⟩:=Qm h4;injection h6 with h6 h7;subst h6 h7;refine⟨F,O,s,p.1,p.2,R,h1,fun v H1 S1 pa=>?_⟩;have ty:tyV K "list" v H1:=by
   obtain⟨ts,e⟩:∃ ts,p.1=.lst ts:=by cases e:p.1<;>first |exact⟨_,rfl⟩ |(rw[e] at hl; cases hl)
   have pr:=pa.2;rw[e] at pr;obtain⟨a,vs,rfl,ha,ra⟩:=BRep.lst (.inl pr);exact .inl ⟨rfl,_,SqL.of ha⟩
  refine⟨ty,F,O,p.2,w.1,w.2,pa.1,h3,fun u H2 S2 pb=>?_⟩;exact h (Free F O) H2 v u p.1 w.1 t' Q (.inl (pa.1.stay S2 pa.2)) pb.view h5 fun x rx=>q x H2 (S1.trans S2) ⟨pb.1,rx⟩
 ·cases h2
theorem zlV:S2M zg8 ze7:=by
 intro C H x y tx ty t Q bx by' hg q;obtain⟨ts,rfl⟩:∃ ts,tx=.lst ts:=by cases tx<;>first |exact⟨_,rfl⟩ |cases hg
 obtain⟨vs,h1,h2⟩:=Qb hg;obtain⟨v,h3,rfl⟩:=Qm h2;obtain⟨a,us,rfl,ha,ra⟩:=bx.lst;obtain⟨e1,e2⟩:=zg0 ra h1;obtain⟨e3,e4⟩:=zia by' h3;subst e1 e3;exact⟨a,_,_,rfl,rfl,e4,e2,ha,q _ (.int _)⟩
end L3
namespace L2
open PySem PySem.Spec PyProof.Rows
variable {X:Cx}
section
theorem zfZ{P:jt}{w:jS}{A:jP}{its:Array j5}{bs:List Bool}(r:Vals (bs.map V.bl) its.toList):TruthOf P w A (fun i v=>its[i]?=some v) (fun i=>bs.getD i false):=by
 intro i v s Q E hP hQ;have hi:=(gR.mp hP).1;have hl:bs.length=its.size:=by have:=r.length; simpa using this
 obtain⟨u,h1,h2⟩:=r.get (i:=i) (x:=.bl (bs[i]'(by lia))) (by rw[jk,j3 (by lia)]; rfl)
 rw[YW,hP] at h1;cases h1;cases h2;refine Qx ?_;have e:bs.getD i false=bs[i]'(by lia):=by rw[jM,j3 (by lia)]; rfl
 rw[<-e];exact hQ
theorem zkN(bs:List Bool):(jK bs.length).all (fun i=>bs.getD i false)=bs.all id:=by
 rw[Qe,jm,jm];constructor
 ·intro h b hb;obtain⟨i,hi,rfl⟩:=List.getElem_of_mem hb;have:=h i (jR.mpr hi)
  rwa [jM,j3 hi] at this
 ·intro h i hi;have hi':=jR.mp hi;rw[jM,j3 hi'];exact h _ (Q8 hi')
theorem Inv.walked{pc:List (ji × Obj)}{σ:St}{H:Hp}{s:j6}{o:Obj}{h':Qq}{tk:Nat}(I:Inv X pc σ H s)(k:∀ b u,b∉[s.heap.objs.size]->(s.heap.push o).get? b=some u->h'.get? b=some u):Inv X pc σ H { s with heap:=h',toks:=tk }:=
 I.kept fun b u e=>k b u (fun hm=>by
  have h1:=jq e;have h2:b=s.heap.objs.size:=by simpa using hm
  exact absurd (h2▸h1) (Qc _)) (j7 _ e)
theorem zkM(hc:X.calm=true):CallR X (.builtin "all") (fun xs H Q=>∃(a:ji) (bs:List Bool),xs=[V.ref a]/\SqL X.K H a (bs.map V.bl)/\Q (.bl (bs.all id)) H):=by
 intro pc s σ H xs us Q I rv h;obtain⟨a,bs,rfl,hq,q⟩:=h;obtain⟨u,rfl,ru⟩:=rv.one;cases ru;obtain⟨its,r,p,hz⟩:=I.list hq;have hh:X.A.in1.handled=none:=I.ok.hd hc;have ne:a≠s.heap.objs.size:=by obtain⟨o,n,e,_⟩:=p; exact jJ (jq e)
 refine call_all_walk (Y9 p.isList ⟨_,_,_,_,_,_,_,rfl,Walks.list hh _ a ne its.toArray,⟨⟨_,jn _ rfl,rfl,rfl⟩,p.isList.at fun o e=>j7 _ e⟩,zfZ (by simpa using r),fun h' tk k=>?_⟩)
 have hl:=r.length;rw[je] at hl;refine⟨.bl (bs.all id),H,I.walked k,?_,q⟩;rw[jj,<-hl,zkN]; rfl
end
section
variable {pc:List (ji × Obj)}{σ:St}{H:Hp}{s:j6}{a:ji}{kvs:List (Key × V)}
theorem Inv.known(I:Inv X pc σ H s)(e:H a=some (.dK kvs)):∃ o,Inv X pc σ (upd H a (.frz o (.dK kvs))) s:=by
 obtain⟨z,hd,vs,rel,o,es,ep,ho,r⟩:=zov I.hok e;refine⟨o,?_⟩;have ne:∀ {b:ji},H b=none->b≠a:=fun {b} hb z=>by rw[z,e] at hb; cases hb
 refine⟨I.ok,I.os,I.bare,⟨fun b ob hb n1 n2 n3=>I.base.keep b ob hb n1 n2 n3,fun b ob hb n1 n2 n3=>I.base.slot b ob hb n1 n2 n3,fun b ob hb n1 n2=>?_,fun b ob hb n1=>I.base.there b ob hb n1,fun b xs hb=>?_,fun b ob u hb=>?_,fun b ps hb=>?_⟩,I.loc,I.cell,?_,fun x c hc=>?_,fun p hp=>?_,fun b u hb=>?_,I.len⟩
 ·have:=I.base.free b ob hb n1 n2;rw[za1 (ne this)]; exact this
 ·have:=I.base.tups b xs hb;have hne:b≠a:=fun z=>by rw[z,e] at this; cases this
  rw[za1 hne]; exact this
 ·have:=I.base.frzs b ob u hb;have hne:b≠a:=fun z=>by rw[z,e] at this; cases this
  rw[za1 hne]; exact this
 ·obtain⟨more,this⟩:=I.base.tbls b ps hb;have hne:b≠a:=fun z=>by rw[z,e] at this; cases this
  exact⟨more,by rw[za1 hne]; exact this⟩
 ·rw[za1 (ne I.free)]; exact I.free
 ·have:=I.freeC x c hc;rw[za1 (ne this)]; exact this
 ·obtain⟨p1,p2,p3⟩:=I.pin p hp;exact⟨p1,by rw[za1 (ne p2)]; exact p2,p3⟩
 ·by_cases hba:b=a
  ·subst hba;rw[za5] at hb;cases hb;exact⟨ho,z,hd,vs,rel,o,es,ep,ho,r⟩
  ·rw[za1 hba] at hb;refine(I.hok b u hb).stay (fun c v _ q=>q) (fun c q=>?_) fun c xs q=>?_
   ·have hne:c≠a:=fun z=>by rw[z,e] at q; cases q
    rw[za1 hne]; exact q
   ·have hne:c≠a:=fun z=>by rw[z,e] at q; cases q
    rw[za1 hne]; exact q
end
def Itd(f:Key × V->V)(a:ji)(o:Obj):It:=
 ⟨fun i H=>∃ kvs x,H a=some (.frz o (.dK kvs))/\kvs[i]?=some x,fun i H x H'=>H'=H/\∀ kvs,H a=some (.frz o (.dK kvs))->(kvs[i]?).map f=some x,fun i H=>∃ kvs,H a=some (.frz o (.dK kvs))/\kvs.length<=i⟩
theorem zbs{X:Cx}{pc:List (ji × Obj)}{σ:St}{H:Hp}{s:j6}{a:ji}{o:Obj}{kvs:List (Key × V)}(I:Inv X pc σ H s)(e:H a=some (.frz o (.dK kvs))) :
  ∃ vs es ep,KV kvs vs/\s.heap.DictAt (zaC X.prog X.w) a vs ep/\o.data=.dict es ep/\es.size=vs.length/\(a == Z0)=false:=by
 obtain⟨ho,z,hd,vs,rel,o',es,ep,ho',c,d,k,p,n⟩:=(I.hok a _ e);rw[ho] at ho';cases ho';exact⟨vs,es,ep,rel,⟨o,es,ho,c,d,k,p,n⟩,d,by rw[<-p.length]; simp,hd⟩
theorem zi8{P:jt}{w:jS}{K:j9}{tg:jU}(a it:ji)(o:Obj):Turn P w K tg (Itd (fun kv=>kV kv.1) a o) [it] it (fun i h=>∃ n ep es,h.IsKeyIter it a i n ep/\o.data=.dict es ep/\es.size=n) where
 mem:=by simp
 obj:=fun i h st b hb=>by
  have e:b=it:=by simpa using hb
  subst e;obtain⟨n,ep,es,⟨o',e,c,d⟩,_⟩:=st;exact⟨o',e,fun v z=>by rw[d] at z; cases z⟩
 keep:=fun i h h' ⟨n,ep,es,st,r⟩ k=>⟨n,ep,es,st.at fun o e=>k it (by simp) o e,r⟩
 item:=by
  intro X hP hw hK hc i pc s σ H E I hf st hg;subst hP hw hK;obtain⟨kvs,x,hq,hx⟩:=hg;obtain⟨n,ep,es,st,d1,d2⟩:=st;obtain⟨vs,es',ep',rel,da,d3,d4,hd⟩:=zbs I hq;rw[d1] at d3;cases d3;obtain⟨y,hy,y1,y2⟩:=zld rel hx;obtain⟨f0,f1,f2,f3,f4,f5⟩:=hf it (by simp)
  rw[<-d2,d4] at st;refine wpAny_pyNext_dict_item st da (k:=y.1) (v:=y.2) hy fun key h' hkey st' sb=>?_;have I1:Inv X pc σ H { s with heap:=h' }:=I.turned (t':=s.toks) (fun b o hb e=>(sb.2 b hb).trans e) f0 f1 f3 f4 f5;obtain⟨o',e,c,d⟩:=id st';refine⟨key,rfl,zhL (s:={ s with heap:=h' }) e c d (by decide) ⟨kV x.1,H,I1,y1▸zm0 hkey,⟨rfl,fun kvs' h'=>?_⟩,⟨_,ep,es,st',d1,d4⟩,fun b hb=>(hf b hb).1⟩⟩
  rw[hq] at h';cases h';rw[hx]; rfl
 done:=by
  intro X hP hw hK hc i pc s σ H E I hf st hg;subst hP hw hK;obtain⟨kvs,hq,hx⟩:=hg;obtain⟨n,ep,es,st,d1,d2⟩:=st;obtain⟨vs,es',ep',rel,da,d3,d4,hd⟩:=zbs I hq;rw[d1] at d3;cases d3;obtain⟨f0,f1,f2,f3,f4,f5⟩:=hf it (by simp)
  have hl:=rel.length;rw[<-d2,d4] at st;exact wpAny_pyNext_dict_end (I.ok.hd hc) st da (by rw[ZG]; lia) fun h' eb=>⟨rfl,I.turned (t':=s.toks) (fun b o hb e=>eb b o hb e) f0 f1 f3 f4 f5⟩
 self:=fun _ _ _ _ _ ⟨_,_,_,st,_⟩ h=>wpAny_pyIter_keyiter st h
def zqz(tl:TE):TI:=fun σ H R=>tl σ H fun x H1=>∃ a o kvs,x=.ref a/\H1 a=some (.frz o (.dK kvs))/\R (Itd (fun kv=>kV kv.1) a o) H1
theorem zmo{X:Cx}{tg l:jU}{tl:TE}(hl:PE X l tl):PI X tg l (zqz tl):=by
 intro pc s σ H R I h;refine thn (hl pc s σ H _ I h) fun v s1 h_=>?_; obtain⟨x,H1,I1,r1,q1⟩:=h_;obtain⟨a,o,kvs,e,hq,q⟩:=q1;subst e;cases r1;obtain⟨vs,es,ep,rel,da,d3,d4,hd⟩:=zbs I1 hq;refine wpAny_pyIter_dict hd da ?_;refine⟨s1.heap.objs.size,[s1.heap.objs.size],_,_,H1,rfl,I1.kept (t':=s1.toks) fun b o e=>j7 _ e,zi8 a _ o,⟨_,ep,es,⟨_,jn _ rfl,rfl,rfl⟩,d3,d4⟩,fun b hb=>?_,q⟩;have e:b=s1.heap.objs.size:=by simpa using hb
 subst e;exact I1.fpOk (jl _) (I1.hok.fresh (jl _))
theorem zi6{P:jt}{w:jS}{K:j9}{tg:jU}(a it:ji)(o:Obj):Turn P w K tg (Itd (fun kv=>kv.2) a o) [it] it (fun i h=>∃ n ep es,h.IsValIter it a i n ep/\o.data=.dict es ep/\es.size=n) where
 mem:=by simp
 obj:=fun i h st b hb=>by
  have e:b=it:=by simpa using hb
  subst e;obtain⟨n,ep,es,⟨o',e,c,d⟩,_⟩:=st;exact⟨o',e,fun v z=>by rw[d] at z; cases z⟩
 keep:=fun i h h' ⟨n,ep,es,st,r⟩ k=>⟨n,ep,es,st.at fun o e=>k it (by simp) o e,r⟩
 item:=by
  intro X hP hw hK hc i pc s σ H E I hf st hg;subst hP hw hK;obtain⟨kvs,x,hq,hx⟩:=hg;obtain⟨n,ep,es,st,d1,d2⟩:=st;obtain⟨vs,es',ep',rel,da,d3,d4,hd⟩:=zbs I hq;rw[d1] at d3;cases d3;obtain⟨y,hy,y1,y2⟩:=zld rel hx;obtain⟨f0,f1,f2,f3,f4,f5⟩:=hf it (by simp)
  rw[<-d2,d4] at st;refine wpAny_pyNext_values_item st da (k:=y.1) (v:=y.2) hy fun h' st' sb=>?_;have I1:Inv X pc σ H { s with heap:=h' }:=I.turned (t':=s.toks) (fun b o hb e=>(sb.2 b hb).trans e) f0 f1 f3 f4 f5;obtain⟨o',e,c,d⟩:=id st';refine⟨y.2,rfl,zhL (s:={ s with heap:=h' }) e c d (by decide) ⟨x.2,H,I1,y2,⟨rfl,fun kvs' h'=>?_⟩,⟨_,ep,es,st',d1,d4⟩,fun b hb=>(hf b hb).1⟩⟩
  rw[hq] at h';cases h';rw[hx]; rfl
 done:=by
  intro X hP hw hK hc i pc s σ H E I hf st hg;subst hP hw hK;obtain⟨kvs,hq,hx⟩:=hg;obtain⟨n,ep,es,st,d1,d2⟩:=st;obtain⟨vs,es',ep',rel,da,d3,d4,hd⟩:=zbs I hq;rw[d1] at d3;cases d3;obtain⟨f0,f1,f2,f3,f4,f5⟩:=hf it (by simp)
  have hl:=rel.length;rw[<-d2,d4] at st;exact wpAny_pyNext_values_end (I.ok.hd hc) st da (by rw[ZG]; lia) fun h' eb=>⟨rfl,I.turned (t':=s.toks) (fun b o hb e=>eb b o hb e) f0 f1 f3 f4 f5⟩
 self:=fun _ _ _ _ _ ⟨_,_,_,st,_⟩ h=>wpAny_pyIter_valiter st h
def zqv(tl:TE):TI:=fun σ H R=>tl σ H fun x H1=>∃ a o kvs,x=.ref a/\H1 a=some (.frz o (.dK kvs))/\R (Itd (fun kv=>kv.2) a o) H1
theorem zmm{X:Cx}{tg o:jU}{tl:TE}{apos cpos:Pos}(ho:PE X o tl)(hbase:Zb o "values" X.env (eval o X.env)=eval o X.env:=by rfl)(hline:(apos.endLine == cpos.line)=true:=by rfl):PI X tg (.Call (.Attribute o "values" apos) [] [] cpos) (zqv tl):=by
 intro pc s σ H R I h;refine Yu hbase hline (thn (ho pc s σ H _ I h) fun v s1 h_=>?_); obtain⟨x,H1,I1,r1,q1⟩:=h_;obtain⟨a,ob,kvs,e,hq,q⟩:=q1;subst e;cases r1;obtain⟨t1,t2,_⟩:=zlh I1 (.inl ⟨kvs,.inr ⟨ob,hq⟩⟩);obtain⟨vs,es,ep,rel,da,d3,d4,hd⟩:=zbs I1 hq;refine⟨"dict",_,Yw,Ye,PySem.F.type_dict_values,t1,t2,QF rfl (Nm ?_)⟩;refine W7 Ye t1 PySem.F.entry_dict_values (PySem.F.args_dict_values_1 _) (meets_dict_values (zaC X.prog X.w) a hd) ⟨⟨vs,da.dictOf⟩,?_⟩;have I2:Inv X pc σ H1 { s1 with heap:=s1.heap.push { cls:=.type "dict_values",data:=.fields #[.ref a] } }:=I1.kept (t':=s1.toks) fun b o e=>j7 _ e;obtain⟨vs,es,ep,rel,da,d3,d4,hd⟩:=zbs I2 hq;refine wpAny_pyIter_values ⟨_,jn _ rfl,rfl,rfl⟩ da ?_;refine⟨_,[_],_,_,H1,rfl,I2.kept (t':=s1.toks) fun b o e=>j7 _ e,zi6 a _ ob,⟨_,ep,es,⟨_,jn _ rfl,rfl,rfl⟩,d3,d4⟩,fun b hb=>?_,q⟩;have e:b=(s1.heap.push { cls:=.type "dict_values",data:=.fields #[.ref a] }).objs.size:=by simpa using hb
 subst e;exact I2.fpOk (jl _) (I2.hok.fresh (jl _))
def Its(x:Str):It:=⟨fun i _=>i < x.cps.size,fun i H v H'=>H'=H/\∃ c,x.cps[i]?=some c/\v=.str ⟨#[c]⟩,fun i _=>x.cps.size<=i⟩
theorem zeS{P:jt}{w:jS}{K:j9}{tg:jU}(it:ji)(x:Str)(t:Tok)(n:String)(hn:n="str_ascii_iterator"∨n="str_iterator"):Turn P w K tg (Its x) [it] it (fun i h=>h.IsStrIter it n x t i) where
 mem:=by simp
 obj:=fun i h st b hb=>by
  have e:b=it:=by simpa using hb
  subst e;obtain⟨o,e,c,d⟩:=st;exact⟨o,e,fun v z=>by rw[d] at z; cases z⟩
 keep:=fun i h h' st k=>let ⟨o,ho,r⟩:=st; ⟨o,k it (by simp) o ho,r⟩
 item:=by
  intro X hP hw hK hc i pc s σ H E I hf st hg;subst hP hw hK;obtain⟨f0,f1,f2,f3,f4,f5⟩:=hf it (by simp)
  have hg:i < x.cps.size:=hg;have fin:∀ h',h'.IsStrIter it n x t (i+1)->Qu it s.heap h'->∀ u,u=Zo ⟨#[x.cps[i]]⟩ s.toks->∃ u',some u=some u'/\jy (jE X.prog X.w) X.A (ZR tg (.ref it) u') (fun _ s2=>∃ y H',Inv X pc σ H' s2/\RelV y u'/\(Its x).yld i H y H'/\s2.heap.IsStrIter it n x t (i+1)/\∀ b∈[it],H' b=none) E { s with heap:=h',toks:=s.toks+1 }:=by
   intro h' st' sb u hu;have I1:Inv X pc σ H { s with heap:=h',toks:=s.toks+1 }:=I.turned (fun b o hb e=>(sb.2 b hb).trans e) f0 f1 f3 f4 f5;obtain⟨o',e,c,d⟩:=id st';refine⟨u,rfl,zhL (s:={ s with heap:=h',toks:=s.toks+1 }) e c d (by rcases hn with rfl |rfl<;>decide) ⟨.str ⟨#[x.cps[i]]⟩,H,I1,⟨_,hu⟩,⟨rfl,_,by simp[hg],rfl⟩,st',fun b hb=>(hf b hb).1⟩⟩
  rcases hn with rfl |rfl
  ·exact wpAny_pyNext_ascii_item st (c:=x.cps[i]) (by simp[hg]) fun h' st' sb=>fin h' st' sb _ rfl
  ·exact wpAny_pyNext_wide_item st (c:=x.cps[i]) (by simp[hg]) fun h' st' sb=>fin h' st' sb _ rfl
 done:=by
  intro X hP hw hK hc i pc s σ H E I hf st hg;subst hP hw hK;obtain⟨f0,f1,f2,f3,f4,f5⟩:=hf it (by simp)
  have hg:x.cps.size<=i:=hg;rcases hn with rfl |rfl
  ·exact wpAny_pyNext_ascii_end (I.ok.hd hc) st (by simp[hg]) fun h' eb=>⟨rfl,I.turned (t':=s.toks) (fun b o hb e=>eb b o hb e) f0 f1 f3 f4 f5⟩
  ·exact wpAny_pyNext_wide_end (I.ok.hd hc) st (by simp[hg]) fun h' eb=>⟨rfl,I.turned (t':=s.toks) (fun b o hb e=>eb b o hb e) f0 f1 f3 f4 f5⟩
 self:=fun _ _ _ _ _ st h=>by
  rcases hn with rfl |rfl
  ·exact wpAny_pyIter_striter_ascii st h
  ·exact wpAny_pyIter_striter_wide st h
def zqw(tl:TE):TI:=fun σ H R=>tl σ H fun v H1=>∃ x,v=.str x/\R (Its x) H1
theorem zmn{X:Cx}{tg l:jU}{tl:TE}(hl:PE X l tl):PI X tg l (zqw tl):=by
 intro pc s σ H R I h;refine thn (hl pc s σ H _ I h) fun v s1 h_=>?_; obtain⟨y,H1,I1,r1,q1⟩:=h_;obtain⟨x,e,q⟩:=q1;subst e;obtain⟨t,rfl⟩:=r1;have fp:∀ b∈[s1.heap.objs.size],zhZ X pc H1 b:=fun b hb=>by
  have e:b=s1.heap.objs.size:=by simpa using hb
  subst e;exact I1.fpOk (jl _) (I1.hok.fresh (jl _))
 cases ha:x.cps.all (· < 128)
 ·exact wpAny_pyIter_wide ha ⟨s1.heap.objs.size,[s1.heap.objs.size],_,_,H1,rfl,I1.kept (t':=s1.toks) fun b o e=>j7 _ e,zeS _ x t "str_iterator" (.inr rfl),⟨_,jn _ rfl,rfl,rfl⟩,fp,q⟩
 ·exact wpAny_pyIter_ascii ha ⟨s1.heap.objs.size,[s1.heap.objs.size],_,_,H1,rfl,I1.kept (t':=s1.toks) fun b o e=>j7 _ e,zeS _ x t "str_ascii_iterator" (.inl rfl),⟨_,jn _ rfl,rfl,rfl⟩,fp,q⟩
def leS(a b:Str):Bool:=!decide (b.cps.toList < a.cps.toList)
theorem leS_iff{a b:Str}:leS a b=true↔a.cps.toList<=b.cps.toList:=by
 unfold leS;rw[NU,decide_eq_false_iff_not,List.not_lt]
theorem zfr(a b c:Str)(h:leS a b=true)(h':leS b c=true):leS a c=true:=leS_iff.mpr (List.le_trans (leS_iff.mp h) (leS_iff.mp h'))
theorem ziW(a b:Str):(leS a b||leS b a)=true:=by
 rw[jX,leS_iff,leS_iff];exact List.le_total _ _
theorem zfs{a b:Str}(h:leS a b=true)(h':leS b a=true):a=b:=by
 have:=List.le_antisymm (leS_iff.mp h) (leS_iff.mp h');cases a; cases b;simp at this;rw[this]
def zaW(l:List Str):List Str:=l.mergeSort leS
theorem zbi(l:List Str):(zaW l).Perm l:=Nq l leS
theorem zjO(l:List Str):(zaW l).Pairwise fun a b=>leS a b=true:=Yx zfr ziW l
theorem zcK{l m:List Str}(hp:m.Perm l)(hm:m.Pairwise fun a b=>leS a b=true):m=zaW l:=
 Yf (fun a b _ _ h h'=>zfs h h') hm (zjO l) (hp.trans (zbi l).symm)
theorem zf5:∀(l:List Str) (p:Str),risingS p l=true->(p::l).Pairwise fun a b=>leS a b=true
 |[],p,_=>by simp
 |x::r,p,h=>by
  have h:(!ltCps x.cps.toList p.cps.toList&&risingS x r)=true:=h;rw[jo,ltCps_eq] at h;have ih:=zf5 r x h.2;rw[ND];refine⟨fun y hy=>?_,ih⟩;rcases jA.mp hy with e |e
  ·rw[e]; exact h.1
  ·exact zfr _ _ _ h.1 ((ND.mp ih).1 y e)
theorem zdY{l:List Str}(h:sortedS l=true):l.Pairwise fun a b=>leS a b=true:=by
 cases l with
 |nil=>exact .nil
 |cons x r=>exact zf5 r x h
theorem zdi:∀ {ss:List Str} {us:List j5},Vals (ss.map V.str) us->Wn us ss
 |[],_,.nil=>.nil
 |s::ss,_,.cons r t=>by obtain⟨t',rfl⟩:=r; exact .cons s t' (zdi t)
theorem zbF:∀ {us:List j5} {ss:List Str},Wn us ss->Vals (ss.map V.str) us
 |_,_,.nil=>.nil
 |_,_,.cons y t h=>.cons ⟨t,rfl⟩ (zbF h)
theorem zbZ:∀ {us:List j5} {ss:List Str},Wn us ss->us.length=ss.length
 |_,_,.nil=>rfl
 |_,_,.cons y t h=>by simp[zbZ h]
theorem zdE:∀ {ss:List Int} {us:List j5},Vals (ss.map V.int) us->NS us ss
 |[],_,.nil=>.nil
 |s::ss,_,.cons r t=>by obtain⟨t',rfl⟩:=r; exact .cons s t' (zdE t)
theorem zcJ:∀ {us:List j5} {ss:List Int},NS us ss->Vals (ss.map V.int) us
 |_,_,.nil=>.nil
 |_,_,.cons y t h=>.cons ⟨t,rfl⟩ (zcJ h)
def leI(a b:Int):Bool:=decide (a<=b)
def zed(l:List Int):List Int:=l.mergeSort leI
theorem zdZ(l:List Int):(zed l).Perm l:=Nq l leI
theorem zjP(l:List Int):(zed l).Pairwise fun a b=>leI a b=true:=Yx (fun a b c h h'=>by unfold leI at *; rw[decide_eq_true_iff] at *; lia) (fun a b=>by unfold leI; rw[jX,decide_eq_true_iff,decide_eq_true_iff]; lia) l
theorem zeX{l m:List Int}(hp:m.Perm l)(hm:m.Pairwise (·<=·)):m=zed l:=
 Yf (le:=fun a b=>leI a b=true) (fun a b _ _ h h'=>by unfold leI at h h'; rw[decide_eq_true_iff] at h h'; lia) (hm.imp fun h=>Dt_ h) (zjP l) (hp.trans (zdZ l).symm)
section
theorem zfH:CallR X (.builtin "sorted") (fun xs H Q=>∃(a:ji) (ss:List Str),xs=[V.ref a]/\SqL X.K H a (ss.map V.str)/\ss.length < 64/\∀ l,H l=none->Q (.ref l) (upd H l (.lst ((zaW ss).map V.str)))):=by
 intro pc s σ H xs us Q I rv h;obtain⟨a,ss,rfl,hq,hl,q⟩:=h;obtain⟨u,rfl,ru⟩:=rv.one;cases ru;obtain⟨its,r,p,hz⟩:=I.list hq;have sa:=zdi r;have hlen:=zbZ sa;refine sorted_strs p.isList sa (by lia) fun out ss' h1 h2 h3=>?_
 obtain⟨e,he⟩:=sortedAll_at s.heap its out;have hs:=zcK h2 (zdY h3);subst hs;exact⟨.ref (s.heap.objs.size+1),_,I.laid (a:=s.heap.objs.size+1) (o:=.lst ((zaW ss).map V.str)) (t':=s.toks) (fun b o e=>sortedAll_old e) (QN _) ⟨by rw[je,(zbi ss).length_eq,Qs]; lia,out.toList,e,zbF h1,by rw[he]⟩,rfl,q _ (I.hok.fresh (QN _))⟩
theorem zfI:CallR X (.builtin "sorted") (fun xs H Q=>∃(a:ji) (ss:List Int),xs=[V.ref a]/\SqL X.K H a (ss.map V.int)/\ss.length < 64/\∀ l,H l=none->Q (.ref l) (upd H l (.lst ((zed ss).map V.int)))):=by
 intro pc s σ H xs us Q I rv h;obtain⟨a,ss,rfl,hq,hl,q⟩:=h;obtain⟨u,rfl,ru⟩:=rv.one;cases ru;obtain⟨its,r,p,hz⟩:=I.list hq;have sa:=zdE r;have hlen:=r.length;rw[je] at hlen;refine sorted_ints p.isList sa (by lia) fun out ss' h1 h2 h3=>?_
 obtain⟨e,he⟩:=sortedAll_at s.heap its out;have hs:=zeX h2 h3;subst hs;exact⟨.ref (s.heap.objs.size+1),_,I.laid (a:=s.heap.objs.size+1) (o:=.lst ((zed ss).map V.int)) (t':=s.toks) (fun b o e=>sortedAll_old e) (QN _) ⟨by rw[je,(zdZ ss).length_eq,Qs]; lia,out.toList,e,zcJ h1,by rw[he]⟩,rfl,q _ (I.hok.fresh (QN _))⟩
end
section
theorem zcc:∀ {l:List (Str × Tok)} {ys:List Str},l.map (·.1)=ys->Vals (ys.map V.str) (strValues l)
 |[],_,h=>by subst h; exact .nil
 |p::l,_,h=>by subst h; exact .cons ⟨p.2,rfl⟩ (zcc rfl)
def zio:V->List V->Hp->VK->Prop:=fun x vs H Q=>∃ z y,x=.str z/\vs=[.str y]/\(y.length == 0)=false/\z.length<=ja/\(jx z y).length<=ja /\
 (Z4 z (Qi z y 0 z.length (z.length+1)) y.length).length<=ja/\∀ l,H l=none->Q (.ref l) (upd H l (.lst ((jx z y).map V.str)))
theorem zd7:MtR X "str.split" zio:=by
 intro pc s σ H x vs v us Q I rx rv h;obtain⟨z,y,rfl,rfl,hy,hx,hl,hn,q⟩:=h;obtain⟨t,rfl⟩:=rx;obtain⟨u,rfl,ru⟩:=rv.one;obtain⟨t',rfl⟩:=ru;have fin:∀(l:List (Str × Tok)) (tk:Nat),l.map (·.1)=jx z y->EP X pc σ Q (.ref s.heap.objs.size) { s with toks:=tk,heap:=s.heap.push { cls:=.type "list",data:=.seq (strValues l).toArray } }:=fun l tk e=>
  ⟨.ref s.heap.objs.size,_,I.laid (a:=s.heap.objs.size) (o:=.lst ((jx z y).map V.str)) (t':=tk) (fun b o e=>j7 _ e) (jl _) ⟨by rw[je]; exact hl,strValues l,0,zcc e,jn _ rfl⟩,rfl,q _ (I.hok.fresh (jl _))⟩
 have hT:s.TypeIs (.str z t) "str":=N6 _ _ _;cases h1:(decide (z.length < y.length)||decide (Nr z < Nr y))
 ·cases hf:(Qi z y 0 z.length (z.length+1)).isEmpty
  ·refine Yb YJ hT Yg (Y1 _ _) (meets_str_split_sep z y t t' h1 hy hf hx hn) ?_;rw[strsFrom_eq];exact fin _ _ ((numbered_texts _ _).trans ((In_ (ne_true_of_eq_false h1)).trans (In_ (ne_true_of_eq_false hf))).symm)
  ·exact Yb YJ hT Yg (Y1 _ _) (meets_str_split_not_found z y t t' h1 hy hf) (fin [(z,t)] s.toks ((In_ (ne_true_of_eq_false h1)).trans (Ip_ hf)).symm)
 ·exact Yb YJ hT Yg (Y1 _ _) (meets_str_split_cannot_occur z y t t' h1) (fin [(z,t)] s.toks (Ip_ h1).symm)
end
section
variable {P:jt}{w:jS}{A:jP}{R:WF->j6->Prop}{I:ji}{fp wr:List ji}{G:Array Yq->Array Yq->Prop}{n:Nat}{Pv:Nat->j5->Prop}{St:Nat->j6->Prop}
theorem zgF:∀(l acc:List Str),(l.foldl Dw.stp acc).length<=acc.length+l.length
 |[],acc=>jl _
 |x::l,acc=>by
  rw[QC];have:=zgF l (Dw.stp acc x);have h2:(Dw.stp acc x).length<=acc.length+1:=by
   unfold Dw.stp;split
   ·lia
   ·rw[js]; exact jl _
  rw[jw];lia
end
section
variable {P:jt}{w:jS}{A:jP}{E:j5->j6->Prop}{s:j6}
def zjS(led:Bool):Obj:={ cls:=.type "set",dict:=none,data:=.set #[] 0 (.fresh 0 0 led) }
end
end L2
namespace L2
open PySem PySem.Spec PyProof.Rows
open PySem.W (hideAll hideAll_get of_hideAll hideAll_none funFrames_hide)
structure Fly (P:jt) (w:jS) (outer:List Env) (H:Hp) (s:j6) (x C:ji) (a0:j5) (B:Qq) (H':Hp) (s':j6):Prop where
 os:s'.os=s.os
 bare:Yp s'.gens
 fly:Heap.FlyingW B outer x (.ref C) a0 s'.heap
 hok:HOk P w H' B
 un:Un (frs outer) [] H H' s.heap s'.heap
 keep:∀ b o,s.heap.get? b=some o->H b=none->b∉frs outer->B.get? b=some o
 has:∀ b o,s.heap.get? b=some o->b∉frs outer->∃ o',B.get? b=some o'
 fr:∀ b∈frs outer,H' b=none
def CX1(P:jt)(w:jS):CXT:=fun outer H s E e s'=>∃ x C a0 B H',e=.ref x/\Fly P w outer H s x C a0 B H' s'/\E (.ref C) none H'
theorem Fly.on{P:jt}{w:jS}{outer:List Env}{H H':Hp}{s s':j6}{x C:ji}{a0:j5}{B h'':Qq}(F:Fly P w outer H s x C a0 B H' s')(st:B.StaysIn h'')(up:s'.heap.UpToSlots h'')(funs:s.heap.FunFrames base outer) :
  Un (frs outer) [] H H' s.heap h'':=by
 have sl:∀ b o,s.heap.get? b=some o->H b=none->b∈frs outer->∃ sl,h''.get? b=some { o with slots:=sl }:=fun b o e n hb=>by
  obtain⟨sl,e1⟩:=F.un.slot b o e n hb (by simp)
  obtain⟨_,o',ho',hd'⟩:=funs.mem hb;rw[e] at ho';cases jg ho';obtain⟨sl2,e2⟩:=up b _ e1 hd';exact⟨sl2,e2⟩
 refine⟨fun b o e n hb _=>st b o (F.keep b o e n hb),fun b o e n hb _=>sl b o e n hb,F.un.free,fun b o e _=>?_,F.un.tups,F.un.frzs,F.un.tbls⟩
 by_cases hb:b∈frs outer
 ·obtain⟨o1,e1⟩:=F.un.there b o e (by simp)
  obtain⟨_,o',ho',hd'⟩:=funs.mem hb
  by_cases n:H b=none
  ·obtain⟨sl,e2⟩:=sl b o e n hb;exact⟨_,e2⟩
  ·obtain⟨_,_,ho2,hd2⟩:=F.fly.2.2.1.mem hb;obtain⟨sl,e2⟩:=up b _ ho2 hd2;exact⟨_,e2⟩
 ·obtain⟨o',e1⟩:=F.has b o e hb;exact⟨o',st b o' e1⟩
section
variable {P:jt}{w:jS}{K:j9}{mg:Str->Option j5}{base:Qq}{N:List Str}{qual:Str}{scope:gO}{f:ji}{cd:j5}{A:jP}{outer:List Env}{s:j6}{H:Hp}{E:XK}
theorem zhv{pc:List (ji × Obj)}{σ:St}{Hc:Hp}{s2:j6}{h':Qq}{e C:ji}{vs:List j5}{tk:Nat}
  (I:Inv (zeN (CX1 P w) P w K mg base N qual scope f cd A outer s H E) pc σ Hc s2) (hA:A.frames=some outer) (hx:Wx s2.heap h' e (.ref C) vs) (hE:E (.ref C) none Hc) :
  (zeN (CX1 P w) P w K mg base N qual scope f cd A outer s H E).xe (.ref e) { s2 with heap:=h',toks:=tk }:=by
 have stk:=I.stack;have fsub:∀ env∈(ZC qual scope s.heap.objs.size f cd::outer),∀ b,env.frame=some b->b∈frs (ZC qual scope s.heap.objs.size f cd::outer):=fun env he b hb=>gV.mpr ⟨env,he,hb⟩;refine wpAny_leaves_madeW (base:=hideAll s2.heap (frs (ZC qual scope s.heap.objs.size f cd::outer))) (Na hA) rfl (fun b o q=>of_hideAll _ q) (funFrames_hide stk fsub) hx fun h'' t x1 x2 x3 x4=>?_;have own:∀ b o,s.heap.get? b=some o->b∉frs outer->b∉frs (ZC qual scope s.heap.objs.size f cd::outer):=fun b o q hb hm=>by
  unfold frs at hm;rw[Z7] at hm;rcases jA.mp hm with z |z
  ·exact absurd (jq q) (by rw[z]; exact Qc _)
  ·exact hb z
 have un:Un (frs outer) [] H Hc s.heap s2.heap:=I.base;have up:=(WR hx.keeps).trans x4;refine⟨e,C,_,hideAll s2.heap (frs (ZC qual scope s.heap.objs.size f cd::outer)),Hc,rfl,⟨I.os,I.bare,x1,fun a o q=>?_,⟨fun b o q n hb _=>?_,fun b o q n hb _=>?_,un.free,fun b o q _=>?_,un.tups,un.frzs,un.tbls⟩,fun b o q n hb=>?_,fun b o q hb=>?_,fun b hb=>?_⟩,hE⟩
 ·have nf:∀ b u,Hc b=some u->b∉frs (ZC qual scope s.heap.objs.size f cd::outer):=fun b u hu hm=>by
   rw[I.stkFree b hm] at hu;cases hu
  exact(I.hok a o q).stay (fun b u hb r=>Yy _ r (by
   rcases hb with rfl |hb
   ·exact nf _ _ q
   ·exact nf _ _ hb)) (fun _ r=>r) fun _ _ r=>r
 ·exact x1.1 b o (Yy _ (un.keep b o q n hb (by simp)) (own b o q hb))
 ·obtain⟨sl,e1⟩:=un.slot b o q n hb (by simp)
  obtain⟨_,o',ho',hd'⟩:=I.funs.mem hb;rw[e1] at ho';cases jg ho';obtain⟨sl2,e2⟩:=up b _ e1 hd';exact⟨sl2,e2⟩
 ·obtain⟨o1,e1⟩:=un.there b o q (by simp)
  by_cases hb:b∈frs outer
  ·obtain⟨_,o',ho',hd'⟩:=I.funs.mem hb;obtain⟨sl2,e2⟩:=up b _ ho' hd';exact⟨_,e2⟩
  ·exact⟨o1,x1.1 b o1 (Yy _ e1 (own b o q hb))⟩
 ·exact Yy _ (un.keep b o q n hb (by simp)) (own b o q hb)
 ·obtain⟨o1,e1⟩:=un.there b o q (by simp)
  exact⟨o1,Yy _ e1 (own b o q hb)⟩
 ·refine I.stkFree b ?_;show b∈frs (ZC qual scope s.heap.objs.size f cd::outer);unfold frs;rw[Z7];exact jh _ hb
end
end L2
namespace L2
open PySem PySem.Spec PyProof.Rows
variable {X:Cx}
structure XCls (h:Qq) (C:ji) (bm:List j5):Prop where
 obj:∃ N nm q bs hdct sn sub ab col dd k0 k1 k2 k3 k5 mN,h.get? C=some (excClassObj nm q C N bs bm hdct sn sub ab col dd k0 k1 k2 k3 k5 "ValueError.__new__")/\h.Ns N mN/\mN "__init__"=none/\OwnTail h [.type "ValueError",.type "Exception",.type "BaseException",.type "object"] bm
theorem XCls.keeps{h h':Qq}{C:ji}{bm:List j5}(x:XCls h C bm)(k:∀ b o,h.get? b=some o->h'.get? b=some o):XCls h' C bm:=by
 obtain⟨N,nm,q,bs,hdct,sn,sub,ab,col,dd,k0,k1,k2,k3,k5,mN,e1,e2,e3,e4⟩:=x.obj;exact⟨N,nm,q,bs,hdct,sn,sub,ab,col,dd,k0,k1,k2,k3,k5,mN,k _ _ e1,e2.keeps k,e3,e4.keeps k⟩
def zhm(X:Cx)(E:XK):Prop:=∀(pc:List (ji × Obj)) (σ:St) (H:Hp) (s:j6) (h':Qq) (e C:ji) (vs:List j5),Inv X pc σ H s->Wx s.heap h' e (.ref C) vs->E (.ref C) none H->X.xe (.ref e) { s with heap:=h' }
theorem zfa{P:jt}{w:jS}{K:j9}{mg:Str->Option j5}{base:Qq}{N:List Str}{qual:Str}{scope:gO}{f:ji}{cd:j5}{A:jP}{outer:List Env}{s:j6}{H:Hp}{E:XK}(hA:A.frames=some outer) :
  zhm (zeN (CX1 P w) P w K mg base N qual scope f cd A outer s H E) E:=fun pc σ Hc s2 h' e C vs I hx hE=>zhv (tk:=s2.toks) I hA hx hE
section
variable {E:XK}{C:ji}{bm:List j5}{x:Str}{np cpos pos:Pos}{e0:jU}{es:List jU}{t:TA}
theorem zka(hR:zhm X E)(hc:X.calm=true)(xc:XCls X.base C bm)(hg:Gl X x)(hm:X.mg x=some (.ref C))(ha:PA X (e0::es) t)
  (he:jb (e0::es) X.env=(false,eval e0 X.env)::jb es X.env:=by rfl) (hpl:(Qr cpos (jb es X.env)).any (·.1)=false:=by rfl) (hd:(x == ("__debug__":Str))=false:=by decide) (hz:(e0::es).length<=100:=by decide) :
  PS X (.Raise (some (.Call (.Name x np) (e0::es) [] cpos)) none pos) (fun D σ H=>t σ H fun vs H1=>vs.length<=1000/\E (.ref C) none H1):=by
 intro pc s σ H D I h;obtain⟨N,nm,q,bs,hdct,sn,sub,ab,col,dd,k0,k1,k2,k3,k5,mN,e1,e2,e3,e4⟩:=xc.obj;refine wpAny_Raise_call_subT (C:=C) (nm:=nm) (q:=q) (N:=N) (bs:=bs) (bm:=bm) (hdct:=hdct) (sn:=sn) (sub:=sub) (ab:=ab) (col:=col) (dd:=dd) (k0:=k0) (k1:=k1) (k2:=k2) (k3:=k3) (k5:=k5)
  gv (mN:=mN) (e4.hasType gv.hasBase) (I.ok.hd hc) (by rw[he]; show (false||(Qr cpos (jb es X.env)).any (·.1))=false; rw[hpl]; rfl) e3 (zes I hg hm ⟨rfl,?_⟩ hd)
 have a:=ha cpos pc s σ H _ I h;rw[he] at a ⊢;refine ZE (Q7 a (fun us s2 h2=>?_) fun _ _ y=>y);obtain⟨vs,H1,I1,r,hl,hE⟩:=h2;have xc2:=I1.bk;refine⟨rfl,?_,xc2 _ _ e1,e2.keeps xc2,e4.keeps xc2,fun h' e hx=>hR pc σ H1 s2 h' e C us I1 hx hE⟩;rw[<-r.length,Qs];lia
end
def zbB(X:Cx):St:=gf X.N.length none
def zhY(x C:ji):HO:=.ext fun h=>∃ o,h.get? x=some o/\o.cls=.ref C
abbrev Cx.held(X:Cx)(x:ji):Cx:={ X with A:=X.A.mark (some (.ref x)),calm:=false,xe:=fun _ _=>False }
section
variable {pc:List (ji × Obj)}{σ:St}{H H':Hp}{s:j6}{x:ji}
theorem Inv.held(I:Inv X pc σ H s)(x:ji):Inv (X.held x) pc σ H s:=
 ⟨⟨I.ok.mod,I.ok.kind,I.ok.glob,I.ok.blt,I.ok.above,I.ok.inj,I.ok.has,I.ok.cab,(fun z=>by cases z),I.ok.frames,I.ok.stk,I.ok.exf,I.ok.bs,I.ok.bsz,I.ok.noex,I.ok.exfs,I.ok.funs,I.ok.frf⟩,I.os,I.bare,I.base,I.loc,I.cell,I.free,I.freeC,I.pin,I.hok,I.len⟩
theorem Inv.unheld(ok:X.Ok)(I:Inv (X.held x) pc σ H s):Inv X pc σ H s:=
 ⟨ok,I.os,I.bare,I.base,I.loc,I.cell,I.free,I.freeC,I.pin,I.hok,I.len⟩
theorem Inv.nopins(I:Inv X pc σ H s):Inv X [] σ H s:=Inv.unpinned (pc:=[]) (pl:=pc) (by simpa using I)
theorem zgR{i:Nat}{v:V}:(zbB X)[i]?≠some (some v):=fun e=>by
 unfold zbB at e;rw[ZV] at e;split at e<;>cases e
theorem Inv.noNames(I:Inv X pc σ H s):Inv X pc (zbB X) H s:=I.forget (by unfold zbB; rw[Zq]; exact I.len.symm) fun i v e=>absurd e zgR
theorem Inv.relocal{h':Qq}{tk:Nat}{m':Str->Option j5}(I:Inv X [] σ H s)(hp:X.pn=[])(hn:h'.Ns X.env.locals m')(hs:Qu X.env.locals s.heap h'):Inv X [] (zbB X) H { s with heap:=h',toks:=tk }:=by
 have old:∀ b o,X.s₀.heap.get? b=some o->b≠X.env.locals:=fun b o e=>jJ (jC (jq e) I.ok.above);refine⟨I.ok,I.os,I.bare,⟨fun b o e n hb hx=>?_,fun b o e n hb hx=>?_,I.base.free,fun b o e hx=>?_,I.base.tups,I.base.frzs,I.base.tbls⟩,⟨m',hn,fun i y v _ e _=>absurd e zgR⟩,fun y c e=>?_,I.free,I.freeC,fun p hp'=>?_,fun a o e=>?_,by unfold zbB; rw[Zq]⟩
 ·exact(hs.2 b (old b o e)).trans (I.base.keep b o e n hb hx)
 ·obtain⟨sl,e1⟩:=I.base.slot b o e n hb hx;exact⟨sl,(hs.2 b (old b o e)).trans e1⟩
 ·obtain⟨o',e1⟩:=I.base.there b o e hx;exact⟨o',(hs.2 b (old b o e)).trans e1⟩
 ·obtain⟨v,o,ho,hd⟩:=I.cell y c e;exact⟨v,o,(hs.2 c (I.cne y c e)).trans ho,hd⟩
 ·rw[hp] at hp';simp at hp'
 ·refine(I.hok a o e).stay (fun b u hb q=>(hs.2 b ?_).trans q) (fun _ q=>q) fun _ _ q=>q;rintro rfl;rcases hb with z |z
  ·rw[<-z,I.free] at e; cases e
  ·rw[I.free] at z; cases z
end
section
variable {M:Model}{A:jP}{E:j5->j6->Prop}
theorem zgl{h:Qq}{g:Array Yq}{d:Drawn}{t:Nat}{os:OsState}{e C D:ji}{oe:Obj}{bm bmD:List j5}{Q:Bool->j6->Prop}(xc:XCls h C bm)(xd:XCls h D bmD)(he:h.get? e=some oe)(hcls:oe.cls=.ref C)(hm:(jV C::bm).contains (.ref D)=true)
  (hq:Q true ⟨h,g,d,t,os⟩):jy M A (excMatches (.ref e) (.ref D)) Q E ⟨h,g,d,t,os⟩:=by
 obtain⟨N,nm,q,bs,hdct,sn,sub,ab,col,dd,k0,k1,k2,k3,k5,mN,hC,_,_,_⟩:=xc.obj;obtain⟨N',nm',q',bs',hdct',sn',sub',ab',col',dd',k0',k1',k2',k3',k5',mN',hD,_,_,T⟩:=xd.obj;have hcB:(jV D::bmD).contains (.type "BaseException")=true:=by rw[List.contains_cons,T.hasType (X:="BaseException") (b:=true) gv.hasBase,Bool.or_true]
 have f:=tc_notTuple;unfold excMatches
 repeat (first |(with_reducible refine NV he ?_; rw[hcls]) |with_reducible refine NV hD ?_ |(with_reducible refine Nt hD ?_; rw[hcB]) |(with_reducible refine Nt hC ?_; rw[hm]) |wp_step)
 exact hq
end
def PS0(X:Cx)(st:QR)(t:TS):Prop:=∀(s:j6) (σ:St) (H:Hp) (D:Ends),Inv X [] σ H s->t D σ H->jy (jE X.prog X.w) X.A (exec st X.env) (SP X [] D) X.xe s
def zp4(X:Cx)(st:List QR)(t:TS):Prop:=∀(s:j6) (σ:St) (H:Hp) (D:Ends),Inv X [] σ H s->t D σ H->jy (jE X.prog X.w) X.A (execs st X.env) (SP X [] D) X.xe s
section
theorem HOk.there{P:jt}{w:jS}{H:Hp}{h:Qq}{x:ji}{u:HO}(hok:HOk P w H h)(q:H x=some u):∃ o,h.get? x=some o:=by
 have hok:=hok x u q;cases u with
 |lst xs=>obtain⟨_,_,_,_,e⟩:=hok; exact⟨_,e⟩
 |tup xs=>obtain⟨_,_,_,o,e,_⟩:=hok; exact⟨o,e⟩
 |dK kvs=>obtain⟨_,_,_,_,o,_,_,e,_⟩:=hok; exact⟨o,e⟩
 |dT kvs=>obtain⟨_,_,_,_,o,_,_,e,_⟩:=hok; exact⟨o,e⟩
 |set S n=>obtain⟨o,_,_,_,e,_⟩:=hok; exact⟨o,e⟩
 |ins C dx fs=>obtain⟨_,_,_,e,_⟩:=hok; exact⟨_,e⟩
 |own y=>exact hok
 |xd fs=>obtain⟨_,⟨o,_,_,e,_⟩,_⟩:=hok; exact⟨o,e⟩
 |rng lo hi=>obtain⟨_,_,_,e⟩:=hok; exact⟨_,e⟩
 |frz ob u=>obtain⟨e,_⟩:=hok; exact⟨_,e⟩
 |tbl ps=>exact⟨_,show h.get? x=some _ from hok⟩
 |met f y=>exact⟨_,show h.get? x=some _ from hok⟩
 |ext φ=>obtain⟨_,e,_⟩:=hok; exact e
theorem Inv.track{σ:St}{H:Hp}{s:j6}{x:ji}{oe:Obj}{vs:Array j5}{φ:Qq->Prop}(I:Inv X [] σ H s)(hp:X.pn=[])(hx:H x=none)(he:s.heap.get? x=some oe)(hc:φ s.heap)(hφ:∀ h1 h2:Qq,φ h1->(∀ o,h1.get? x=some o->h2.get? x=some o)->φ h2)(hd:oe.data=.fields vs)(new:∀ o,X.s₀.heap.get? x≠some o):Inv X [] σ (upd H x (.ext φ)) s:=by
 have ne:∀ b u,H b=some u->b≠x:=fun b u e z=>by rw[z,hx] at e; cases e
 refine⟨I.ok,I.os,I.bare,⟨I.base.keep,I.base.slot,fun b o e n hb=>?_,I.base.there,fun b xs e=>?_,fun b o u e=>?_,fun b ps e=>?_⟩,I.loc,I.cell,?_,fun y c e=>?_,fun p hp'=>?_,fun a o e=>?_,I.len⟩
 ·have nb:b≠x:=fun z=>new o (by rw[<-z]; exact e)
  rw[za1 nb];exact I.base.free b o e n hb
 ·have:=I.base.tups b xs e;rw[za1 (ne b _ this)]; exact this
 ·have:=I.base.frzs b o u e;rw[za1 (ne b _ this)]; exact this
 ·obtain⟨more,this⟩:=I.base.tbls b ps e;exact⟨more,by rw[za1 (ne b _ this)]; exact this⟩
 ·refine(za1 fun z=>?_).trans I.free;obtain⟨m,⟨o',es,ep,ho',hd',_⟩,_⟩:=I.loc;rw[z,he] at ho';cases jg ho';rw[hd] at hd';cases hd'
 ·refine(za1 fun z=>?_).trans (I.freeC y c e);obtain⟨v,o',ho',hd'⟩:=I.cell y c e;rw[z,he] at ho';cases jg ho';rw[hd] at hd';cases hd'
 ·rw[hp] at hp';simp at hp'
 ·by_cases hb:a=x
  ·subst hb;rw[za5] at e;cases jg e;exact⟨hc,⟨oe,he⟩,hφ⟩
  ·rw[za1 hb] at e;exact(I.hok a o e).stay (fun _ _ _ q=>q) (fun b q=>by rw[za1 (ne b _ q)]; exact q) fun b xs q=>by rw[za1 (ne b _ q)]; exact q
def zhf(X:Cx)(D:ji)(i:Nat)(ts:ji->TS)(En:Ends):XK:=fun cls _ H'=>∃ C bm,cls=.ref C/\XCls X.base C bm/\(jV C::bm).contains (.ref D)=true /\
 ∀ x,H' x=none->ts x { nx:=fun _ _=>False,rt:=En.rt } ((zbB X).set i (some (.ref x))) (upd H' x (zhY x C))
theorem Fly.inv{pc:List (ji × Obj)}{σ:St}{H1 H':Hp}{s1 s':j6}{x C:ji}{a0:j5}{B h'':Qq}{tk:Nat}(I1:Inv X pc σ H1 s1)(F:Fly X.prog X.w X.stack H1 s1 x C a0 B H' s')(st:B.StaysIn h'')(up:s'.heap.UpToSlots h''):Inv X [] (zbB X) H' { s' with heap:=h'',toks:=tk }:=
 (I1.nopins.noNames).call' (ch:=[]) (s':={ s' with heap:=h'',toks:=tk }) F.os (F.on st up I1.stack) (F.hok.kept st) F.bare (fun b hb=>by simp at hb)
theorem Fly.new{pc:List (ji × Obj)}{σ:St}{H1 H':Hp}{s1 s':j6}{x C:ji}{a0:j5}{B:Qq}(I1:Inv X pc σ H1 s1)(F:Fly X.prog X.w X.stack H1 s1 x C a0 B H' s')(hx:X.ex=[]):H' x=none/\∀ o,X.s₀.heap.get? x≠some o:=by
 have hB:=F.fly.2.1;refine⟨?_,fun o e=>?_⟩
 ·cases q:H' x with
  |none=>rfl
  |some u=>
   obtain⟨o,ho⟩:=F.hok.there q;rw[hB] at ho; cases ho
 ·obtain⟨o1,e1⟩:=I1.base.there x o e (by rw[hx]; simp)
  by_cases hf:x∈frs X.stack
  ·obtain⟨oe,vs,T,oT,ts,he,_,hd,_⟩:=F.fly.2.2.2;obtain⟨_,o',ho',hd'⟩:=F.fly.2.2.1.mem hf;rw[he] at ho';cases jg ho';exact hd' vs hd
  ·obtain⟨o2,e2⟩:=F.has x o1 e1 hf;rw[hB] at e2; cases e2
theorem ziw{body suite:List QR}{b0:QR}{d n:Str}{np hpos pos:Pos}{tb:XK->TS}{ts:ji->TS}{i:Nat}{D:ji}{bmD:List j5}
  (hb:∀ W E,zfS (CX1 X.prog X.w) (X.wish W) E->PSs (X.wish W) body (tb E)) (hst:X.stack=X.env::X.outer) (hfr:X.env.frame=some X.env.locals) (hpn:X.pn=[]) (hex:X.ex=[])
  (hN:X.N.Nodup) (hi:X.N[i]?=some n) (hk:X.env.scope.names.lookup n=some .local) (hgd:Gl X d) (hmd:X.mg d=some (.ref D)) (xd:XCls X.base D bmD) (hs:∀ x,PSs (X.held x) (b0::suite) (ts x))
  (hdb:(d == ("__debug__":Str))=false:=by decide) :
  PS0 X (.Try body [.ExceptHandler (some (.Name d np)) (some n) (b0::suite) hpos] [] [] pos) (fun En σ H=>tb (zhf X D i ts En) En σ H):=by
 intro s σ H En I h;refine wpAny_Try_except ?_;have pass:zfS (CX1 X.prog X.w) (X.wish (fun e s1=>jy (jE X.prog X.w) X.A (noteFrame e X.env) (fun _ s2=>jy (jE X.prog X.w) X.A (setFlight e none) (fun _ s3=>jy (jE X.prog X.w) X.A (handleBy e X.env [.ExceptHandler (some (.Name d np)) (some n) (b0::suite) hpos]) (SP X [] En) X.xe s3) X.xe s2) X.xe s1)) (zhf X D i ts En):=by
  intro pc σ' H1 s1 ev s' I1 hq;obtain⟨x,C,a0,B,H',rfl,F,C',bm,eC,xc,hm,hsuite⟩:=hq;obtain rfl:C=C':=by injection eC
  have I1:=I1.unwish;have F:=F;obtain⟨hx0,hnew⟩:=F.new I1 hex;have fl:=F.fly;rw[hst] at fl;have hA:X.A.frames=some (X.env::X.outer):=by rw[<-hst]; exact I.ok.frames
  refine wpAny_looks_onW hA hfr fl fun h4 held4 up4=>?_;refine wpAny_landsW held4 fun h5 fly5 up5=>?_;have J5:Inv X [] (zbB X) H' { s' with heap:=h5 }:=F.inv (tk:=s'.toks) I1 fly5.1 (up4.trans up5);obtain⟨oe,he,hcls⟩:=fly5.there;refine wpAny_handleBy_cons (codeAny_handlers_test ?_) (by intro q; cases q)
  refine zes (J5.held x) hgd hmd ?_ hdb;refine zgl (xc.keeps J5.bk) (xd.keeps J5.bk) he hcls hm ?_;refine codeAny_handlers_suite_as ?_;refine lands_againW fly5 fun h6 fly6 up6=>?_;have J6:Inv X [] (zbB X) H' { s' with heap:=h6 }:=F.inv (tk:=s'.toks) I1 fly6.1 ((up4.trans up5).trans up6);obtain⟨oe6,vs6,T6,oT6,ts6,he6,⟨hc6,_⟩,hd6,_⟩:=fly6.2.2.2;have J7:Inv X [] (zbB X) (upd H' x (zhY x C)) { s' with heap:=h6 }:=J6.track hpn hx0 he6 ⟨oe6,he6,hc6⟩ (fun h1 h2 ⟨o,e1,e2⟩ k=>⟨o,k o e1,e2⟩) hd6 hnew;refine zdj J7 hN hi (.inl hk) (v:=.ref x) rfl (fun s8 I8 _=>?_) (.inr hk);refine Q7 (hs x [] s8 _ _ _ (I8.held x) (hsuite x hx0)) (fun f s9 q=>?_) fun _ _ z=>QK z;cases f with
  |next=>obtain⟨_,_,_,q⟩:=q; exact q.elim
  |brk=>obtain⟨_,_,_,q⟩:=q; exact q.elim
  |cont=>obtain⟨_,_,_,q⟩:=q; exact q.elim
  |ret u=>
   obtain⟨v,σ9,H9,I9,r,q⟩:=q;have I9:=I9.unheld I.ok;obtain⟨m,hn,_⟩:=I9.loc;exact wpAny_nameGoes hk hn (by rw[I.ok.kind]; rfl) fun h' m' hn' hs'=>⟨v,zbB X,H9,I9.relocal hpn hn' hs',r,q⟩
 refine Q7 (hb _ _ pass [] s σ H En (I.wish _) h) (fun f s1 q=>?_) fun _ _ z=>z;have q:=q.unwish;cases f with
 |next=>exact ZQ q
 |brk=>exact q
 |cont=>exact q
 |ret u=>exact q
end
end L2
namespace L2
open PySem PySem.Spec PySem.Calls PyProof.Rows PySem.W Builtin Builtin.ObjectAttr Builtin.Getset_descriptor
def zdT(x C:ji)(h:Qq):Prop:=∃ o,h.get? x=some o/\o.cls=.ref C
structure XIn (K:Frag) (C:ji):Prop where
 ga:J4 K (.ref C) "__getattribute__"=some (some (.builtin "BaseException.__getattribute__"))
 no:J4 K (.ref C) "__getattr__"=some none
 cl:J4 K (.ref C) "__class__"=some (some (.builtin "object.__class__"))
 ob:mroIn K C (.type "object")=some true
 be:mroIn K C (.type "BaseException")=some true
 it:(clsIn K C).isSome=true
section
variable {prog:jt}{w:jS}{A:jP}{E:j5->j6->Prop}{K:Frag}{x C:ji}{h:Qq}{g:Array Yq}{d:Drawn}{t:Nat}{os:OsState}
theorem zcq(M:Model)(h:Qq)(p:zdT x C h):Looks M h (typeOf (.ref x)) (.ref C):=by
 obtain⟨o,h1,h2⟩:=p;exact h2▸(Looks.ld h1).andThen .now
theorem zjg{R:WF->j6->Prop}{tp:j5}(X:K.In h)(p:zdT x C h)(hm:mroIn K C (.type "object")=some true)(hq:R (.ok (.ret (.ref C))) ⟨h,g,d,t,os⟩) :
  Y3 (jE prog w) A (.call (.builtin "getset_descriptor.__get__") ⟨[.builtin "object.__class__",.ref x,tp],[]⟩) R ⟨h,g,d,t,os⟩:=by
 have L0:=zcq (jE prog w) h p;have L1:=looks_mroIn (M:=jE prog w) X hm;refine gx KF.slot_gs.plain KF.entry_gs (KF.slot_gs.check _ _ _ _ _ _ _ _ KF.type_class (KF.args_gs _ _ _) ?_);unfold YZ.«getset_descriptor.__get__» descrGet;rw[dga_obj];refine j4 (jf ?_);unfold descrGetter descrCheckInstance descrNameAndClass WI;simp only[KF.owner_class]
 repeat lk
 refine⟨NE _ (by decide +kernel),Z5 KF.entry_class ?_⟩
 unfold YZ.«object.__class__» shownTypeOf
 repeat lk
 exact hq
theorem zgj{tk:Tok}{Q:Fin->j6->Prop}(X:K.In h)(p:zdT x C h)(c:XIn K C)(hq:Q (.done (.ret (.ref C))) ⟨h,g,d,t,os⟩) :
  jy (jE prog w) A (YZ.«object.__getattribute__» ⟨[.ref x,.str "__class__" tk],[]⟩) Q E ⟨h,g,d,t,os⟩:=by
 have L0:=zcq (jE prog w) h p;have L1:=Wa (M:=jE prog w) X c.cl;have hT5:=N0;have f5:=N0;have f6:=F.slot_gs_get.lookup;have f7:=F.slot_gs_set.lookup
 repeat (any_goals (first |assumption |with_reducible refine L0.at ?_ |with_reducible refine L1.at ?_ |wp_step))
 refine zjg X p c.ob ?_
 repeat (any_goals (first |assumption |wp_step))
theorem zgk{nameV:j5}{Q:Unit->j6->Prop}(X:K.In h)(p:zdT x C h)(c:XIn K C)(hq:Q () ⟨h,g,d,t,os⟩) :
  jy (jE prog w) A (YK "BaseException.__getattribute__" ⟨[.ref x,nameV],[]⟩) Q E ⟨h,g,d,t,os⟩:=by
 have hk:builtinKind "BaseException.__getattribute__"=some .slot:=by decide +kernel
 have hsplit:splitId "BaseException.__getattribute__"=some ("BaseException","__getattribute__"):=by decide +kernel
 have L0:=zcq (jE prog w) h p;have L1:=looks_mroIn (M:=jE prog w) X c.be;have ha:=F.args_bexc_ga (.ref x) nameV;simp only[YK,hk,hsplit];refine j4 ?_
 ·unfold WI
  repeat (first |with_reducible refine L0.at ?_ |with_reducible refine L1.at ?_ |wp_step)
  exact hq
theorem zhP{tk:Tok}{R:WF->j6->Prop}(X:K.In h)(p:zdT x C h)(c:XIn K C)(hq:R (.ok (.ret (.ref C))) ⟨h,g,d,t,os⟩) :
  Y3 (jE prog w) A (.call (.builtin "BaseException.__getattribute__") ⟨[.ref x,.str "__class__" tk],[]⟩) R ⟨h,g,d,t,os⟩:=
 gx Nb.ga.plain F.entry_bexc_ga (zgk X p c (zgj X p c hq))
theorem zkB{tk:Tok}{Q:j5->j6->Prop}(X:K.In h)(p:zdT x C h)(c:XIn K C)(hq:Q (.ref C) ⟨h,g,d,t,os⟩) :
  jy (jE prog w) A (getAttrBy (.ref x) (.str "__class__" tk) false) Q E ⟨h,g,d,t,os⟩:=by
 have L0:=zcq (jE prog w) h p;have L1:=Wa (M:=jE prog w) X c.ga;have L2:=Wa (M:=jE prog w) X c.no;have f3:=Nb.ga.bind (.ref x);have hx2:(Yz "BaseException.__getattribute__" == Yz "object.__getattribute__")=false:=by decide +kernel
 have hx1:(onTheHeap (jV C)&&Yz "BaseException.__getattribute__" == Yz "object.__getattribute__")=false:=by rw[hx2]; rfl
 repeat (any_goals (first |assumption |with_reducible refine L0.at ?_ |with_reducible refine L1.at ?_ |with_reducible refine L2.at ?_ |wp_step))
 refine zhP X p c ?_
 repeat (any_goals (first |assumption |wp_step))
theorem zhQ{Q:Option j5->j6->Prop}(X:K.In h)(p:zdT x C h)(c:XIn K C)(hq:Q (some (.ref C)) ⟨h,g,d,t+1,os⟩):jy (jE prog w) A (getAttr? (.ref x) "__class__") Q E ⟨h,g,d,t,os⟩:=by
 unfold getAttr? getAttrBy?
 repeat (any_goals (first |assumption |with_reducible apply zkB X p c |wp_step))
theorem zgY(c:XIn K C):KitX K (.ref x) (.ref C) (zdT x C) where
 ty:=fun M h _ p=>zcq M h p
 it:=fun _ _ X _=>by
  have hcD:=c.it;unfold clsIn at hcD;split at hcD
  ·rename_i c' d' cd' sl' ho;intro A' Q' E' s' k q;unfold isType loadHead;exact j4 (wpAny_loadPart (k _ _ (X _ _ ho)) (jf q))
  ·cases hcD
 ne:=fun h tp dd its n sl X htp=>by
  have hcD:=c.it;refine Bool.eq_false_iff.mpr fun q=>?_;have e:=Value.ref.inj (beq_iff_eq.mp q);subst e;unfold clsIn at hcD;split at hcD
  ·rename_i c' d' cd' sl' ho;have z:=(X _ _ ho).symm.trans htp;cases z
  ·cases hcD
 ca:=fun {_ _ _ _ _ s} X p k=>by
  obtain⟨h,g,d,t,os⟩:=s;exact zhQ X p c k
end
section
variable {X:Cx}
def zrI(K:Frag):List V->Hp->VK->Prop:=fun xs H Q=>∃ x C v c k,xs=[.ref x,v]/\RelV v c/\H x=some (zhY x C)/\XIn K C/\kitOne K (.ref C) c=some k/\Q (.bl k) H
theorem zde:CallR X (.builtin "isinstance") (zrI X.K):=by
 intro pc s sg H xs us Q I r h;obtain⟨x,C,v,c,k,rfl,rc,ex,xi,e,q⟩:=h;obtain⟨u,u2,rfl,ru,ru2⟩:=zlz r;obtain rfl:u=jV x:=ru;have p:zdT x C s.heap:=by
  obtain⟨p,_⟩:=I.hok x _ ex;exact p
 obtain rfl:u2=c:=by
  have:v≠.str ""∨True:=.inr trivial;cases v<;>first |exact ru2.trans (show c=_ from rc).symm |(exfalso; obtain⟨t,rfl⟩:=rc; cases e) |(exfalso; cases (show c=_ from rc); cases e)
 exact kia_one (zgY xi) I.kIn p e (fun z=>nomatch z) fun tk=>⟨.bl k,H,I.tok _,rfl,q⟩
def zq8(K:Frag):List V->Hp->VK->Prop:=fun xs H Q=>∃(x C tp:ji) (cs:List ji) (k:Bool),xs=[.ref x,.ref tp]/\H x=some (zhY x C)/\XIn K C/\H tp=some (.tup (cs.map V.ref))/\kitAny K (.ref C) (cs.map jV)=some k/\Q (.bl k) H
theorem zgC:∀ {cs:List ji} {us:List j5},Vals (cs.map V.ref) us->us=cs.map jV
 |[],_,r=>by cases r; rfl
 |c::cs,_,r=>by
  cases r with
  |cons r1 r2=>rw[zgC r2,show _=jV c from r1]; rfl
theorem zjA:CallR X (.builtin "isinstance") (zq8 X.K):=by
 intro pc s sg H xs us Q I r h;obtain⟨x,C,tp,cs,k,rfl,ex,xi,et,e,q⟩:=h;obtain⟨u,u2,rfl,ru,ru2⟩:=zlz r;obtain rfl:u=jV x:=ru;obtain rfl:u2=jV tp:=ru2;have p:zdT x C s.heap:=by
  obtain⟨p,_⟩:=I.hok x _ ex;exact p
 obtain⟨_,its,rv,⟨oc,od,oda,osl⟩,h1,h2,n,h3⟩:=(I.hok tp _ et);cases zgC rv;dsimp only at h2 h3;subst h2 h3;exact kia_tup (zgY xi) I.kIn p h1 e (fun z=>nomatch z) fun tk=>⟨.bl k,H,I.tok _,rfl,q⟩
end
end L2
namespace L2
open PySem PySem.Spec PyProof.Rows
variable {P:jt}{w:jS}{A:jP}{E:j5->j6->Prop}{s:j6}
theorem zoq{CX:CXT}{P:jt}{w:jS}{K:j9}{mg:Str->Option j5}{base:Qq}{k:Nat}{f:ji}{name qual:Str}{params:Arguments}{body:List QR}{scope:gO}{dV kV doc pm cdv ct oc:j5}{an od:Option ji}
  {osl:Array (Option j5)} {N ps:List Str} {sp:Sp} (lk:K.lookup f=some ⟨oc,od,.func (jW name qual params body scope dV kV doc pm an cdv ct),osl⟩) (hcd:Zi K cdv qual=true) (S:FnScope N ps scope)
  (len:∀ vs H Q E,sp vs H Q E->vs.length=ps.length)
  (hbody:∀(A:jP) (outer:List Env) (s:j6) (H:Hp) (vs:List V) (Q:VK) (E:XK),Room k (A.deeper (ZC qual scope s.heap.objs.size f cdv))->A.frames=some outer->sp vs H Q E->
   ∃ t,zp4 (zeN CX P w K mg base N qual scope f cdv A outer s H E) body t/\t { nx:=fun _ H'=>Q .non H',rt:=Q } (start N vs) H) :
  FnOk P w K mg base CX (k+1) f (jW name qual params body scope dV kV doc pm an cdv ct) ps sp:=by
 refine⟨len,fun A outer s H args us vs Q E hr e0 hb r hsp=>?_⟩;have hl:=len _ _ _ _ hsp;have KX:=e0.mod.kin.keeps fun b o e=>(e0.bs b o e).1;have lim:=e0.mod.nolimit.keeps fun b o e=>(e0.bs b o e).1;have hkind:∀ y∈ps.zip us,scope.names.lookup y.1=some .local∨(scope.names.lookup y.1=some .cell/\((Wj (s.heap.objs.size+1) scope.names []).lookup y.1).isSome=true):=fun⟨n,v⟩ hy=>by
  rcases S.par n (gE hy).1 with q |q
  ·exact .inl q
  ·exact .inr ⟨q,g6 _ _ _ (.inl q)⟩
 refine YV hr.depth (KX _ _ lk) rfl S.co S.gen rfl (Ny KX hcd) (hb _ _ _ _ ?_);refine gQ S.kind hkind fun env he s1 x=>?_;subst he;refine⟨lim.keeps x.toInCall.keep,codeAny_func ?_⟩;obtain⟨t,ht,hq⟩:=hbody A outer s H vs Q E (hr.deeper _) e0.frames hsp;have I:Inv (zeN CX P w K mg base N qual scope f cdv A outer s H E) [] (start N vs) H s1:=zfw S hr.hd e0 hl r x;refine Q7 (ht s1 (start N vs) H _ I hq) (fun fl s' hs=>?_) fun e s' hs=>hs;have fin:∀ {σ':St} {H':Hp} {v:V} {u:j5},Inv (zeN CX P w K mg base N qual scope f cdv A outer s H E) [] σ' H' s'->RelV v u->Q v H'->CE outer P w H s Q u s':=
  fun {σ' H' v u} J rv q=>⟨v,H',J.os,J.bare,J.base,J.hok,rv,q⟩
 cases fl with
 |ret u=>
  obtain⟨v,σ',H',J,rv,q⟩:=hs;exact fin J rv q
 |next=>
  obtain⟨σ',H',J,q⟩:=hs;exact fin (v:=V.non) (u:=QZ) J rfl q
 |brk=>
  obtain⟨_,_,_,q⟩:=hs;exact QK q
 |cont=>
  obtain⟨_,_,_,q⟩:=hs;exact QK q
theorem PSs.zero{X:Cx}{st:List QR}{t:TS}(h:PSs X st t):zp4 X st t:=fun s σ H D I q=>h [] s σ H D I q
theorem zk8{X:Cx}{st:QR}{t:TS}(h:PS0 X st t):zp4 X [st] t:=fun s σ H D I q=>by
 refine YG (Q7 (h s σ H D I q) (fun f s1 z=>?_) fun _ _ z=>z);cases f with
 |next=>exact ZQ z
 |brk=>exact z
 |cont=>exact z
 |ret u=>exact z
def byT(w:jS):Bool:=w.params.followText "set-order"
structure Tb (w:jS) (n:Nat) (t:QV):Prop where
 led:t.led=!byT w
 pl:n=0∨t.plain=false
theorem zfj(t:QV)(n:Nat):(t.orStandIn n).led=t.led/\(t.plain=false->(t.orStandIn n).plain=false):=by
 unfold SetTable.orStandIn;split
 ·exact⟨rfl,fun z=>z⟩
 ·exact⟨rfl,fun _=>rfl⟩
theorem ziX(t:QV)(es:Array (Int × j5))(h:Int)(x:j5):(layNew t es h x).2.1.led=t.led/\(t.plain=false->(layNew t es h x).2.1.plain=false):=by
 unfold layNew;split
 ·exact zfj _ _
 ·exact⟨rfl,fun _=>rfl⟩
theorem zg7(t:QV)(es:Array (Int × j5))(n:Nat):(N7 t es n).2.1.led=t.led/\(t.plain=false->(N7 t es n).2.1.plain=false):=by
 unfold N7;split
 ·rename_i t' order he;unfold SetTable.relaid SetTable.laid at he;obtain⟨ow,h1,h2⟩:=Qb he;cases h2;dsimp only;split
  ·exact⟨rfl,fun z=>z⟩
  ·exact⟨rfl,fun _=>rfl⟩
 ·exact⟨rfl,fun _=>rfl⟩
def zmZ(P:jt)(w:jS)(a:ji)(S:Str->Bool)(n:Nat)(h:Qq):Prop:=
 ∃ o es ep t,h.get? a=some o/\o.ExactSet/\o.data=.set es ep t/\ElemsOf (strKind P w) es.toList/\(∀ k,S k=true↔∃ e∈es.toList,(strKind P w).is k e.2=true)/\es.size < ZH/\t.fits es.size=true/\es.size=n/\Tb w es.size t
section
theorem ze1{h:Qq}{a:ji}{o:Obj}{es:Array (Int × j5)}{ep:Nat}{t:QV}(ho:h.get? a=some o)(hex:o.ExactSet)(hd:o.data=.set es ep t)
  {es':Array (Int × j5)} {t':QV} {S':Str->Bool} (hel:ElemsOf (strKind P w) es'.toList) (hmem:∀ k,S' k=true↔∃ e∈es'.toList,(strKind P w).is k e.2=true) (hb:es'.size < ZH) (hf:t'.fits es'.size=true) (tb:Tb w es'.size t') :
  (h.update a (WJ es' t')).get? a=some { o with data:=.set es' (ep+1) t' }/\zmZ P w a S' es'.size (h.update a (WJ es' t')):=by
 obtain⟨g,_⟩:=SetOf_store (knd:=strKind P w) ho hex hd hel hmem hb hf;exact⟨g,_,es',ep+1,t',g,hex,rfl,hel,hmem,hb,hf,rfl,tb⟩
theorem zhl{g:Bool->Sem Unit}(hg:∀(b:Bool) (s₁:j6) (Q':Unit->j6->Prop),Q' () s₁->jy (jE P w) A (g b) Q' E s₁)
  {a:ji} {o:Obj} {es:Array (Int × j5)} {ep:Nat} {t:QV} (ho:s.heap.get? a=some o) (hex:o.ExactSet) (hd:o.data=.set es ep t)
  {es1:Array (Int × j5)} {t2:QV} {S':Str->Bool} (hel1:ElemsOf (strKind P w) es1.toList) (hmem1:∀ k',S' k'=true↔∃ e∈es1.toList,(strKind P w).is k' e.2=true)
  (hb1:es1.size < ZH) (hf2:t2.fits es1.size=true) (ld:t2.led=!byT w) (pl:t2.plain=false) {wasDummy:Bool} {R:Option Bool->j6->Prop}
  (h:∀ h',Qu a s.heap h'->zmZ P w a S' es1.size h'->R (some true) { s with heap:=h' }) :
  jy (jE P w) A (do
    storeSet a es1 t2
    if (!wasDummy&&t2.tooFull)=true then do
      g (N7 t2 es1 (Zj es1.size)).2.2
      storeSet a (N7 t2 es1 (Zj es1.size)).1 (N7 t2 es1 (Zj es1.size)).2.1
      pure (some true)
     else pure (some true)) R E s:=by
 refine j4 (NW ho hd ?_ (NX hb1));obtain⟨ho1,hS1⟩:=ze1 (P:=P) (w:=w) ho hex hd hel1 hmem1 hb1 hf2 ⟨ld,.inr pl⟩;have hsb1:=Q9 s.heap a (WJ es1 t2);split
 ·have hp:=relayAll_perm t2 es1 (Zj es1.size);have hfr:=relayAll_fits t2 es1 (Zj es1.size);have htb:=zg7 t2 es1 (Zj es1.size);generalize hRl:N7 t2 es1 (Zj es1.size)=Rl at hp hfr htb ⊢;obtain⟨es2,t3,gave2⟩:=Rl;dsimp only at hp hfr htb ⊢;have hsz:es2.size=es1.size:=by rw[<-jB,hp.length_eq,jB]
  have hb2:es2.size < ZH:=by rw[hsz]; exact hb1
  refine j4 (hg _ _ _ (j4 (NW ho1 rfl ?_ (NX hb2))));obtain⟨_,hS2⟩:=ze1 (P:=P) (w:=w) (S':=S') ho1 hex rfl (hel1.perm hp) (fun k'=>(hmem1 k').trans ⟨fun⟨e,he,q⟩=>⟨e,hp.mem_iff.mpr he,q⟩,fun⟨e,he,q⟩=>⟨e,hp.mem_iff.mp he,q⟩⟩) hb2 hfr ⟨htb.1.trans ld,.inr (htb.2 pl)⟩;rw[hsz] at hS2;exact jf (h _ (hsb1.trans (Q9 _ a _)) hS2)
 ·exact jf (h _ hsb1 hS1)
theorem zrV{a:ji}{S:Str->Bool}{n:Nat}{k:Str}{tok:Tok}{Q:Bool->j6->Prop}(hS:zmZ P w a S n s.heap)(hroom:n+1 < ZH)
  (h:∀ h',Qu a s.heap h'->zmZ P w a (fun k'=>S k'||decide (k'=k)) (if S k then n else n+1) h'->Q (!S k) { s with heap:=h' }) :
  jy (jE P w) A (setAddHashed a (.str k tok) ((strKind P w).hash k)) Q E s:=by
 have hkey:(strKind P w).is k (.str k tok)=true:=by show ZO k (.str k tok)=true; simp[ZO]
 have hsc:(Zo k tok).scannable=true:=rfl;obtain⟨o,es,ep,t,ho,hex,hd,hel,hmem,hb,hf,hn,tb⟩:=hS;have hb1:es.size+1 < ZH:=by rw[hn]; exact hroom
 unfold setAddHashed setAddHashedIn;refine Z9 (j4 (jY ho hd hf ?_));dsimp only;rw[byScan_of hsc hb hel];simp only[↓reduceIte];unfold setAddByScan;refine j4 (j4 (N8 (j4 (wpAny_setScan_of hkey ho hd hf hel ?_))));cases hr:List.findIdx? (fun e=>(strKind P w).is k e.2) es.toList with
 |some j=>
  dsimp only;obtain⟨hj,hpj,_⟩:=List.findIdx?_eq_some_iff_getElem.mp hr;have hSk:S k=true:=(hmem k).mpr ⟨es.toList[j],Q8 hj,hpj⟩;refine jf (jf ?_);have e:s={ s with heap:=s.heap }:=by cases s; rfl
  have:=h s.heap (Heap.SameBut.refl a s.heap) ⟨o,es,ep,t,ho,hex,hd,hel,fun k'=>by
   rw[jX,decide_eq_true_eq,<-hmem k']
   exact⟨fun hk=>hk.elim id (fun e=>e▸hSk),.inl⟩,hb,hf,by rw[hSk]; exact hn,tb⟩
  rw[hSk] at this; rw[e]; exact this
 |none=>
  dsimp only;have hSk:S k=false:=by
   cases hk:S k with
   |false=>rfl
   |true=>obtain⟨e,he,hp⟩:=(hmem k).mp hk; have:=List.findIdx?_eq_none_iff.mp hr e he; rw[hp] at this; exact Bool.noConfusion this
  have hgw:∀(b:Bool) {s₁:j6} {Q':Unit->j6->Prop},Q' () s₁->jy (jE P w) A (match b with |true=>rule "set.scan.the-table-gave-way" |false=>pure ()) Q' E s₁:=
   fun b s₁ Q' hq=>by cases b<;>first |exact jf hq |exact N8 hq
  have hperm:=layNew_perm t es ((strKind P w).hash k) (.str k tok);have hfits:=layNew_fits t es ((strKind P w).hash k) (.str k tok);have htb:=ziX t es ((strKind P w).hash k) (.str k tok);generalize hL:layNew t es ((strKind P w).hash k) (.str k tok)=L at hperm hfits htb ⊢;obtain⟨es1,t1,wasDummy,gave⟩:=L;dsimp only at hperm hfits htb ⊢;rw[NY] at hperm;have hel1:=(hel.push hkey hsc).perm hperm;have hmem1:∀ k',(S k'||decide (k'=k))=true↔∃ e∈es1.toList,(strKind P w).is k' e.2=true:=mem_push_iff hkey hmem hperm
  have hb1':es1.size < ZH:=by rw[<-jB,hperm.length_eq,js,jB]; simpa using hb1
  have hsz1:es1.size=n+1:=by rw[<-jB,hperm.length_eq,js,jB,hn]; rfl
  have hend:∀ h',Qu a s.heap h'->zmZ P w a (fun k'=>S k'||decide (k'=k)) es1.size h'->Q true { s with heap:=h' }:=by
   intro h' hsb hS'; have:=h h' hsb; rw[hSk] at this; rw[hsz1] at hS'; exact this hS'
  refine j4 (hgw _ ?_);split
  ·refine j4 ?_;unfold hashByValue;refine jf ?_;refine zhl (t2:={ t1 with plain:=false }) ?_ ho hex hd hel1 hmem1 hb1' (SetTable.fits_plain_off hfits) (htb.1.trans tb.led) rfl ?_
   ·intro b s₁ Q' hq; cases b<;>first |exact jf hq |exact N8 hq
   ·intro h' hsb hS'; dsimp only; exact jf (hend h' hsb hS')
  ·rename_i hpl;refine j4 (jf ?_);simp only[↓reduceIte];refine zhl ?_ ho hex hd hel1 hmem1 hb1' hfits (htb.1.trans tb.led) (by simpa using hpl) ?_
   ·intro b s₁ Q' hq; cases b<;>first |exact jf hq |exact N8 hq
   ·intro h' hsb hS'; dsimp only; exact jf (hend h' hsb hS')
end
section
variable {R:WF->j6->Prop}{I:ji}{fp wr:List ji}{G:Array Yq->Array Yq->Prop}{n:Nat}{Pv:Nat->j5->Prop}{St:Nat->j6->Prop}
def IsSetF(P:jt)(w:jS)(S:ji)(l:List Str)(h:Qq):Prop:=zmZ P w S (fun q=>decide (q∈l)) l.length h
theorem IsSetF.at{S:ji}{l:List Str}{h h':Qq}(x:IsSetF P w S l h)(k:∀ o,h.get? S=some o->h'.get? S=some o):IsSetF P w S l h':=by
 obtain⟨o,es,ep,t,e,r⟩:=x;exact⟨o,es,ep,t,k _ e,r⟩
theorem IsSetF.next{S:ji}{l:List Str}{x:Str}{h:Qq}(y:zmZ P w S (fun q=>decide (q∈l)||decide (q=x)) (if decide (x∈l)=true then l.length else l.length+1) h):IsSetF P w S (Dw.stp l x) h:=by
 have e1:(fun q=>decide (q∈l)||decide (q=x))=fun q=>decide (q∈Dw.stp l x):=by
  funext q
  unfold Dw.stp
  by_cases hx:x∈l
  ·rw[Ip_ hx]
   by_cases hq:q=x
   ·subst hq; simp[hx]
   ·simp[hq]
  ·rw[In_ hx,Qe]; simp
 have e2:(if decide (x∈l)=true then l.length else l.length+1)=(Dw.stp l x).length:=by
  unfold Dw.stp
  by_cases hx:x∈l
  ·rw[Ip_ hx,Ip_ (by simpa using hx)]
  ·rw[In_ hx,In_ (by simpa using hx),js]; rfl
 unfold IsSetF
 rwa [e1,e2] at y
theorem zhN(W:WalksS P w A.in1 I fp wr G n Pv St)(S:ji)(hS:S∉fp)(ss:List Str)(hn:ss.length=n)(hv:∀ i v x,Pv i v->ss[i]?=some x->∃ t,v=.str x t)(hb:n+1 < ZH) :
  ∀(k i:Nat) (s:j6),n - i=k->i<=n->St i s->IsSetF P w S (Dw.za4 (ss.take i)) s.heap->(∀ s',Moved (S::wr) G s s'->IsSetF P w S (Dw.za4 ss) s'.heap->R (.ok (.ret .none)) s')->
   Y3 (jE P w) A (.builtin "set.update.loop" ⟨[.ref S,.ref I],[]⟩) R s:=by
 have nw:S∉wr:=fun z=>hS (W.sub _ z);have up:∀ b∈wr,b∈S::wr:=fun b z=>.tail _ z;intro k
 induction k with
 |zero=>
  intro i s hk hi st hs q;obtain rfl:i=n:=by lia
  refine Z5 YA ?_;rw[QX ZX _];refine j4 (m:=YH (.ref I)) (W.done s _ _ st fun s' mv=>jf (q s' (mv.mono up) ?_));rw[QH (by lia)] at hs
  exact hs.at fun o e=>mv.heap S o nw e
 |succ k ih=>
  intro i s hk hi st hs q;have lt:i < n:=by lia
  obtain⟨x,hx⟩:∃ x,ss[i]?=some x:=⟨_,j3 (by lia)⟩
  refine Z5 YA ?_;rw[QX ZX _];refine j4 (m:=YH (.ref I)) (W.item i s _ _ lt st fun v s1 pv st1 mv=>?_);obtain⟨t,rfl⟩:=hv i v x pv hx;have hs1:=hs.at fun o e=>mv.heap S o nw e;have ky:(strKind P w).is x (.str x t)=true:=by show ZO x (.str x t)=true; simp[ZO]
  refine j4 (m:=gC [Zo x t] (setAdd S (.str x t))) (Z9 ?_);unfold setAdd;refine Z9 (j4 ((strKind P w).pyHash (k:=x) ky ?_));have fl:(Dw.za4 (ss.take i)).length<=i:=by
   have:=zgF (ss.take i) [];rw[jN,gG] at this;unfold Dw.za4;lia
  refine zrV (s:={ s1 with toks:=s1.toks+1 }) hs1 (by lia) fun h2 sb hs2=>?_
  have hs3:=IsSetF.next hs2
  rw[<-Dw.zdH hx] at hs3;refine jf ⟨YB ZX _,ih (i+1) _ (by lia) lt (W.frame _ s1 _ _ st1 (QN _) fun b z o e=>(sb.2 b (fun y=>hS (y▸z))).trans e) hs3 fun s2 mv2=>q s2 (Moved.trans W.gtrans ((mv.mono up).then_heap (QN _) fun b o z e=>(sb.2 b (fun y=>z (y▸.head _))).trans e) mv2)⟩
end
section
theorem zeD(a:j5){Q₁:j5->j6->Prop}
  (h:Q₁ (.ref s.heap.objs.size) { s with heap:=s.heap.push (zjS (!byT w)) }) :
  Y3 (jE P w) A (.call (.builtin "set.__new__") ⟨[.type "set",a],[]⟩) (wants Q₁ E) s:=by
 refine codeAny_of_tree ?_;show jy _ A.in1 (do YK "set.__new__" ⟨[.type "set",a],[]⟩; J1 (.builtin "set.__new__" ⟨[.type "set",a],[]⟩)) _ _ s
 refine j4 (wpAny_of_eq (F.newCall_set_1 a) (jf ⟨YB Wo _,Z5 F.entry_set_new ?_⟩));rw[QX Wo _];unfold YZ.«set.__new__» Wt;have hsub:=sub_set_self;obtain⟨hp,g,d,tk,os⟩:=s;dsimp only
 wp_walk
 refine ZK (jf ?_);dsimp only;simp only[newObj];exact j4 (wpAny_alloc (jf (jf h)))
set_option maxHeartbeats 3200000 in
theorem zf0{l:ji}{its:Array j5}{ss:List Str}{Q:j5->j6->Prop}(hh:A.handled=none)(hl:s.heap.IsList l its)(hn:ss.length=its.size)(hv:∀(i:Nat) v x,its[i]?=some v->ss[i]?=some x->∃ t,v=.str x t)(hb:its.size+1 < ZH)
  (q:∀(h':Qq) (tk:Nat),IsSetF P w s.heap.objs.size (Dw.za4 ss) h'->(∀ b o,b < s.heap.objs.size->s.heap.get? b=some o->h'.get? b=some o)->Q (.ref s.heap.objs.size) { s with heap:=h',toks:=tk }) :
  jy (jE P w) A (call (.type "set") [.ref l]) Q E s:=by
 have a0:=Zt.mro;obtain⟨mc,mt,a0⟩:=a0;have a1:=Zt.made;have a2:=Zt.sub;refine wpAny_call (codeAny_of_tree (jf ⟨NE _ (by decide +kernel),Z5 F.entry_type_call ?_⟩))
 rw[Around.under_plain (weight_type_call_type "set" [jV l] []) rfl];have a3:=Zt.notType;have a4:=Zt.canCreate;have a5:=F.typeCall_set_1 (.ref l)
 repeat (any_goals (first |wp_step |assumption))
 refine gX (zeD (.ref l) (E:=E) (Q₁:=fun v s1=>v=.ref s.heap.objs.size/\s1={ s with heap:=s.heap.push (zjS (!byT w)) }) ⟨rfl,rfl⟩) fun r s1 hr=>?_;cases r with
 |error e=>exact hr
 |ok fl=>
  cases fl with
  |ret v=>
   obtain⟨rfl,rfl⟩:=hr;generalize hled:(!byT w)=led;have g0:(s.heap.push (zjS led)).get? s.heap.objs.size=some (zjS led):=jn _ rfl;have ty:WS { s with heap:=s.heap.push (zjS led) } (.ref s.heap.objs.size) "set":=⟨_,g0,rfl⟩;have b1:=Zt.init.lookup;have b2:=Zt.init.bind (.ref s.heap.objs.size)
   repeat (any_goals (first |wp_step |assumption))
   refine gX (gx (R:=wants (fun r s2=>r=.none/\∃ h' tk,s2={ s with heap:=h',toks:=tk }/\IsSetF P w s.heap.objs.size (Dw.za4 ss) h'/\(∀ b o,b < s.heap.objs.size->s.heap.get? b=some o->h'.get? b=some o)) E) Zt.init.plain F.entry_set_init (check_set_init_1 ty ?_)) fun r2 s2 hr2=>?_
   ·obtain⟨⟨c1,c2,c3,c4⟩,ho,hc,nl,hd⟩:=hl;dsimp only at hc hd;subst hc hd;have g1:(s.heap.push (zjS led)).get? l=some { cls:=.type "list",dict:=c2,data:=.seq its nl,slots:=c4 }:=j7 _ ho;have d1:=F.sub_list_set;have d2:=F.sub_list_frozenset;have d3:(Wz "list" == Wz "dict")=false:=by decide
    have il:(s.heap.push (zjS led)).IsList l its:=⟨_,g1,rfl,nl,rfl⟩;unfold YZ.«set.__init__»;unfold noKeywords Wg;generalize hPI:J0=PI
    wp_walk
    subst hPI;refine Y9 il (j4 (wpAny_runValue ?_));have lS:=jq ho;have ne:l≠(s.heap.push (zjS led)).objs.size:=by rw[Qw]; exact jJ (Z2 lS)
    have nS:s.heap.objs.size∉[(s.heap.push (zjS led)).objs.size,l]:=by
     rw[Qw];intro z;rcases jA.mp z with z |z
     ·exact absurd z (jJ (gp _))
     ·exact absurd (jI.mp z) (ZL lS)
    refine zhN ((Walks.list (show A.in1.in1.in1.handled=none by simp[hh]) _ l ne its).toS) s.heap.objs.size nS ss hn (fun i v x hv' hx=>hv i v x hv' hx) hb (its.size - 0) 0 _ (by lia) (Zs _) ⟨⟨_,jn _ rfl,rfl,rfl⟩,il.push _⟩ ?st ?fin
    case st=>exact⟨_,#[],0,.fresh 0 0 led,j7 _ g0,⟨rfl,rfl,rfl⟩,rfl,fun e he=>by simp at he,fun k=>by simp[Dw.za4],by unfold ZH; decide,rfl,rfl,⟨hled.symm,.inl rfl⟩⟩
    case fin=>
     intro s' mv hs';obtain⟨h',g',d',tk',os'⟩:=s';obtain rfl:g'=s.gens:=mv.gens;obtain rfl:d'=s.drawn:=mv.drawn;obtain rfl:os'=s.os:=mv.os;refine jf (jf ⟨rfl,h',tk',rfl,hs',fun b o z e=>mv.heap b o (fun y=>?_) (j7 _ (j7 _ e))⟩);rw[Qw] at y;rcases jA.mp y with y |y
     ·exact absurd y (jJ z)
     ·exact absurd (jI.mp y) (jJ (Z2 z))
   ·cases r2 with
    |error e=>exact hr2
    |ok f2=>
     cases f2 with
     |ret r=>
      obtain⟨rfl,h',tk,rfl,y1,y2⟩:=hr2
      repeat (any_goals (first |wp_step |assumption))
      exact q _ _ y1 y2
     |_=>exact hr2.elim
  |_=>exact hr.elim
end
theorem slot_seti_next:Slot "set_iterator" "__next__" "set_iterator.__next__":=
 .of (owner:="set_iterator") (n:="__next__") (by rw[typeLookup_type,N1]; kernel_rfl) (by decide +kernel) (by decide +kernel) (by decide +kernel) (by first |exact .inl (by decide +kernel) |exact .inr (by decide +kernel)) (by rw[isSubtype_type]; kernel_rfl)
theorem zbX:Slot "set_iterator" "__iter__" "set_iterator.__iter__":=
 .of (owner:="set_iterator") (n:="__iter__") (by rw[typeLookup_type,N1]; kernel_rfl) (by decide +kernel) (by decide +kernel) (by decide +kernel) (by first |exact .inl (by decide +kernel) |exact .inr (by decide +kernel)) (by rw[isSubtype_type]; kernel_rfl)
theorem zaQ:entryFor table "set_iterator.__next__"=some YZ.«set_iterator.__next__»:=entryFor_of_fast (by kernel_rfl)
theorem zdJ:entryFor table "set_iterator.__iter__"=some YZ.«dict_keyiterator.__iter__»:=entryFor_alias (id':="dict_keyiterator.__iter__") (by kernel_rfl) rfl (by decide +kernel) (by kernel_rfl)
theorem zdR:entryFor table "set.__iter__"=some YZ.«frozenset.__iter__»:=entryFor_alias (id':="frozenset.__iter__") (by kernel_rfl) rfl (by decide +kernel) (by kernel_rfl)
theorem zaZ(a:j5):argsOk "set_iterator.__next__" ⟨[a],[]⟩:=by unfold argsOk; kernel_rfl
theorem zdS(a:j5):argsOk "set_iterator.__iter__" ⟨[a],[]⟩:=by unfold argsOk; kernel_rfl
def sit(f0:j5)(i:Nat)(S:ji)(n ep:Nat):Obj:={ cls:=.type "set_iterator",data:=.fields #[f0,ZS i,.ref S,ZS n,ZS ep] }
section
theorem zlR{I S:ji}{sl i n ep nx:Nat}{x:j5}{o:Obj}{es:Array (Int × j5)}{t:QV}{Q:Option j5->j6->Prop}(hi:s.heap.get? I=some (sit (ZS sl) i S n ep))(ho:s.heap.get? S=some o)(hd:o.data=.set es ep t)(hf:t.fits es.size=true)(hn:es.size=n)
  (hx:∀ {A:jP} {E:j5->j6->Prop} {Q:Option (j5 × Nat)->j6->Prop},Q (some (x,nx)) s->jy (jE P w) A (YC S sl i ep) Q E s)
  (h:∀ h',h'.get? I=some (sit (ZS nx) (i+1) S n ep)->Qu I s.heap h'->Q (some x) { s with heap:=h' }):jy (jE P w) A (YH (.ref I)) Q E s:=by
 have ty:s.TypeIs (.ref I) "set_iterator":=⟨_,hi,rfl⟩;unfold YH;refine j4 (YD (Zd (name:=Zu "__next__") ty slot_seti_next (QL slot_seti_next ty zaQ ?_ (zaZ _))));show jy _ _ (WT (.ref I) >>= _) _ _ s;refine j4 (Y6 hi rfl ?_);show jy _ _ (ZN S >>= _) _ _ s;unfold ZN;refine j4 (j4 (jY ho hd hf (jf ?_)));dsimp only;rw[In_ (by rw[hn]; simp)]
 refine j4 ?_;rw[jv,jv,jv];refine hx ?_;dsimp only;refine j4 (ZI hi rfl (by show 0 < 5; decide) ?_)
 have hi2:=Qa (YE (·.setIfInBounds 0 (ZS nx))) hi rfl
 refine j4 (ZI hi2 rfl (by show 1 < 5; decide) ?_)
 have hi3:=Qa (YE (·.setIfInBounds 1 (ZS ((i:Int)+1)))) hi2 rfl
 exact jf ⟨_,rfl,jf (h _ (hi3.trans rfl) ((Q9 _ I _).trans (Q9 _ I _)))⟩
theorem zif{I:ji}{Q:Option j5->j6->Prop}(hh:A.handled=none){s0:j6}(hs:Qu I s.heap s0.heap)(e0:s0={ s with heap:=s0.heap })(h:∀ h',Wp I s.heap h'->Q none { s with heap:=h' }) :
  jy (jE P w) A.in1 (newExc (.type "StopIteration") [] >>= fun e=>(raiseNew e:Sem Fin)) (fun fin s'=>∃ v,fin=.done (.ret v)/\jy (jE P w) A (pure (some v)) Q E s') (fun e s'=>jy (jE P w) A (do
   let b <-WI e (.type "StopIteration")
   if b=true then pure none else throw e) Q E s') s0:=by
 rw[e0];refine j4 ?_;simp only[newExc,newTuple];refine j4 (Qy ?_ (by size_fits))
 refine j4 (m:=firstArgMember _ _) (wpAny_of_eq (a:=QZ) (by first |rfl |(simp only[firstArgMember]; rfl)) ?_)
 refine Qy ?_ (by size_fits)
 simp only[raiseNew];refine j4 (wpAny_handled ?_);rw[show A.in1.handled=none from hh];refine j4 (jf (wpAny_throw ?_));refine j4 (wpAny_isInstance (T:="StopIteration") (b:=true) ⟨_,jn _ rfl,rfl⟩ isSubtype_stop ?_);exact jf (h _ ((hs.extBut.push _).push _))
theorem zlS{I S:ji}{sl i n ep:Nat}{o:Obj}{es:Array (Int × j5)}{t:QV}{Q:Option j5->j6->Prop}(hh:A.handled=none)(hi:s.heap.get? I=some (sit (ZS sl) i S n ep))(ho:s.heap.get? S=some o)(hd:o.data=.set es ep t)(hf:t.fits es.size=true)(hn:es.size=n)
  (hx:∀ {A:jP} {E:j5->j6->Prop} {Q:Option (j5 × Nat)->j6->Prop},Q none s->jy (jE P w) A (YC S sl i ep) Q E s)
  (h:∀ h',Wp I s.heap h'->Q none { s with heap:=h' }):jy (jE P w) A (YH (.ref I)) Q E s:=by
 have ty:s.TypeIs (.ref I) "set_iterator":=⟨_,hi,rfl⟩;unfold YH;refine j4 (YD (Zd (name:=Zu "__next__") ty slot_seti_next (QL slot_seti_next ty zaQ ?_ (zaZ _))));show jy _ _ (WT (.ref I) >>= _) _ _ s;refine j4 (Y6 hi rfl ?_);show jy _ _ (ZN S >>= _) _ _ s;unfold ZN;refine j4 (j4 (jY ho hd hf (jf ?_)));dsimp only;rw[In_ (by rw[hn]; simp)]
 refine j4 ?_;rw[jv,jv,jv];refine hx ?_;dsimp only;refine j4 (ZI hi rfl (by show 2 < 5; decide) ?_)
 exact zif hh (Q9 s.heap I _) rfl h
def plc(os:List Nat):Obj:={ cls:=.type "tuple",data:=.seq (os.map fun(k:Nat)=>ZS k).toArray }
theorem zjQ{I S D:ji}{i n ep k:Nat}{y:Int × j5}{os:List Nat}{o:Obj}{es:Array (Int × j5)}{t:QV}{Q:Option j5->j6->Prop}(hi:s.heap.get? I=some (sit (.ref D) i S n ep))(hD:s.heap.get? D=some (plc os))(ho:s.heap.get? S=some o)(hd:o.data=.set es ep t)(hf:t.fits es.size=true)(hn:es.size=n)
  (hk:os[i]?=some k) (hy:es[k]?=some y)
  (h:∀ h',h'.get? I=some (sit (.ref D) (i+1) S n ep)->Qu I s.heap h'->Q (some y.2) { s with heap:=h' }):jy (jE P w) A (YH (.ref I)) Q E s:=by
 have ty:s.TypeIs (.ref I) "set_iterator":=⟨_,hi,rfl⟩;unfold YH;refine j4 (YD (Zd (name:=Zu "__next__") ty slot_seti_next (QL slot_seti_next ty zaQ ?_ (zaZ _))));show jy _ _ (WT (.ref I) >>= _) _ _ s;refine j4 (Y6 hi rfl ?_);show jy _ _ (ZN S >>= _) _ _ s;unfold ZN;refine j4 (j4 (jY ho hd hf (jf ?_)));dsimp only;rw[In_ (by rw[hn]; simp)]
 refine j4 (wpAny_seqItems hD rfl ?_);have e1:((os.map fun(k:Nat)=>ZS k).toArray)[((i:Nat):Int).toNat]?=some (ZS k):=by
  rw[jv,gi,jk,hk]; rfl
 dsimp only;rw[e1]
 try dsimp only
 unfold setNextDrawn;refine j4 (j4 (jY ho hd hf ?_));dsimp only;rw[jv,jv,In_ (by simp),hy]
 refine jf ?_;refine j4 (ZI hi rfl (by show 1 < 5; decide) ?_)
 have hi3:=Qa (YE (·.setIfInBounds 1 (ZS ((i:Int)+1)))) hi rfl
 exact jf ⟨_,rfl,jf (h _ (hi3.trans rfl) (Q9 _ I _))⟩
theorem zjR{I S D:ji}{i n ep:Nat}{os:List Nat}{o:Obj}{es:Array (Int × j5)}{t:QV}{Q:Option j5->j6->Prop}(hh:A.handled=none)(hi:s.heap.get? I=some (sit (.ref D) i S n ep))(hD:s.heap.get? D=some (plc os))(ho:s.heap.get? S=some o)(hd:o.data=.set es ep t)(hf:t.fits es.size=true)(hn:es.size=n)
  (hk:os[i]?=none)
  (h:∀ h',Wp I s.heap h'->Q none { s with heap:=h' }):jy (jE P w) A (YH (.ref I)) Q E s:=by
 have ty:s.TypeIs (.ref I) "set_iterator":=⟨_,hi,rfl⟩;unfold YH;refine j4 (YD (Zd (name:=Zu "__next__") ty slot_seti_next (QL slot_seti_next ty zaQ ?_ (zaZ _))));show jy _ _ (WT (.ref I) >>= _) _ _ s;refine j4 (Y6 hi rfl ?_);show jy _ _ (ZN S >>= _) _ _ s;unfold ZN;refine j4 (j4 (jY ho hd hf (jf ?_)));dsimp only;rw[In_ (by rw[hn]; simp)]
 refine j4 (wpAny_seqItems hD rfl ?_);have e1:((os.map fun(k:Nat)=>ZS k).toArray)[((i:Nat):Int).toNat]?=none:=by
  rw[jv,gi,jk,hk]; rfl
 dsimp only;rw[e1];dsimp only;refine j4 (ZI hi rfl (by show 0 < 5; decide) ?_)
 have hi2:=Qa (YE (·.setIfInBounds 0 (ZS 0))) hi rfl
 refine j4 (ZI hi2 rfl (by show 2 < 5; decide) ?_)
 exact zif hh ((Q9 _ I _).trans (Q9 _ I _)) rfl h
end
section
theorem zeZ{I S:ji}{f0:j5}{i n ep:Nat}{Q:j5->j6->Prop}(hi:s.heap.get? I=some (sit f0 i S n ep))(h:Q (.ref I) s):jy (jE P w) A (J0 (.ref I)) Q E s:=by
 have ty:s.TypeIs (.ref I) "set_iterator":=⟨_,hi,rfl⟩;refine NZ ty zbX (QL zbX ty zdJ ?_ (zdS _));show jy _ _ (ret (.ref I)) _ _ s;exact jf ⟨_,rfl,"set_iterator",_,ty,slot_seti_next.lookup,h⟩
theorem zjJ{I S:ji}{n ep:Nat}{o:Obj}{es:Array (Int × j5)}{t:QV}(hh:A.handled=none)(hne:I≠S)(hd:o.data=.set es ep t)(hf:t.fits es.size=true)(hn:es.size=n)(sl:Nat->Nat)(y:Nat->j5)
  (h1:∀ i,i < n->∀ {A:jP} {E:j5->j6->Prop} {s:j6} {Q:Option (j5 × Nat)->j6->Prop},s.heap.get? S=some o->Q (some (y i,sl (i+1))) s->jy (jE P w) A (YC S (sl i) i ep) Q E s)
  (h2:∀ {A:jP} {E:j5->j6->Prop} {s:j6} {Q:Option (j5 × Nat)->j6->Prop},s.heap.get? S=some o->Q none s->jy (jE P w) A (YC S (sl n) n ep) Q E s) :
  Walks P w A I [I,S] [I] n (fun i v=>v=y i) (fun i h=>h.get? I=some (sit (ZS (sl i)) i S n ep)/\h.get? S=some o) where
 sub:=fun b hb=>by rw[jI.mp hb]; exact jG
 frame:=fun i h h' st k=>⟨k I (by simp) _ st.1,k S (by simp) _ st.2⟩
 item:=fun i s Q E hi st q=>by
  refine zlR st.1 st.2 hd hf hn (fun z=>h1 i hi st.2 z) fun h' e sb=>?_;have e0:({ s with heap:=h' }:j6)={ s with heap:=h',toks:=s.toks }:=rfl;rw[e0];exact q _ _ _ rfl ⟨e,(sb.2 S hne.symm).trans st.2⟩ fun b o hb e=>(sb.2 b (fun z=>hb (by rw[z]; simp))).trans e
 done:=fun s Q E st q=>by
  refine zlS hh st.1 st.2 hd hf hn (fun z=>h2 st.2 z) fun h' eb=>?_;have e0:({ s with heap:=h' }:j6)={ s with heap:=h',toks:=s.toks }:=rfl;rw[e0];exact q _ _ fun b o hb e=>eb b o (fun z=>hb (by rw[z]; simp)) e
 self:=fun i s Q E st q=>zeZ st.1 q
theorem zhn{I S D:ji}{n ep:Nat}{o:Obj}{es:Array (Int × j5)}{t:QV}{os:List Nat}(hh:A.handled=none)(hne:I≠S)(hnD:I≠D)(hd:o.data=.set es ep t)(hf:t.fits es.size=true)(hn:es.size=n)(hl:os.length=n)(y:Nat->Int × j5)(h1:∀ i k,os[i]?=some k->es[k]?=some (y i)) :
  Walks P w A I [I,S,D] [I] n (fun i v=>v=(y i).2) (fun i h=>h.get? I=some (sit (.ref D) i S n ep)/\h.get? S=some o/\h.get? D=some (plc os)) where
 sub:=fun b hb=>by rw[jI.mp hb]; exact jG
 frame:=fun i h h' st k=>⟨k I (by simp) _ st.1,k S (by simp) _ st.2.1,k D (by simp) _ st.2.2⟩
 item:=fun i s Q E hi st q=>by
  obtain⟨k,hk⟩:∃ k,os[i]?=some k:=⟨_,j3 (by lia)⟩
  refine zjQ st.1 st.2.2 st.2.1 hd hf hn hk (h1 i k hk) fun h' e sb=>?_;have e0:({ s with heap:=h' }:j6)={ s with heap:=h',toks:=s.toks }:=rfl;rw[e0];exact q _ _ _ rfl ⟨e,(sb.2 S hne.symm).trans st.2.1,(sb.2 D hnD.symm).trans st.2.2⟩ fun b o hb e=>(sb.2 b (fun z=>hb (by rw[z]; simp))).trans e
 done:=fun s Q E st q=>by
  refine zjR hh st.1 st.2.2 st.2.1 hd hf hn (List.getElem?_eq_none (by lia)) fun h' eb=>?_
  have e0:({ s with heap:=h' }:j6)={ s with heap:=h',toks:=s.toks }:=rfl;rw[e0];exact q _ _ fun b o hb e=>eb b o (fun z=>hb (by rw[z]; simp)) e
 self:=fun i s Q E st q=>zeZ st.1 q
theorem zea{α:Type}{xs:List α}{i:Nat}(h:i < xs.length):(xs[i]::xs.eraseIdx i).Perm xs:=by
 rw[Z3];refine List.perm_middle.symm.trans ?_;rw[List.getElem_cons_drop,gk]
theorem zml{α:Type}(next:Nat->Nat):∀(fuel k:Nat) (left:List α) (out:Array α),left.length=fuel->(J8 next fuel k left out).toList.Perm (out.toList++left):=by
 intro fuel
 induction fuel with
 |zero=>
  intro k left out hl;obtain rfl:=ZY.mp hl;rw[ZU];exact Ng _
 |succ fuel ih=>
  intro k left out hl;unfold J8;have hi:next k%left.length < left.length:=Nat.mod_lt _ (by lia)
  rw[j3 hi];dsimp only;refine(ih (k+1) _ _ (by rw[Nc,Ip_ hi,hl]; rfl)).trans ?_
  rw[NY,gc];refine List.Perm.append_left _ ?_;exact(zea hi)
theorem ziy{α:Type}(next:Nat->Nat)(xs:Array α):(Wq next xs).toList.Perm xs.toList:=by
 unfold Wq;refine(zml next xs.size 0 xs.toList #[] (by simp)).trans ?_
 rw[Wr]
theorem zeO{src:Source}{n:Nat}{Q:Nat->j6->Prop}(hn:n≠0)(h:∀ i,i < n->Q i { s with drawn:=s.drawn.bump src }):jy (jE P w) A (choose src n) Q E s:=fun Γ p hΓ=>⟨hn,h _ (Nat.mod_lt _ (Nat.pos_of_ne_zero hn))⟩
theorem zdg{α:Type}:∀(n:Nat) (xs:List α) {s:j6} {Q:List α->j6->Prop},xs.length=n->(∀ ys d,ys.Perm xs->Q ys { s with drawn:=d })->jy (jE P w) A (drawOrder n xs) Q E s:=by
 intro n
 induction n with
 |zero=>
  intro xs s Q hl h;obtain rfl:=ZY.mp hl;have e:s={ s with drawn:=s.drawn }:=by cases s; rfl
  unfold drawOrder;rw[e];exact jf (h [] s.drawn (Ng _))
 |succ n ih=>
  intro xs s Q hl h;cases xs with
  |nil=>cases hl
  |cons x0 xs0=>
   unfold drawOrder;refine j4 (zeO (by simp) fun i hi=>?_)
   rw[j3 hi];dsimp only;refine j4 (ih _ (by rw[Nc,Ip_ hi,hl]; rfl) fun ys d hp=>?_)
   refine jf (h _ d ?_);exact(hp.cons _).trans (zea hi)
theorem ze0{S:ji}{sl i ep:Nat}{o:Obj}{es:Array (Int × j5)}{t:QV}{Q:Option (j5 × Nat)->j6->Prop}(hT:byT w=true)(ho:s.heap.get? S=some o)(hd:o.data=.set es ep t)(hf:t.fits es.size=true)
  (h:Q (((Wq (w.params.setOrder S ep) es)[i]?).map fun e=>(e.2,sl)) s):jy (jE P w) A (YC S sl i ep) Q E s:=by
 have b:∀ {A:jP} {E:j5->j6->Prop} {Q:Bool->j6->Prop},Q true s->jy (jE P w) A N9 Q E s:=fun {A E Q'} z=>by
  unfold N9;refine j4 (ZK (jf ?_));show Q' (byT w) s;rw[hT];exact z
 unfold YC;refine j4 (jY ho hd hf ?_);dsimp only;refine j4 (b ?_);rw[Ip_ rfl];rw[In_ (by simp)]
 unfold setWalk;refine j4 (j4 (jY ho hd hf ?_));dsimp only;refine j4 (b ?_);rw[Ip_ rfl];exact j4 (ZK (jf (jf h)))
theorem zdl{S:ji}{sl i ep:Nat}{o:Obj}{es:Array (Int × j5)}{t:QV}{Q:Option (j5 × Nat)->j6->Prop}(hT:byT w=false)(hl:t.led=true)(hn:es.size<=1)(ho:s.heap.get? S=some o)(hd:o.data=.set es ep t)(hf:t.fits es.size=true)
  (h:Q (match es[QP t.place sl]?,t.place[QP t.place sl]? with |some (_,x),some j=>some (x,j+1) |_,_=>none) s):jy (jE P w) A (YC S sl i ep) Q E s:=by
 have b:∀ {A:jP} {E:j5->j6->Prop} {Q:Bool->j6->Prop},Q false s->jy (jE P w) A N9 Q E s:=fun {A E Q'} z=>by
  unfold N9;refine j4 (ZK (jf ?_));show Q' (byT w) s;rw[hT];exact z
 unfold YC;refine j4 (jY ho hd hf ?_);dsimp only;refine j4 (b ?_);rw[In_ (by simp)]
 split
 ·rename_i hdr;have hdr:(!t.plain&&decide (es.size > 1))=true:=hdr;rw[jo,decide_eq_true_eq] at hdr;lia
 ·refine j4 ?_;show jy _ _ (if (!t.led&&!es.isEmpty)=true then unsupported "set:maker-not-led" else pure ()) _ _ s
  rw[hl,In_ (by simp)]
  exact jf (jf h)
theorem zg3{S:ji}{ep:Nat}{o:Obj}{es:Array (Int × j5)}{t:QV}{Q:Bool->j6->Prop}(ho:s.heap.get? S=some o)(hd:o.data=.set es ep t)(hf:t.fits es.size=true)
  (h:Q (!byT w&&(!t.plain&&decide (es.size > 1))) s):jy (jE P w) A (setDrawn S) Q E s:=by
 unfold setDrawn;refine j4 (jY ho hd hf ?_);dsimp only;unfold N9;exact j4 (j4 (ZK (jf (jf h))))
end
theorem zcj{α:Type}[DecidableEq α]:∀ {l m:List α},l.Nodup->(∀ x∈l,x∈m)->m.length=l.length->m.Perm l
 |[],m,_,_,h=>by rw[ZY.mp h]
 |x::l,m,nd,sub,h=>by
  have hx:=sub x (by simp)
  obtain⟨n1,n2⟩:=Qg.mp nd;refine(List.perm_cons_erase hx).trans (List.Perm.cons x (zcj n2 (fun y hy=>?_) ?_))
  ·exact(Nd (fun e:y=x=>n1 (e▸hy))).mpr (sub y (by simp[hy]))
  ·rw[Yh hx,h]; rfl
def zjN:j5->Str
 |.str x _=>x
 |_=>Qh
section
theorem zic{es:List (Int × j5)}{l:List Str}(hel:ElemsOf (strKind P w) es)(hmem:∀ k,decide (k∈l)=true↔∃ e∈es,(strKind P w).is k e.2=true)(hn:es.length=l.length)(nd:l.Nodup){ys:List (Int × j5)}(hp:ys.Perm es) :
  (ys.map fun e=>zjN e.2).Perm l/\∀ e∈ys,∃ tok,e.2=.str (zjN e.2) tok:=by
 have one:∀ {k:Str} {v:j5},(strKind P w).is k v=true->∃ tok,v=.str k tok:=fun {k v} h=>Nk h;refine⟨zcj nd (fun x hx=>?_) (by rw[je,hp.length_eq,hn]),fun e he=>?_⟩
 ·obtain⟨e,he,hk⟩:=(hmem x).mp (by simpa using hx)
  obtain⟨tok,h⟩:=one hk;exact Q5.mpr ⟨e,hp.mem_iff.mpr he,by rw[h]; rfl⟩
 ·obtain⟨⟨k,hk,_⟩,_⟩:=hel e (hp.mem_iff.mp he);obtain⟨tok,h⟩:=one hk;exact⟨tok,by rw[h]; rfl⟩
structure SWk (P:jt) (w:jS) (S n0:Nat) (s:j6) (I:ji) (l:List Str) (fp:List ji) (y:Nat->j5) (St:Nat->Qq->Prop):Prop where
 wk:∀ A:jP,A.handled=none->Walks P w A I fp [I] l.length (fun i v=>v=y i) St
 st:St 0 s.heap
 new:∀ b∈fp,b=S∨n0<=b
 inew:n0<=I
 txt:∃ ss:List Str,ss.Perm l/\∀ i x,ss[i]?=some x->∃ tok,y i=.str x tok
theorem zib{ys:List (Int × j5)}{l:List Str}(h:(ys.map fun e=>zjN e.2).Perm l/\∀ e∈ys,∃ tok,e.2=.str (zjN e.2) tok){y:Nat->j5}(hy:∀ i e,ys[i]?=some e->y i=e.2):∃ ss:List Str,ss.Perm l/\∀ i x,ss[i]?=some x->∃ tok,y i=.str x tok:=by
 refine⟨_,h.1,fun i x hx=>?_⟩;rw[jk] at hx;obtain⟨e,he,rfl⟩:=Qm hx;obtain⟨tok,ht⟩:=h.2 e (jZ he);exact⟨tok,by rw[hy i e he]; exact ht⟩
theorem zkt{S:ji}{l:List Str}{Q:j5->j6->Prop}(hS:IsSetF P w S l s.heap)(nd:l.Nodup)
  (h:∀ h' d' I fp y St,SWk P w S s.heap.objs.size { s with heap:=h',drawn:=d' } I l fp y St->(∀ b o,s.heap.get? b=some o->h'.get? b=some o)->s.heap.objs.size<=h'.objs.size->Q (.ref I) { s with heap:=h',drawn:=d' }):jy (jE P w) A (J0 (.ref S)) Q E s:=by
 obtain⟨o,es,ep,t,ho,hex,hd,hel,hmem,hb,hf,hn,tb⟩:=hS;have ty:s.TypeIs (.ref S) "set":=⟨_,ho,hex.1⟩;have lS:=jq ho;have hel':es.toList.length=l.length:=by rw[jB]; exact hn
 refine NZ ty Ws (QL Ws ty zdR ?_ (F.args_set_iter_1 _));show jy _ _ (Yi S >>= _) _ _ s;unfold Yi ZN;refine j4 (j4 (j4 (jY ho hd hf (jf (jf ?_)))));refine j4 (zg3 ho hd hf ?_)
 by_cases hdr:(!byT w&&(!t.plain&&decide (es.size > 1)))=true
 ·rw[Ip_ hdr];refine j4 (zdg _ _ (ZB) fun os d hp=>?_);unfold newTuple;have hol:os.length=es.size:=by rw[hp.length_eq,ZB]
  refine j4 (Qy ?_ (by show (os.map _).toArray.size<=ja; rw[jj,je,hol]; exact gT (jC hb (by decide))))
  have hD:(s.heap.push (plc os)).get? s.heap.objs.size=some (plc os):=jn _ rfl;have ho2:(s.heap.push (plc os)).get? S=some o:=j7 _ ho;show jy _ _ (setEpoch S >>= _) _ _ { s with heap:=s.heap.push (plc os),drawn:=d };refine j4 (W0 ho2 hd hf ?_);unfold newFields;refine j4 (Qy (jf ⟨_,rfl,"set_iterator",_,⟨_,jn _ rfl,rfl⟩,slot_seti_next.lookup,?_⟩));have hk:∀ i k,os[i]?=some k->k < es.size:=fun i k e=>jR.mp (hp.mem_iff.mp (jZ e));have hI:((s.heap.push (plc os)).push (sit (.ref s.heap.objs.size) 0 S es.size ep)).get? (s.heap.push (plc os)).objs.size=some (sit (.ref s.heap.objs.size) 0 S es.size ep):=jn _ rfl;have sz:(s.heap.push (plc os)).objs.size=s.heap.objs.size+1:=Qw _ _;have y1:∀ i k,os[i]?=some k->es[k]?=some ((os[i]?.bind fun k=>es[k]?).getD ((0:Int),QZ)):=fun i k e=>by
   rw[e,j8,QQ (hk i k e)]; rfl
  have pm:(os.map fun k=>es.toList.getD k ((0:Int),QZ)).Perm es.toList:=by
   refine(hp.map _).trans (List.Perm.of_eq ?_);refine List.ext_getElem (by simp) fun i h1 h2=>?_
   rw[List.getElem_map,NB,jM,j3 h2]; rfl
  refine h _ d _ [(s.heap.push (plc os)).objs.size,S,s.heap.objs.size] (fun i=>((os[i]?.bind fun k=>es[k]?).getD ((0:Int),QZ)).2) (fun i h=>h.get? (s.heap.push (plc os)).objs.size=some (sit (.ref s.heap.objs.size) i S es.size ep)/\h.get? S=some o/\h.get? s.heap.objs.size=some (plc os)) ⟨fun A hA=>by
   rw[<-hn]
   exact zhn (n:=es.size) (ep:=ep) (o:=o) hA (by rw[sz]; exact ZL (Z2 lS)) (by rw[sz]; exact ZL (gp _)) hd hf rfl hol (fun i=>(os[i]?.bind fun k=>es[k]?).getD ((0:Int),QZ)) y1,⟨hI,j7 _ ho2,j7 _ hD⟩,fun b hb=>?_,by rw[sz]; exact QN _,zib (zic hel hmem hel' nd pm) fun i e he=>?_⟩ (fun b o e=>j7 _ (j7 _ e)) (by rw[Qw,sz]; lia)
  ·rw[sz] at hb;simp only[jA,gq,or_false] at hb;rcases hb with rfl |rfl |rfl
   ·exact .inr (QN _)
   ·exact .inl rfl
   ·exact .inr (jl _)
  ·rw[jk] at he;obtain⟨k,hk',rfl⟩:=Qm he;have hlt:=hk i k hk';rw[hk',j8,QQ hlt,jM,j3 (by simpa using hlt)]
   rfl
 ·rw[In_ hdr];refine j4 (jf ?_);refine j4 (W0 ho hd hf ?_);unfold newFields;refine j4 (Qy (jf ⟨_,rfl,"set_iterator",_,⟨_,jn _ rfl,rfl⟩,slot_seti_next.lookup,?_⟩));have hI:(s.heap.push (sit (ZS 0) 0 S es.size ep)).get? s.heap.objs.size=some (sit (ZS 0) 0 S es.size ep):=jn _ rfl;have ne:s.heap.objs.size≠S:=ZL lS;have ex:s={ s with drawn:=s.drawn }:=by cases s; rfl
  have go:∀(sl:Nat->Nat) (ys:List (Int × j5)),sl 0=0->ys.Perm es.toList->
    (∀ i,i < es.size->∀ {A:jP} {E:j5->j6->Prop} {s:j6} {Q:Option (j5 × Nat)->j6->Prop},s.heap.get? S=some o->Q (some ((ys.getD i ((0:Int),QZ)).2,sl (i+1))) s->jy (jE P w) A (YC S (sl i) i ep) Q E s)->
    (∀ {A:jP} {E:j5->j6->Prop} {s:j6} {Q:Option (j5 × Nat)->j6->Prop},s.heap.get? S=some o->Q none s->jy (jE P w) A (YC S (sl es.size) es.size ep) Q E s)->
    Q (.ref s.heap.objs.size) { s with heap:=s.heap.push (sit (ZS 0) 0 S es.size ep) }:=fun sl ys s0 hp h1 h2=>by
   refine h _ s.drawn _ [s.heap.objs.size,S] (fun i=>(ys.getD i ((0:Int),QZ)).2) (fun i h=>h.get? s.heap.objs.size=some (sit (ZS (sl i)) i S es.size ep)/\h.get? S=some o) ⟨fun A hA=>by
    rw[<-hn]
    exact zjJ hA ne hd hf rfl sl _ h1 h2,⟨by rw[s0]; exact hI,j7 _ ho⟩,fun b hb=>?_,jl _,zib (zic hel hmem hel' nd hp) fun i e he=>?_⟩ (fun b o e=>j7 _ e) (by rw[Qw]; lia)
   ·simp only[jA,gq,or_false] at hb;rcases hb with rfl |rfl
    ·exact .inr (jl _)
    ·exact .inl rfl
   ·rw[jM,he]; rfl
  by_cases hT:byT w=true
  ·have pm:=ziy (w.params.setOrder S ep) es;have pl:(Wq (w.params.setOrder S ep) es).toList.length=es.size:=by rw[pm.length_eq,jB]
   refine go (fun _=>0) _ rfl pm (fun i hi {A E s Q} ho q=>ze0 hT ho hd hf ?_) (fun {A E s Q} ho q=>ze0 hT ho hd hf ?_)
   ·rw[jM,j3 (by lia)] at q
    rw[QQ (by rw[<-jB]; lia)]
    exact q
   ·rw[g7 (by rw[<-jB]; lia)]
    exact q
  ·have hT:byT w=false:=by simpa using hT
   have few:es.size<=1:=by
    rcases tb.pl with z |z
    ·lia
    ·rw[hT,z] at hdr;simpa using hdr
   have led:t.led=true:=by rw[tb.led,hT]; rfl
   have hpl:t.place.size=es.size:=by
    simp only[SetTable.fits,jo,beq_iff_eq] at hf;exact hf.1
   refine go (fun i=>if i=0 then 0 else t.place.getD 0 0+1) es.toList rfl (Ng _) (fun i hi {A E s Q} ho q=>zdl hT led few ho hd hf ?_) (fun {A E s Q} ho q=>zdl hT led few ho hd hf ?_)
   ·obtain rfl:i=0:=by lia
    obtain⟨p,hp⟩:∃ p,t.place=#[p]:=by
     have:t.place.toList.length=1:=by rw[jB]; lia
     match h:t.place.toList,this with
     |[p],_=>exact⟨p,by rw[<-Nf (xs:=t.place),h]⟩
    rw[hp] at q ⊢;have b0:QP #[p] 0=0:=by simp[QP,W1]
    rw[Ip_ rfl,b0,QQ (show 0 < es.size by lia)]
    rw[jM,j3 (by simpa using hi),In_ (by lia)] at q
    exact q
   ·by_cases h0:es.size=0
    ·rw[g7 (by lia)]
     exact q
    ·obtain⟨p,hp⟩:∃ p,t.place=#[p]:=by
      have:t.place.toList.length=1:=by rw[jB]; lia
      match h:t.place.toList,this with
      |[p],_=>exact⟨p,by rw[<-Nf (xs:=t.place),h]⟩
     have b0:QP #[p] (p+1)=1:=by simp[QP,W1]
     rw[In_ h0,hp];show Q (match es[QP #[p] (p+1)]?,(#[p]:Array Nat)[QP #[p] (p+1)]? with |some (_,x),some j=>some (x,j+1) |_,_=>none) _
     rw[b0,g7 (by lia)]
     exact q
end
section
theorem zdW:∀ {us:List j5} {ss:List Str},us.length=ss.length->(∀(i:Nat) u x,us[i]?=some u->ss[i]?=some x->∃ t,u=.str x t)->Wn us ss
 |[],[],_,_=>.nil
 |[],_::_,h,_=>by simp at h
 |_::_,[],h,_=>by simp at h
 |u::us,x::ss,h,k=>by
  obtain⟨t,rfl⟩:=k 0 u x rfl rfl;exact .cons x t (zdW (by simpa using h) fun i u x h1 h2=>k (i+1) u x (by simpa using h1) (by simpa using h2))
theorem zgw{S:ji}{l:List Str}{Q:List j5->j6->Prop}(hh:A.handled=none)(hS:IsSetF P w S l s.heap)(nd:l.Nodup)(hlen:l.length<=4000)
  (h:∀(us:List j5) (ss:List Str) (h':Qq) d' tk,Wn us ss->ss.Perm l->(∀ b o,s.heap.get? b=some o->h'.get? b=some o)->s.heap.objs.size<=h'.objs.size->Q us { s with heap:=h',drawn:=d',toks:=tk }):jy (jE P w) A (collect (.ref S)) Q E s:=by
 obtain⟨o,ho,hex⟩:∃ o,s.heap.get? S=some o/\o.ExactSet:=by
  obtain⟨o,es,ep,t,ho,hex,_⟩:=hS;exact⟨o,ho,hex⟩
 have lS:=jq ho;unfold collect;refine j4 (wpAny_runValue (Z5 F.entry_proto_collect ?_));rw[QX F.plain_proto_collect _];show jy _ A.in1 (newList [] >>= fun l=>J1 (.builtin "list.__iadd__" ⟨[l,.ref S],[]⟩)) _ _ s;refine j4 (Qy ?_);refine jf ⟨YB W2 _,Z5 F.entry_list_iadd ?_⟩;rw[QX W2 _];have hS1:=hS.at (h':=s.heap.push { cls:=.type "list",data:=.seq ([]:List j5).toArray }) fun o e=>j7 _ e;have ho1:(s.heap.push { cls:=.type "list",data:=.seq ([]:List j5).toArray }).get? S=some o:=j7 _ ho;have hL:(s.heap.push { cls:=.type "list",data:=.seq ([]:List j5).toArray }).get? s.heap.objs.size=some { cls:=.type "list",data:=.seq ([]:List j5).toArray }:=jn _ rfl;have h1:Yj (.ref s.heap.objs.size) (.ref S)=false:=by simp[Yj,ZL lS]
 show jy _ A.in1 (gM (.ref s.heap.objs.size) (.ref S) (.ref s.heap.objs.size)) _ _ _;unfold gM;refine j4 (wpAny_typeOf (T:="set") ⟨o,ho1,hex.1⟩ ?_);rw[In_ (by rw[h1]; decide)]
 refine j4 (zkt (s:={ s with heap:=s.heap.push { cls:=.type "list",data:=.seq ([]:List j5).toArray } }) hS1 nd fun h' d' I fp y St sw kp le=>?_);have ty:WS { s with heap:=h',drawn:=d' } (.ref S) "set":=⟨o,kp S o ho1,hex.1⟩;refine j4 (Z9 ?_);unfold Builtin.List.listLengthHint;refine j4 (wpAny_specialOf ty F.slot_set_len.lookup ?_)
 (generalize hid:("set.__len__":String)=id0; (fail_if_success (clear hid id0)); wp_delta; rw[show splitId id0=some ("set","__len__") from by subst hid; decide +kernel]; subst hid)
 refine j4 (wpAny_isInstance (b:=true) ty sub_set_self ?_);refine j4 (wpAny_typeOf ty ?_);refine jf ?_;rw[Ip_ (by decide)]
 show jy _ A.in1 (rule "list.extend.makes-room" >>= fun _=>Builtin.List.listTouch (.ref s.heap.objs.size) >>= fun _=>
  J1 (.builtin "list.extend.loop" ⟨[.ref s.heap.objs.size,.ref I,.ref s.heap.objs.size],[]⟩)) _ _ _
 refine j4 (N8 ?_);have hL1:=kp _ _ hL;refine j4 ?_;show jy _ A.in1 (updateSeq s.heap.objs.size (·.push .none) >>= fun _=>updateSeq s.heap.objs.size (·.pop)) _ _ _
 refine j4 (wpAny_updateSeq hL1 rfl ?_);have hL2:=Qa (ZM (·.push QZ)) hL1 rfl
 refine wpAny_updateSeq hL2 rfl ?_;have hL3:=Qa (ZM (·.pop)) hL2 rfl
 have sz1:(s.heap.push { cls:=.type "list",data:=.seq ([]:List j5).toArray }).objs.size=s.heap.objs.size+1:=Qw _ _;have nf:s.heap.objs.size∉fp:=fun z=>by
  rcases sw.new _ z with e |e
  ·exact absurd e (ZL lS)
  ·rw[sz1] at e; exact absurd e (Nat.not_succ_le_self _)
 have nI:s.heap.objs.size+1<=I:=by have:=sw.inew; rwa [sz1] at this
 have W:=(sw.wk A.in1 (by simp[hh])).toS
 have oth:∀ b o,b≠s.heap.objs.size->h'.get? b=some o->((h'.update s.heap.objs.size (ZM (·.push QZ))).update s.heap.objs.size (ZM (·.pop))).get? b=some o:=
  fun b o hb e=>(Zk _ _ (Zp hb)).trans ((Zk _ _ (Zp hb)).trans e)
 refine jf ⟨YB F.plain_extend_loop _,codeAny_extend_loopS W (Q2 hlen (by decide)) _ nf _ l.length 0 _ _ _ rfl (Zs _)
  (W.frame 0 ({ s with heap:=h',drawn:=d' }:j6) _ s.toks sw.st (jl _) fun b hb o e=>oth b o (fun h=>nf (h▸hb)) e) hL3 (ItemsOf.nil _) fun s' acc' c' hm hS' hacc=>?_⟩
 show jy _ A (load s.heap.objs.size >>= _) _ _ s';refine j4 (wpAny_load hS' (jf ?_));obtain⟨h2,g2,d2,tk2,os2⟩:=s';obtain rfl:g2=s.gens:=hm.gens;obtain rfl:d2=d':=hm.drawn;obtain rfl:os2=s.os:=hm.os;obtain⟨ss,hp,hy⟩:=sw.txt;refine h acc'.toList ss h2 d2 tk2 (zdW (by rw[jB,hacc.1,hp.length_eq]) fun i u x h1 h2=>?_) hp (fun b o e=>hm.heap b o (fun z=>?_) (oth b o (jJ (jq e)) (kp b o (j7 _ e)))) (gT (jq hS'))
 ·obtain⟨t,ht⟩:=hy i x h2;exact⟨t,(hacc.2 i u (by simpa using h1)).trans ht⟩
 ·have lb:=jq e;rcases jA.mp z with z |z
  ·exact absurd z (jJ lb)
  ·rw[jI.mp z] at lb;exact absurd (Nat.lt_of_succ_le nI) (Nat.lt_asymm lb)
end
section
variable {X:Cx}
def zoX(X:Cx)(a:ji)(l:List Str):HO:=.ext (IsSetF X.prog X.w a l)
theorem zjx(hc:X.calm=true):CallR X (.type "set") (fun xs H Q=>∃(a:ji) (ss:List Str),xs=[V.ref a]/\SqL X.K H a (ss.map V.str)/\ss.length < 1000/\∀ l,H l=none->Q (.ref l) (upd H l (zoX X l (Dw.za4 ss)))):=by
 intro pc s σ H xs us Q I rv h;obtain⟨a,ss,rfl,hq,hl,q⟩:=h;obtain⟨u,rfl,ru⟩:=rv.one;cases ru;obtain⟨its,r,p,hz⟩:=I.list hq;have hlen:=r.length;rw[je] at hlen;refine zf0 (ss:=ss) (I.ok.hd hc) p.isList (by rw[jj]; exact hlen) (fun i v x hv hx=>?_) (by rw[jj]; unfold ZH; lia) fun h' tk hs k=>?_
 ·obtain⟨u,hu,ru⟩:=r.get (i:=i) (x:=V.str x) (by rw[jk,hx]; rfl)
  have e:v=u:=by
   rw[gi,hu] at hv;exact(jg hv).symm
  rw[e];exact ru
 ·have new:ObjOk X.prog X.w (upd H s.heap.objs.size (zoX X s.heap.objs.size (Dw.za4 ss))) h' s.heap.objs.size (zoX X s.heap.objs.size (Dw.za4 ss)):=⟨hs,by obtain⟨o,_,_,_,e,_⟩:=hs; exact⟨o,e⟩,fun h1 h2 x k=>x.at k⟩
  exact⟨.ref s.heap.objs.size,_,I.laid (a:=s.heap.objs.size) (t':=tk) (fun b o e=>k b o (jq e) e) (jl _) new,rfl,q _ (I.hok.fresh (jl _))⟩
theorem Inv.dwn{pc:List (ji × Obj)}{σ:St}{H:Hp}{s:j6}(I:Inv X pc σ H s)(d:Drawn):Inv X pc σ H { s with drawn:=d }:=⟨I.ok,I.os,I.bare,I.base,I.loc,I.cell,I.free,I.freeC,I.pin,I.hok,I.len⟩
theorem zfJ(hc:X.calm=true):CallR X (.builtin "sorted") (fun xs H Q=>∃(a:ji) (l:List Str),xs=[V.ref a]/\H a=some (zoX X a l)/\l.Nodup/\l.length < 64/\∀ r,H r=none->Q (.ref r) (upd H r (.lst ((zaW l).map V.str)))):=by
 intro pc s σ H xs us Q I rv h;obtain⟨a,l,rfl,ha,nd,hl,q⟩:=h;obtain⟨u,rfl,ru⟩:=rv.one;cases ru;obtain⟨hs,_,_⟩:=(I.hok a _ ha);refine Calls.call_function_entry kind_sorted plain_sorted entry_sorted (args_sorted1 _) ?_;unfold YZ.«sorted»;refine j4 (m:=checkCount "sorted" 1 1 _) (jf ?_);refine j4 (zgw (show X.A.in1.handled=none by simp[I.ok.hd hc]) hs nd (by lia) fun vs ss h' d' tk sa hp kp tl=>?_)
 have hlen:=zbZ sa;have vl:vs.length < 64:=by rw[hlen,hp.length_eq]; exact hl
 refine j4 (wpAny_newList ?_ (by rw[Qs]; lia))
 have hoL:(h'.push (seqObj "list" vs.toArray 0)).get? h'.objs.size=some (seqObj "list" vs.toArray 0):=jn _ rfl;refine j4 (Z9 (QL slot_list_sort ⟨_,hoL,rfl⟩ entry_list_sort (list_sort_treeK strKind_oneLt hoL sa.keysOf (fun v₁ v₂ rest e=>keyKind_strs (by rw[<-e]; exact sa)) vl fun st' a1 a2=>⟨_,rfl,?_⟩) (args_list_sort _)))
 obtain⟨ss',b1,b2,b3⟩:=sorted_out_str sa a1 a2;have hss:=zcK (b2.trans hp) (zdY b3);subst hss;obtain⟨e,he⟩:=sortedHeap_at (vs:=vs) (out:=(arrOf st').map (·.2)) hoL
 have I2:Inv X pc σ H { s with heap:=s.heap,drawn:=d',toks:=s.toks }:=I.dwn d';refine jf ⟨_,rfl,⟨.ref h'.objs.size,_,I2.laid (a:=h'.objs.size) (o:=.lst ((zaW l).map V.str)) (t':=tk) (h':=sortedHeap (h'.push (seqObj "list" vs.toArray 0)) h'.objs.size vs ((arrOf st').map (·.2))) (fun b o e=>?_) tl ⟨by rw[je,(zbi l).length_eq,Qs]; lia,((arrOf st').map (·.2)).toList,e,zbF b1,by rw[he]⟩,rfl,q _ (I.hok.fresh tl)⟩⟩
 have hb:=kp b o e;have lb:=jq hb;rw[sortedHeap_old (jJ lb) (by rw[Qw]; exact Z2 lb)]
 exact j7 _ hb
end
section
variable {X:Cx}
def zkW:V->List V->Hp->VK->Prop:=fun x vs H Q=>∃ z,x=.str z/\vs=[]/\(ZJ z).length<=ja/\Q (.str (ZJ z)) H
theorem zko:MtR X "str.upper" zkW:=by
 intro pc s σ H x vs v us Q I rx rv h;obtain⟨z,rfl,rfl,hl,q⟩:=h;obtain⟨t,rfl⟩:=rx;cases rv;exact SC.upper (Df_ (Nat.not_lt.mpr hl)) ⟨.str _,H,I.tok _,⟨_,rfl⟩,q⟩
def PE1(X:Cx)(e:jU)(t:TE):Prop:=
 ∀(pc:List (ji × Obj)) (s:j6) (σ:St) (H:Hp) (Q:VK),Inv X pc σ H s->1<=s.toks->t σ H Q->jy (jE X.prog X.w) X.A (eval e X.env) (EP X pc σ Q) X.xe s
def PA1(X:Cx)(es:List jU)(t:TA):Prop:=
 ∀(pos:Pos) (pc:List (ji × Obj)) (s:j6) (σ:St) (H:Hp) (Q:List V->Hp->Prop),Inv X pc σ H s->1<=s.toks->t σ H Q->jy (jE X.prog X.w) X.A (NI (Qr pos (jb es X.env))) (AP X pc σ Q) X.xe s
variable {e o:jU}{es:List jU}{te to:TE}{t:TA}{apos cpos:Pos}
theorem zqQ{α:Type}{t:Sem α}{Q Q':α->j6->Prop}{M:Model}{A:jP}{E:j5->j6->Prop}{s:j6}{n:Nat}(hk:n<=s.toks)(h:jy M A t Q E s)(hQ:∀ a s',n<=s'.toks->Q a s'->Q' a s'):jy M A t Q' E s:=
 Q7 (wpAny_toks_of hk h) (fun a s' x=>hQ a s' x.1 x.2) fun _ _ x=>x.2
theorem pe1(h:PE X e te):PE1 X e te:=fun pc s σ H Q I _ q=>h pc s σ H Q I q
theorem pa1(h:PA X es t):PA1 X es t:=fun pos pc s σ H Q I _ q=>h pos pc s σ H Q I q
theorem zgQ(ha:PE1 X e te)(hr:PA1 X es t)(hs:jb (e::es) X.env=(false,eval e X.env)::jb es X.env:=by rfl):PA1 X (e::es) (zb8 te t):=by
 intro pos pc s σ H Q I hk h;rw[hs];show jy _ _ (NI ((false,eval e X.env)::Qr pos (jb es X.env))) _ _ s;refine Qf (zqQ hk (ha pc s σ H _ I hk h) fun u s1 hk1 ⟨x,H1,I1,r1,q1⟩=>?_);exact thn (hr pos pc s1 σ H1 _ I1 hk1 q1) fun us s2 ⟨xs,H2,I2,r2,q2⟩=>⟨x::xs,H2,I2,.cons r1 r2,q2⟩
theorem zkj{c:Str}{k:Nat}{p0 pos0:Pos}{op:Operator}{r:jU}(ha:PE X (.BinOp (.Constant (.str c) k p0) op r pos0) te)(hr:PA1 X es t)(hs:jb (.BinOp (.Constant (.str c) k p0) op r pos0::es) X.env=(false,eval (.BinOp (.Constant (.str c) k p0) op r pos0) X.env)::jb es X.env:=by rfl):PA X (.BinOp (.Constant (.str c) k p0) op r pos0::es) (zb8 te t):=by
 intro pos pc s σ H Q I h;rw[hs];show jy _ _ (NI ((false,eval (.BinOp (.Constant (.str c) k p0) op r pos0) X.env)::Qr pos (jb es X.env))) _ _ s;refine Qf ?_;have h1:=ha pc s σ H _ I h;have h2:jy (jE X.prog X.w) X.A (eval (.BinOp (.Constant (.str c) k p0) op r pos0) X.env) (fun v s'=>1<=s'.toks/\EP X pc σ (fun x H1=>t σ H1 fun xs H2=>Q (x::xs) H2) v s') X.xe s:=by
  intro Γ p hΓ;have h1:=h1 Γ p hΓ;rw[eval_BinOp] at h1 ⊢;rw[Sem.wp_bind'] at h1 ⊢
  have h3:Sem.wp (jE X.prog X.w) Γ (do
    let b <-gC [Zo c s.toks] (eval r X.env)
    NJ pos0
    WK [Zo c s.toks,b] (gW op (Zo c s.toks) b)) (fun a _ s'=>EP X pc σ (fun x H1=>t σ H1 fun xs H2=>Q (x::xs) H2) a s') (fun e _ s'=>X.xe e s') p { s with toks:=s.toks+1 }:=h1
  show Sem.wp (jE X.prog X.w) Γ (do
    let b <-gC [Zo c s.toks] (eval r X.env)
    NJ pos0
    WK [Zo c s.toks,b] (gW op (Zo c s.toks) b)) (fun a _ s'=>1<=s'.toks/\EP X pc σ (fun x H1=>t σ H1 fun xs H2=>Q (x::xs) H2) a s') (fun e _ s'=>X.xe e s') p { s with toks:=s.toks+1 }
  exact Sem.wp_mono _ Γ _ (fun _ _ _ x=>x) (fun _ _ _ x=>x.2) _ _ (Sem.wp_toks _ Γ 1 _ _ _ _ _ (Nat.le_add_left 1 _) h3)
 refine thn h2 fun u s1 h_=>?_; obtain⟨hk1,x,H1,I1,r1,q1⟩:=h_;exact thn (hr pos pc s1 σ H1 _ I1 hk1 q1) fun us s2 ⟨xs,H2,I2,r2,q2⟩=>⟨x::xs,H2,I2,.cons r1 r2,q2⟩
def znu(y z:Str)(to:TE):TE:=fun σ H Q=>to σ H fun x H1=>∃ c,x=.str c/\c.length<=1048576/\Q (.str (gd c y z)) H1
theorem zhy{y z:Str}{k1 k2:Nat}{p1 p2:Pos}(hyz:(y == z)=false)(hz:z.length<=14)(ho:PE X o to)(hbase:Zb o "replace" X.env (eval o X.env)=eval o X.env:=by rfl)
  (hfew:((Qr cpos (jb [.Constant (.str y) k1 p1,.Constant (.str z) k2 p2] X.env)).all (fun x=>!x.1)&&(WL cpos (Nn [] X.env)).all (fun x=>x.1.isSome)
   && decide ([Expr.Constant (.str y) k1 p1,.Constant (.str z) k2 p2].length+([]:List No).length+(if ([]:List No).isEmpty then 0 else 1) < 30))=true:=by rfl)
  (hline:(apos.endLine == cpos.line)=true:=by rfl) (hs:jb [.Constant (.str y) k1 p1,.Constant (.str z) k2 p2] X.env=(false,eval (.Constant (.str y) k1 p1) X.env)::jb [.Constant (.str z) k2 p2] X.env:=by rfl) (hs2:jb [.Constant (.str z) k2 p2] X.env=(false,eval (.Constant (.str z) k2 p2) X.env)::jb [] X.env:=by rfl) (hplain:(Qr cpos (jb [.Constant (.str z) k2 p2] X.env)).any (·.1)=false:=by rfl) :
  PE1 X (.Call (.Attribute o "replace" apos) [.Constant (.str y) k1 p1,.Constant (.str z) k2 p2] [] cpos) (znu y z to):=by
 intro pc s σ H Q I hk h;refine YO hbase hfew hline rfl (zqQ hk (ho pc s σ H _ I h) fun v s1 hk1 ⟨x,H1,I1,r1,c,e,hc,q1⟩=>?_);subst e;obtain⟨t,rfl⟩:=r1;refine⟨"str","str.replace",jL,PySem.F.slot_str_replace,PySem.F.type_str_replace,N6 _ _ _,(fun _ e=>nomatch e),?_⟩
 rw[hs];refine QF (by show (false||(Qr cpos (jb [.Constant (.str z) k2 p2] X.env)).any (·.1))=false; rw[hplain]<;>rfl) (ZE ?_)
 show jy _ _ (NI ((false,eval (.Constant (.str y) k1 p1) X.env)::Qr cpos (jb [.Constant (.str z) k2 p2] X.env))) _ _ s1;refine Qf (gU ?_);rw[hs2];show jy _ _ (NI [(false,eval (.Constant (.str z) k2 p2) X.env)]) _ _ { s1 with toks:=s1.toks+1 };refine Qf (gU (g9 ?_));exact SC.replaceW (by show s1.toks≠0; lia) (by show s1.toks+1≠0; lia) (by show s1.toks≠s1.toks+1; lia) hyz hc hz fun t' k=>⟨.str _,H1,(I1.tok _),⟨_,rfl⟩,q1⟩
end
end L2
namespace L3
open PySem PySem.Spec PyProof.Rows L2
variable [TheK]
variable {X:Cx}{M:List Nat}{a b c e:jU}{fa fb fe:DE}{p pos:Pos}
def zhh(caps:List (Option Nat))(s:Sg):Sg:=caps.map fun o=>o.bind fun j=>(s[j]?).join
def zaw(M:List Nat):List (Option Nat)->Sg->Sg->Sg
 |some j::cs,x::xs,s=>zaw M cs xs (if M.contains j then s.set j x else s)
 |none::cs,_::xs,s=>zaw M cs xs s
 |_,_,s=>s
structure CapOk (caps:List (Option Nat)) (M Mi:List Nat):Prop where
 yes:∀(i:Nat),i∈Mi->∃ j,caps[i]?=some (some j)/\j∈M
 no:∀(i j:Nat),caps[i]?=some (some j)->i∉Mi->j∉M
 inj:∀(i i' j:Nat),caps[i]?=some (some j)->caps[i']?=some (some j)->i=i'
def zoG(caps:List (Option Nat))(M Mi:List Nat):Bool:=
 Mi.all (fun i=>match caps[i]? with |some (some j)=>M.contains j |_=>false) &&
 (jK caps.length).all (fun i=>match caps[i]? with |some (some j)=>Mi.contains i||!M.contains j |_=>true) &&
 (jK caps.length).all (fun i=>(jK caps.length).all fun i'=>match caps[i]?,caps[i']? with |some (some j),some (some j')=>j != j'||i == i' |_,_=>true)
theorem CapOk.of{caps:List (Option Nat)}{M Mi:List Nat}(h:zoG caps M Mi=true):CapOk caps M Mi:=by
 unfold zoG at h;rw[jo,jo] at h;obtain⟨⟨h1,h2⟩,h3⟩:=h;have lt:∀ {i:Nat} {o:Option Nat},caps[i]?=some o->i∈jK caps.length:=fun e=>jR.mpr (jd.mp e).1;refine⟨fun i hi=>?_,fun i j e n=>?_,fun i i' j e e'=>?_⟩
 ·have:=jm.mp h1 i hi;cases hc:caps[i]? with
  |none=>rw[hc] at this; cases this
  |some o=>cases o with
   |none=>rw[hc] at this; cases this
   |some j=>rw[hc] at this; exact⟨j,rfl,by simpa using this⟩
 ·have:=jm.mp h2 i (lt e);rw[e] at this;intro hj;have a:Mi.contains i=false:=by simpa using n
  have b:M.contains j=true:=by simpa using hj
  dsimp only at this;rw[a,b] at this;cases this
 ·have:=jm.mp (jm.mp h3 i (lt e)) i' (lt e');rw[e,e'] at this;simpa using this
theorem zhg{caps:List (Option Nat)}{s:Sg}{i:Nat}{t:T}(h:(zhh caps s)[i]?=some (some t)):∃ j,caps[i]?=some (some j)/\s[j]?=some (some t):=by
 unfold zhh at h;rw[jk] at h;obtain⟨o,h1,h2⟩:=Qm h;cases o with
 |none=>cases h2
 |some j=>exact⟨j,h1,za9 h2⟩
theorem zfG{caps:List (Option Nat)}{σ:L2.St}{i j:Nat}(h:caps[i]?=some (some j)):(zbf caps σ)[i]?=some (σ[j]?).join:=by
 unfold zbf;rw[jk,h];rfl
theorem zaT{caps:List (Option Nat)}{σ:L2.St}{i:Nat}{v:V}(h:(zbf caps σ)[i]?=some (some v)):∃ j,caps[i]?=some (some j)/\σ[j]?=some (some v):=by
 unfold zbf at h;rw[jk] at h;obtain⟨o,h1,h2⟩:=Qm h;cases o with
 |none=>cases h2
 |some j=>
  refine⟨j,h1,?_⟩;have h2:(σ[j]?).join=some v:=h2;cases e:σ[j]? with
  |none=>rw[e] at h2; cases h2
  |some x=>rw[e] at h2; cases x with
   |none=>cases h2
   |some y=>injection h2 with h2; rw[h2]
theorem Rel.cap{F:Fr}{O:ji->Prop}{M Mi:List Nat}{s:Sg}{σ:L2.St}{H:Hp}{caps:List (Option Nat)}(R:Rel F O M s σ H)(c:CapOk caps M Mi):Rel F O Mi (zhh caps s) (zbf caps σ) H:=by
 refine⟨by unfold zhh zbf; simp,fun i t e n=>?_,fun i t e n=>?_,fun i a hi e=>?_,fun i i' a hi hi' e e'=>?_,R.keep,R.dom,R.fresh,R.inD,R.al⟩
 ·obtain⟨j,h1,h2⟩:=zhg e;obtain⟨v,h3,h4⟩:=R.val j t h2 (c.no i j h1 n);exact⟨v,by rw[zfG h1,h3]; rfl,h4⟩
 ·obtain⟨j,h1,h2⟩:=zhg e;obtain⟨j',h1',h3⟩:=c.yes i n;rw[h1] at h1';obtain rfl:j=j':=by injection h1' with h; injection h
  obtain⟨a,h4,L⟩:=R.own j t h2 h3;exact⟨a,by rw[zfG h1,h4]; rfl,L⟩
 ·obtain⟨j,h1,h2⟩:=zaT e;obtain⟨j',h1',h3⟩:=c.yes i hi;rw[h1] at h1';obtain rfl:j=j':=by injection h1' with h; injection h
  exact R.ow j a h3 h2
 ·obtain⟨j,h1,h2⟩:=zaT e;obtain⟨j',h1',h2'⟩:=zaT e';obtain⟨k,hk,h3⟩:=c.yes i hi;obtain⟨k',hk',h3'⟩:=c.yes i' hi';rw[h1] at hk;rw[h1'] at hk';obtain rfl:j=k:=by injection hk with h; injection h
  obtain rfl:j'=k':=by injection hk' with h; injection h
  have:=R.dis j j' a h3 h3' h2 h2';subst this;exact c.inj i i' j h1 h1'
theorem zbW(M:List Nat):∀(caps:List (Option Nat)) (si s:Sg),(zaw M caps si s).length=s.length
 |[],_,_=>by unfold zaw; rfl
 |none::cs,[],s=>by unfold zaw; rfl
 |some j::cs,[],s=>by unfold zaw; rfl
 |none::cs,x::xs,s=>by unfold zaw; exact zbW M cs xs s
 |some j::cs,x::xs,s=>by
  unfold zaw;rw[zbW M cs xs];split
  ·rw[jT]
  ·rfl
theorem zbo(M:List Nat){j:Nat}:∀(caps:List (Option Nat)) (si s:Sg),(j∉M∨∀ i:Nat,caps[i]?≠some (some j))->(zaw M caps si s)[j]?=s[j]?
 |[],_,_,_=>by unfold zaw; rfl
 |none::cs,[],s,_=>by unfold zaw; rfl
 |some k::cs,[],s,_=>by unfold zaw; rfl
 |none::cs,x::xs,s,h=>by
  unfold zaw;exact zbo M cs xs s (h.imp id fun z i=>by simpa using z (i+1))
 |some k::cs,x::xs,s,h=>by
  unfold zaw;rw[zbo M cs xs _ (h.imp id fun z i=>by simpa using z (i+1))]
  split
  ·rename_i hk;refine jc fun z=>?_;subst z;rcases h with h |h
   ·exact h (by simpa using hk)
   ·exact h 0 rfl
  ·rfl
theorem zdM(M:List Nat){j:Nat}(hj:j∈M):∀(caps:List (Option Nat)) (si s:Sg) (i:Nat),caps[i]?=some (some j)->(∀ i':Nat,caps[i']?=some (some j)->i'=i)->i < si.length->j < s.length->(zaw M caps si s)[j]?=si[i]?
 |[],_,_,i,e,_,_,_=>by simp at e
 |c::cs,[],s,i,_,_,hi,_=>by simp at hi
 |none::cs,x::xs,s,i,e,u,hi,hl=>by
  unfold zaw;cases i with
  |zero=>simp at e
  |succ i=>
   rw[YF];exact zdM M hj cs xs s i (by simpa using e) (fun i' e'=>by simpa using u (i'+1) (by simpa using e')) (by simpa using hi) hl
 |some k::cs,x::xs,s,i,e,u,hi,hl=>by
  unfold zaw;cases i with
  |zero=>
   have hk:k=j:=by simpa using e
   subst hk;rw[zbo M cs xs _ (.inr fun i' e'=>by simpa using u (i'+1) (by simpa using e')),Ip_ (by simpa using hj),jF hl]
   rfl
  |succ i=>
   rw[YF];refine zdM M hj cs xs _ i (by simpa using e) (fun i' e'=>by simpa using u (i'+1) (by simpa using e')) (by simpa using hi) ?_
   split
   ·rw[jT]; exact hl
   ·exact hl
theorem Rel.back{F:Fr}{O:ji->Prop}{M Mi:List Nat}{s si:Sg}{σ σ2:L2.St}{H2 H4:Hp}{caps:List (Option Nat)}(R:Rel F O M s σ H2)(c:CapOk caps M Mi)(S:Step σ2 Mi H2 H4)(Ri:Rel F O Mi si σ2 H4)
  (hk:∀(i j:Nat),caps[i]?=some (some j)->σ2[i]?=(zbf caps σ)[i]?) (hl:si.length=caps.length):Rel F O M (zaw M caps si s) σ H4:=by
 have addr:∀(i:Nat) b,i∈Mi->σ2[i]?=some (some (.ref b))->∃ j,caps[i]?=some (some j)/\j∈M/\σ[j]?=some (some (.ref b)):=fun i b hi e=>by
  obtain⟨j,h1,h2⟩:=c.yes i hi;rw[hk i j h1] at e;obtain⟨j',h3,h4⟩:=zaT e;rw[h1] at h3;obtain rfl:j=j':=by injection h3 with h; injection h
  exact⟨j,h1,h2,h4⟩
 have kf:∀ b u,Free F O b->H2 b=some u->H4 b=some u:=fun b u z e=>S.keep b u (fun i hi e'=>by
  obtain⟨j,_,h2,h3⟩:=addr i b hi e'
  exact z.1 (R.ow j b h2 h3)) e
 refine⟨by rw[zbW]; exact R.len,fun j t e n=>?_,fun j t e n=>?_,R.ow,R.dis,Ri.keep,Ri.dom,R.fresh,R.inD,Ri.al⟩
 ·rw[zbo M caps si s (.inl n)] at e;obtain⟨v,h1,h2⟩:=R.val j t e n;exact⟨v,h1,h2.mono (fun _ c=>c) kf⟩
 ·by_cases hc:∃ i:Nat,caps[i]?=some (some j)
  ·obtain⟨i,hi⟩:=hc;have hlt:=(jd.mp hi).1;have hjl:j < s.length:=by
    have:=(jd.mp e).1
    rwa [zbW] at this
   rw[zdM M n caps si s i hi (fun i' e'=>c.inj i' i j e' hi) (by lia) hjl] at e
   have him:=Decidable.byContradiction fun z=>c.no i j hi z n;obtain⟨a,h1,L⟩:=Ri.own i t e him;obtain⟨j',h2,_,h3⟩:=addr i a him h1;rw[hi] at h2;obtain rfl:j=j':=by injection h2 with h; injection h
   exact⟨a,h3,L⟩
  ·rw[zbo M caps si s (.inr fun i z=>hc ⟨i,z⟩)] at e;obtain⟨a,h1,L⟩:=R.own j t e n;refine⟨a,h1,L.mono (fun _ c=>c) kf fun u e'=>S.keep a u (fun i hi e''=>?_) e'⟩;obtain⟨j',h2,h3,h4⟩:=addr i a hi e'';have:=R.dis j j' a n h3 h1 h4;subst this;exact hc ⟨i,h2⟩
def zn6(g:TG)(dg:DG)(Mi:List Nat)(caps:List (Option Nat)):Prop:=∀ F O s t s' v σ H (Q:L2.St->Hp->Prop),Rel F O Mi s σ H->Rep (Free F O) H v t->dg t s=some s'->
 (∀ σ',Rel F O Mi s' σ' H->(∀(i j:Nat),caps[i]?=some (some j)->σ'[i]?=σ[i]?)->σ'.length=σ.length->Q σ' H)->g v σ H Q
theorem zb7{i:Nat}{Mi:List Nat}{caps:List (Option Nat)}(hc:caps[i]?=some none:=by rfl)(hi:Mi.contains i=false:=by rfl):zn6 (zcF i) (dGn i) Mi caps:=by
 intro F O s t s' v σ H Q R r hg q;have hi':i∉Mi:=by simpa using hi
 unfold dGn at hg;split at hg
 ·rename_i hl;cases hg;refine q _ (R.setE (fun j hj=>⟨hj,fun z=>hi' (z▸hj)⟩) (fun j hj=>.inl hj) hl r) (fun k j e=>?_) ?_;exact jc fun z=>by subst z; rw[hc] at e; cases e
  exact jT
 ·cases hg
@[irreducible] def zet:Nat:=1000000
theorem zgX:zet=1000000:=by unfold zet; rfl
def zjG(M:List Nat)(caps:List (Option Nat))(dg:DG)(ft:DT)(fe:DE):List T->List T->Sg->Option (List T × Sg)
 |[],acc,s=>some (acc,s)
 |x::xs,acc,s=>(dg x (zhh caps s)).bind fun s1=>(ft s1).bind fun p=>if p.1 then (fe p.2).bind fun q=>zjG M caps dg ft fe xs (acc++[q.1]) (zaw M caps q.2 s) else zjG M caps dg ft fe xs acc (zaw M caps p.2 s)
def dLC(M:List Nat)(caps:List (Option Nat))(fi:DI)(dg:DG)(ft:DT)(fe:DE):DE:=fun s=>(fi s).bind fun p=>if p.1.length<=zet then (zjG M caps dg ft fe p.1 [] p.2).map fun q=>(.lst q.1,q.2) else none
def zdK:DT:=fun s=>some (true,s)
theorem zoa{M Mi:List Nat}{caps:List (Option Nat)}{fi:DI}{g:TG}{dg:DG}{ft:DT}{fe:DE}{tt:TT}(c:CapOk caps M Mi)(hg:zn6 g dg Mi caps)(htt:∀ σ H Q,cT Mi ft σ H Q->tt σ H Q) :
  ∀ σ H Q,cE .n M (dLC M caps fi dg ft fe) σ H Q->tLC caps (cI M fi) g tt (cE .e Mi fe) σ H Q:=by
 intro σ H Q h_;refine cE_ h_ fun F O s t s' R hf q=>?_;obtain⟨⟨its,s1⟩,h1,h2⟩:=Qb hf;split at h2
 case isFalse=>cases h2
 rename_i hsz;have hsz:its.length<=zet:=hsz;rw[zgX] at hsz;obtain⟨⟨tsE,sE⟩,h3,h4⟩:=Qm h2;cases h4;refine⟨F,O,s,its,s1,R,h1,fun J H1 S1 R1 IT D hD=>?_⟩;have nD:∀(j:Nat),j∈M->σ[j]?≠some (some (.ref D)):=fun j hj e=>R1.al D (R1.ow j D hj e) hD;have RD:=R1.new hD (.lst [])
 refine⟨fun i m H'=>m=its.length - i/\i<=its.length/\∃ s' acc ys,Rel F (fun b=>O b∨b=D) M s' σ H'/\H' D=some (.lst ys)/\ys.length<=i/\Reps (Free F (fun b=>O b∨b=D)) H' ys acc/\Step σ M H H' /\
  (∀ b o,Free F O b->H1 b=some o->H' b=some o)/\zjG M caps dg ft fe (its.drop i) acc s'=some (tsE,sE),⟨its.length,by simp,Zs _,s1,[],[],RD,za5,jl _,.nil,S1.trans (.new hD _),fun b o _ e=>by rw[za1 (zaa e hD)]; exact e,h3⟩,?_⟩
 rintro i m H2 ⟨rfl,hi,s2,acc,ys,R2,hD2,hy,ry,S2,k2,hl⟩;have it:=IT H2 k2 i
 by_cases hlt:i < its.length
 ·refine .inr ?_;obtain⟨go,yl⟩:=it.1 its[i] (j3 hlt);rw[ZF hlt] at hl;unfold zjG at hl;obtain⟨si1,hdg,hl⟩:=Qb hl;obtain⟨⟨b,si2⟩,hft,hl⟩:=Qb hl;refine⟨go,fun x H3 hy3=>?_⟩;obtain⟨y1,y2⟩:=yl x H3 hy3
  -- what was yielded is free of D
  have R3:Rel F (fun b=>O b∨b=D) M s2 σ H3/\(∀ b u,H2 b=some u->H3 b=some u)/\(∀ b,H3 b=none->H2 b=none):=by
   rcases y1 with rfl |⟨p,o,hp,rfl⟩
   ·exact⟨R2,fun _ _ e=>e,fun _ e=>e⟩
   ·exact⟨(R2.new hp o).less (fun b z=>.inl z) R2.ow R2.inD,fun b u e=>by rw[za1 (zaa e hp)]; exact e,fun b e=>by
     unfold upd at e;split at e
     ·cases e
     ·exact e⟩
  obtain⟨R3,k3,dm3⟩:=R3
  have rx:Rep (Free F (fun b=>O b∨b=D)) H3 x its[i]:=y2.mono (fun b z=>by
   rcases z with ⟨z,n⟩ |n
   ·exact⟨fun y=>y.elim z.1 fun y=>n (y▸hD),z.2⟩
   ·exact⟨fun y=>R2.al b y n,.inr (R2.dom b n)⟩) fun _ _ _ e=>e
  have ry3:=ry.mono (fun _ z=>z) fun b o _ e=>k3 b o e;have hD3:=k3 _ _ hD2;refine hg F _ (zhh caps s2) its[i] si1 x (zbf caps σ) H3 _ (R3.cap c) rx hdg fun σ4 R4 hk4 hl4=>?_;have hsl:∀ {sx:Sg} {Hx:Hp},Rel F (fun b=>O b∨b=D) Mi sx σ4 Hx->sx.length=caps.length:=fun {sx Hx} Rx=>by
   rw[Rx.len,hl4];unfold zbf;rw[je]
  have nD4:∀(k:Nat),k∈Mi->σ4[k]?≠some (some (.ref D)):=fun k hk e=>by
   obtain⟨j,e1,e2⟩:=c.yes k hk;rw[hk4 k j e1] at e;obtain⟨j',e3,e4⟩:=zaT e;rw[e1] at e3;obtain rfl:j=j':=by injection e3 with h; injection h
   exact nD j e2 e4
  refine htt _ _ _ ⟨F,_,si1,b,si2,R4,hft,fun H5 S5 R5=>?_⟩;have freeK:∀ {Hx Hy:Hp},Step σ4 Mi Hx Hy->∀ b o,(Free F O b/\b≠D)->Hx b=some o->Hy b=some o:=fun {Hx Hy} Sx b o z e=>Sx.keep b o (R4.notOwned fun y=>y.elim z.1.1 z.2) e
  have S3':∀ {Hx:Hp},Step σ4 Mi H3 Hx->Step σ M H Hx:=fun {Hx} Sx=>⟨fun b o n e=>Sx.keep b o (fun k hk e'=>by
   obtain⟨j,e1,e2⟩:=c.yes k hk;rw[hk4 k j e1] at e';obtain⟨j',e3,e4⟩:=zaT e';rw[e1] at e3;obtain rfl:j=j':=by injection e3 with h; injection h
   exact n j e2 e4) (k3 b o (S2.keep b o n e)),fun b e=>S2.dom b (dm3 b (Sx.dom b e))⟩
  have keepF:∀ {Hx:Hp},Step σ4 Mi H3 Hx->∀ b o,Free F O b->H1 b=some o->Hx b=some o:=fun {Hx} Sx b o z e=>freeK Sx b o ⟨z,fun y=>by rw[y,hD] at e; cases e⟩ (k3 b o (k2 b o z e))
  cases b with
  |false=>
   rw[In_ ju] at hl;dsimp only;rw[In_ ju];exact⟨its.length - (i+1),by lia,rfl,hlt,zaw M caps si2 s2,acc,ys,R3.back c S5 R5 hk4 (hsl R5),S5.keep D _ nD4 hD3,W3 hy,ry3.mono (fun _ z=>z) fun b o z e=>S5.keep b o (R4.notOwned z.1) e,S3' S5,keepF S5,hl⟩
  |true=>
   rw[Ip_ rfl] at hl;dsimp only;rw[Ip_ rfl];obtain⟨⟨te,si3⟩,hfe,hl⟩:=Qb hl;refine⟨F,_,si2,te,si3,R5,hfe,fun y H6 S6 p6=>?_⟩;have S56:=S5.trans S6;have hD6:=S56.keep D _ nD4 hD3;have R6:=R3.back c S56 p6.1 hk4 (hsl p6.1);refine⟨ys,hD6,by rw[Qs]; lia,its.length - (i+1),by lia,rfl,hlt,zaw M caps si3 s2,acc++[te],ys++[y],?_,za5,by rw[js,Zr]; lia,?_,?_,?_,hl⟩
   ·-- D is nobody's: writing there keeps the relation
    have kD:∀ b u,b≠D->H6 b=some u->upd H6 D (.lst (ys++[y])) b=some u:=fun b u n e=>by rw[za1 n]; exact e
    refine⟨R6.len,fun j t e n=>?_,fun j t e n=>?_,R6.ow,R6.dis,fun b u n e=>?_,fun b e=>?_,R6.fresh,R6.inD,fun b z e=>?_⟩
    ·obtain⟨v,a1,a2⟩:=R6.val j t e n;exact⟨v,a1,a2.mono (fun _ z=>z) fun b u z e=>kD b u (fun w=>z.1 (.inr w)) e⟩
    ·obtain⟨a,a1,a2⟩:=R6.own j t e n;exact⟨a,a1,a2.mono (fun _ z=>z) (fun b u z e=>kD b u (fun w=>z.1 (.inr w)) e) fun u e=>kD a u (fun w=>nD j n (w▸a1)) e⟩
    ·refine kD b u (fun w=>?_) (R6.keep b u n e);subst w;have:=R1.dom b hD;rw[this] at e; cases e
    ·refine R6.dom b ?_;unfold upd at e;split at e
     ·cases e
     ·exact e
    ·refine R6.al b z ?_;unfold upd at e;split at e
     ·cases e
     ·exact e
   ·have r1:=(ry3.mono (fun _ z=>z) fun b o z e=>S56.keep b o (R4.notOwned z.1) e).snoc p6.2;exact r1.mono (fun _ z=>z) fun b u z e=>by rw[za1 (fun w=>z.1 (.inr w))]; exact e
   ·exact⟨fun b o n e=>by rw[za1 (zaa e (S1.dom D hD))]; exact(S3' S56).keep b o n e,fun b e=>(S3' S56).dom b (by
     unfold upd at e;split at e
     ·cases e
     ·exact e)⟩
   ·exact fun b o z e=>by rw[za1 (zaa e hD)]; exact keepF S56 b o z e
 ·have e:i=its.length:=by lia
  subst e;rw[YI] at hl;cases hl;exact .inl ⟨it.2 (jl _),q _ H2 S2 ⟨D,rfl,S1.dom D hD,R2,.lst hD2 ry⟩⟩
theorem zoZ{X:Cx}{e:jU}{t t':TE}(h:PE X e t)(h':PE X e t'):PE X e (fun σ H Q=>t σ H Q∨t' σ H Q):=fun pc s σ H Q I q=>q.elim (h pc s σ H Q I) (h' pc s σ H Q I)
theorem zrJ{X:Cx}{e:jU}{t t':TT}(h:PT X e t)(h':PT X e t'):PT X e (fun σ H Q=>t σ H Q∨t' σ H Q):=fun pc s σ H Q I q=>q.elim (h pc s σ H Q I) (h' pc s σ H Q I)
theorem zqe{X:Cx}{tg e:jU}{t t':TI}(h:PI X tg e t)(h':PI X tg e t'):PI X tg e (fun σ H R=>t σ H R∨t' σ H R):=fun pc s σ H R I q=>q.elim (h pc s σ H R I) (h' pc s σ H R I)
theorem zha{M:List Nat}{k k' k2:Kd}{f f' f2:DE}(hs:∀ s p,f2 s=some p->f s=some p∨f' s=some p)(hk:∀ F O σ H s' t v H' (s:Sg),Rel F O M s σ H->Post k F O M σ H s' t v H'->Post k2 F O M σ H s' t v H')(hk':∀ F O σ H s' t v H' (s:Sg),Rel F O M s σ H->Post k' F O M σ H s' t v H'->Post k2 F O M σ H s' t v H') :
  ∀ σ H Q,cE k2 M f2 σ H Q->cE k M f σ H Q∨cE k' M f' σ H Q:=by
 intro σ H Q h_;refine cE_ h_ fun F O s t s' R hf q=>?_;rcases hs s _ hf with h |h
 ·exact .inl ⟨F,O,s,t,s',R,h,fun v H' S p=>q v H' S (hk F O σ H s' t v H' s R p)⟩
 ·exact .inr ⟨F,O,s,t,s',R,h,fun v H' S p=>q v H' S (hk' F O σ H s' t v H' s R p)⟩
def orG(g g':T->T->Option T):T->T->Option T:=fun x y=>match g x y with
 |some t=>some t
 |none=>g' x y
theorem zl9{g g':T->T->Option T}{x y:T}{t:T}(h:orG g g' x y=some t):g x y=some t∨g' x y=some t:=by
 unfold orG at h;cases e:g x y with
 |none=>rw[e] at h; exact .inr h
 |some u=>rw[e] at h; exact .inl h
theorem zmO{g g':T->T->Option T}{fa fb:DE}:∀ s p,d2 (orG g g') fa fb s=some p->d2 g fa fb s=some p∨d2 g' fa fb s=some p:=fun s p h=>by
 obtain⟨t,s'⟩:=p;obtain⟨x,s1,y,h1,h2,h3⟩:=zgs h;rcases zl9 h3 with e |e
 ·left; unfold d2; rw[h1,j8,h2,j8,e]; rfl
 ·right; unfold d2; rw[h1,j8,h2,j8,e]; rfl
theorem zoD{g g':T->T->Option T}{i:Nat}{fb:DE}:∀ s p,d2v (orG g g') i fb s=some p->d2v g i fb s=some p∨d2v g' i fb s=some p:=fun s p h=>by
 obtain⟨t,s'⟩:=p;obtain⟨x0,x,y,h0,h1,h2,h3⟩:=zhc h;have j0:(s[i]?).join=some x0:=by rw[h0]; rfl
 have j2:(s'[i]?).join=some x:=by rw[h2]; rfl
 rcases zl9 h3 with e |e
 ·left; unfold d2v; rw[j0,j8,h1,j8,j2,j8,e]; rfl
 ·right; unfold d2v; rw[j0,j8,h1,j8,j2,j8,e]; rfl
def zaE:=orG gIx zmA
def zoo:=orG gIn zrS
def zc9:=orG zh5 zje
def zac:=orG zjH zmC
section
theorem idE:∀(F:Fr) (O:ji->Prop) (σ:L2.St) (H:Hp) (s':Sg) (t:T) (v:V) (H':Hp) (s:Sg),Rel F O M s σ H->Post .e F O M σ H s' t v H'->Post .e F O M σ H s' t v H':=fun _ _ _ _ _ _ _ _ _ _ p=>p
theorem neE:∀(F:Fr) (O:ji->Prop) (σ:L2.St) (H:Hp) (s':Sg) (t:T) (v:V) (H':Hp) (s:Sg),Rel F O M s σ H->Post .n F O M σ H s' t v H'->Post .e F O M σ H s' t v H':=fun _ _ _ _ _ _ _ _ _ R p=>p.ne R
theorem zmE{f f' f2:DE}(hs:∀ s p,f2 s=some p->f s=some p∨f' s=some p):∀ σ H Q,cT M (dB f2) σ H Q->cT M (dB f) σ H Q∨cT M (dB f') σ H Q:=by
 intro σ H Q h_;refine cT_ h_ fun F O s b s' R hf q=>?_;rcases hs s _ (zgr hf) with h |h
 ·exact .inl ⟨F,O,s,b,s',R,by unfold dB; rw[h]; rfl,q⟩
 ·exact .inr ⟨F,O,s,b,s',R,by unfold dB; rw[h]; rfl,q⟩
def zbC(x:T)(lo hi:Option Int):Option T:=match x with
 |.str _=>zkx x lo hi
 |_=>gSl x lo hi
theorem zoz{fl fh:DO}:∀ s p,dSl zbC fa fl fh s=some p->dSl zkx fa fl fh s=some p∨dSl gSl fa fl fh s=some p:=fun s p h=>by
 obtain⟨p1,h1,h2⟩:=Qb h;obtain⟨q1,h3,h4⟩:=Qb h2;obtain⟨r1,h5,h6⟩:=Qb h4;obtain⟨t,h7,h8⟩:=Qm h6;have e:zkx p1.1 q1.1 r1.1=some t∨gSl p1.1 q1.1 r1.1=some t:=by
  unfold zbC at h7;split at h7
  ·exact .inl h7
  ·exact .inr h7
 rcases e with e |e
 ·left; unfold dSl; rw[h1,j8,h3,j8,h5,j8,e]; exact congrArg some h8
 ·right; unfold dSl; rw[h1,j8,h3,j8,h5,j8,e]; exact congrArg some h8
def kT:Key->T
 |.inl i=>.int i
 |.inr x=>.str x
theorem zoi{C:ji->Prop}{H:Hp}(k:Key):Rep C H (kV k) (kT k):=by
 cases k with
 |inl i=>exact .int i
 |inr x=>exact .str x
theorem zft{C:ji->Prop}{H:Hp}:∀ {vs:List (Key × V)} {ts:List (Key × T)},vs.map (·.1)=ts.map (·.1)->Reps C H (vs.map fun kv=>kV kv.1) (ts.map fun kv=>kT kv.1)
 |[],[],_=>.nil
 |p::vs,[],h=>by simp at h
 |[],q::ts,h=>by simp at h
 |p::vs,q::ts,h=>by
  rw[jp,jp] at h;injection h with h1 h2;rw[jp,jp,h1];exact .cons (zoi _) (zft h2)
def zg2(c:Nat):T:=.str ⟨#[c]⟩
def zcX(f:DE):DI:=fun s=>(f s).bind fun p=>match p.1 with
 |.lst xs=>some (xs,p.2)
 |.scr ns=>some (ns.map .int,p.2)
 |.tup xs=>some (xs,p.2)
 |.fd kvs=>some (kvs.map fun kv=>kT kv.1,p.2)
 |.str x=>some (x.cps.toList.map zg2,p.2)
 |_=>none
def zr4(f:DE):DI:=fun s=>(f s).bind fun p=>match p.1 with
 |.fd kvs=>some (kvs.map fun kv=>kT kv.1,p.2)
 |_=>none
def zr3(f:DE):DI:=fun s=>(f s).bind fun p=>match p.1 with
 |.str x=>some (x.cps.toList.map zg2,p.2)
 |_=>none
theorem zj3{F:Fr}{O:ji->Prop}{H1:Hp}{a:ji}{o:Obj}{kvs:List (Key × V)}{f:Key × V->V}{ts:List T}(fr:Free F O a)(ha:H1 a=some (.frz o (.dK kvs)))(r:Reps (Free F O) H1 (kvs.map f) ts):zn7 F O ts (Itd f a o) H1:=by
 intro H2 k i;have h2:=k a _ fr ha;have hl0:kvs.length=ts.length:=by have:=r.1; simpa using this
 refine⟨fun t ht=>?_,fun hl=>⟨kvs,h2,by rw[hl0]; exact hl⟩⟩
 obtain⟨v,hv,rv⟩:=r.get ht;rw[jk] at hv;obtain⟨y,hy,hyv⟩:=Qm hv;refine⟨⟨kvs,y,h2,hy⟩,fun x H3 ⟨e1,e2⟩=>⟨.inl e1,?_⟩⟩;have:=e2 kvs h2;rw[hy] at this;have hx:=jg this;subst hx hyv e1;exact rv.there.mono (fun b c=>.inl c) fun b o c e=>k b o c.1 e
theorem zrP{tg:jU}(h:PE X e (cE .e M fe)):PI X tg e (cI M (zr4 fe)):=zeP (zmo h) (by
 intro σ H R h_;refine cI_ h_ fun F O s its s' Rl hf q=>?_;obtain⟨⟨p1,p2⟩,h1,h2⟩:=Qb hf;obtain⟨ks,rfl⟩:∃ ks,p1=.fd ks:=by cases p1<;>first |exact⟨_,rfl⟩ |cases h2
 cases h2;refine⟨F,O,s,_,_,Rl,h1,fun v H1 S1 p=>?_⟩;obtain⟨a,o,kvs,rfl,ha,ra,fr⟩:=BRep.fd (.inl p.2)
 exact⟨a,o,kvs,rfl,ha,q _ H1 S1 p.1 (zj3 fr ha (zft ra.1))⟩)
theorem zom{tg:jU}(h:PE X e (cE .e M fe)):PI X tg e (cI M (zr3 fe)):=zeP (zmn h) (by
 intro σ H R h_;refine cI_ h_ fun F O s its s' Rl hf q=>?_;obtain⟨⟨p1,p2⟩,h1,h2⟩:=Qb hf;obtain⟨x,rfl⟩:∃ x,p1=.str x:=by cases p1<;>first |exact⟨_,rfl⟩ |cases h2
 cases h2;refine⟨F,O,s,_,_,Rl,h1,fun v H1 S1 p=>?_⟩;refine⟨x,BRep.str (.inl p.2),q _ H1 S1 p.1 ?_⟩;intro H2 k i;refine⟨fun t ht=>?_,fun hl=>by simpa[Its] using hl⟩
 rw[jk] at ht;obtain⟨c,hc,rfl⟩:=Qm ht;have hc':x.cps[i]?=some c:=by simpa using hc
 refine⟨(gR.mp hc').1,fun y H3 ⟨e1,c',e2,e3⟩=>⟨.inl e1,?_⟩⟩;rw[hc'] at e2;cases e2;subst e3
 exact .str _)
variable {es:List jU}{fs:DA}{x:Str}{k:Nat}{f:ji}{fd:QU}{ps:List Str}{np:Nat}
def zp1(i j:Int):Int:=if j < i then j else i
theorem zbE{Mi:List Nat}:∀ σ H Q,cT Mi zdK σ H Q->zpT σ H Q:=by
 intro σ H Q h_;refine cT_ h_ fun F O s b s' R hf q=>?_;cases hf;exact q H .refl R
theorem zmW{st:QR}{t t':TE}{g:TG}(h:PS X st (zeU t g))(hw:∀ σ H Q,t' σ H Q->t σ H Q):PS X st (zeU t' g):=zcb h fun D σ H q=>hw σ H _ q
end
section
variable {fc fk:DE}
def zlj:T->Option T
 |.lst xs=>some (.lst xs) |.tup xs=>some (.lst xs) |.scr ns=>some (.lst (ns.map .int)) |.dct kvs=>some (.lst (kvs.map fun kv=>kT kv.1)) |.fd kvs=>some (.lst (kvs.map fun kv=>kT kv.1))
 |_=>none
def zrR:T->Option T
 |.int i=>some (.int (-i))
 |_=>none
def dCh(g g':T->T->Option T)(fa fb fc:DE):DE:=fun s=>(fa s).bind fun x=>(fb x.2).bind fun y=>(g x.1 y.1).bind fun r=>match r with
 |.bl true=>(fc y.2).bind fun z=>(g' y.1 z.1).map fun t=>(t,z.2)
 |.bl false=>some (.bl false,y.2)
 |_=>none
theorem zmT{r r':R2}{g g':T->T->Option T}(h:S2E r g)(h':S2E r' g'):∀ σ H Q,cE .e M (dCh g g' fa fb fc) σ H Q->zkS r r' (cE .e M fa) (cE .e M fb) (cE .e M fc) σ H Q:=by
 intro σ H Q h_;refine cE_ h_ fun F O s t s' R hf q=>?_;obtain⟨x,h1,hf⟩:=Qb hf;obtain⟨y,h2,hf⟩:=Qb hf;obtain⟨u,h3,hf⟩:=Qb hf;refine⟨F,O,s,x.1,x.2,R,h1,fun v H1 S1 p1=>⟨F,O,x.2,y.1,y.2,p1.1,h2,fun w H2 S2 p2=>?_⟩⟩;refine h (Free F O) H2 v w x.1 y.1 u _ (.inl (p1.1.stay S2 p1.2)) (.inl p2.2) h3 fun z rz=>?_;cases u with
 |bl k=>
  obtain rfl:z=.bl k:=BRep.bl (.inl rz);refine⟨k,rfl,?_⟩;cases k with
  |true=>
   obtain⟨w2,h4,h5⟩:=Qb hf;obtain⟨t',h6,h7⟩:=Qm h5;injection h7 with h7 h8;subst h7 h8;refine⟨F,O,y.2,w2.1,w2.2,p2.1,h4,fun a H3 S3 p3=>?_⟩;exact h' (Free F O) H3 w a y.1 w2.1 t' Q (.inl (p2.1.stay S3 p2.2)) (.inl p3.2) h6 fun a' ra=>q a' H3 ((S1.trans S2).trans S3) ⟨p3.1,ra⟩
  |false=>
   cases hf;exact q _ H2 (S1.trans S2) ⟨p2.1,.bl false⟩
 |_=>cases hf
end
section
variable {st:jU}{fk:DO}{p2:Pos}
def dLR(f:DA):DE:=fun s=>(f s).bind fun p=>match p.1 with
 |[.int j]=>if zf6 j=true then some (.lst (zaJ 0 j.toNat),p.2) else none
 |_=>none
theorem zhu{j:Int}(h:zf6 j=true):-16777216<=j/\j<=16777216:=by
 have:=YY h;lia
end
def zmM(i:Nat):DI:=fun s=>match (s[i]?).join with
 |some (.lst xs)=>some (xs,s)
 |_=>none
theorem zjr{i:Nat}{s s1:Sg}{its:List T}(h:zmM i s=some (its,s1)):s[i]?=some (some (.lst its))/\s1=s:=by
 unfold zmM at h;split at h
 ·rename_i xs e;cases h;exact⟨za9 e,rfl⟩
 ·cases h
theorem zo9{M Mi:List Nat}{caps:List (Option Nat)}{i0:Nat}(h0:i0∈M)(hcap:∀ k:Nat,caps[k]?≠some (some i0)){g:TG}{dg:DG}{ft:DT}{fe:DE}{tt:TT}(c:CapOk caps M Mi)(hg:zn6 g dg Mi caps)(htt:∀ σ H Q,cT Mi ft σ H Q->tt σ H Q) :
  ∀ σ H Q,cE .n M (dLC M caps (zmM i0) dg ft fe) σ H Q->tLC caps (zj8 TheK.K (zcY i0)) g tt (cE .e Mi fe) σ H Q:=by
 intro σ H Q h_;refine cE_ h_ fun F O s t s' R hf q=>?_;obtain⟨⟨its,s1⟩,h1,h2⟩:=Qb hf;split at h2
 case isFalse=>cases h2
 rename_i hsz;have hsz:its.length<=zet:=hsz;rw[zgX] at hsz;obtain⟨⟨tsE,sE⟩,h3,h4⟩:=Qm h2;cases h4;obtain⟨hs0,rfl⟩:=zjr h1;obtain⟨a0,ha0,L0⟩:=R.own i0 _ hs0 h0;obtain⟨vs0,hv0,rv0⟩:∃ vs0,H a0=some (.lst vs0)/\Reps (Free F O) H vs0 its:=by
  cases L0 with
  |lst r h=>exact⟨_,r,h⟩
 refine⟨_,ha0,a0,rfl,⟨_,SqL.of hv0⟩,fun D hD=>?_⟩;have S1:Step σ M H H:=.refl;have R1:=R;have hne:a0≠D:=fun e=>by rw[e,hD] at hv0; cases hv0
 have IT:∀ H2,(∀ b o,Free F O b->H b=some o->H2 b=some o)->H2 a0=some (.lst vs0)->
  ∀ i:Nat,(∀ t,its[i]?=some t->(Itl TheK.K a0).go i H2/\∀ x H3,(Itl TheK.K a0).yld i H2 x H3->(H3=H2∨∃ p o,H2 p=none/\H3=upd H2 p o)/\Rep (fun b=>(Free F O b/\H b≠none)∨H2 b=none) H3 x t)/\(its.length<=i->(Itl TheK.K a0).stop i H2):=by
  intro H2 k h2 i;refine⟨fun t ht=>?_,fun hl=>⟨vs0,SqL.of h2,by rw[rv0.1]; exact hl⟩⟩
  obtain⟨v,hv,rv⟩:=rv0.get ht;refine⟨⟨vs0,v,SqL.of h2,hv⟩,fun x H3 ⟨e1,e2⟩=>⟨.inl e1,?_⟩⟩;have:=e2 vs0 (SqL.of h2);rw[hv] at this;obtain rfl:v=x:=jg this;subst e1;exact rv.there.mono (fun b c=>.inl c) fun b o c e=>k b o c.1 e
 have nD:∀(j:Nat),j∈M->σ[j]?≠some (some (.ref D)):=fun j hj e=>R1.al D (R1.ow j D hj e) hD;have RD:=R1.new hD (.lst [])
 refine⟨fun i m H'=>m=its.length - i/\i<=its.length/\∃ s' acc ys,Rel F (fun b=>O b∨b=D) M s' σ H'/\H' D=some (.lst ys)/\ys.length<=i/\Reps (Free F (fun b=>O b∨b=D)) H' ys acc/\Step σ M H H' /\
  (∀ b o,Free F O b->H b=some o->H' b=some o)/\H' a0=some (.lst vs0)/\zjG M caps dg ft fe (its.drop i) acc s'=some (tsE,sE),⟨its.length,by simp,Zs _,s1,[],[],RD,za5,jl _,.nil,S1.trans (.new hD _),fun b o _ e=>by rw[za1 (zaa e hD)]; exact e,by rw[za1 hne]; exact hv0,h3⟩,?_⟩
 rintro i m H2 ⟨rfl,hi,s2,acc,ys,R2,hD2,hy,ry,S2,k2,hA2,hl⟩;have it:=IT H2 k2 hA2 i
 by_cases hlt:i < its.length
 ·refine .inr ?_;obtain⟨go,yl⟩:=it.1 its[i] (j3 hlt);rw[ZF hlt] at hl;unfold zjG at hl;obtain⟨si1,hdg,hl⟩:=Qb hl;obtain⟨⟨b,si2⟩,hft,hl⟩:=Qb hl;refine⟨go,fun x H3 hy3=>?_⟩;obtain⟨y1,y2⟩:=yl x H3 hy3
  -- what was yielded is free of D
  have R3:Rel F (fun b=>O b∨b=D) M s2 σ H3/\(∀ b u,H2 b=some u->H3 b=some u)/\(∀ b,H3 b=none->H2 b=none):=by
   rcases y1 with rfl |⟨p,o,hp,rfl⟩
   ·exact⟨R2,fun _ _ e=>e,fun _ e=>e⟩
   ·exact⟨(R2.new hp o).less (fun b z=>.inl z) R2.ow R2.inD,fun b u e=>by rw[za1 (zaa e hp)]; exact e,fun b e=>by
     unfold upd at e;split at e
     ·cases e
     ·exact e⟩
  obtain⟨R3,k3,dm3⟩:=R3
  have rx:Rep (Free F (fun b=>O b∨b=D)) H3 x its[i]:=y2.mono (fun b z=>by
   rcases z with ⟨z,n⟩ |n
   ·exact⟨fun y=>y.elim z.1 fun y=>n (y▸hD),z.2⟩
   ·exact⟨fun y=>R2.al b y n,.inr (R2.dom b n)⟩) fun _ _ _ e=>e
  have ry3:=ry.mono (fun _ z=>z) fun b o _ e=>k3 b o e;have hD3:=k3 _ _ hD2;refine hg F _ (zhh caps s2) its[i] si1 x (zbf caps σ) H3 _ (R3.cap c) rx hdg fun σ4 R4 hk4 hl4=>?_;have hsl:∀ {sx:Sg} {Hx:Hp},Rel F (fun b=>O b∨b=D) Mi sx σ4 Hx->sx.length=caps.length:=fun {sx Hx} Rx=>by
   rw[Rx.len,hl4];unfold zbf;rw[je]
  have nD4:∀(k:Nat),k∈Mi->σ4[k]?≠some (some (.ref D)):=fun k hk e=>by
   obtain⟨j,e1,e2⟩:=c.yes k hk;rw[hk4 k j e1] at e;obtain⟨j',e3,e4⟩:=zaT e;rw[e1] at e3;obtain rfl:j=j':=by injection e3 with h; injection h
   exact nD j e2 e4
  refine htt _ _ _ ⟨F,_,si1,b,si2,R4,hft,fun H5 S5 R5=>?_⟩;have freeK:∀ {Hx Hy:Hp},Step σ4 Mi Hx Hy->∀ b o,(Free F O b/\b≠D)->Hx b=some o->Hy b=some o:=fun {Hx Hy} Sx b o z e=>Sx.keep b o (R4.notOwned fun y=>y.elim z.1.1 z.2) e
  have S3':∀ {Hx:Hp},Step σ4 Mi H3 Hx->Step σ M H Hx:=fun {Hx} Sx=>⟨fun b o n e=>Sx.keep b o (fun k hk e'=>by
   obtain⟨j,e1,e2⟩:=c.yes k hk;rw[hk4 k j e1] at e';obtain⟨j',e3,e4⟩:=zaT e';rw[e1] at e3;obtain rfl:j=j':=by injection e3 with h; injection h
   exact n j e2 e4) (k3 b o (S2.keep b o n e)),fun b e=>S2.dom b (dm3 b (Sx.dom b e))⟩
  have keepA:∀ {Hx:Hp},Step σ4 Mi H3 Hx->Hx a0=some (.lst vs0):=fun {Hx} Sx=>Sx.keep a0 _ (fun k hk e=>by
   obtain⟨j,e1,e2⟩:=c.yes k hk;rw[hk4 k j e1] at e;obtain⟨j',e3,e4⟩:=zaT e;rw[e1] at e3;obtain rfl:j=j':=by injection e3 with h; injection h
   cases R.dis i0 j a0 h0 e2 ha0 e4
   exact hcap k e1) (k3 a0 _ hA2)
  have keepF:∀ {Hx:Hp},Step σ4 Mi H3 Hx->∀ b o,Free F O b->H b=some o->Hx b=some o:=fun {Hx} Sx b o z e=>freeK Sx b o ⟨z,fun y=>by rw[y,hD] at e; cases e⟩ (k3 b o (k2 b o z e))
  cases b with
  |false=>
   rw[In_ ju] at hl;dsimp only;rw[In_ ju];exact⟨its.length - (i+1),by lia,rfl,hlt,zaw M caps si2 s2,acc,ys,R3.back c S5 R5 hk4 (hsl R5),S5.keep D _ nD4 hD3,W3 hy,ry3.mono (fun _ z=>z) fun b o z e=>S5.keep b o (R4.notOwned z.1) e,S3' S5,keepF S5,keepA S5,hl⟩
  |true=>
   rw[Ip_ rfl] at hl;dsimp only;rw[Ip_ rfl];obtain⟨⟨te,si3⟩,hfe,hl⟩:=Qb hl;refine⟨F,_,si2,te,si3,R5,hfe,fun y H6 S6 p6=>?_⟩;have S56:=S5.trans S6;have hD6:=S56.keep D _ nD4 hD3;have R6:=R3.back c S56 p6.1 hk4 (hsl p6.1);refine⟨ys,hD6,by rw[Qs]; lia,its.length - (i+1),by lia,rfl,hlt,zaw M caps si3 s2,acc++[te],ys++[y],?_,za5,by rw[js,Zr]; lia,?_,?_,?_,by rw[za1 hne]; exact keepA S56,hl⟩
   ·-- D is nobody's: writing there keeps the relation
    have kD:∀ b u,b≠D->H6 b=some u->upd H6 D (.lst (ys++[y])) b=some u:=fun b u n e=>by rw[za1 n]; exact e
    refine⟨R6.len,fun j t e n=>?_,fun j t e n=>?_,R6.ow,R6.dis,fun b u n e=>?_,fun b e=>?_,R6.fresh,R6.inD,fun b z e=>?_⟩
    ·obtain⟨v,a1,a2⟩:=R6.val j t e n;exact⟨v,a1,a2.mono (fun _ z=>z) fun b u z e=>kD b u (fun w=>z.1 (.inr w)) e⟩
    ·obtain⟨a,a1,a2⟩:=R6.own j t e n;exact⟨a,a1,a2.mono (fun _ z=>z) (fun b u z e=>kD b u (fun w=>z.1 (.inr w)) e) fun u e=>kD a u (fun w=>nD j n (w▸a1)) e⟩
    ·refine kD b u (fun w=>?_) (R6.keep b u n e);subst w;have:=R1.dom b hD;rw[this] at e; cases e
    ·refine R6.dom b ?_;unfold upd at e;split at e
     ·cases e
     ·exact e
    ·refine R6.al b z ?_;unfold upd at e;split at e
     ·cases e
     ·exact e
   ·have r1:=(ry3.mono (fun _ z=>z) fun b o z e=>S56.keep b o (R4.notOwned z.1) e).snoc p6.2;exact r1.mono (fun _ z=>z) fun b u z e=>by rw[za1 (fun w=>z.1 (.inr w))]; exact e
   ·exact⟨fun b o n e=>by rw[za1 (zaa e (S1.dom D hD))]; exact(S3' S56).keep b o n e,fun b e=>(S3' S56).dom b (by
     unfold upd at e;split at e
     ·cases e
     ·exact e)⟩
   ·exact fun b o z e=>by rw[za1 (zaa e hD)]; exact keepF S56 b o z e
 ·have e:i=its.length:=by lia
  subst e;rw[YI] at hl;cases hl;exact .inl ⟨it.2 (jl _),q _ H2 S2 ⟨D,rfl,S1.dom D hD,R2,.lst hD2 ry⟩⟩
section
theorem zqm{caps:List (Option Nat)}{i:Nat}(h:caps.contains (some i)=false):∀ k:Nat,caps[k]?≠some (some i):=fun k e=>by
 have:=jZ e;rw[List.contains_eq_mem,decide_eq_false_iff_not] at h;exact h this
end
theorem zoK:Qj "min"=some (.builtin "min"):=by first |exact PySem.boot_min |rfl |decide +kernel
def zn3:List T->Option (List Bool)
 |[]=>some []
 |.bl b::ts=>(zn3 ts).map (b::·)
 |_=>none
theorem zjC{C:ji->Prop}{H:Hp}:∀ {vs:List V} {ts:List T} {bs:List Bool},Reps C H vs ts->zn3 ts=some bs->vs=bs.map V.bl
 |[],[],bs,_,h=>by injection h with h; subst h; rfl
 |[],_::_,_,r,_=>by have:=r.1; simp at this
 |_::_,[],_,r,_=>by have:=r.1; simp at this
 |v::vs,t::ts,bs,r,h=>by
  obtain⟨b,rfl⟩:∃ b,t=.bl b:=by cases t<;>first |exact⟨_,rfl⟩ |cases h
  obtain⟨l,h1,rfl⟩:=Qm h;rw[zjC r.tail h1,BRep.bl (.inl r.head)]; rfl
def zeJ:T->Option T
 |.lst ts=>(zn3 ts).map fun bs=>.bl (bs.all id)
 |_=>none
def zr1:T->Option T
 |.lst ts=>(zn3 ts).map fun bs=>.bl (bs.any id)
 |_=>none
theorem zpZ:S1E (fun xs H Q=>∃(a:ji) (bs:List Bool),xs=[V.ref a]/\SqL TheK.K H a (bs.map V.bl)/\Q (.bl (bs.all id)) H) zeJ:=by
 intro C H x tx t Q bx hg q;obtain⟨ts,rfl⟩:∃ ts,tx=.lst ts:=by cases tx<;>first |exact⟨_,rfl⟩ |cases hg
 obtain⟨bs,h1,rfl⟩:=Qm hg;obtain⟨a,us,rfl,ha,ra⟩:=bx.lst;rw[zjC ra h1] at ha;exact⟨a,bs,rfl,SqL.of ha,q _ (.bl _)⟩
theorem zoM:Qj "all"=some (.builtin "all"):=by first |exact PyProof.Rows.boot_all |decide +kernel
def zrz(t:TS):TS:=fun D σ H=>∃ a kvs,H a=some (.dK kvs)/\∀ o,t D σ (upd H a (.frz o (.dK kvs)))
theorem zkb{X:Cx}{st:QR}{t:TS}(h:PS X st t):PS X st (zrz t):=fun pc s σ H D I ⟨a,kvs,e,q⟩=>by
 obtain⟨o,I2⟩:=I.known e;exact h pc s σ _ D I2 (q o)
def zoC(i:Nat)(d:DS):DS:=fun s=>match (s[i]?).join with
 |some (.dct kvs)=>d (s.set i (some (.fd kvs)))
 |_=>none
def zn2(f:DE):DI:=fun s=>(f s).bind fun p=>match p.1 with
 |.fd kvs=>some (kvs.map fun kv=>kv.2,p.2)
 |_=>none
section
variable {o:jU}{fc:DE}{apos:Pos}
theorem zi2{C:ji->Prop}{H:Hp}{vs:List (Key × V)}{ts:List (Key × T)}(h:RepK C H vs ts):Reps C H (vs.map fun kv=>kv.2) (ts.map fun kv=>kv.2):=by
 have hl:vs.length=ts.length:=by have:=congrArg gF h.1; simpa using this
 refine⟨by simp[hl],fun i v t e1 e2=>?_⟩
 rw[jk] at e1 e2;obtain⟨x,h1,rfl⟩:=Qm e1;obtain⟨y,h2,rfl⟩:=Qm e2;exact h.2 i x y h1 h2
def zkG(i:Nat)(fk fx:DE):DE:=fun s=>match (s[i]?).join with
 |some (.dct _)=>(fk s).bind fun q=>(zhH q.1).bind fun k=>(fx q.2).bind fun r=>match (r.2[i]?).join with
  |some (.dct kvs)=>some ((zbl kvs k).getD r.1,r.2)
  |_=>none
 |_=>none
theorem zfl{X:Cx}:OpR X (QM .LtE) (fun x y H Q=>∃ i j,x=.str i/\y=.str j/\Q (.bl (!decide (j.cps.toList < i.cps.toList))) H):=by
 intro pc s σ H x y v u Q I rx ry h;obtain⟨i,j,rfl,rfl,q⟩:=h;obtain⟨t,rfl⟩:=rx;obtain⟨t',rfl⟩:=ry;exact PySem.P.le_str ⟨.bl (!decide (j.cps.toList < i.cps.toList)),H,I,rfl,q⟩
def zeI:=zn0 (fun i j=>decide (i<=j)) fun i j=>!decide (j.cps.toList < i.cps.toList)
end
def zj7:List T->Option (List Int)
 |[]=>some []
 |.int i::ts=>(zj7 ts).map (i::·)
 |_=>none
theorem zh1{C:ji->Prop}{H:Hp}:∀ {vs:List V} {ts:List T} {ns:List Int},Reps C H vs ts->zj7 ts=some ns->vs=ns.map V.int
 |[],[],ns,_,h=>by injection h with h; subst h; rfl
 |[],_::_,_,r,_=>by have:=r.1; simp at this
 |_::_,[],_,r,_=>by have:=r.1; simp at this
 |v::vs,t::ts,ns,r,h=>by
  obtain⟨b,rfl⟩:∃ b,t=.int b:=by cases t<;>first |exact⟨_,rfl⟩ |cases h
  obtain⟨l,h1,rfl⟩:=Qm h;rw[zh1 r.tail h1,BRep.int (.inl r.head)]; rfl
def zev:T->Option T
 |.lst ts=>match zce ts with
  |some ss=>if ss.length < 64 then some (.lst ((zaW ss).map T.str)) else none
  |none=>(zj7 ts).bind fun ns=>if ns.length < 64 then some (.lst ((zed ns).map T.int)) else none
 |_=>none
theorem zcf{C:ji->Prop}{H:Hp}:∀(l:List Str),Reps C H (l.map V.str) (l.map T.str)
 |[]=>.nil
 |k::l=>.cons (.str _) (zcf l)
theorem zjU:S1N (fun xs H Q=>(∃(a:ji) (ss:List Str),xs=[V.ref a]/\SqL TheK.K H a (ss.map V.str)/\ss.length < 64/\∀ l,H l=none->Q (.ref l) (upd H l (.lst ((zaW ss).map V.str))))∨∃(a:ji) (ss:List Int),xs=[V.ref a]/\SqL TheK.K H a (ss.map V.int)/\ss.length < 64/\∀ l,H l=none->Q (.ref l) (upd H l (.lst ((zed ss).map V.int)))) zev:=by
 intro C H x tx t Q bx hg q;obtain⟨ts,rfl⟩:∃ ts,tx=.lst ts:=by cases tx<;>first |exact⟨_,rfl⟩ |cases hg
 obtain⟨a,us,rfl,ha,ra⟩:=bx.lst
 have hg:(match zce ts with
  |some ss=>if ss.length < 64 then some (T.lst ((zaW ss).map T.str)) else none
  | none=>(zj7 ts).bind fun ns=>if ns.length < 64 then some (T.lst ((zed ns).map T.int)) else none)=some t:=hg
 cases e:zce ts with
 |some ss=>
  rw[e] at hg;dsimp only at hg;split at hg
  ·rename_i hl;injection hg with hg; subst hg;rw[zd2 ra e] at ha;exact .inl ⟨a,ss,rfl,SqL.of ha,hl,fun l hl=>q l _ hl fun C' _=>.lst za5 (zcf _)⟩
  ·cases hg
 |none=>
  rw[e] at hg;obtain⟨ns,e2,hg⟩:=Qb hg;split at hg
  ·rename_i hl;injection hg with hg; subst hg;rw[zh1 ra e2] at ha;exact .inr ⟨a,ns,rfl,SqL.of ha,hl,fun l hl=>q l _ hl fun C' _=>.lst za5 (zbJ _)⟩
  ·cases hg
theorem zfM:Qj "sorted"=some (.builtin "sorted"):=by first |exact PySem.boot_sorted |rfl |decide +kernel
def zcW:DS:=fun _=>none
def zdv(z y:Str):List Str:=Z4 z (Qi z y 0 z.length (z.length+1)) y.length
def zjc(x y:T):Option T:=match x,y with
 |.str z,.str y=>if (y.length == 0)=false/\z.length<=ja/\(jx z y).length<=ja/\(zdv z y).length<=ja then some (.lst ((jx z y).map T.str)) else none
 |_,_=>none
def zcV(fa fb:DE):DE:=fun s=>(fa s).bind fun p=>match p.1 with
 |.str z=>(fb p.2).bind fun q=>(zjc (.str z) q.1).map fun t=>(t,q.2)
 |_=>none
theorem zlO{M:List Nat}{f g:DE}{K:j9}:∀ σ H Q,cE .n M (zcV f g) σ H Q->tBM K "str" zio (cE .e M f) (zb8 (cE .b M g) zfT) σ H Q:=by
 intro σ H Q h_;refine cE_ h_ fun F O s t s' R hf q=>?_;obtain⟨⟨p1,p2⟩,h1,h2⟩:=Qb hf;obtain⟨z,rfl⟩:∃ z,p1=.str z:=by cases p1<;>first |exact⟨_,rfl⟩ |cases h2
 obtain⟨⟨q1,q2⟩,h3,h4⟩:=Qb h2;obtain⟨t',h5,h6⟩:=Qm h4;injection h6 with h6 h7;subst h6 h7;refine⟨F,O,s,_,_,R,h1,fun v H1 S1 pa=>?_⟩;obtain rfl:v=.str z:=BRep.str (.inl pa.2);refine⟨rfl,F,O,_,_,_,pa.1,h3,fun u H2 S2 pb=>?_⟩;obtain⟨y,rfl⟩:∃ y,q1=.str y:=by cases q1<;>first |exact⟨_,rfl⟩ |cases h5
 obtain rfl:u=.str y:=BRep.str pb.view;have h5:(if (y.length == 0)=false/\z.length<=ja/\(jx z y).length<=ja/\(zdv z y).length<=ja then some (T.lst ((jx z y).map T.str)) else none)=some t':=h5
 split at h5
 ·rename_i hl;cases h5;exact⟨z,y,rfl,rfl,hl.1,hl.2.1,hl.2.2.1,hl.2.2.2,fun l ha=>q _ _ ((S1.trans S2).trans (.new ha _)) (.mkN R pb.1 (S1.trans S2) ha fun C' _=>.lst za5 (zcf _))⟩
 ·cases h5
theorem zoJ:Qj "set"=some (.type "set"):=by decide +kernel
theorem Rel.plus{F:Fr}{O:ji->Prop}{M:List Nat}{s:Sg}{σ:L2.St}{H:Hp}{l:ji}(R:Rel F O M s σ H)(h:H l=none)(o:HO):Rel F O M s σ (upd H l o):=
 R.ext (fun b u e=>by rw[za1 (zaa e h)]; exact e) fun b e=>by
  unfold upd at e;split at e
  ·cases e
  ·exact e
theorem zdy:∀(l acc:List Str),acc.Nodup->(l.foldl Dw.stp acc).Nodup
 |[],_,h=>h
 |x::l,acc,h=>by
  rw[QC];refine zdy l _ ?_;unfold Dw.stp;split
  ·exact h
  ·rename_i hx;exact Yk.mpr ⟨h,by simp,fun a ha b hb e=>by rw[jI] at hb; subst hb e; exact hx ha⟩
theorem zey(l:List Str):(Dw.za4 l).Nodup:=zdy l [] Nh
theorem zb6{H:Hp}{p b:ji}{o:HO}(e:upd H p o b=none):H b=none:=by
 unfold upd at e;split at e
 ·cases e
 ·exact e
abbrev DR:=Sg->Bool
def cR(E:XK)(N:ji)(d:DR):TS:=fun D σ H=>∃ F O s,Rel F O [] s σ H/\Ios F [] [] σ/\d s=true/\∀ O' H',KeepO O H O' H'->E (.ref N) none H'
def zlp(ft:DT)(da db:DR):DR:=fun s=>match ft s with
 |some (b,s')=>if b then da s' else db s'
 |none=>false
def zct(d1:DR)(dn:DS)(d2:DR):DR:=fun s=>d1 s||match dn s with
 |some (.nx s')=>d2 s'
 |_=>false
def spR(N:ji)(np:Nat)(rs:List T->Bool):Sp:=fun vs H _ E=>∃ C ts,ts.length=np/\Reps C H vs ts/\rs ts=true/\∀ H',(∀ b o,H b=some o->H' b=some o)->(∀ b,H' b=none->H b=none)->E (.ref N) none H'
def zkF:DR:=fun _=>true
def zfD:DR:=fun _=>false
section
variable {E:XK}{N:ji}{da db d1 d2:DR}{dn:DS}{ft:DT}{a b sts:List QR}{st:QR}
theorem zrG(hc:PT X c (cT [] ft))(ha:PSs X a (cR E N da))(hb:PSs X b (cR E N db)):PS X (.If c a b pos) (cR E N (zlp ft da db)):=zcb (zkc hc ha hb) (by
 intro D σ H hz; obtain⟨F,O,s,R,I,hd,q⟩:=hz;unfold zlp at hd;split at hd
 case h_2=>cases hd
 rename_i k s' hf;refine⟨F,O,s,k,s',R,hf,fun H1 S1 R1=>?_⟩;have k1:=S1.keepO R;cases k with
 |true=>exact⟨F,O,s',R1,I,hd,fun O' H' k=>q O' H' (k1.trans k)⟩
 | false=>exact⟨F,O,s',R1,I,hd,fun O' H' k=>q O' H' (k1.trans k)⟩)
theorem zrF:PSs X sts (cR E N zfD):=fun pc s σ H D I hz=>by
 obtain⟨F,O,s,R,I,hd,q⟩:=hz;cases hd
theorem zq7:PS X st (cR E N zfD):=fun pc s σ H D I hz=>by
 obtain⟨F,O,s,R,I,hd,q⟩:=hz;cases hd
theorem zq6(h:PS X st (cR E N da)):PSs X [st] (cR E N da):=zi1 (zbM h) (fun D σ H hz=>hz)
theorem zq5{rk:Kd}(h1:PS X st (cR E N d1))(hn:PS X st (cS rk [] [] [] [] dn))(h2:PSs X sts (cR E N d2)):PSs X (st::sts) (cR E N (zct d1 dn d2)):=by
 intro pc s0 σ H D I0 hz;obtain⟨F,O,s,R,I,hd,q⟩:=hz;unfold zct at hd;rcases Bool.or_eq_true_iff.mp hd with hd |hd
 ·exact zci h1 h2 pc s0 σ H D I0 ⟨F,O,s,R,I,hd,q⟩
 ·split at hd
  case h_2=>cases hd
  rename_i s' hf;refine zci hn h2 pc s0 σ H D I0 ⟨F,O,s,_,R,I,hf,fun O' σ' H' k R' I'=>⟨F,O',s',R',I',hd,fun O2 H2 k2=>q O2 H2 (k.trans k2)⟩⟩
theorem zm1{C:ji}{bm:List j5}{x:Str}{np cpos:Pos}{e0:jU}{y:Str}(hR:zhm X E)(hc:X.calm=true)(xc:XCls X.base N bm)(hg:Gl X x)(hm:X.mg x=some (.ref N))(he0:PE X e0 (tC (.str y)))
  (he:jb [e0] X.env=(false,eval e0 X.env)::jb [] X.env:=by rfl) (hpl:(Qr cpos (jb [] X.env)).any (·.1)=false:=by rfl) (hd:(x == ("__debug__":Str))=false:=by decide) :
  PS X (.Raise (some (.Call (.Name x np) [e0] [] cpos)) none pos) (cR E N zkF):=zcb (zka hR hc xc hg hm (za8 he0 zaz he) he hpl hd (by show 1<=100; decide)) (by
 intro D σ H hz; obtain⟨F,O,s,R,I,hd,q⟩:=hz
 exact⟨by show 1<=1000; decide,q _ _ .refl⟩)
end
end L3
namespace L3
open PySem PySem.Spec PyProof.Rows L2
def Here(K:j9)(mg:Str->Option j5)(x:Str)(st:QR)(ps:List Str):Prop:=
 ∃ f fd,Fun K x x st f fd/\Binds K fd ps []/\Q3 K (.ref f)=true/\mg x=some (.ref f)
def Cal(P:jt)(w:jS)(K:j9)(mg:Str->Option j5)(base:Qq)(n:Nat)(x:Str)(ps:List Str)(sp:Sp):Prop:=
 ∃ f fd,FnOk P w K mg base CX0 n f fd ps sp/\Binds K fd ps []/\Q3 K (.ref f)=true/\mg x=some (.ref f)
theorem zmx{K:j9}{h:Qq}{mg:Str->Option j5}(X:K.In h)(G:h.Ns jr mg){x:Str}{st:QR}{ps:List Str}{f:ji}{oc:j5}{od an:Option ji}{osl:Array (Option j5)}{kV doc pm cdv ct:j5}
  (hb:∀(kV doc pm:j5) (an:Option ji) (cdv ct:j5) (us:List j5),us.length=ps.length->Ys (jW x x (zaS st) (zat st) (za0 st) .none kV doc pm an cdv ct) ⟨us,[]⟩=pure (ps.zip us))
  (a:jD K jr x=some (some (.ref f))) (l:K.lookup f=some ⟨oc,od,.func (jW x x (zaS st) (zat st) (za0 st) .none kV doc pm an cdv ct),osl⟩)
  (c:Zi K cdv x=true) (k:Q3 K (.ref f)=true):Here K mg x st ps:=by
 have F:=zlk (st:=st) l c k;exact⟨f,_,F,F.binds hb,k,Qo X G a⟩
section
variable {P:jt}{w:jS}{K:j9}{mg:Str->Option j5}{base:Qq}
theorem Here.ok{x:Str}{st:QR}{N ps:List Str}{k:Nat}{sp:Sp}(h:Here K mg x st ps)(S:FnScope N ps (za0 st))(len:∀ vs H Q E,sp vs H Q E->vs.length=ps.length)
  (hbody:∀(f:ji) (cdv:j5) (A:jP) (outer:List Env) (s:j6) (H:Hp) (vs:List V) (Q:VK) (E:XK),Room k (A.deeper (ZC x (za0 st) s.heap.objs.size f cdv))->sp vs H Q E->
   ∃ t,PSs (zeN CX0 P w K mg base N x (za0 st) f cdv A outer s H E).nox (zat st) t/\t { nx:=fun _ H'=>Q .non H',rt:=Q } (L2.start N vs) H):Cal P w K mg base (k+1) x ps sp:=by
 obtain⟨f,fd,F,b,kp,m⟩:=h;exact⟨f,fd,F.ok S len fun cdv A outer s H vs Q E hr hs=>hbody f cdv A outer s H vs Q E hr hs,b,kp,m⟩
theorem Cal.mono{j k:Nat}{x:Str}{ps:List Str}{sp:Sp}(h:Cal P w K mg base j x ps sp)(hjk:j<=k):Cal P w K mg base k x ps sp:=by
 obtain⟨f,fd,F,b,kp,m⟩:=h;exact⟨f,fd,F.mono hjk,b,kp,m⟩
end
def zoT(tk:TheK)(P:jt)(w:jS)(mg:Str->Option j5)(base:Qq)(k:Nat)(x:Str)(st:QR)(N:List Str)(t:TS):Prop:=
 ∀(f:ji) (cdv:j5) (A:jP) (outer:List Env) (s:j6) (H:Hp) (E:XK),Room k (A.deeper (ZC x (za0 st) s.heap.objs.size f cdv))->PSs (zeN CX0 P w tk.K mg base N x (za0 st) f cdv A outer s H E).nox (zat st) t
variable [tk:TheK]
section
variable {P:jt}{w:jS}{mg:Str->Option j5}{base:Qq}{x:Str}{st:QR}{N ps:List Str}{k:Nat}{d:DS}{M' Mb:List Nat}
theorem Here.okP(h:Here tk.K mg x st ps)(S:FnScope N ps (za0 st))(hb:zoT tk P w mg base k x st N (cS .e [] [] M' Mb d))(hN:ps.length<=N.length:=by decide):Cal P w tk.K mg base (k+1) x ps (spP .e ps.length (fnP N.length d)):=by
 refine h.ok S (fun vs H Q E ⟨C,ts,t,hl,r,_⟩=>by rw[r.1,hl]) fun f cdv A outer s H vs Q E hr hs=>⟨_,hb f cdv A outer s H E hr,?_⟩
 refine zlZ (fun ts t e=>?_) (.inl rfl) hN hs;unfold fnP at e;split at e
 ·injection e with e; subst e; exact .inl ⟨_,by assumption⟩
 ·injection e with e; subst e; exact .inr ⟨rfl,rfl,_,by assumption⟩
 ·cases e
theorem Here.okN(h:Here tk.K mg x st ps)(S:FnScope N ps (za0 st))(hb:zoT tk P w mg base k x st N (cS .n [] [] M' Mb d))(hN:ps.length<=N.length:=by decide):Cal P w tk.K mg base (k+1) x ps (spP .n ps.length (zn1 N.length d)):=by
 refine h.ok S (fun vs H Q E ⟨C,ts,t,hl,r,_⟩=>by rw[r.1,hl]) fun f cdv A outer s H vs Q E hr hs=>⟨_,hb f cdv A outer s H E hr,?_⟩
 refine zlZ (fun ts t e=>?_) (.inr rfl) hN hs;unfold zn1 at e;split at e
 ·injection e with e; subst e; exact .inl ⟨_,by assumption⟩
 ·cases e
theorem zlQ{rk:Kd}{np:Nat}{fn:List T->Option (T × T)}{vs:List V}{H:Hp}{Q:VK}{E:XK}(h:spI rk np fn vs H Q E):vs.length=np:=by
 obtain⟨C,a,us,t0,ts,t,t1,hl,rfl,_,_,r,_⟩:=h;rw[<-hl,jw,jw,r.1]
theorem Here.okI(h:Here tk.K mg x st ps)(S:FnScope N ps (za0 st))(hb:zoT tk P w mg base k x st N (cS .e [0] [0] M' Mb d))(hN:ps.length<=N.length:=by decide):Cal P w tk.K mg base (k+1) x ps (spI .e ps.length (fnI N.length d)):=
 h.ok S (fun vs H Q E h=>zlQ h) fun f cdv A outer s H vs Q E hr hs=>⟨_,hb f cdv A outer s H E hr,zq2 (.inl rfl) hN hs⟩
def zhr(K:j9):Sp:=fun vs H Q _=>∃(a:ji) (ns:List Int),vs=[.ref a]/\zp5 H/\SqL K H a (ns.map V.int)/\ns.length<=63/\∀ H',Q (.bl true) H'
theorem zoc{fw:ji}{dw:QU}(F:Fun tk.K x x st fw dw)(S:FnScope N [ps0] (za0 st))(hb:zoT tk P w mg base k x st N (cS .e [] [] M' Mb d))(hN:1<=N.length)(hd:∀ ns:List Int,ns.length<=63->fnP N.length d [.scr ns]=some (.bl true)):FnOk P w tk.K mg base CX0 (k+1) fw dw [ps0] (zhr tk.K):=by
 refine F.ok S (fun vs H Q E ⟨a,ns,e,_⟩=>by rw[e]; rfl) fun cdv A outer s H vs Q E hr hs=>⟨_,hb fw cdv A outer s H E hr,?_⟩
 obtain⟨a,ns,rfl,hO,hS,h63,q⟩:=hs;have rp:Rep (fun _=>True) H (.ref a) (.scr ns):=by
  rcases hS with (hS |⟨o,hS⟩) |hS
  ·rcases hO a with z |⟨_,_,z⟩<;>rw[hS] at z<;>cases z
  ·exact .scr trivial hS
  ·exact .scrK fun H'=>.inr hS
 refine zlZ (np:=1) (N:=N) (fn:=L3.fnP N.length d) (fun ts t e=>?_) (.inl rfl) hN (E:=E) ⟨fun _=>True,[.scr ns],.bl true,rfl,.cons rp .nil,hd ns h63,fun v H' c=>?_⟩
 ·unfold L3.fnP at e;split at e
  ·injection e with e; subst e; exact .inl ⟨_,by assumption⟩
  ·injection e with e; subst e; exact .inr ⟨rfl,rfl,_,by assumption⟩
  ·cases e
 ·have:v=.bl true:=BRep.bl (.inl c.res);rw[this];exact q H'
end
end L3
namespace L3
open PySem PySem.Spec PyProof.Rows L2
variable {X:Cx}{apos p pos:Pos}{a c e o tg:jU}{es:List jU}{N ps:List Str}{M M' Mb io:List Nat}{fa fb fe:DE}{ft:DT}{rk:Kd}{st:QR}{x:Str}{k:Nat}{P:jt}{w:jS}{mg:Str->Option j5}{base:Qq}
theorem zcn{A:jP}{k:Nat}(hr:Room k A):A.units+8 < g8:=by have:=hr.un; lia
structure QE (X:Cx) (e:jU) (t:TE):Prop where
 un:L2.PE X e t
structure QT (X:Cx) (e:jU) (t:TT):Prop where
 un:L2.PT X e t
structure QW (X:Cx) (e:jU) (t:TT):Prop where
 un:L2.PW X e t
structure QA (X:Cx) (e:List jU) (t:TA):Prop where
 un:L2.PA X e t
structure QSs (X:Cx) (e:List QR) (t:TS):Prop where
 un:L2.PSs X e t
structure QS (X:Cx) (e:QR) (t:TS):Prop where
 un:L2.PS X e t
structure QI (X:Cx) (tg iter:jU) (t:TI):Prop where
 un:L2.PI X tg iter t
structure QG (X:Cx) (e:jU) (t:TG):Prop where
 un:L2.PG X e t
structure QTs (X:Cx) (e:List jU) (t:TT):Prop where
 un:L2.PTs X e t
structure QO (X:Cx) (e:Option jU) (t:TO):Prop where
 un:L2.PO X e t
section
theorem zis{x j pos}:QE X (.Constant (.str x) j pos) (tC (.str x)):=⟨L2.zck ⟩
theorem zcg{x:Str}{v:V}{u:j5}{pos:Pos}(hg:Gl X x)(hm:X.mg x=some u)(r:RelV v u)(hd:(x == ("__debug__":Str))=false:=by decide):QE X (.Name x pos) (tC v):=⟨L2.zc6 hg hm r hd⟩
end
section
theorem zao{i:Nat}{x:Str}(hN:X.N.Nodup)(hi:X.N[i]?=some x)(hx:Loc X.env.scope x)(hf:X.fn x=true∨X.env.scope.names.lookup x=some .local:=by first |exact .inl rfl |exact .inr rfl |assumption):QG X (.Name x pos) (zcF i):=⟨L2.zmp hN hi hx hf⟩
theorem zen{o i:jU}{to ti:TE}{t:zp3}(ho:QE X o to)(hi:QE X i ti)(hs:zqO X t)(ha:∀ v,Wi (.Subscript o i pos) X.env v=(do
   let ov <-gC [v] (eval o X.env)
   let iv <-gC [v,ov] (eval i X.env)
   NJ pos
   gC [v,ov,iv] (setItem ov iv v)
   release [v,ov,iv] []):=by intro _; rfl):QG X (.Subscript o i pos) (zqA to ti t):=⟨L2.znU ho.un hi.un hs ha⟩
theorem zem{tg e:jU}{te:TE}{g:TG}(he:QE X e te)(hg:QG X tg g)(hs:swapsWithSole [tg] e pos.line X.env=pure false:=by rfl)(hw:swappedStores [tg] e X.env=pure none:=by rfl)(h1:(assignEach [tg] X.env).map (·.2)=[Wi tg X.env]:=by rfl):QS X (.Assign [tg] e pos) (zeU te g):=⟨L2.znS he.un hg.un hs hw h1⟩
theorem zaf{i:Nat}{x:Str}{e:jU}{te:TE}{pos':Pos}(hN:X.N.Nodup)(hi:X.N[i]?=some x)(hx:Loc X.env.scope x)(he:QE X e te)(hs:gD e (some (.Name x pos')) pos.line X.env=pure false:=by rfl)(hf:X.fn x=true∨X.env.scope.names.lookup x=some .local:=by first |exact .inl rfl |exact .inr rfl |assumption):QS X (.Assign [.Name x pos'] e pos) (zeU te (zcF i)):=⟨L2.znQ hN hi hx he.un hs hf⟩
end
section
theorem zjY{l:jU}{tl:TE}(hl:QE X l tl):QI X tg l (zj8 X.K tl):=⟨L2.ziB hl.un⟩
theorem zc4{iter:jU}{body:List QR}{wi:TI}{g:TG}{tb:TS}{pos:Pos}(hp:PassesOwn (jE X.prog X.w) X.A X.env X.xe)(hc:X.calm=true)(hi:QI X tg iter wi)(hg:QG X tg g)(hb:QSs X body tb)(hs:∀ x,Z1 iter X.env x=pure x:=by intro _; rfl):QS X (.For tg iter body [] pos) (zoW wi g tb):=⟨L2.znR hp hc hi.un hg.un hb.un hs⟩
end
section
variable {te:TE}{t:TA}
theorem zbq :QA X [] zfT:=⟨L2.zaz ⟩
theorem zb3(ha:QE X e te)(hr:QA X es t)(hs:jb (e::es) X.env=(false,eval e X.env)::jb es X.env:=by rfl):QA X (e::es) (zb8 te t):=⟨L2.za8 ha.un hr.un hs⟩
end
section
variable {b:jU}{ta tb:TE}
variable {to:TE}{t:TA}{name:Str}{cpos:Pos}{T id:String}{r:V->List V->Hp->VK->Prop}
theorem zm6(pa:NO T)(slot:Slot T name id)(hty:typeOf (.builtin id)=pure (.type "method_descriptor"))(hm:MtR X id r)(ho:QE X o to)(hbase:Zb o name X.env (eval o X.env)=eval o X.env:=by rfl)(hline:(apos.endLine == cpos.line)=true:=by rfl):QE X (.Call (.Attribute o name apos) [] [] cpos) (zpR X.K T r to):=⟨L2.znY pa slot hty hm ho.un hbase hline⟩
theorem zbz(pa:NO T)(slot:Slot T name id)(hty:typeOf (.builtin id)=pure (.type "method_descriptor"))(hm:MtR X id r)(ho:QE X o to)(ha:QA X (e::es) t)(hbase:Zb o name X.env (eval o X.env)=eval o X.env:=by rfl)(hfew:((Qr cpos (jb (e::es) X.env)).all (fun x=>!x.1)&&(WL cpos (Nn [] X.env)).all (fun x=>x.1.isSome)
   && decide ((e::es).length+([]:List No).length+(if ([]:List No).isEmpty then 0 else 1) < 30))=true:=by rfl) (hline:(apos.endLine == cpos.line)=true:=by rfl) (hs:jb (e::es) X.env=(false,eval e X.env)::jb es X.env:=by rfl) (hplain:(Qr cpos (jb es X.env)).any (·.1)=false:=by rfl):QE X (.Call (.Attribute o name apos) (e::es) [] cpos) (tBM X.K T r to t):=⟨L2.zqg pa slot hty hm ho.un ha.un hbase hfew hline hs hplain⟩
end
section
variable {i value:jU}{pos' tpos:Pos}{td ty tv:TE}
theorem zjX(hu:X.A.units+1 < g8)(ho:QE X o td)(hi:QE X i ty)(hv:QE X value tv)(hs:gD value (some (.Subscript o i pos')) pos.line X.env=pure false):QS X (.Assign [.Subscript o i pos'] value pos) (zlX td ty tv):=⟨L2.zmi hu ho.un hi.un hv.un hs⟩
end
section
theorem qpv(i:Nat){x:Str}{pos:Pos}(hN:X.N[i]?=some x:=by rfl)(hv:Vis X.env.scope x:=by first |exact Q0 rfl |exact YX (Q0 rfl) |exact YX (YX rfl))(hd:(x == ("__debug__":Str))=false:=by decide)(hcd:(x == ("__classdict__":Str))=false:=by decide):QE X (.Name x pos) (zcY i):=⟨L2.pv i hN hv hd hcd⟩
end
section
theorem zaN{X:Cx}:QTs X [] zpT:=⟨L2.zmg ⟩
end
section
variable {scope:gO}{caps:List (Option Nat)}{elt iter:jU}{ifs:List jU}{wi:TI}{g:TG}{tt:TT}{te:TE}
theorem zcQ(hc:X.calm=true)(hi:QI X tg iter wi)(hg:∀ cl C s0 H0 fp,QG (zaV X N scope cl C s0 H0 fp) tg g)(hgk:zhW caps g)(ht:∀ cl C s0 H0 fp,QTs (zaV X N scope cl C s0 H0 fp) ifs tt)(he:∀ cl C s0 H0 fp,QE (zaV X N scope cl C s0 H0 fp) elt te)(hcap:capOk N X.N scope X.env.scope caps=true:=by rfl)(hkind:scope.kind=.function:=by rfl)(hcell:scope.names.all (fun p=>p.2 != .cell)=true:=by rfl)(hnames:scope.names.all (fun p=>p.2 != .local||scope.names.lookup p.1 == some .local)=true:=by rfl)(hfr:scope.names.all (fun p=>p.2 != .free||(X.env.scope.names.lookup p.1 == some .cell||X.env.scope.names.lookup p.1 == some .free))=true:=by rfl)(hs:∀ x,Z1 iter X.env x=pure x:=by intro _; rfl):QE X (.ListComp elt [⟨tg,iter,ifs,0⟩] scope pos) (tLC caps wi g tt te):=⟨L2.zqf hc hi.un (fun cl C s0 H0 fp=>(hg cl C s0 H0 fp).un) hgk (fun cl C s0 H0 fp=>(ht cl C s0 H0 fp).un) (fun cl C s0 H0 fp=>(he cl C s0 H0 fp).un) hcap hkind hcell hnames hfr hs⟩
theorem zds{i:Nat}{y:Str}{py spos:Pos}(hN:X.N.Nodup)(hiy:X.N[i]?=some y)(hy:X.env.scope.names.lookup y=some .local)(hc:X.calm=true)(hi:QI X tg iter wi)(hg:∀ cl C s0 H0 fp,QG (zaV X N scope cl C s0 H0 fp) tg g)(hgk:zhW caps g)(ht:∀ cl C s0 H0 fp,QTs (zaV X N scope cl C s0 H0 fp) ifs tt)(he:∀ cl C s0 H0 fp,QE (zaV X N scope cl C s0 H0 fp) elt te)(hsw:gD (.ListComp elt [⟨tg,iter,ifs,0⟩] scope pos) (some (.Name y py)) spos.line X.env=pure true:=by rfl)(hcap:capOk N X.N scope X.env.scope caps=true:=by rfl)(hkind:scope.kind=.function:=by rfl)(hcell:scope.names.all (fun p=>p.2 != .cell)=true:=by rfl)(hnames:scope.names.all (fun p=>p.2 != .local||scope.names.lookup p.1 == some .local)=true:=by rfl)(hfr:scope.names.all (fun p=>p.2 != .free||(X.env.scope.names.lookup p.1 == some .cell||X.env.scope.names.lookup p.1 == some .free))=true:=by rfl)(hs:∀ x,Z1 iter X.env x=pure x:=by intro _; rfl):QS X (.Assign [.Name y py] (.ListComp elt [⟨tg,iter,ifs,0⟩] scope pos) spos) (zeU (tLC caps wi g tt te) (zcF i)):=⟨L2.zk9 hN hiy hy hc hi.un (fun cl C s0 H0 fp=>(hg cl C s0 H0 fp).un) hgk (fun cl C s0 H0 fp=>(ht cl C s0 H0 fp).un) (fun cl C s0 H0 fp=>(he cl C s0 H0 fp).un) hsw hcap hkind hcell hnames hfr hs⟩
end
section
variable [TheK]
variable {b:jU}
theorem qne(h:QE X e (cE .n M fa)):QE X e (cE .e M fa):=⟨L3.ne h.un⟩
theorem qeb(h:QE X e (cE .e M fa)):QE X e (cE .b M fa):=⟨L3.eb h.un⟩
theorem qnb(h:QE X e (cE .n M fa)):QE X e (cE .b M fa):=⟨L3.nb h.un⟩
theorem qv_{i:Nat}(hi:M.contains i=false)(h:QE X e (zcY i)):QE X e (cE .e M (dV i)):=⟨have h:=h.un;weak h fun σ H Q h_=>cE_ h_ fun F O s t s' R hf q=>by
 obtain⟨e1,rfl⟩:=zjq hf;obtain⟨v,h1,h2⟩:=R.val i t e1 (by simpa using hi)
 exact⟨v,h1,q v H .refl ⟨R,h2⟩⟩⟩
theorem zkZ{i:Nat}(hi:M.contains i=true)(h:QE X e (zcY i)):QE X e (cE .b M (dV i)):=⟨have h:=h.un;weak h fun σ H Q h_=>cE_ h_ fun F O s t s' R hf q=>by
 obtain⟨e1,rfl⟩:=zjq hf;obtain⟨a,h1,h2⟩:=R.own i t e1 (by simpa using hi)
 exact⟨_,h1,q _ H .refl ⟨R,.inr ⟨i,by simpa using hi,h1,e1⟩⟩⟩⟩
theorem zff{v:V}{t:T}(hr:∀ C H,Rep C H v t)(h:QE X e (tC v)):QE X e (cE .e M (dC t)):=⟨L3.zjl hr h.un⟩
theorem qi_{i j pos}:QE X (.Constant (.int i) j pos) (cE .e M (dC (.int i))):=⟨zjl (fun _ _=>.int i) znX⟩
theorem zmd{i j pos}:QE X (.Constant (.bool i) j pos) (cE .e M (dC (.bl i))):=⟨zjl (fun _ _=>.bl i) zqh⟩
theorem zab{i j pos}:QE X (.Constant (.str i) j pos) (cE .e M (dC (.str i))):=⟨zjl (fun _ _=>.str i) zck⟩
theorem zl1{j pos}:QE X (.Constant .none j pos) (cE .e M (dC .non)):=⟨zjl (fun _ _=>.non) zgP⟩
end
section
variable [TheK]
variable {b:jU}
theorem zch(ha:QE X a (cE .e M fa))(hb:QE X b (cE .b M fb)):QE X (.BinOp a .Mult b pos) (cE .e M (d2 zgh fa fb)):=⟨have ha:=ha.un;have hb:=hb.un;weak (ziC zo2 ha hb) (zcd (s_I fun i j h=>by
 unfold zfV at h;rw[jX,decide_eq_true_iff,decide_eq_true_iff] at h
 exact h))⟩
theorem zdt(ha:QE X a (cE .e M fa))(hb:QE X b (cE .b M fb)):QE X (.BinOp a .FloorDiv b pos) (cE .e M (d2 zh6 fa fb)):=⟨have ha:=ha.un;have hb:=hb.un;weak (ziC zms ha hb) (zcd (s_I fun i j h=>of_decide_eq_true (p:=0 < j/\j < 1073741824) h))⟩
theorem zbA(ha:QE X a (cE .e M fa))(hb:QE X b (cE .b M fb)):QE X (.BinOp a .Mod b pos) (cE .e M (d2 zex fa fb)):=⟨have ha:=ha.un;have hb:=hb.un;weak (ziC zo3 ha hb) (zcd (s_I fun i j h=>of_decide_eq_true h))⟩
end
section
variable [TheK]
variable {b:jU}
theorem zma(hu:X.A.units+8 < g8)(ha:QE X a (cE .e M fa))(hb:QE X b (cE .b M fb)):QE X (.Compare a [.Eq] [b] pos) (cE .e M (d2 gEq fa fb)):=⟨have ha:=ha.un;have hb:=hb.un;weak (ziE (zla hu) ha hb (zdx _)) (zcd zqT)⟩
theorem zqd(ha:QE X a (cE .e M fa))(hb:QE X b (cE .b M fb)):QE X (.Compare a [.LtE] [b] pos) (cE .e M (d2 gLe fa fb)):=⟨have ha:=ha.un;have hb:=hb.un;weak (ziE op_le ha hb (zdx _)) (zcd zqU)⟩
end
section
variable [TheK]
variable {b:jU}{fu:DT}{k:Kd}
theorem zbK(h:QE X a (cE .b M fa))(he:∀ whole,isTrue a X.env whole=(do let v <-whole; NJ a.pos; gC [v] (truthy v)):=by intro _; rfl):QT X a (cT M (zeK fa)):=⟨have h:=h.un;zec (zk7 h he) (by
 intro σ H Q h_;refine cT_ h_ fun F O s b s' R hf q=>?_;obtain⟨p,h1,h2⟩:=Qb hf;obtain⟨b',h3,h4⟩:=Qm h2;injection h4 with h4 h5;subst h4 h5
 exact⟨F,O,s,p.1,p.2,R,h1,fun v H' S po=>⟨b',zlJ po.view h3,q H' S po.1⟩⟩)⟩
theorem zc3(hu:X.A.units+8 < g8)(ha:QE X a (cE .e M fa))(hb:QE X b (cE .b M fb)):QT X (.Compare a [.Eq] [b] pos) (cT M (dB (d2 gEq fa fb))):=⟨have ha:=ha.un;have hb:=hb.un;zec (zcB (zla hu) ha hb (zdx _)) (tst (zcd zqT))⟩
theorem znG(hu:X.A.units+8 < g8)(ha:QE X a (cE .e M fa))(hb:QE X b (cE .b M fb)):QT X (.Compare a [.NotEq] [b] pos) (cT M (dB (d2 gNe fa fb))):=⟨have ha:=ha.un;have hb:=hb.un;zec (zcB (zo1 hu) ha hb (zdx _)) (tst (zcd zrE))⟩
theorem znH(ha:QE X a (cE .e M fa))(hb:QE X b (cE .b M fb)):QT X (.Compare a [.Lt] [b] pos) (cT M (dB (d2 gLt fa fb))):=⟨have ha:=ha.un;have hb:=hb.un;zec (zcB (op_lt.or ziG) ha hb (zdx _)) (tst (zcd zlW))⟩
theorem zm4(ha:QE X a (cE .e M fa))(hb:QE X b (cE .b M fb)):QT X (.Compare a [.Gt] [b] pos) (cT M (dB (d2 gGt fa fb))):=⟨have ha:=ha.un;have hb:=hb.un;zec (zcB zqi ha hb (zdx _)) (tst (zcd zqU))⟩
theorem zbL(h:QT X a (cT M ft)):QT X (.UnaryOp .Not a pos) (cT M (zeL ft)):=⟨have h:=h.un;zec (zl5 h) (by
 intro σ H Q h_;refine cT_ h_ fun F O s b s' R hf q=>?_;obtain⟨p,h1,h2⟩:=Qm hf;cases h2
 exact⟨F,O,s,p.1,p.2,R,h1,fun H' S R'=>q H' S R'⟩)⟩
theorem zkX(h:QT X a (cT M ft)):QW X (.BoolOp .Or [a] pos) (cT M ft):=⟨have h:=h.un;zl3 h⟩
theorem zm3{rest:List jU}(ha:QT X a (cT M ft))(hb:QW X (.BoolOp .Or (b::rest) pos) (cT M fu)):QW X (.BoolOp .Or (a::b::rest) pos) (cT M (dOr ft fu)):=⟨have ha:=ha.un;have hb:=hb.un;zp7 (znO ha hb) (by
 intro σ H Q h_;refine cT_ h_ fun F O s b s' R hf q=>?_;obtain⟨p,h1,h2⟩:=Qb hf;refine⟨F,O,s,p.1,p.2,R,h1,fun H' S R'=>?_⟩;split at h2
 ·rename_i hp;rw[Ip_ hp];cases h2;exact q H' S R'
 ·rename_i hp;rw[In_ hp]
  exact⟨F,O,p.2,b,s',R',h2,fun H2 S2 R2=>q H2 (S.trans S2) R2⟩)⟩
theorem zl0{op}(h:QE X a (cE .e M fa)):QE X (.BoolOp op [a] pos) (cE .e M fa):=⟨have h:=h.un;znW h⟩
theorem zl2{rest:List jU}(ha:QE X a (cE .e M fa))(hb:QE X (.BoolOp .And (b::rest) pos) (cE .e M fb)):QE X (.BoolOp .And (a::b::rest) pos) (cE .e M (zhS fa fb)):=⟨have ha:=ha.un;have hb:=hb.un;weak (znZ ha hb) (by
 intro σ H Q h_;refine cE_ h_ fun F O s t s' R hf q=>?_;obtain⟨p,h1,h2⟩:=Qb hf;refine⟨F,O,s,.bl p.1,p.2,R,zgr h1,fun v H' S po=>⟨p.1,BRep.bl (.inl po.2),?_⟩⟩;split at h2
 ·rename_i hp;rw[Ip_ hp];exact⟨F,O,p.2,t,s',po.1,h2,fun w H2 S2 p2=>q w H2 (S.trans S2) p2⟩
 ·rename_i hp;rw[In_ hp];cases h2
  exact q _ H' S ⟨po.1,.bl false⟩)⟩
end
section
variable [TheK]
variable {fa:DA}
theorem za3 :QA X [] (cA M dAn):=⟨zlv zaz (by
 rintro σ H Q ⟨F,O,s,ts,s',R,hf,q⟩;cases hf
 exact q [] H .refl R .nil)⟩
theorem qa_(h:QE X e (cE .e M fe))(ha:QA X es (cA M fa))(hs:jb (e::es) X.env=(false,eval e X.env)::jb es X.env:=by rfl):QA X (e::es) (cA M (dAc fe fa)):=⟨have h:=h.un;have ha:=ha.un;zlv (za8 h ha hs) (by
 rintro σ H Q ⟨F,O,s,ts,s',R,hf,q⟩;obtain⟨p,h1,h2⟩:=Qb hf;obtain⟨r,h3,h4⟩:=Qm h2;cases h4;refine⟨F,O,s,p.1,p.2,R,h1,fun v H1 S1 p1=>⟨F,O,p.2,r.1,r.2,p1.1,h3,fun vs H2 S2 R2 rs=>?_⟩⟩
 exact q _ H2 (S1.trans S2) R2 (.cons (p1.1.stay S2 p1.2) rs))⟩
theorem zbk(h:QA X es (cA M fa)):QE X (.List es pos) (cE .n M (zeM fa)):=⟨have h:=h.un;weak (zl8 h) (by
 intro σ H Q h_;refine cE_ h_ fun F O s t s' R hf q=>?_;obtain⟨p,h1,h2⟩:=Qb hf;split at h2
 ·rename_i hl;cases h2;refine⟨F,O,s,p.1,p.2,R,h1,fun vs H1 S1 R1 rs=>⟨by rw[rs.1]; exact hl,fun a ha=>?_⟩⟩
  exact q _ _ (S1.trans (.new ha _)) (.mkN R R1 S1 ha fun C hC=>.lst za5 (rs.there.mono hC fun c o _ e=>by rw[za1 (zaa e ha)]; exact e))
 ·cases h2)⟩
theorem zfc{x1}(h:QA X es (cA M fa)):QE X (.Tuple es x1 pos) (cE .e M (zmK fa)):=⟨have h:=h.un;weak (zcT h) (by
 intro σ H Q h_;refine cE_ h_ fun F O s t s' R hf q=>?_;obtain⟨p,h1,h2⟩:=Qb hf;split at h2
 ·rename_i hl;cases h2;refine⟨F,O,s,p.1,p.2,R,h1,fun vs H1 S1 R1 rs=>⟨by rw[rs.1]; exact hl,fun a ha=>?_⟩⟩
  refine q _ _ (S1.trans (.new ha _)) (.mkE R1 ha fun C hC hp=>?_);have:=rs.there.mono (C':=C) (H':=upd H1 a (.tup vs)) hC fun c o _ e=>by rw[za1 (zaa e ha)]; exact e
  exact .tup hp za5 this.1 this.2
 ·cases h2)⟩
theorem zmb :QE X (.Dict [] [] pos) (cE .n M zmN):=⟨weak zke (by
 intro σ H Q h_;refine cE_ h_ fun F O s t s' R hf q=>?_;cases hf;intro a ha
 exact q _ _ (.new ha _) (.mkN R R .refl ha fun C hC=>.dct za5 ⟨rfl,fun i v t e=>by simp at e⟩))⟩
end
section
variable [TheK]
variable {lo hi:Option jU}{fl fh:DO}{p2:Pos}
theorem zau :QO X none (cO M dOn):=⟨fun pc s σ H Q I h=>by
 obtain⟨F,O,s',t,s'',R,hf,q⟩:=h;cases hf
 exact zmk pc s σ H Q I (q H .refl R)⟩
theorem zaq(h:QE X e (cE .e M fe)):QO X (some e) (cO M (dOs fe)):=⟨have h:=h.un;fun pc s σ H Q I hw=>by
 obtain⟨F,O,s',t,s'',R,hf,q⟩:=hw;obtain⟨⟨t',s1⟩,h1,h2⟩:=Qb hf;cases t'<;>simp at h2
 rename_i i;obtain⟨h2,h3⟩:=h2;subst h2 h3
 exact zmj h pc s σ H Q I ⟨F,O,s',.int i,s1,R,h1,fun v H' S p=>⟨i,BRep.int (.inl p.2),q H' S p.1⟩⟩⟩
theorem zkY{i:Nat}(hK:X.K=TheK.K)(hi':M.contains i=true)(he:QE X e (zcY i))(hl:QO X lo (cO M fl))(hu:QO X hi (cO M fh)):QE X (.Subscript e (.Slice lo hi none p2) pos) (cE .n M (zoA gSl i fl fh)):=⟨have he:=he.un;have hl:=hl.un;have hu:=hu.un;weak (zep (hK▸zid) he hl hu) (zpU hi' zqR)⟩
end
section
variable [TheK]
variable {F:Fr}{O O' O'':ji->Prop}{s s':Sg}{σ:L2.St}{H H' H'':Hp}{v:V}{t:T}{a:ji}
theorem znJ{X:Cx}{st:QR}{d:DS}{Mx:List Nat}(h:QS X st (cS rk io M' Mx Mb d))(hM:M'.all (M.contains ·)=true:=by rfl)(hio:io.all (M'.contains ·)=true:=by rfl):QS X st (cS rk io M Mx Mb d):=⟨have h:=h.un;zcb h (by
 intro D σ H h_;refine cS_ h_ fun F O s r R I hd q=>?_;obtain⟨O',w,R',I'⟩:=R.freeze I (zdU hM) (zdU hio)
 exact⟨F,O',s,r,R',I',hd,q.more ⟨fun b o n h=>⟨h,fun z=>n (w b z)⟩,fun _ h=>h⟩⟩)⟩
end
section
variable [TheK]
variable {M'':List Nat}{sts:List QR}{a b:List QR}{d d':DS}{pos':Pos}
theorem zag :QSs X [] (cS rk io M M Mb zav):=⟨zi1 zgb (by
 intro D σ H h_;refine cS_ h_ fun F O s r R I hd q=>?_;cases hd
 exact q O σ H .refl R I)⟩
theorem za2(h:QS X st (cS rk io M M' Mb d)):QSs X [st] (cS rk io M M' Mb d):=⟨have h:=h.un;zbM h⟩
theorem qs_(h:QS X st (cS rk io M M' Mb d))(h2:QSs X sts (cS rk io M' M'' Mb d')):QSs X (st::sts) (cS rk io M M'' Mb (zax d d')):=⟨have h:=h.un;have h2:=h2.un;zi1 (zci h h2) (by
 intro D σ H h_;refine cS_ h_ fun F O s r R I hd q=>?_;obtain⟨r1,h1,h2⟩:=Qb hd;refine⟨F,O,s,r1,R,I,h1,?_⟩;cases r1 with
 |nx s1=>exact fun O1 σ1 H1 k1 R1 I1=>⟨F,O1,s1,r,R1,I1,h2,q.more k1⟩
 |bk s1=>injection h2 with h2; subst h2; exact q
 |ct s1=>injection h2 with h2; subst h2; exact q
 | rt t s1=>injection h2 with h2; subst h2; exact q)⟩
theorem zaM(hc:QT X c (cT M ft))(ha:QSs X a (cS rk io M M' Mb d))(hb:QSs X b (cS rk io M M' Mb d')):QS X (.If c a b pos) (cS rk io M M' Mb (zbe ft d d')):=⟨have hc:=hc.un;have ha:=ha.un;have hb:=hb.un;zcb (zkc hc ha hb) (by
 intro D σ H h_;refine cS_ h_ fun F O s r R I hd q=>?_;obtain⟨p,h1,h2⟩:=Qb hd;refine⟨F,O,s,p.1,p.2,R,h1,fun H1 S1 R1=>?_⟩;have k:=S1.keepO R;dsimp only;split at h2
 ·rename_i hp;rw[Ip_ hp];exact⟨F,O,p.2,r,R1,I,h2,q.more k⟩
 ·rename_i hp;rw[In_ hp]
  exact⟨F,O,p.2,r,R1,I,h2,q.more k⟩)⟩
theorem zak{i:Nat}(h:QS X st (zeU (cE .e M fe) (zcF i)))(hM:znz M M' io i=true:=by rfl):QS X st (cS rk io M M' Mb (zbn i fe)):=⟨have h:=h.un;zcb h (by
 unfold znz at hM;rw[jo,jo,jo] at hM;obtain⟨⟨⟨m1,m2⟩,m3⟩,m4⟩:=hM;intro D σ H h_;refine cS_ h_ fun F O s r R I hd q=>?_;obtain⟨p,h1,h2⟩:=Qb hd;split at h2
 ·rename_i hi;cases h2;refine⟨F,O,s,p.1,p.2,R,h1,fun v H1 S1 p1=>?_⟩;refine q O _ H1 (S1.keepO R) (p1.1.setE (fun j hj=>?_) (fun j hj=>?_) hi p1.2) (I.set (by simpa using m3) (zdU m4))
  ·simpa using jm.mp m1 j hj
  ·simpa using jm.mp m2 j hj
 ·cases h2)⟩
theorem zcA{i:Nat}(h:QS X st (zeU (cE .n M fe) (zcF i)))(hM:zny M M' io i=true:=by rfl):QS X st (cS rk io M M' Mb (zbn i fe)):=⟨have h:=h.un;zcb h (by
 unfold zny at hM;rw[jo,jo,jo,jo] at hM;obtain⟨⟨⟨⟨m1,m2⟩,m5⟩,m3⟩,m4⟩:=hM;intro D σ H h_;refine cS_ h_ fun F O s r R I hd q=>?_;obtain⟨p,h1,h2⟩:=Qb hd;split at h2
 ·rename_i hi;cases h2;refine⟨F,O,s,p.1,p.2,R,h1,fun v H1 S1 p1=>?_⟩;obtain⟨a,rfl,h0,R1,L⟩:=p1;have k:KeepO O H (fun b=>O b∨b=a) H1:=⟨fun b o n h=>⟨S1.keep b o (R.notOwned n) h,fun z=>z.elim n fun z=>by rw[z,h0] at h; cases h⟩,S1.dom⟩
  refine q _ _ H1 k (R1.setN (fun j hj=>?_) (fun j hj=>?_) hi (by simpa using m5) (.inr rfl) (fun j hj _ e=>R.al a (R.ow j a hj e) h0) L) (I.set (by simpa using m3) (zdU m4))
  ·simpa using jm.mp m1 j hj
  ·simpa using jm.mp m2 j hj
 ·cases h2)⟩
theorem zqc{k:Kd}(hk:k=.e∨k=.b)(he:QE X e (cE k M fe))(hs:gD e none pos.line X.env=pure false:=by rfl):QS X (.Expr e pos) (cS rk io M M Mb (dDo fe)):=⟨have he:=he.un;zcb (zmh he hs) (by
 intro D σ H h_;refine cS_ h_ fun F O s r R I hd q=>?_;obtain⟨p,h1,h2⟩:=Qm hd;subst h2;refine⟨F,O,s,p.1,p.2,R,h1,fun v H1 S1 p1=>?_⟩;rcases hk with rfl |rfl
 ·exact q O σ H1 (S1.keepO R) p1.1 I
 ·exact q O σ H1 (S1.keepO R) p1.1 I)⟩
theorem zad(he:QE X e (cE .e M fe)):QS X (.Return (some e) pos) (cS .e io M M' Mb (zan io fe)):=⟨have he:=he.un;zcb (zcS he) (by
 intro D σ H h_;refine cS_ h_ fun F O s r R I hd q=>?_;obtain⟨p,h1,h2⟩:=Qb hd;split at h2
 ·rename_i hh;cases h2;exact⟨F,O,s,p.1,p.2,R,h1,fun v H1 S1 p1=>q v H1 (zq4 p1.1 I (hasAll.get hh) p1.2)⟩
 ·cases h2)⟩
theorem zm5(he:QE X e (cE .n M fe)):QS X (.Return (some e) pos) (cS .n io M M' Mb (zan io fe)):=⟨have he:=he.un;zcb (zcS he) (by
 intro D σ H h_;refine cS_ h_ fun F O s r R I hd q=>?_;obtain⟨p,h1,h2⟩:=Qb hd;split at h2
 ·rename_i hh;cases h2;refine⟨F,O,s,p.1,p.2,R,h1,fun v H1 S1 p1=>?_⟩;obtain⟨a,rfl,h0,R1,L⟩:=p1;exact q _ H1 (zq3 R1 I (hasAll.get hh) (.inr rfl) (R.dom a h0) (fun z=>R.al a (R.inD a z) h0) L)
 ·cases h2)⟩
end
section
variable [TheK]
variable {fk fv:DE}
theorem znI{i:Nat}(hi:M.contains i=true)(h:QS X st (zlX (zcY i) (cE .e M fk) (cE .e M fv))):QS X st (cS rk io M M Mb (zqJ i fk fv)):=⟨have h:=h.un;zcb h (by
 intro D σ H h_;refine cS_ h_ fun F O s r R I hd q=>?_;have hi':i∈M:=by simpa using hi
 obtain⟨p,h1,hd⟩:=Qb hd;obtain⟨t0,h0,hd⟩:=Qb hd;obtain⟨w,h2,hd⟩:=Qb hd;obtain⟨t1,h3,hd⟩:=Qb hd;obtain⟨kvs,rfl⟩:∃ kvs,t1=.dct kvs:=by cases t1<;>first |exact⟨_,rfl⟩ |cases hd
 have hd:=hd;obtain⟨k,h4,hd⟩:=Qb hd;split at hd
 case isFalse=>cases hd
 rename_i h5;cases hd;refine⟨F,O,s,p.1,p.2,R,h1,fun v H1 S1 p1=>?_⟩;obtain⟨a,e1,_⟩:=p1.1.own i t0 (za9 h0) hi';refine⟨_,e1,F,O,p.2,w.1,w.2,p1.1,h2,fun y H2 S2 p2=>?_⟩;obtain⟨b,e2,L⟩:=p2.1.own i _ (za9 h3) hi';rw[e1] at e2;injection e2 with e2;cases e2;have ne:=L.ne;cases L with
 |dct hr hk=>
  cases zcD (.inl p2.2) h4;refine⟨a,_,rfl,DPut.k hr (by rw[hk.len]; exact h5),?_⟩
  have rv:=p1.1.stay S2 p1.2;have R2:=p2.1.write (t':=.dct (zk6 kvs k p.1)) hi' e1 (za9 h3) (fun Hx kx ex=>.dct ex ((hk.put rv).mono (fun _ c=>c) kx))
  exact q O σ _ (((S1.trans S2).trans (.write hi' e1 ne)).keepO R) R2 I)⟩
theorem zel{i:Nat}(hi:M.contains i=true)(h:QS X st (zeU (cE .e M fv) (zqA (zcY i) (cE .e M fk) znF))):QS X st (cS rk io M M Mb (zfC i fk fv)):=⟨have h:=h.un;zcb h (by
 intro D σ H h_;refine cS_ h_ fun F O s r R I hd q=>?_;have hi':i∈M:=by simpa using hi
 obtain⟨p,h1,hd⟩:=Qb hd;obtain⟨t0,h0,hd⟩:=Qb hd;obtain⟨⟨w1,w2⟩,h2,hd⟩:=Qb hd;obtain⟨t1,h3,hd⟩:=Qb hd;obtain⟨xs,rfl⟩:∃ xs,t1=.lst xs:=by cases t1<;>first |exact⟨_,rfl⟩ |cases hd
 obtain⟨k,rfl⟩:∃ k,w1=.int k:=by cases w1<;>first |exact⟨_,rfl⟩ |cases hd
 obtain⟨j,h4,h6⟩:=Qm hd;subst h6;refine⟨F,O,s,p.1,p.2,R,h1,fun v H1 S1 p1=>?_⟩;obtain⟨a,e1,_⟩:=p1.1.own i t0 (za9 h0) hi';refine⟨_,e1,F,O,p.2,_,_,p1.1,h2,fun y H2 S2 p2=>?_⟩;obtain⟨b,e2,L⟩:=p2.1.own i _ (za9 h3) hi';rw[e1] at e2;injection e2 with e2;cases e2;have ne:=L.ne;obtain⟨vs,hr,hk⟩:=L.lst';obtain rfl:y=.int k:=BRep.int (.inl p2.2);refine⟨a,vs,k,j,rfl,rfl,hr,by rw[hk.1]; exact h4,?_⟩
 have rv:=p1.1.stay S2 p1.2;have R2:=p2.1.write (t':=.lst (xs.set j p.1)) hi' e1 (za9 h3) (fun Hx kx ex=>.lst ex ((hk.set j rv).mono (fun _ c=>c) kx))
 exact q O σ _ (((S1.trans S2).trans (.write hi' e1 ne)).keepO R) R2 I)⟩
end
section
variable [TheK]
variable {fa:DA}
theorem zfb{a:jU}{p pos:Pos}(hg:Gl X "range")(hm:X.mg "range"=none)(ha:QA X [a] (cA M fa))(hs:jb [a] X.env=[(false,eval a X.env)]:=by rfl):QI X tg (.Call (.Name "range" p) [a] [] pos) (cI M (zp2 fa)):=⟨have ha:=ha.un;zeP (ziA hg hm ha hs) (by
 intro σ H R h_;refine cI_ h_ fun F O s its s' Rl hf q=>?_;obtain⟨⟨p1,p2⟩,h1,h2⟩:=Qb hf;refine⟨F,O,s,p1,p2,Rl,h1,fun vs H1 S1 R1 rs=>?_⟩;dsimp only at h2;split at h2
 case h_2=>cases h2
 ·rename_i j;have h2:=h2;split at h2
  ·rename_i hj;have hj:=zd5 hj;cases h2;obtain⟨v,rfl,rv⟩:=rs.one;obtain rfl:v=.int j:=BRep.int (.inl rv);exact⟨j,rfl,hj.1,hj.2,q _ H1 S1 R1 zh0⟩
  ·cases h2)⟩
theorem zit{a b:jU}{p pos:Pos}(hg:Gl X "range")(hm:X.mg "range"=none)(ha:QA X [a,b] (cA M fa))(hs:jb [a,b] X.env=[(false,eval a X.env),(false,eval b X.env)]:=by rfl)(hs2:jb [b] X.env=[(false,eval b X.env)]:=by rfl):QI X tg (.Call (.Name "range" p) [a,b] [] pos) (cI M (zoB fa)):=⟨have ha:=ha.un;zeP (ziz hg hm ha hs hs2) (by
 intro σ H R h_;refine cI_ h_ fun F O s its s' Rl hf q=>?_;obtain⟨⟨p1,p2⟩,h1,h2⟩:=Qb hf;refine⟨F,O,s,p1,p2,Rl,h1,fun vs H1 S1 R1 rs=>?_⟩;dsimp only at h2;split at h2
 case h_2=>cases h2
 ·rename_i i j;have h2:=h2;split at h2
  ·rename_i hj;have hj:-(2 ^ 62)<=i/\i < 2 ^ 62/\-(2 ^ 62)<=j/\j < 2 ^ 62:=⟨(zd5 hj.1).1,(zd5 hj.1).2,zd5 hj.2⟩;cases h2
   match vs,rs with
   |v::vs,rs=>
    obtain⟨u,rfl,ru⟩:=rs.tail.one;obtain rfl:v=.int i:=BRep.int (.inl rs.head);obtain rfl:u=.int j:=BRep.int (.inl ru);exact⟨i,j,rfl,hj,q _ H1 S1 R1 zh0⟩
   |[],rs=>exact absurd rs.1 (by simp)
  ·cases h2)⟩
end
section
variable [TheK]
variable {iter:jU}{body:List QR}{fi:DI}{g:DG}{db:DS}
theorem zc5{i:Nat}(h:QG X tg (zcF i))(hi:M.contains i=false:=by rfl)(hio:io.all (M.contains ·)=true:=by rfl):QG X tg (cG io M (dGn i)):=⟨have h:=h.un;zp8 h (gn hi hio)⟩
theorem zdr(h:QS X (.For tg iter body [] pos) (zoW (cI M fi) (cG io M g) (cS rk io M M M db))):QS X (.For tg iter body [] pos) (cS rk io M M Mb (zhb fi g db)):=⟨have h:=h.un;zcb h zop⟩
end
section
variable [TheK]
variable {b:jU}
theorem zbr(hK:X.K=TheK.K)(hu:X.A.units+1 < g8)(ha:QE X a (cE .e M fa))(hb:QE X b (cE .b M fb))(hs:zdP b):QE X (.Subscript a b pos) (cE .e M (d2 zaE fa fb)):=⟨have ha:=ha.un;have hb:=hb.un;weak (zoZ (zrU hK ha hb hs) (zqE hu ha hb hs)) (zha zmO idE idE)⟩
theorem zbT{i:Nat}(hK:X.K=TheK.K)(hi:M.contains i=true)(hu:X.A.units+1 < g8)(ha:QE X a (zcY i))(hb:QE X b (cE .b M fb))(hs:zdP b):QE X (.Subscript a b pos) (cE .e M (d2v zaE i fb)):=⟨have ha:=ha.un;have hb:=hb.un;weak (zoZ (zqD hK hi ha hb hs) (zou hi hu ha hb hs)) (zha zoD idE idE)⟩
theorem zir(hu:X.A.units+1 < g8)(ha:QE X a (cE .e M fa))(hb:QE X b (cE .b M fb))(hm:Z8 .NotIn b=false):QT X (.Compare a [.NotIn] [b] pos) (cT M (dB (d2 zc9 fa fb))):=⟨have ha:=ha.un;have hb:=hb.un;zec (zrJ (zlK ha hb hm) (zjM hu ha hb hm)) (zmE zmO)⟩
theorem za6(ha:QE X a (cE .e M fa))(hb:QE X b (cE .b M fb)):QE X (.BinOp a .Add b pos) (cE .e M (d2 zac fa fb)):=⟨have ha:=ha.un;have hb:=hb.un;weak (zoZ (zqG ha hb) (zqF ha hb)) (zha zmO idE neE)⟩
theorem zaO{lo hi:Option jU}{fl fh:DO}{p2:Pos}(hK:X.K=TheK.K)(he:QE X e (cE .e M fe))(hl:QO X lo (cO M fl))(hu:QO X hi (cO M fh)):QE X (.Subscript e (.Slice lo hi none p2) pos) (cE .e M (dSl zbC fe fl fh)):=⟨have he:=he.un;have hl:=hl.un;have hu:=hu.un;weak (zoZ (zqC he hl hu) (zrT hK he hl hu)) (zha zoz idE neE)⟩
theorem zbj{tg:jU}(hK:X.K=TheK.K)(h:QE X e (cE .e M fe)):QI X tg e (cI M (zcX fe)):=⟨have h:=h.un;zeP (zqe (zqe (zon hK h) (zqu h)) (zqe (zrP h) (zom h))) (by
 intro σ H R h_;refine cI_ h_ fun F O s its s' Rl hf q=>?_;obtain⟨⟨p1,p2⟩,h1,h2⟩:=Qb hf;cases p1 with
 |lst xs=>exact .inl (.inl ⟨F,O,s,its,s',Rl,by unfold dIt; rw[h1]; exact h2,q⟩)
 |scr xs=>exact .inl (.inl ⟨F,O,s,its,s',Rl,by unfold dIt; rw[h1]; exact h2,q⟩)
 |tup xs=>exact .inl (.inr ⟨F,O,s,its,s',Rl,by unfold zr2; rw[h1]; exact h2,q⟩)
 |fd xs=>exact .inr (.inl ⟨F,O,s,its,s',Rl,by unfold zr4; rw[h1]; exact h2,q⟩)
 |str x=>exact .inr (.inr ⟨F,O,s,its,s',Rl,by unfold zr3; rw[h1]; exact h2,q⟩)
 | _=>cases h2)⟩
end
section
variable [TheK]
variable {b:jU}
variable {fs:DA}{f:ji}{fd:QU}{np:Nat}
theorem zmc{fn:List T->Option T}(F:FnOk X.prog X.w X.K X.mg X.base CX0 k f fd ps (spP .e np fn))(hr:Room k X.A)(hg:Gl X x)(hm:X.mg x=some (.ref f))(hk:Q3 X.K (.ref f)=true)(hb:Binds X.K fd ps [])(ha:QA X (e::es) (cA M fs))(ar:Ar fs np)(hdb:(x == ("__debug__":Str))=false:=by decide)(he:jb (e::es) X.env=(false,eval e X.env)::jb es X.env:=by rfl)(hpl:(Qr pos (jb es X.env)).any (·.1)=false:=by rfl):QE X (.Call (.Name x p) (e::es) [] pos) (cE .e M (zaj fn fs)):=⟨have ha:=ha.un;weak (zcC F hr hg hm hk hb .nil zkh ha hdb he hpl) (zoI ar)⟩
theorem zk1{fn:List T->Option T}(F:FnOk X.prog X.w X.K X.mg X.base CX0 k f fd ps (spP .n np fn))(hr:Room k X.A)(hg:Gl X x)(hm:X.mg x=some (.ref f))(hk:Q3 X.K (.ref f)=true)(hb:Binds X.K fd ps [])(ha:QA X (e::es) (cA M fs))(ar:Ar fs np)(hdb:(x == ("__debug__":Str))=false:=by decide)(he:jb (e::es) X.env=(false,eval e X.env)::jb es X.env:=by rfl)(hpl:(Qr pos (jb es X.env)).any (·.1)=false:=by rfl):QE X (.Call (.Name x p) (e::es) [] pos) (cE .n M (zaj fn fs)):=⟨have ha:=ha.un;weak (zcC F hr hg hm hk hb .nil zkh ha hdb he hpl) (zoH ar)⟩
theorem zk2{fn:List T->Option (T × T)}{i:Nat}(hi:M.contains i=true)(F:FnOk X.prog X.w X.K X.mg X.base CX0 k f fd ps (spI .e (np+1) fn))(hr:Room k X.A)(hg:Gl X x)(hm:X.mg x=some (.ref f))(hk:Q3 X.K (.ref f)=true)(hb:Binds X.K fd ps [])(h0:QE X e (zcY i))(ha:QA X es (cA M fs))(ar:Ar fs np)(hdb:(x == ("__debug__":Str))=false:=by decide)(he:jb (e::es) X.env=(false,eval e X.env)::jb es X.env:=by rfl)(hpl:(Qr pos (jb es X.env)).any (·.1)=false:=by rfl):QE X (.Call (.Name x p) (e::es) [] pos) (cE .e M (zfE fn i fs)):=⟨have h0:=h0.un;have ha:=ha.un;weak (zcC F hr hg hm hk hb .nil zkh (za8 h0 ha he) hdb he hpl) (zmU ar hi)⟩
theorem zbg(hK:X.K=TheK.K)(hg:Gl X "len")(hm:X.mg "len"=none)(h:QE X e (cE .b M fe))(he:jb [e] X.env=(false,eval e X.env)::jb [] X.env:=by rfl)(hpl:(Qr pos (jb [] X.env)).any (·.1)=false:=by rfl):QE X (.Call (.Name "len" p) [e] [] pos) (cE .e M (d1 zbV fe)):=⟨have h:=h.un; weak (zaY (((hK▸zfL).or zfK).or zjz) hg hm PySem.boot_len (za8 h zaz he) (by decide) (by decide) he hpl) (zo5 zpV)⟩
theorem zm8{e2:jU}(hc:X.calm=true)(hg:Gl X "min")(hm:X.mg "min"=none)(hv:Qj "min"=some (.builtin "min"))(h:QA X [e,e2] (cA M fs))(he:jb [e,e2] X.env=(false,eval e X.env)::jb [e2] X.env:=by rfl)(hpl:(Qr pos (jb [e2] X.env)).any (·.1)=false:=by rfl):QE X (.Call (.Name "min" p) [e,e2] [] pos) (cE .e M (dA2 zp1 fs)):=⟨have h:=h.un; weak (zaY (zjy hc) hg hm hv h (by decide) (by decide) he hpl) zjL⟩
theorem ziv{i:Nat}{o:jU}{apos:Pos}(hi:M.contains i=true)(h:QE X (.Call (.Attribute o "append" apos) (e::es) [] pos) (tBM X.K "list" zg9 (zcY i) (cA M fs))):QE X (.Call (.Attribute o "append" apos) (e::es) [] pos) (cE .e M (zmL zlb i fs)):=⟨have h:=h.un;weak h (zo8 hi zqr)⟩
theorem zgO{i:Nat}{o:jU}{apos:Pos}(hi:M.contains i=true)(h:QE X (.Call (.Attribute o "pop" apos) (e::es) [] pos) (tBM X.K "list" ziq (zcY i) (cA M fs))):QE X (.Call (.Attribute o "pop" apos) (e::es) [] pos) (cE .e M (zmL zcm i fs)):=⟨have h:=h.un;weak h (zo8 hi zmu)⟩
theorem zk0{o:jU}{apos:Pos}(h:QE X (.Call (.Attribute o "count" apos) [e] [] pos) (tBM X.K "list" zg8 (cE .e M fa) (zb8 (cE .b M fe) zfT))):QE X (.Call (.Attribute o "count" apos) [e] [] pos) (cE .e M (d2L ze7 fa fe)):=⟨have h:=h.un;weak h (zrL zlV)⟩
theorem zeo{o:jU}{apos:Pos}(h:QE X (.Call (.Attribute o "join" apos) [e] [] pos) (tBM X.K "str" (zm2 X.K) (cE .e M fa) (zb8 (cE .b M fe) zfT))):QE X (.Call (.Attribute o "join" apos) [e] [] pos) (cE .e M (zgq fa fe)):=⟨have h:=h.un;weak h zoj⟩
theorem zfe{Mi:List Nat}{caps:List (Option Nat)}{fi:DI}{g:TG}{dg:DG}{ft:DT}{tt:TT}(c:zoG caps M Mi=true)(hg:zn6 g dg Mi caps)(htt:∀ σ H Q,cT Mi ft σ H Q->tt σ H Q)(h:QE X e (tLC caps (cI M fi) g tt (cE .e Mi fe))):QE X e (cE .n M (dLC M caps fi dg ft fe)):=⟨have h:=h.un;weak h (zoa (.of c) hg htt)⟩
theorem znL{st:QR}{Mi:List Nat}{caps:List (Option Nat)}{fi:DI}{g:TG}{g2:TG}{dg:DG}{ft:DT}{tt:TT}(c:zoG caps M Mi=true)(hg:zn6 g dg Mi caps)(htt:∀ σ H Q,cT Mi ft σ H Q->tt σ H Q)(h:QS X st (zeU (tLC caps (cI M fi) g tt (cE .e Mi fe)) g2)):QS X st (zeU (cE .n M (dLC M caps fi dg ft fe)) g2):=⟨have h:=h.un;zmW h (zoa (.of c) hg htt)⟩
theorem zqa{st:QR}{g2:TG}{ff:DE}(h:QS X st (zeU (cE .n M ff) g2)):QS X st (zeU (cE .e M ff) g2):=⟨have h:=h.un;zmW h fun σ H Q h_=>cE_ h_ fun F O s t s' R hf q=>⟨F,O,s,t,s',R,hf,fun v H' S p=>q v H' S (p.ne R)⟩⟩
end
section
variable [TheK]
variable {st:jU}{fk:DO}{p2:Pos}
theorem zfd{a:jU}{fa:DA}{p p' pos':Pos}(hc:X.calm=true)(hg:Gl X "list")(hm:X.mg "list"=none)(hg':Gl X "range")(hm':X.mg "range"=none)(ha:QA X [a] (cA M fa))(hs:jb [a] X.env=[(false,eval a X.env)]:=by rfl)(hs':jb [.Call (.Name "range" p') [a] [] pos'] X.env=[(false,eval (.Call (.Name "range" p') [a] [] pos') X.env)]:=by rfl):QE X (.Call (.Name "list" p) [.Call (.Name "range" p') [a] [] pos'] [] pos) (cE .n M (dLR fa)):=⟨have ha:=ha.un;weak (zfh hc hg hm hg' hm' ha hs hs') (by
 intro σ H Q h_;refine cE_ h_ fun F O s t s' R hf q=>?_;obtain⟨⟨p1,p2⟩,h1,h2⟩:=Qb hf;refine⟨F,O,s,p1,p2,R,h1,fun vs H1 S1 R1 rs=>?_⟩;dsimp only at h2;split at h2
 case h_2=>cases h2
 ·rename_i j;have h2:=h2;split at h2
  ·rename_i hj;have hj:=zhu hj;cases h2;obtain⟨v,rfl,rv⟩:=rs.one;obtain rfl:v=.int j:=BRep.int (.inl rv);refine⟨j,rfl,by lia,hj.2,fun b hb=>q _ _ (S1.trans (.new hb _)) (.mkN R R1 S1 hb fun C' hC=>.lst za5 ?_)⟩
   have e:((jK j.toNat).map fun(k:Nat)=>V.int k)=((jK j.toNat).map fun(k:Nat)=>(k:Int)).map V.int:=by rw[Q6]; rfl
   have e':zaJ 0 j.toNat=((jK j.toNat).map fun(k:Nat)=>(k:Int)).map T.int:=by
    unfold zaJ;rw[Q6];refine Ql fun k _=>?_;rw[W9]; rfl
   rw[e,e'];exact zbJ _
  ·cases h2)⟩
end
section
variable [TheK]
theorem znK{st:QR}{i0:Nat}{Mi:List Nat}{caps:List (Option Nat)}{g:TG}{g2:TG}{dg:DG}{ft:DT}{tt:TT}(hK:X.K=TheK.K)(h0:M.contains i0=true)(hcap:caps.contains (some i0)=false)(c:zoG caps M Mi=true)(hg:zn6 g dg Mi caps)(htt:∀ σ H Q,cT Mi ft σ H Q->tt σ H Q)(h:QS X st (zeU (tLC caps (zj8 X.K (zcY i0)) g tt (cE .e Mi fe)) g2)):QS X st (zeU (cE .n M (dLC M caps (zmM i0) dg ft fe)) g2):=⟨have h:=h.un;zmW (hK▸h) (zo9 (by simpa using h0) (zqm hcap) (.of c) hg htt)⟩
end
section
variable [TheK]
theorem zcR(hK:X.K=TheK.K)(hc:X.calm=true)(hg:Gl X "all")(hm:X.mg "all"=none)(h:QE X e (cE .b M fe))(he:jb [e] X.env=(false,eval e X.env)::jb [] X.env:=by rfl)(hpl:(Qr pos (jb [] X.env)).any (·.1)=false:=by rfl):QE X (.Call (.Name "all" p) [e] [] pos) (cE .e M (d1 zeJ fe)):=⟨have h:=h.un; weak (zaY (hK▸zkM hc) hg hm zoM (za8 h zaz he) (by decide) (by decide) he hpl) (zo5 zpZ)⟩
end
section
variable [TheK]
theorem zqb{X:Cx}{st:QR}{d:DS}{rk:Kd}{io M M' Mx Mb:List Nat}{i:Nat}(h:QS X st (cS rk io M' Mx Mb d))(hi:M.contains i=true:=by rfl)(hM:M'.all (fun j=>M.contains j&&j != i)=true:=by rfl)(hM2:M.all (fun j=>M'.contains j||j == i)=true:=by rfl)(hio:io.all (M'.contains ·)=true:=by rfl):QS X st (cS rk io M Mx Mb (zoC i d)):=⟨have h:=h.un;zcb (zkb h) (by
 intro D σ H h_;refine cS_ h_ fun F O s r R I hd q=>?_;have hi':i∈M:=by simpa using hi
 have m1:∀ j,j∈M'->j∈M/\j≠i:=fun j hj=>by have:=jm.mp hM j hj; simpa using this
 have m2:∀ j,j∈M->j∈M'∨j=i:=fun j hj=>by have:=jm.mp hM2 j hj; simpa using this
 have mi:i∉M':=fun z=>(m1 i z).2 rfl;have mio:∀ j,j∈io->j∈M':=fun j hj=>by have:=jm.mp hio j hj; simpa using this
 unfold zoC at hd;split at hd
 ·rename_i ks e;have e:=za9 e;obtain⟨a,ha,L⟩:=R.own i _ e hi';obtain⟨kvs,hr,rk'⟩:∃ kvs,H a=some (.dK kvs)/\RepK (Free F O) H kvs ks:=by
   cases L with |dct r h=>exact⟨_,r,h⟩
  have hsl:=(jd.mp e).1
  -- what stays owned
  have oth:∀(j:Nat) b,j∈M'->σ[j]?=some (some (.ref b))->b≠a:=fun j b hj e1 z=>by
   subst z;exact(m1 j hj).2 (R.dis j i b (m1 j hj).1 hi' e1 ha)
  have hD:¬ F.D a:=fun z=>by
   obtain⟨j,hj,e1⟩:=I.D a z;have e2:=(I.at_ j hj).2;rw[<-e1] at e2;exact oth j a (mio j hj) e2 rfl
  have hF0:=(R.fresh a (R.ow i a hi' ha)).resolve_left hD;refine⟨a,kvs,hr,fun o=>?_⟩;have kD:∀ b u,b≠a->H b=some u->upd H a (.frz o (.dK kvs)) b=some u:=fun b u n e=>by rw[za1 n]; exact e
  have wk:∀ b,Free F O b->Free F (fun b=>O b/\b≠a) b:=fun b z=>z.weak fun c y=>y.1;have fra:Free F (fun b=>O b/\b≠a) a:=⟨fun z=>z.2 rfl,.inr hF0⟩;have na:∀ b,Free F O b->b≠a:=fun b z y=>z.1 (y▸R.ow i a hi' ha);have R':Rel F (fun b=>O b/\b≠a) M' (s.set i (some (.fd ks))) σ (upd H a (.frz o (.dK kvs))):=by
   refine⟨by rw[jT]; exact R.len,fun j t e' n=>?_,fun j t e' n=>?_,fun j b hj e1=>⟨R.ow j b (m1 j hj).1 e1,oth j b hj e1⟩,fun j k b hj hk e1 e2=>R.dis j k b (m1 j hj).1 (m1 k hk).1 e1 e2,fun b u n e1=>?_,fun b e1=>?_,fun b z=>R.fresh b z.1,fun b z=>⟨R.inD b z,fun y=>hD (y▸z)⟩,fun b z e1=>?_⟩
   ·by_cases hji:j=i
    ·subst hji;rw[jF hsl] at e';cases e';exact⟨_,ha,.fd fra za5 rk'.1 fun k v t e1 e2=>(rk'.2 k v t e1 e2).mono wk fun b u z e=>kD b u (na b z) e⟩
    ·rw[jc (fun z=>hji z.symm)] at e';obtain⟨v,a1,a2⟩:=R.val j t e' (fun z=>(m2 j z).elim n hji);exact⟨v,a1,a2.mono wk fun b u z e=>kD b u (na b z) e⟩
   ·have hji:i≠j:=fun z=>mi (z▸n);rw[jc hji] at e';obtain⟨c,a1,a2⟩:=R.own j t e' (m1 j n).1;exact⟨c,a1,a2.mono wk (fun b u z e=>kD b u (na b z) e) fun u e=>kD c u (oth j c n a1) e⟩
   ·exact kD b u (fun z=>by rw[z,hF0] at e1; cases e1) (R.keep b u n e1)
   ·refine R.dom b ?_;unfold upd at e1;split at e1
    ·cases e1
    ·exact e1
   ·refine R.al b z.1 ?_
    rwa [za1 z.2] at e1
  refine⟨F,_,_,r,R',⟨fun j hj=>⟨mio j hj,(I.at_ j hj).2⟩,I.D⟩,hd,q.more ⟨fun b u n e1=>⟨kD b u (fun z=>n (z▸R.ow i a hi' ha)) e1,fun z=>n z.1⟩,fun b e1=>?_⟩⟩;unfold upd at e1;split at e1
  ·cases e1
  ·exact e1
 ·cases hd)⟩
end
section
variable [TheK]
variable {b:jU}{fc:DE}
theorem zm7{tg:jU}(h:QE X o (cE .e M fe))(hbase:Zb o "values" X.env (eval o X.env)=eval o X.env:=by rfl)(hline:(apos.endLine == pos.line)=true:=by rfl):QI X tg (.Call (.Attribute o "values" apos) [] [] pos) (cI M (zn2 fe)):=⟨have h:=h.un;zeP (zmm h hbase hline) (by
 intro σ H R h_;refine cI_ h_ fun F O s its s' Rl hf q=>?_;obtain⟨⟨p1,p2⟩,h1,h2⟩:=Qb hf;obtain⟨ks,rfl⟩:∃ ks,p1=.fd ks:=by cases p1<;>first |exact⟨_,rfl⟩ |cases h2
 cases h2;refine⟨F,O,s,_,_,Rl,h1,fun v H1 S1 p=>?_⟩;obtain⟨a,o,kvs,rfl,ha,ra,fr⟩:=BRep.fd (.inl p.2)
 exact⟨a,o,kvs,rfl,ha,q _ H1 S1 p.1 (zj3 fr ha (zi2 ra))⟩)⟩
theorem zm9{i:Nat}{f:jU}{fx:DE}(hi:M.contains i=true)(hu:X.A.units+1 < g8)(h0:QE X o (zcY i))(hk:QE X e (cE .e M fe))(hx:QE X f (cE .e M fx))(m:M2 X o "get" apos e f pos):QE X (.Call (.Attribute o "get" apos) [e,f] [] pos) (cE .e M (zkG i fe fx)):=⟨have h0:=h0.un;have hk:=hk.un;have hx:=hx.un;weak (zkf hu h0 hk hx m) (by
 intro σ H Q h_;refine cE_ h_ fun F O s t s' R hf q=>?_;have hi':i∈M:=by simpa using hi
 unfold zkG at hf;split at hf
 ·rename_i ks0 e0;have e0:=za9 e0;obtain⟨⟨q1,q2⟩,h1,hf⟩:=Qb hf;obtain⟨k,h2,hf⟩:=Qb hf;obtain⟨⟨r1,r2⟩,h3,hf⟩:=Qb hf;split at hf
  ·rename_i ks e1;have e1:=za9 e1;cases hf;obtain⟨a,ha,L⟩:=R.own i _ e0 hi';obtain⟨kvs0,hr0,_⟩:∃ kvs,H a=some (.dK kvs)/\RepK (Free F O) H kvs ks0:=by
    cases L with |dct r h=>exact⟨_,r,h⟩
   refine⟨_,ha,a,rfl,.inl ⟨kvs0,.inl hr0⟩,F,O,s,q1,q2,R,h1,fun y H1 S1 p1=>⟨F,O,q2,r1,r2,p1.1,h3,fun z H2 S2 p2=>?_⟩⟩;obtain⟨b,hb,L2⟩:=p2.1.own i _ e1 hi';rw[ha] at hb;injection hb with hb;cases hb;obtain⟨kvs,hr,rk⟩:∃ kvs,H2 a=some (.dK kvs)/\RepK (Free F O) H2 kvs ks:=by
    cases L2 with |dct r h=>exact⟨_,r,h⟩
   have hy:=zcD (.inl p1.2) h2;subst hy;refine⟨_,DGet.k hr,q _ H2 (S1.trans S2) ⟨p2.1,?_⟩⟩;rcases rk.look k with ⟨g1,g2⟩ |⟨v,t',g1,g2,g3⟩
   ·rw[g1,g2]; exact p2.2
   ·rw[g1,g2]; exact g3
  ·cases hf
 ·cases hf)⟩
theorem zga(ha:QE X a (cE .e M fa))(hb:QE X b (cE .e M fb))(hc:QE X c (cE .e M fc))(hm:lastMarks [.LtE,.LtE] [b,c]=false:=by with_unfolding_all rfl):QE X (.Compare a [.LtE,.LtE] [b,c] pos) (cE .e M (dCh zeI zeI fa fb fc)):=⟨have ha:=ha.un;have hb:=hb.un;have hc:=hc.un;weak (zkg (op_le.or zfl) (op_le.or zfl) ha hb hc hm) (zmT zlW zlW)⟩
end
section
variable [TheK]
theorem ziu(hK:X.K=TheK.K)(hg:Gl X "sorted")(hm:X.mg "sorted"=none)(h:QE X e (cE .b M fe))(he:jb [e] X.env=(false,eval e X.env)::jb [] X.env:=by rfl)(hpl:(Qr pos (jb [] X.env)).any (·.1)=false:=by rfl):QE X (.Call (.Name "sorted" p) [e] [] pos) (cE .n M (d1 zev fe)):=⟨have h:=h.un; weak (zaY (CallR.or (hK▸zfH) (show CallR X _ _ from hK▸zfI)) hg hm zfM (za8 h zaz he) (by decide) (by decide) he hpl) (zql zjU)⟩
end
section
variable [TheK]
theorem zbS{X:Cx}{st:QR}{rk:Kd}{io M M' Mb:List Nat}:QS X st (cS rk io M M' Mb zcW):=⟨fun pc s σ H D I ⟨F,O,s',r,R,Io,hd,q⟩=>by cases hd⟩
theorem zd6{X:Cx}{M:List Nat}{e o:jU}{fa fe:DE}{apos pos:Pos}(h:QE X (.Call (.Attribute o "split" apos) [e] [] pos) (tBM X.K "str" zio (cE .e M fa) (zb8 (cE .b M fe) zfT))):QE X (.Call (.Attribute o "split" apos) [e] [] pos) (cE .n M (zcV fa fe)):=⟨have h:=h.un;weak h zlO⟩
end
theorem QW.pt{X:Cx}{e:jU}{t:TT}(h:QW X e t):QT X e t:=⟨h.un.pt⟩
def QBody(tk:TheK)(P:jt)(w:jS)(mg:Str->Option j5)(base:Qq)(k:Nat)(x:Str)(st:QR)(N:List Str)(t:TS):Prop:=
 ∀(f:ji) (cdv:j5) (A:jP) (outer:List Env) (s:j6) (H:Hp) (E:XK),Room k (A.deeper (ZC x (za0 st) s.heap.objs.size f cdv))->QSs (zeN CX0 P w tk.K mg base N x (za0 st) f cdv A outer s H E).nox (zat st) t
theorem QBody.b{tk:TheK}{P:jt}{w:jS}{mg:Str->Option j5}{base:Qq}{k:Nat}{x:Str}{st:QR}{N:List Str}{t:TS}(h:QBody tk P w mg base k x st N t):zoT tk P w mg base k x st N t:=fun f cdv A outer s H E hr=>(h f cdv A outer s H E hr).un
section
variable [tk:TheK]{d:DS}
theorem Here.qP(h:Here tk.K mg x st ps)(S:FnScope N ps (za0 st))(hb:QBody tk P w mg base k x st N (cS .e [] [] M' Mb d))(hN:ps.length<=N.length:=by decide):Cal P w tk.K mg base (k+1) x ps (spP .e ps.length (fnP N.length d)):=h.okP S hb.b hN
theorem Here.qN(h:Here tk.K mg x st ps)(S:FnScope N ps (za0 st))(hb:QBody tk P w mg base k x st N (cS .n [] [] M' Mb d))(hN:ps.length<=N.length:=by decide):Cal P w tk.K mg base (k+1) x ps (spP .n ps.length (zn1 N.length d)):=h.okN S hb.b hN
theorem Here.qI(h:Here tk.K mg x st ps)(S:FnScope N ps (za0 st))(hb:QBody tk P w mg base k x st N (cS .e [0] [0] M' Mb d))(hN:ps.length<=N.length:=by decide):Cal P w tk.K mg base (k+1) x ps (spI .e ps.length (fnI N.length d)):=h.okI S hb.b hN
theorem zqt{ps0:Str}{fw:ji}{dw:QU}(F:Fun tk.K x x st fw dw)(S:FnScope N [ps0] (za0 st))(hb:QBody tk P w mg base k x st N (cS .e [] [] M' Mb d))(hN:1<=N.length)(hd:∀ ns:List Int,ns.length<=63->fnP N.length d [.scr ns]=some (.bl true)):FnOk P w tk.K mg base CX0 (k+1) fw dw [ps0] (zhr tk.K):=zoc F S hb.b hN hd
end
def CalR(P:jt)(w:jS)(K:j9)(mg:Str->Option j5)(base:Qq)(n:Nat)(x:Str)(ps:List Str)(sp:Sp):Prop:=
 ∃ f fd,FnOk P w K mg base (CX1 P w) n f fd ps sp/\Binds K fd ps []/\Q3 K (.ref f)=true/\mg x=some (.ref f)
section
variable {K:j9}{sp:Sp}
theorem CalR.mono{j:Nat}(h:CalR P w K mg base j x ps sp)(hjk:j<=k):CalR P w K mg base k x ps sp:=by
 obtain⟨f,fd,F,b,kp,m⟩:=h;exact⟨f,fd,F.mono hjk,b,kp,m⟩
theorem Here.okX{CX:CXT}(h:Here K mg x st ps)(S:FnScope N ps (za0 st))(len:∀ vs H Q E,sp vs H Q E->vs.length=ps.length)
  (hbody:∀(f:ji) (cdv:j5) (A:jP) (outer:List Env) (s:j6) (H:Hp) (vs:List V) (Q:VK) (E:XK),Room k (A.deeper (ZC x (za0 st) s.heap.objs.size f cdv))->A.frames=some outer->sp vs H Q E->
   ∃ t,zp4 (zeN CX P w K mg base N x (za0 st) f cdv A outer s H E) (zat st) t/\t { nx:=fun _ H'=>Q .non H',rt:=Q } (L2.start N vs) H) :
  ∃ f fd,FnOk P w K mg base CX (k+1) f fd ps sp/\Binds K fd ps []/\Q3 K (.ref f)=true/\mg x=some (.ref f):=by
 obtain⟨f,fd,F,b,kp,m⟩:=h;obtain⟨oc,od,kV,doc,pm,an,cdv,ct,osl,rfl,lk,hcd⟩:=F.ex;exact⟨f,_,zoq lk hcd S len fun A outer s H vs Q E hr hA hs=>hbody f cdv A outer s H vs Q E hr hA hs,b,kp,m⟩
end
theorem zi0{K:j9}{h:Qq}{C D:ji}(X:K.In h)(q:WU K C [.type "ValueError",.type "Exception",.type "BaseException",.type "object"] "ValueError.__new__"=true)(m:WV K C (.ref D)=some true) :
  ∃ bm,XCls h C bm/\(jV C::bm).contains (.ref D)=true:=by
 unfold WV PySem.W.clsIn at m;unfold WU at q;split at q
 case h_2=>cases q
 rename_i dd cd sl ho;rw[ho] at m;split at q
 case h_2=>cases q
 rename_i C' bm k0 k1 k2 k3 n k5 hm hs;simp only[jo,beq_iff_eq,NU] at q;obtain⟨⟨⟨⟨⟨rfl,rfl⟩,hdel⟩,ht⟩,hok⟩,hni⟩:=q;obtain⟨nm,bs,mro,ns,qn,hd,sn,sub,ab,col,del⟩:=cd;dsimp only at hm hdel hok hni;subst hm hdel;have hsl:sl=#[k0,k1,k2,k3,some (.builtin "ValueError.__new__"),k5]:=by
  obtain⟨l⟩:=sl;simp only at hs;rw[hs]
 subst hsl;refine⟨bm,⟨⟨ns,nm,qn,bs,hd,sn,sub,ab,col,dd,k0,k1,k2,k3,k5,_,X _ _ ho,.of_isNs (PySem.W.isNs_of_in X hok),PySem.W.nsMap_none_of_in X hok hni,PySem.W.tail_of_in X ht⟩⟩,?_⟩;dsimp only[j8] at m;split at m
 ·cases m
 ·exact jg m
variable [tk:TheK]
def fnR(n:Nat)(d:DR):List T->Bool:=fun ts=>d (zay n ts)
theorem zlP{C:ji}{np:Nat}{rs:List T->Bool}{vs:List V}{H:Hp}{Q:VK}{E:XK}(h:spR C np rs vs H Q E):vs.length=np:=by
 obtain⟨C,ts,hl,r,_⟩:=h;rw[r.1,hl]
theorem zq1{C:ji}{np:Nat}{N:List Str}{d:DR}(hN:np<=N.length){vs:List V}{H:Hp}{Q:VK}{E:XK}{D:Ends}(h:spR C np (fnR N.length d) vs H Q E):cR E C d D (L2.start N vs) H:=by
 obtain⟨C,ts,hl,r,hf,q⟩:=h;obtain⟨l1,l2⟩:=zdk (N:=N) r (by lia)
 have w:∀ b,C b->Free ⟨H,C,fun _=>False,fun _=>0⟩ (fun _=>False) b:=fun b c=>⟨fun z=>z,.inl c⟩;have R:Rel ⟨H,C,fun _=>False,fun _=>0⟩ (fun _=>False) [] (zay N.length ts) (L2.start N vs) H:=by
  refine⟨l1,fun i t e _=>?_,fun i t e n=>by simp at n,fun i a n=>by simp at n,fun i j a n=>by simp at n,fun b o _ e=>e,fun b e=>e,fun a z=>z.elim,fun a z=>z,fun a z=>z.elim⟩
  obtain⟨v,h1,_,_,rv⟩:=l2 i t e;exact⟨v,h1,rv.mono w fun _ _ _ e=>e⟩
 exact⟨_,_,_,R,⟨fun i hi=>by simp at hi,fun a z=>z.elim⟩,hf,fun O' H' k=>q H' (fun b o e=>(k.1 b o (fun z=>z) e).1) k.2⟩
section
variable {d:DR}{C:ji}
theorem Here.okR(h:Here tk.K mg x st ps)(S:FnScope N ps (za0 st))
  (hb:∀(f:ji) (cdv:j5) (A:jP) (outer:List Env) (s:j6) (H:Hp) (E:XK),Room k (A.deeper (ZC x (za0 st) s.heap.objs.size f cdv))->A.frames=some outer->
   PSs (zeN (CX1 P w) P w tk.K mg base N x (za0 st) f cdv A outer s H E) (zat st) (cR E C d)) (hN:ps.length<=N.length:=by decide):CalR P w tk.K mg base (k+1) x ps (spR C ps.length (fnR N.length d)):=
 h.okX S (fun vs H Q E h=>zlP h) fun f cdv A outer s H vs Q E hr hA hs=>⟨_,(hb f cdv A outer s H E hr hA).zero,zq1 hN hs⟩
end
section
variable {E:XK}{N:ji}{da db d1 d2:DR}{dn:DS}{a b sts:List QR}
theorem znN(hc:QT X c (cT [] ft))(ha:QSs X a (cR E N da))(hb:QSs X b (cR E N db)):QS X (.If c a b pos) (cR E N (zlp ft da db)):=⟨zrG hc.un ha.un hb.un⟩
theorem znM:QSs X sts (cR E N zfD):=⟨zrF⟩
theorem zcP:QS X st (cR E N zfD):=⟨zq7⟩
theorem zgN(h:QS X st (cR E N da)):QSs X [st] (cR E N da):=⟨zq6 h.un⟩
theorem zcO{rk:Kd}(h1:QS X st (cR E N d1))(hn:QS X st (cS rk [] [] [] [] dn))(h2:QSs X sts (cR E N d2)):QSs X (st::sts) (cR E N (zct d1 dn d2)):=⟨zq5 h1.un hn.un h2.un⟩
theorem zgM{bm:List j5}{x:Str}{np cpos:Pos}{e0:jU}{y:Str}(hR:zhm X E)(hc:X.calm=true)(xc:XCls X.base N bm)(hg:Gl X x)(hm:X.mg x=some (.ref N))(he0:QE X e0 (tC (.str y)))
  (he:jb [e0] X.env=(false,eval e0 X.env)::jb [] X.env:=by rfl) (hpl:(Qr cpos (jb [] X.env)).any (·.1)=false:=by rfl) (hd:(x == ("__debug__":Str))=false:=by decide) :
  QS X (.Raise (some (.Call (.Name x np) [e0] [] cpos)) none pos) (cR E N zkF):=⟨zm1 (C:=N) hR hc xc hg hm he0.un he hpl hd⟩
end
theorem zl6{X:Cx}{st:List QR}{t1 t2:TS}(h1:PSs X st t1)(h2:PSs X st t2):PSs X st (fun D σ H=>t1 D σ H∨t2 D σ H):=fun pc s σ H D I z=>z.elim (h1 pc s σ H D I) (h2 pc s σ H D I)
def zlu(tk:TheK)(P:jt)(w:jS)(mg:Str->Option j5)(base:Qq)(k:Nat)(x:Str)(st:QR)(N:List Str)(C:ji)(d:DR):Prop:=
 ∀(f:ji) (cdv:j5) (A:jP) (outer:List Env) (s:j6) (H:Hp) (E:XK),Room k (A.deeper (ZC x (za0 st) s.heap.objs.size f cdv))->A.frames=some outer->
  QSs (zeN (CX1 P w) P w tk.K mg base N x (za0 st) f cdv A outer s H E) (zat st) (cR E C d)
theorem Here.qR{P:jt}{w:jS}{mg:Str->Option j5}{base:Qq}{x:Str}{st:QR}{N ps:List Str}{k:Nat}{d:DR}{C:ji}(h:Here tk.K mg x st ps)(S:FnScope N ps (za0 st))(hb:zlu tk P w mg base k x st N C d)(hN:ps.length<=N.length:=by decide):CalR P w tk.K mg base (k+1) x ps (spR C ps.length (fnR N.length d)):=
 h.okR S (fun f cdv A outer s H E hr hA=>(hb f cdv A outer s H E hr hA).un) hN
end L3
namespace L3
open PySem PySem.Spec PyProof.Rows L2
variable {x:Str}
theorem zmv{α:Type}(x:α):(some (some x):Option (Option α)).join=some x:=rfl
theorem zam{n:Nat}(h:n<=1000000):n<=ja:=by rw[Qs]; lia
theorem zee{n:Nat}(h:n<=1000000):n < ja:=by rw[Qs]; lia
theorem zqs{n:Nat}(h:n<=1000000):n<=zet:=by rw[show zet=1000000 by unfold zet; rfl]; exact h
theorem zdp{j:Int}(h0:-2000<=j)(h:j<=2000):zf6 j=true:=by
 unfold zf6;refine Nat.ble_eq_true_of_le ?_;lia
theorem zoN{α:Type}{xs:List α}{i:Nat}{x:α}(h:xs[i]?=some x):atI xs (i:Int)=some x:=by
 have h2:=(jd.mp h).1;unfold atI ixN;rw[Ip_ (by lia),Ip_ (by lia),j8,jv,h]
theorem zjf{g:DG}{db:DS}(I:Nat->Sg->Prop):∀(xs:List T) (i:Nat) (s:Sg),I i s->(∀ j x s,xs[j]?=some x->I (i+j) s->∃ s1,g x s=some s1/\∃ s2,(db s1=some (.nx s2)∨db s1=some (.ct s2))/\I (i+j+1) s2)->
  ∃ s',zbD g db xs s=some (.nx s')/\I (i+xs.length) s'
 |[],i,s,h0,_=>⟨s,by unfold zbD; rfl,h0⟩
 |x::xs,i,s,h0,h=>by
  obtain⟨s1,h1,s2,h2,h3⟩:=h 0 x s rfl h0;obtain⟨s',h4,h5⟩:=zjf I xs (i+1) s2 h3 fun j y s e q=>by
   have z:=h (j+1) y s (by simpa using e)
   rw[show i+(j+1)=i+1+j by lia] at z
   exact z q
  refine⟨s',?_,by rw[jw,show i+(xs.length+1)=i+1+xs.length by lia]; exact h5⟩
  unfold zbD;rw[h1,j8];rcases h2 with h2 |h2<;>rw[h2,j8]<;>exact h4
theorem zfB(n:Nat)(x y:T):eqD (n+1) x y=eqS n x y:=by cases x<;>cases y<;>rfl
theorem zji{n:Nat}{x y:T}{b:Bool}(h:scE x y=some b):eqD n x y=some b:=by
 cases n with
 |zero=>unfold eqD; exact h
 |succ n=>rw[zfB]; unfold eqS; cases x<;>cases y<;>simp[scE] at h<;>simpa[scE] using h
theorem zdI(n:Nat)(i j:Int):eqD n (.int i) (.int j)=some (i == j):=zji rfl
theorem zln(n:Nat)(i j:Bool):eqD n (.bl i) (.bl j)=some (i == j):=zji rfl
theorem zgm(n:Nat)(i j:Str):eqD n (.str i) (.str j)=some (i == j):=zji rfl
theorem zhk{α:Type}[DecidableEq α]{f:T->T->Option Bool}{enc:α->T}(h:∀ a b,f (enc a) (enc b)=some (decide (a=b))):∀(xs ys:List α),xs.length=ys.length->zeb f (xs.map enc) (ys.map enc)=some (decide (xs=ys))
 |[],[],_=>rfl
 |[],_::_,hl=>by simp at hl
 |_::_,[],hl=>by simp at hl
 |x::xs,y::ys,hl=>by
  rw[jp,jp];unfold zeb;rw[h,j8,zhk h xs ys (by simpa using hl),jz]
  refine congrArg some ?_
  by_cases h1:x=y<;>by_cases h2:xs=ys<;>simp[h1,h2]
theorem zjj{α:Type}[DecidableEq α]{n:Nat}{enc:α->T}(h:∀ a b,eqD n (enc a) (enc b)=some (decide (a=b)))(xs ys:List α):eqD (n+1) (.lst (xs.map enc)) (.lst (ys.map enc))=some (decide (xs=ys)):=by
 rw[zfB];unfold eqS;dsimp only;rw[je,je]
 by_cases hl:xs.length=ys.length
 ·rw[Ip_ hl,zhk h xs ys hl]
 ·rw[In_ hl,Df_ (fun z=>hl (by rw[z]))]
theorem zda{n:Nat}(xs ys:List Str):eqD (n+1) (.lst (xs.map T.str)) (.lst (ys.map T.str))=some (decide (xs=ys)):=zjj (fun a b=>by rw[zgm]; refine congrArg some ?_; by_cases h:a=b<;>simp[h]) xs ys
theorem zdh(xs:List Str):zhq (xs.map T.str)=some (xs.map V.str):=by
 induction xs with
 |nil=>rfl
 |cons x xs ih=>rw[jp]; unfold zhq; rw[ih]; rfl
theorem zh3(x:Str)(xs:List Str):inV (.str x) (xs.map V.str)=decide (x∈xs):=by
 unfold inV;rw[J9,Qe,gr,decide_eq_true_iff];constructor
 ·rintro⟨y,hy,e⟩;have:y=x:=by simpa[eqV] using e
  exact this▸hy
 ·intro h;exact⟨x,h,by simp[eqV]⟩
theorem zgv(x:Str)(xs:List Str):(xs.map V.str).countP (fun u=>eqV u (.str x))=xs.count x:=by
 rw[List.countP_map,List.count_eq_countP];refine List.countP_congr fun y hy=>?_;simp[eqV]
theorem znA{f g:DS}{s s':Sg}{r:Option Fl}(h:f s=some (.nx s'))(k:g s'=r):zax f g s=r:=by
 unfold zax;rw[h,j8];exact k
theorem zii{f g:DS}{s s':Sg}{t:T}(h:f s=some (.rt t s')):zax f g s=some (.rt t s'):=by
 unfold zax;rw[h];rfl
theorem zlm{n:Nat}{d:DS}{ts:List T}{t:T}{s:Sg}(h:d (zay n ts)=some (.rt t s)):fnP n d ts=some t:=by unfold fnP; rw[h]
theorem zll{fi:DI}{g:DG}{db:DS}{s s1 s2:Sg}{its:List T}(h:fi s=some (its,s1))(k:zbD g db its s1=some (.nx s2)):zhb fi g db s=some (.nx s2):=by unfold zhb; rw[h,j8]; exact k
theorem zf9{lo:Int}{n j:Nat}{x:T}(h:(zaJ lo n)[j]?=some x):j < n/\x=.int (lo+j):=by
 unfold zaJ at h;rw[jk] at h;obtain⟨i,h1,h2⟩:=Qm h;have hj:j < n:=by simpa using (jd.mp h1).1
 rw[Np hj] at h1;cases h1;exact⟨hj,h2.symm⟩
theorem zf8(lo:Int)(n:Nat):(zaJ lo n).length=n:=by unfold zaJ; simp
theorem zjs{α:Type}(xs:List α){t:Int}(h0:0<=t)(h:t<=xs.length):zcu xs none (some t)=xs.take t.toNat:=by
 unfold zcu HT.sIx;simp only[Wy,Nat.sub_zero];split
 ·lia
 ·rw[gN (by lia)]
theorem zjt{α:Type}(xs:List α){t:Int}(h0:0<=t)(h:t<=xs.length):zcu xs (some t) none=xs.drop t.toNat:=by
 unfold zcu HT.sIx;dsimp only;split
 ·lia
 ·rw[gN (by lia),QH (by rw[Qk]; lia)]
def Run(d:DS)(s:Sg)(Q:Fl->Prop):Prop:=∃ r,d s=some r/\Q r
def zr5(P:Sg->Prop):Fl->Prop
 |.nx s=>P s
 |.ct s=>P s
 |_=>False
theorem zlY{d:DS}{s:Sg}{Q:Fl->Prop}{r:Fl}(h:d s=some r)(k:Q r):Run d s Q:=⟨r,h,k⟩
theorem zg6{f g:DS}{s s':Sg}{Q:Fl->Prop}(h:f s=some (.nx s'))(k:Run g s' Q):Run (zax f g) s Q:=by
 obtain⟨r,h1,h2⟩:=k;exact⟨r,znA h h1,h2⟩
theorem zdo{fi:DI}{g:DG}{db d:DS}{s s1:Sg}{its:List T}{Q:Fl->Prop}(I:Nat->Sg->Prop)(h:fi s=some (its,s1))(h0:I 0 s1)
  (hs:∀ j x s,its[j]?=some x->I j s->∃ s1,g x s=some s1/\Run db s1 (zr5 (I (j+1)))) (k:∀ s',I its.length s'->Run d s' Q):Run (zax (zhb fi g db) d) s Q:=by
 obtain⟨s',h1,h2⟩:=zjf (g:=g) (db:=db) I its 0 s1 h0 fun j x s e q=>by
  rw[N2] at q ⊢;obtain⟨s1,h1,r,h2,h3⟩:=hs j x s e q;refine⟨s1,h1,?_⟩;cases r with
  |nx s2=>exact⟨s2,.inl h2,h3⟩
  |ct s2=>exact⟨s2,.inr h2,h3⟩
  |bk s2=>exact h3.elim
  |rt t s2=>exact h3.elim
 rw[N2] at h2;exact zg6 (zll h h1) (k s' h2)
theorem zgi{n:Nat}{d:DS}{ts:List T}{Q:T->Prop}(h:Run d (zay n ts) fun r=>∃ t s,r=.rt t s/\Q t):∃ t,fnP n d ts=some t/\Q t:=by
 obtain⟨r,h1,t,s,rfl,h2⟩:=h;exact⟨t,zlm h1,h2⟩
structure Ev where
 P:jt
 w:jS
 mg:Str->Option j5
 base:Qq
abbrev Cl[tk:TheK](v:Ev)(k:Nat)(x:Str)(ps:List Str)(sp:Sp):Prop:=Cal v.P v.w tk.K v.mg v.base k x ps sp
theorem scm{N P:List Str}{sc:gO}(h1:sc.kind=.function:=by rfl)(h2:sc.isCoroutine=false:=by rfl)(h3:sc.isGenerator=false:=by rfl)(h4:N.Nodup:=by decide +kernel)(h5:N.take P.length=P:=by rfl)
  (h6:∀ x∈P,sc.names.lookup x=some .local∨sc.names.lookup x=some .cell:=by decide +kernel) (h7:∀ y∈sc.names,y.2≠.free:=by decide +kernel):FnScope N P sc:=⟨h1,h2,h3,h4,h5,h6,h7⟩
theorem Cal.up{P:jt}{w:jS}{K:j9}{mg:Str->Option j5}{base:Qq}{j k:Nat}{x:Str}{ps:List Str}{sp:Sp}(h:Cal P w K mg base j x ps sp)(hjk:j<=k:=by decide):Cal P w K mg base k x ps sp:=h.mono hjk
section
variable [TheK]{f1 f2 f3 f4 f5 f6:DE}
theorem ar1:Ar (dAc f1 dAn) 1:=ar_ zoO
theorem ar2:Ar (dAc f1 (dAc f2 dAn)) 2:=ar_ ar1
theorem ar3:Ar (dAc f1 (dAc f2 (dAc f3 dAn))) 3:=ar_ ar2
end
section
variable [TheK]{X:Cx}{M:List Nat}{e e1 e2:jU}{es:List jU}{fe f0:DE}{fs:DA}{p pos:Pos}{k np i:Nat}{ps:List Str}{fn:List T->Option T}{fi:List T->Option (T × T)}
theorem qc(C:Cal X.prog X.w X.K X.mg X.base k x ps (spP .e np fn))(hr:Room k X.A)(hg:Gl X x)(ha:QA X (e::es) (cA M fs))(ar:Ar fs np)(hdb:(x == ("__debug__":Str))=false:=by decide)(he:jb (e::es) X.env=(false,eval e X.env)::jb es X.env:=by rfl)(hpl:(Qr pos (jb es X.env)).any (·.1)=false:=by rfl):QE X (.Call (.Name x p) (e::es) [] pos) (cE .e M (zaj fn fs)):=by
 obtain⟨f,fd,F,hb,hk,hm⟩:=C;exact zmc F hr hg hm hk hb ha ar hdb he hpl
theorem qcN(C:Cal X.prog X.w X.K X.mg X.base k x ps (spP .n np fn))(hr:Room k X.A)(hg:Gl X x)(ha:QA X (e::es) (cA M fs))(ar:Ar fs np)(hdb:(x == ("__debug__":Str))=false:=by decide)(he:jb (e::es) X.env=(false,eval e X.env)::jb es X.env:=by rfl)(hpl:(Qr pos (jb es X.env)).any (·.1)=false:=by rfl):QE X (.Call (.Name x p) (e::es) [] pos) (cE .n M (zaj fn fs)):=by
 obtain⟨f,fd,F,hb,hk,hm⟩:=C;exact zk1 F hr hg hm hk hb ha ar hdb he hpl
theorem qcI(hi:M.contains i=true)(C:Cal X.prog X.w X.K X.mg X.base k x ps (spI .e (np+1) fi))(hr:Room k X.A)(hg:Gl X x)(h0:QE X e (zcY i))(ha:QA X es (cA M fs))(ar:Ar fs np)(hdb:(x == ("__debug__":Str))=false:=by decide)(he:jb (e::es) X.env=(false,eval e X.env)::jb es X.env:=by rfl)(hpl:(Qr pos (jb es X.env)).any (·.1)=false:=by rfl):QE X (.Call (.Name x p) (e::es) [] pos) (cE .e M (zfE fi i fs)):=by
 obtain⟨f,fd,F,hb,hk,hm⟩:=C;exact zk2 hi F hr hg hm hk hb h0 ha ar hdb he hpl
end
section
variable [tk:TheK]{v:Ev}{st:QR}{N ps:List Str}
theorem _root_.L3.Here.vP(k:Nat)(M':List Nat)(d:DS)(h:Here tk.K v.mg x st ps)(S:FnScope N ps (za0 st))(hb:N.Nodup->QBody tk v.P v.w v.mg v.base k x st N (cS .e [] [] M' [] d))(hN:ps.length<=N.length:=by decide):Cl v (k+1) x ps (spP .e ps.length (fnP N.length d)):=h.qP S (hb S.nd) hN
theorem _root_.L3.Here.vN(k:Nat)(M':List Nat)(d:DS)(h:Here tk.K v.mg x st ps)(S:FnScope N ps (za0 st))(hb:N.Nodup->QBody tk v.P v.w v.mg v.base k x st N (cS .n [] [] M' [] d))(hN:ps.length<=N.length:=by decide):Cl v (k+1) x ps (spP .n ps.length (zn1 N.length d)):=h.qN S (hb S.nd) hN
theorem _root_.L3.Here.vI(k:Nat)(M':List Nat)(d:DS)(h:Here tk.K v.mg x st ps)(S:FnScope N ps (za0 st))(hb:N.Nodup->QBody tk v.P v.w v.mg v.base k x st N (cS .e [0] [0] M' [] d))(hN:ps.length<=N.length:=by decide):Cl v (k+1) x ps (spI .e ps.length (fnI N.length d)):=h.qI S (hb S.nd) hN
end
def Fd(K:j9)(x:Str)(st:QR):Prop:=∃(f:ji) (oc:j5) (od:Option ji) (sl:Array (Option j5)) (kV dc pm:j5) (an:Option ji) (cd ct:j5),jD K jr x=some (some (.ref f))/\K.lookup f=some ⟨oc,od,.func (jW x x (zaS st) (zat st) (za0 st) .none kV dc pm an cd ct),sl⟩/\Zi K cd x=true/\Q3 K (.ref f)=true
section
variable {K:j9}{h:Qq}{mg:Str->Option j5}{p1 p2 p3 p4 p5 p6:Str}{st:QR}
theorem Fd.mk{f:ji}{oc:j5}{od:Option ji}{sl:Array (Option j5)}{kV dc pm:j5}{an:Option ji}{cd ct:j5}(a:jD K jr x=some (some (.ref f)))(l:K.lookup f=some ⟨oc,od,.func (jW x x (zaS st) (zat st) (za0 st) .none kV dc pm an cd ct),sl⟩)(c:Zi K cd x=true)(k:Q3 K (.ref f)=true):Fd K x st:=⟨f,oc,od,sl,kV,dc,pm,an,cd,ct,a,l,c,k⟩
def Bd(x:Str)(st:QR)(ps:List Str):Prop:=∀(kV doc pm:j5) (an:Option ji) (cdv ct:j5) (us:List j5),us.length=ps.length->Ys (jW x x (zaS st) (zat st) (za0 st) .none kV doc pm an cdv ct) ⟨us,[]⟩=pure (ps.zip us)
theorem Fd.here{ps:List Str}(X:K.In h)(G:h.Ns jr mg)(a:Fd K x st)(hb:Bd x st ps):Here K mg x st ps:=by
 obtain⟨f,oc,od,sl,kV,dc,pm,an,cd,ct,a,l,c,k⟩:=a;exact zmx X G hb a l c k
theorem bd1(h:∀(kV doc pm:j5) (an:Option ji) (cdv ct u1:j5),Ys (jW x x (zaS st) (zat st) (za0 st) .none kV doc pm an cdv ct) ⟨[u1],[]⟩=pure [(p1,u1)]):Bd x st [p1]:=fun a b c d e f us hl=>by
 cases us with
 |nil=>cases hl
 |cons u us=>cases us with
  |nil=>exact h a b c d e f u
  |cons _ _=>cases hl
theorem bd2(h:∀(kV doc pm:j5) (an:Option ji) (cdv ct u1 u2:j5),Ys (jW x x (zaS st) (zat st) (za0 st) .none kV doc pm an cdv ct) ⟨[u1,u2],[]⟩=pure [(p1,u1),(p2,u2)]):Bd x st [p1,p2]:=fun a b c d e f us hl=>by
 obtain⟨u1,u2,rfl⟩:∃ u1 u2,us=[u1,u2]:=by
  cases us with
  |nil=>cases hl
  |cons u us=>obtain⟨u2,rfl⟩:=YR.mp (J3 hl); exact⟨u,u2,rfl⟩
 exact h a b c d e f u1 u2
theorem zrM{us:List j5}(h:us.length=3):∃ u1 u2 u3,us=[u1,u2,u3]:=by
 match us,h with
 |[a,b,c],_=>exact⟨a,b,c,rfl⟩
theorem bd3(h:∀(kV doc pm:j5) (an:Option ji) (cdv ct u1 u2 u3:j5),Ys (jW x x (zaS st) (zat st) (za0 st) .none kV doc pm an cdv ct) ⟨[u1,u2,u3],[]⟩=pure [(p1,u1),(p2,u2),(p3,u3)]):Bd x st [p1,p2,p3]:=fun a b c d e f us hl=>by
 obtain⟨u1,u2,u3,rfl⟩:=zrM hl;exact h a b c d e f u1 u2 u3
end
theorem zp9{l:gH}{q:jt}{loose:List Str}{XP:(Str->Option j5)->Qq->Prop}{YP:jS->Qq->Prop}{d:DefRec}{K:Params->j9}{x:Str}{k:Nat}(hn:l.most=some 63)(hdf:d.params.defaults=[])(hk:k < 60)
  (hY:∀(w:jS) (h:Qq),YP w h->(K w.params).In h)
  (F:∀(w:jS) (mg:Str->Option j5) (fa:ji) (h:Qq),(K w.params).In h->h.Ns jr mg->mg d.name=some (.ref fa)->
   ∃ fd:QU,(∀(s:j6) (u:j5),NL s fd ⟨[u],[]⟩ [(x,u)])/\∀ base:Qq,(K w.params).In base->base.Ns jr mg->FnOk l.prog w (K w.params) mg base CX0 k fa fd [x] (zhr (K w.params))) :
  WN q loose XP YP l.row.toRowW d [] (fun f vs=>WH f vs):=
 L2.zlw (n:=63) (k:=k) (x:=x) (CX:=fun _=>CX0) (sp:=fun w=>zhr (K w.params)) hn (by decide) hdf (Room.mono (k:=60) ⟨rfl,by decide,by decide⟩ (by lia)) hY F (fun _ _ a ns hl hO hS=>⟨a,ns,rfl,hO,hS,hl,fun _=>rfl⟩) fun _ _ _ _ _ z=>z
end L3
namespace L3
open PySem PySem.Spec PyProof.Rows L2
variable [TheK]
def zew:T->Option T
 |.lst ts=>(zce ts).bind fun ss=>if ss.length < 1000/\(Dw.za4 ss).length < 64 then some (.lst ((zaW (Dw.za4 ss)).map T.str)) else none
 |_=>none
section
variable {X:Cx}{M:List Nat}{e:jU}{fe:DE}{p p2 pos pos2:Pos}
theorem zhw(hc:X.calm=true)(hg:Gl X "sorted")(hm:X.mg "sorted"=none)(hg2:Gl X "set")(hm2:X.mg "set"=none)(h:QE X e (cE .b M fe))(he2:jb [e] X.env=(false,eval e X.env)::jb [] X.env:=by rfl)(hpl2:(Qr pos2 (jb [] X.env)).any (·.1)=false:=by rfl)
  (he:jb [.Call (.Name "set" p2) [e] [] pos2] X.env=(false,eval (.Call (.Name "set" p2) [e] [] pos2) X.env)::jb [] X.env:=by rfl) (hpl:(Qr pos (jb [] X.env)).any (·.1)=false:=by rfl):QE X (.Call (.Name "sorted" p) [.Call (.Name "set" p2) [e] [] pos2] [] pos) (cE .n M (d1 zew fe)):=
 ⟨weak (zaY (zfJ hc) hg hm zfM (za8 (zfi (zjx hc) hg2 hm2 zoJ (za8 h.un zaz he2) (by decide) (by decide) he2 hpl2) zaz he) (by decide) (by decide) he hpl) (by
 intro σ H Q h_;refine cE_ h_ fun F O s t s' R hf q=>?_;obtain⟨⟨p1,p2⟩,h1,h2⟩:=Qb hf;obtain⟨t',h3,h4⟩:=Qm h2;cases h4;obtain⟨ts,rfl⟩:∃ ts,p1=.lst ts:=by cases p1<;>first |exact⟨_,rfl⟩ |cases h3
 obtain⟨ss,h6,h7⟩:=Qb h3;split at h7
 ·rename_i hl;cases h7;refine⟨F,O,s,_,_,R,h1,fun v H1 S1 p1=>?_⟩;obtain⟨a,us,rfl,ha,ra⟩:=p1.view.lst;rw[zd2 ra h6] at ha;refine⟨a,ss,rfl,SqL.of ha,hl.1,fun l hn=>⟨l,_,rfl,za5,zey ss,hl.2,fun r hr=>q _ _ ((S1.trans (.new hn _)).trans (.new hr _)) ?_⟩⟩;exact .mkN R (p1.1.plus hn _) (S1.trans (.new hn _)) hr fun C' hC=>.lst za5 (zcf _)
 ·cases h7)⟩
end
def zjb:T->Option T
 |.str z=>if (ZJ z).length<=ja then some (.str (ZJ z)) else none
 |_=>none
def zky(y z:Str):T->Option T
 |.str c=>if c.length<=1048576 then some (.str (gd c y z)) else none
 |_=>none
section
variable {X:Cx}{M:List Nat}{e o:jU}{es:List jU}{fe:DE}{fa:DA}{apos pos:Pos}
theorem zjZ(h:QE X (.Call (.Attribute o "upper" apos) [] [] pos) (zpR X.K "str" zkW (cE .e M fe))):QE X (.Call (.Attribute o "upper" apos) [] [] pos) (cE .e M (d1 zjb fe)):=⟨weak h.un (by
 intro σ H Q h_;refine cE_ h_ fun F O s t s' R hf q=>?_;obtain⟨⟨p1,p2⟩,h1,h2⟩:=Qb hf;obtain⟨t',h3,h4⟩:=Qm h2;cases h4;obtain⟨z,rfl⟩:∃ z,p1=.str z:=by cases p1<;>first |exact⟨_,rfl⟩ |cases h3
 have h3:(if (ZJ z).length<=ja then some (T.str (ZJ z)) else none)=some t:=h3
 split at h3
 case isFalse=>cases h3
 rename_i hl;cases h3;refine⟨F,O,s,_,_,R,h1,fun v H1 S1 pa=>?_⟩;obtain rfl:v=.str z:=BRep.str (.inl pa.2)
 exact⟨rfl,z,rfl,rfl,hl,q _ _ S1 ⟨pa.1,.str _⟩⟩)⟩
theorem zkO{t t':TA}(h:PA1 X es t)(hw:∀ σ H Q,t' σ H Q->t σ H Q):PA1 X es t':=fun pos pc s σ H Q I k q=>h pos pc s σ H Q I k (hw _ _ _ q)
theorem zjE:∀ σ H Q,cA M (dAc fe fa) σ H Q->zb8 (cE .e M fe) (cA M fa) σ H Q:=by
 rintro σ H Q ⟨F,O,s,ts,s',R,hf,q⟩;obtain⟨p,h1,h2⟩:=Qb hf;obtain⟨r,h3,h4⟩:=Qm h2;cases h4;refine⟨F,O,s,p.1,p.2,R,h1,fun v H1 S1 p1=>⟨F,O,p.2,r.1,r.2,p1.1,h3,fun vs H2 S2 R2 rs=>?_⟩⟩;exact q _ H2 (S1.trans S2) R2 (.cons (p1.1.stay S2 p1.2) rs)
theorem zk4{c:Str}{k:Nat}{p0 pos0:Pos}{op:Operator}{r:jU}(h:QE X (.BinOp (.Constant (.str c) k p0) op r pos0) (cE .e M fe))(hr:PA1 X es (cA M fa))(hs:jb (.BinOp (.Constant (.str c) k p0) op r pos0::es) X.env=(false,eval (.BinOp (.Constant (.str c) k p0) op r pos0) X.env)::jb es X.env:=by rfl):QA X (.BinOp (.Constant (.str c) k p0) op r pos0::es) (cA M (dAc fe fa)):=⟨zlv (zkj h.un hr hs) zjE⟩
theorem zk5(h:QE X e (cE .e M fe))(hr:PA1 X es (cA M fa))(hs:jb (e::es) X.env=(false,eval e X.env)::jb es X.env:=by rfl):PA1 X (e::es) (cA M (dAc fe fa)):=zkO (zgQ (pe1 h.un) hr hs) zjE
theorem zme(h:PE1 X e (cE .e M fe))(hr:QA X es (cA M fa))(hs:jb (e::es) X.env=(false,eval e X.env)::jb es X.env:=by rfl):PA1 X (e::es) (cA M (dAc fe fa)):=zkO (zgQ h (pa1 hr.un) hs) zjE
theorem zk3{y z:Str}(h:PE1 X e (znu y z (cE .e M fe))):PE1 X e (cE .e M (d1 (zky y z) fe)):=fun pc s σ H Q I k hz=>h pc s σ H Q I k (by
 obtain⟨F,O,s,t,s',R,hf,q⟩:=hz;obtain⟨⟨p1,p2⟩,h1,h2⟩:=Qb hf;obtain⟨t',h3,h4⟩:=Qm h2;cases h4;obtain⟨c,rfl⟩:∃ z,p1=.str z:=by cases p1<;>first |exact⟨_,rfl⟩ |cases h3
 have h3:(if c.length<=1048576 then some (T.str (gd c y z)) else none)=some t:=h3
 split at h3
 case isFalse=>cases h3
 rename_i hl;cases h3;refine⟨F,O,s,_,_,R,h1,fun v H1 S1 pa=>?_⟩;obtain rfl:v=.str c:=BRep.str (.inl pa.2)
 exact⟨c,rfl,hl,q _ _ S1 ⟨pa.1,.str _⟩⟩)
end
end L3
namespace L3
open PySem PySem.Spec PyProof.Rows L2
structure Ax where
 (C D r1 r2 r3 r4:ji)
section
variable [tk:TheK](v:Ev)
abbrev ClR(k:Nat)(x:Str)(ps:List Str)(sp:Sp):Prop:=CalR v.P v.w tk.K v.mg v.base k x ps sp
end
section
variable {P:jt}{w:jS}{K:j9}{mg:Str->Option j5}{base:Qq}{x:Str}{ps:List Str}{j k:Nat}{sp:Sp}
theorem CalR.up(h:CalR P w K mg base j x ps sp)(hjk:j<=k:=by decide):CalR P w K mg base k x ps sp:=h.mono hjk
end
section
variable [tk:TheK]{v:Ev}{x:Str}{st:QR}{N ps:List Str}
theorem _root_.L3.Here.vR(k:Nat)(C:ji)(d:DR)(h:Here tk.K v.mg x st ps)(S:FnScope N ps (za0 st))(hb:zlu tk v.P v.w v.mg v.base k x st N C d)(hN:ps.length<=N.length:=by decide):ClR v (k+1) x ps (spR C ps.length (fnR N.length d)):=h.qR S hb hN
end
section
variable {K:j9}{h:Qq}{mg:Str->Option j5}{st:QR}
theorem zkr{l:gH}{w:jS}{fa:ji}{N:List Str}{p:Str}{k:Nat}{d:DS}{M' Mb:List Nat}(X:K.In h)(G:h.Ns jr mg)(hfa:mg "law"=some (.ref fa))(a:Fd K "law" st)(sc:FnScope N [p] (za0 st))
  (hbt:∀(kV dc pm:j5) (an:Option ji) (cd ct v:j5),Ys (jW "law" "law" (zaS st) (zat st) (za0 st) .none kV dc pm an cd ct) ⟨[v],[]⟩=pure [(p,v)]) (hN:1<=N.length)
  (hd:∀ ns:List Int,fnP N.length d [.scr ns]=some (.bl true)) (hb:∀ base:Qq,K.In base->base.Ns jr mg->QBody ⟨K⟩ l.prog w mg base k "law" st N (@cS ⟨K⟩ .e [] [] M' Mb d)) :
  ∃ fd:QU,(∀(s:j6) (v:j5),NL s fd ⟨[v],[]⟩ [(p,v)])/\∀ base:Qq,K.In base->base.Ns jr mg->FnOk l.prog w K mg base CX0 (k+1) fa fd [p] (zhr K):=by
 obtain⟨f,oc,od,sl,kV,dc,pm,an,cd,ct,a,ll,c,kk⟩:=a;have e:=hfa.symm.trans (Qo X G a);cases e;exact⟨jW "law" "law" (zaS st) (zat st) (za0 st) .none kV dc pm an cd ct,fun s v=>.of_eq (hbt kV dc pm an cd ct v),fun base KB GB=>zqt (tk:=⟨K⟩) (zlk (st:=st) ll c kk) sc (hb base KB GB) hN fun ns _=>hd ns⟩
end
open PySem.W in
def zkp(K:j9)(C D:ji)(no:List ji)(other:ji):Bool:=
 excIn K C [.type "ValueError",.type "Exception",.type "BaseException",.type "object"] "ValueError.__new__" &&
 J4 K (.ref C) "__getattribute__" == some (some (.builtin "BaseException.__getattribute__"))&&J4 K (.ref C) "__getattr__" == some none&&J4 K (.ref C) "__class__" == some (some (.builtin "object.__class__")) &&
 mroIn K C (.type "object") == some true&&mroIn K C (.type "BaseException") == some true&&mroIn K C (.ref D) == some true&&(clsIn K C).isSome &&
 kitOne K (.ref C) (.type "ValueError") == some true&&kitAny K (.ref C) (no.map jV) == some false&&kitOne K (.ref C) (.ref other) == some false&&kitOne K (.ref C) (.ref C) == some true
structure MtOne (K:j9) (base:Qq) (C D:ji) (no:List ji) (other:ji):Prop where
 xi:XIn K C
 xc:∃ bm,XCls base C bm/\(jV C::bm).contains (.ref D)=true
 ve:Ni K (.ref C) (.type "ValueError")=some true
 no:PySem.W.kitAny K (.ref C) (no.map jV)=some false
 ot:Ni K (.ref C) (.ref other)=some false
 se:Ni K (.ref C) (.ref C)=some true
theorem zgU{K:j9}{h:Qq}{C D:ji}{no:List ji}{other:ji}(X:K.In h)(q:zkp K C D no other=true):MtOne K h C D no other:=by
 unfold zkp at q;simp only[jo] at q;obtain⟨⟨⟨⟨⟨⟨⟨⟨⟨⟨⟨q1,q3⟩,q4⟩,q5⟩,q6⟩,q7⟩,q8⟩,q10⟩,q11⟩,q12⟩,q13⟩,q14⟩:=q;exact⟨⟨beq_iff_eq.mp q3,beq_iff_eq.mp q4,beq_iff_eq.mp q5,beq_iff_eq.mp q6,beq_iff_eq.mp q7,q10⟩,zi0 X q1 (beq_iff_eq.mp q8),beq_iff_eq.mp q11,beq_iff_eq.mp q12,beq_iff_eq.mp q13,beq_iff_eq.mp q14⟩
open PySem.W in
def zqq(K:j9)(C D r1 r2 r3 r4:ji):Bool:=excIn K D [.type "ValueError",.type "Exception",.type "BaseException",.type "object"] "ValueError.__new__"&&mroIn K D (.ref D) == some true&&zkp K r3 D [C,r1,r2] r4&&zkp K r4 D [C,r1,r2] r3
section
variable [tk:TheK](v:Ev)
structure Mt (a:Ax):Prop where
 mC:v.mg "NoMove"=some (.ref a.C)
 mD:v.mg "DrawError"=some (.ref a.D)
 m1:v.mg "NoRow"=some (.ref a.r1)
 m2:v.mg "NotDrawn"=some (.ref a.r2)
 m3:v.mg "NoText"=some (.ref a.r3)
 m4:v.mg "NoWord"=some (.ref a.r4)
 xd:∃ bm,XCls v.base a.D bm/\(jV a.D::bm).contains (.ref a.D)=true
 t:MtOne tk.K v.base a.r3 a.D [a.C,a.r1,a.r2] a.r4
 w:MtOne tk.K v.base a.r4 a.D [a.C,a.r1,a.r2] a.r3
variable {v}
theorem zqp{a:Ax}(X:tk.K.In v.base)(G:v.base.Ns jr v.mg)(a1:jD tk.K jr "NoMove"=some (some (.ref a.C)))(a2:jD tk.K jr "DrawError"=some (some (.ref a.D)))(a3:jD tk.K jr "NoRow"=some (some (.ref a.r1)))
  (a4:jD tk.K jr "NotDrawn"=some (some (.ref a.r2))) (a5:jD tk.K jr "NoText"=some (some (.ref a.r3))) (a6:jD tk.K jr "NoWord"=some (some (.ref a.r4))) (q:zqq tk.K a.C a.D a.r1 a.r2 a.r3 a.r4=true):Mt v a:=by
 unfold zqq at q;simp only[jo] at q;obtain⟨⟨⟨q1,q2⟩,q3⟩,q4⟩:=q;exact⟨Qo X G a1,Qo X G a2,Qo X G a3,Qo X G a4,Qo X G a5,Qo X G a6,zi0 X q1 (beq_iff_eq.mp q2),zgU X q3,zgU X q4⟩
end
theorem vdV(i:Nat)(s:Sg):dV i s=(s[i]?).join.map fun t=>(t,s):=rfl
theorem vdC(t:T)(s:Sg):dC t s=some (t,s):=rfl
theorem vd2(g:T->T->Option T)(fa fb:DE)(s:Sg):d2 g fa fb s=(fa s).bind fun p=>(fb p.2).bind fun q=>(g p.1 q.1).map fun t=>(t,q.2):=rfl
theorem zrh(g:T->T->Option T)(i:Nat)(fb:DE)(s:Sg):d2v g i fb s=(s[i]?).join.bind fun _=>(fb s).bind fun q=>(q.2[i]?).join.bind fun x=>(g x q.1).map fun t=>(t,q.2):=rfl
theorem vdB(f:DE)(s:Sg):dB f s=(f s).bind fun p=>match p.1 with
 |.bl b=>some (b,p.2)
 |_=>none:=rfl
theorem zpd(f:DE)(s:Sg):zeK f s=(f s).bind fun p=>(tru p.1).map fun b=>(b,p.2):=rfl
theorem zr8(f g:DT)(s:Sg):dOr f g s=(f s).bind fun p=>if p.1 then some (true,p.2) else g p.2:=rfl
theorem zpk(f:DT)(s:Sg):zeL f s=(f s).map fun p=>(!p.1,p.2):=rfl
theorem znl(f g:DE)(s:Sg):zhS f g s=(dB f s).bind fun p=>if p.1 then g p.2 else some (.bl false,p.2):=rfl
theorem zre(s:Sg):dAn  s=some ([],s):=rfl
theorem zrf(f:DE)(g:DA)(s:Sg):dAc f g s=(f s).bind fun p=>(g p.2).map fun q=>(p.1::q.1,q.2):=rfl
theorem zpm(f:DA)(s:Sg):zeM f s=(f s).bind fun p=>if p.1.length<=ja then some (.lst p.1,p.2) else none:=rfl
theorem zpc(f:DA)(s:Sg):zmK f s=(f s).bind fun p=>if p.1.length<=ja then some (.tup p.1,p.2) else none:=rfl
theorem znj(s:Sg):zmN  s=some (.dct [],s):=rfl
theorem zr9(s:Sg):dOn  s=some (none,s):=rfl
theorem zr7(f:DE)(s:Sg):dOs f s=(f s).bind fun p=>match p.1 with
 |.int i=>some (some i,p.2)
 |_=>none:=rfl
theorem zr6(g:T->Option Int->Option Int->Option T)(f:DE)(l h:DO)(s:Sg):dSl g f l h s=(f s).bind fun p=>(l p.2).bind fun q=>(h q.2).bind fun r=>(g p.1 q.1 r.1).map fun t=>(t,r.2):=rfl
theorem zpe(g:T->Option Int->Option Int->Option T)(i:Nat)(l h:DO)(s:Sg):zoA g i l h s=(s[i]?).join.bind fun _=>(l s).bind fun q=>(h q.2).bind fun r=>(r.2[i]?).join.bind fun x=>(g x q.1 r.1).map fun t=>(t,r.2):=rfl
theorem zpg(f g:DS)(s:Sg):zax f g s=(f s).bind fun r=>match r with
 |.nx s'=>g s'
 |r=>some r:=rfl
theorem zng(s:Sg):zav  s=some (.nx s):=rfl
theorem zpf(i:Nat)(f:DE)(s:Sg):zbn i f s=(f s).bind fun p=>if i < p.2.length then some (.nx (p.2.set i (some p.1))) else none:=rfl
theorem zpq(c:DT)(f g:DS)(s:Sg):zbe c f g s=(c s).bind fun p=>if p.1 then f p.2 else g p.2:=rfl
theorem zrc(f:DE)(s:Sg):dDo f s=(f s).map fun p=>.nx p.2:=rfl
theorem znf(io:List Nat)(f:DE)(s:Sg):zan io f s=(f s).bind fun p=>if hasAll io p.2 then some (.rt p.1 p.2) else none:=rfl
theorem zpl(g:T->List T->Option (T × T))(i:Nat)(fa:DA)(s:Sg):zmL g i fa s=(s[i]?).join.bind fun t0=>if zj6 t0 then (fa s).bind fun p=>(p.2[i]?).join.bind fun t=>(g t p.1).map fun q=>(q.2,p.2.set i (some q.1)) else none:=rfl
theorem zpj(i:Nat)(fk fv:DE)(s:Sg):zqJ i fk fv s=(fv s).bind fun p=>(p.2[i]?).join.bind fun _=>(fk p.2).bind fun q=>(q.2[i]?).join.bind fun t=>match t with
 |.dct kvs=>(zhH q.1).bind fun k=>if kvs.length < ja then some (.nx (q.2.set i (some (.dct (zk6 kvs k p.1))))) else none
 |_=>none:=rfl
theorem zne(i:Nat)(fk fv:DE)(s:Sg):zfC i fk fv s=(fv s).bind fun p=>(p.2[i]?).join.bind fun _=>(fk p.2).bind fun q=>(q.2[i]?).join.bind fun t=>match t,q.1 with
 |.lst xs,.int k=>(ixN xs.length k).map fun j=>.nx (q.2.set i (some (.lst (xs.set j p.1))))
 |_,_=>none:=rfl
theorem zpi(f:DA)(s:Sg):zp2 f s=(f s).bind fun p=>match p.1 with
 |[.int j]=>if zf6 j=true then some (zaJ 0 j.toNat,p.2) else none
 |_=>none:=rfl
theorem zph(f:DA)(s:Sg):zoB f s=(f s).bind fun p=>match p.1 with
 |[.int i,.int j]=>if zf6 i=true/\zf6 j=true then some (zaJ i (j - i).toNat,p.2) else none
 |_=>none:=rfl
theorem zrb(i:Nat)(t:T)(s:Sg):dGn i t s=if i < s.length then some (s.set i (some t)) else none:=rfl
theorem znk(fn:List T->Option T)(fa:DA)(s:Sg):zaj fn fa s=(fa s).bind fun p=>(fn p.1).map fun t=>(t,p.2):=rfl
theorem zly(fn:List T->Option (T × T))(i:Nat)(fa:DA)(s:Sg):zfE fn i fa s=(s[i]?).join.bind fun _=>(fa s).bind fun p=>(p.2[i]?).join.bind fun t0=>(fn (t0::p.1)).map fun q=>(q.1,p.2.set i (some q.2)):=rfl
theorem vd1(g:T->Option T)(f:DE)(s:Sg):d1 g f s=(f s).bind fun p=>(g p.1).map fun t=>(t,p.2):=rfl
theorem zrg(g:Int->Int->Int)(fa:DA)(s:Sg):dA2 g fa s=(fa s).bind fun p=>match p.1 with
 |[.int i,.int j]=>some (.int (g i j),p.2)
 |_=>none:=rfl
theorem znh(f:DE)(g:DE)(s:Sg):zgq f g s=(f s).bind fun p=>match p.1 with
 |.str z=>(g p.2).bind fun q=>(zjd z q.1).map fun t=>(t,q.2)
 |_=>none:=rfl
theorem zri(g:T->T->Option T)(fa fb:DE)(s:Sg):d2L g fa fb s=(fa s).bind fun p=>if zj6 p.1 then (fb p.2).bind fun q=>(g p.1 q.1).map fun t=>(t,q.2) else none:=rfl
theorem zpp(f:DE)(s:Sg):zcX f s=(f s).bind fun p=>match p.1 with
 |.lst xs=>some (xs,p.2)
 |.scr ns=>some (ns.map .int,p.2)
 |.tup xs=>some (xs,p.2)
 |.fd kvs=>some (kvs.map fun kv=>kT kv.1,p.2)
 |.str x=>some (x.cps.toList.map zg2,p.2)
 |_=>none:=rfl
theorem zrd(g g':T->T->Option T)(fa fb fc:DE)(s:Sg):dCh g g' fa fb fc s=(fa s).bind fun x=>(fb x.2).bind fun y=>(g x.1 y.1).bind fun r=>match r with
 |.bl true=>(fc y.2).bind fun z=>(g' y.1 z.1).map fun t=>(t,z.2)
 |.bl false=>some (.bl false,y.2)
 |_=>none:=rfl
theorem zra(f:DA)(s:Sg):dLR f s=(f s).bind fun p=>match p.1 with
 |[.int j]=>if zf6 j=true then some (.lst (zaJ 0 j.toNat),p.2) else none
 |_=>none:=rfl
theorem zpo(i:Nat)(s:Sg):zmM i s=match (s[i]?).join with
 |some (.lst xs)=>some (xs,s)
 |_=>none:=rfl
theorem zpr(i:Nat)(d:DS)(s:Sg):zoC i d s=match (s[i]?).join with
 |some (.dct kvs)=>d (s.set i (some (.fd kvs)))
 |_=>none:=rfl
theorem zpn(f:DE)(s:Sg):zn2 f s=(f s).bind fun p=>match p.1 with
 |.fd kvs=>some (kvs.map fun kv=>kv.2,p.2)
 |_=>none:=rfl
theorem zni(i:Nat)(fk fx:DE)(s:Sg):zkG i fk fx s=match (s[i]?).join with
 |some (.dct _)=>(fk s).bind fun q=>(zhH q.1).bind fun k=>(fx q.2).bind fun r=>match (r.2[i]?).join with
  |some (.dct kvs)=>some ((zbl kvs k).getD r.1,r.2)
  |_=>none
 |_=>none:=rfl
theorem zlx(fa fb:DE)(s:Sg):zcV fa fb s=(fa s).bind fun p=>match p.1 with
 |.str z=>(fb p.2).bind fun q=>(zjc (.str z) q.1).map fun t=>(t,q.2)
 |_=>none:=rfl
theorem zpb(s:Sg):zdK s=some (true,s):=rfl
def nT(k:Nat):T:=.int (k:Int)
theorem vnT(k:Nat):nT k=.int (k:Int):=rfl
theorem znn(i j:Int):zac (.int i) (.int j)=some (.int (i+j)):=rfl
theorem zi4{a b:List T}(h:a.length+b.length<=1000000):zac (.lst a) (.lst b)=some (.lst (a++b)):=by
 have q:a.length+b.length<=ja:=zam h;simp only[zac,orG,zjH,zmC,q,if_true]
theorem zpF{a b:List T}(h:a.length+b.length<=1000000):zmC (.lst a) (.lst b)=some (.lst (a++b)):=by
 have q:a.length+b.length<=ja:=zam h;simp only[zmC,q,if_true]
theorem znm{a b:Str}(h:a.length+b.length<=1000000):zac (.str a) (.str b)=some (.str (a++b)):=by
 have q:a.length+b.length<=ja:=zam h;simp only[zac,orG,zjH,q,if_true]
theorem vSb(i j:Int):gSb (.int i) (.int j)=some (.int (i - j)):=rfl
theorem zrn{i j:Int}(h:-1000000000000<=i/\i<=1000000000000∨-1000000000000<=j/\j<=1000000000000):zgh (.int i) (.int j)=some (.int (i*j)):=by
 have:zfV i j=true:=by unfold zfV; rw[jX,decide_eq_true_iff,decide_eq_true_iff]; lia
 simp only[zgh,gI,this,if_true]
theorem zrv{i j:Int}(h:0 < j/\j<=1000000000):zh6 (.int i) (.int j)=some (.int (i / j)):=by
 have:zn5 i j=true:=Dt_ (by lia)
 simp only[zh6,gI,this,if_true]
theorem zro{i j:Int}(h:0 < j):zex (.int i) (.int j)=some (.int (i%j)):=by
 have:zn4 i j=true:=Dt_ h;simp only[zex,gI,this,if_true]
theorem zrj(i:Int):zrR (.int i)=some (.int (-i)):=rfl
theorem vLt(i j:Int):gLt (.int i) (.int j)=some (.bl (decide (i < j))):=rfl
theorem vLe(i j:Int):gLe (.int i) (.int j)=some (.bl (decide (i<=j))):=rfl
theorem vGt(i j:Int):gGt (.int i) (.int j)=some (.bl (decide (j < i))):=rfl
theorem vGe(i j:Int):gGe (.int i) (.int j)=some (.bl (decide (j<=i))):=rfl
theorem zrt(i j:Int):gEq (.int i) (.int j)=some (.bl (decide (i=j))):=by simp only[gEq,zdI,jz]; rfl
theorem zrl(i j:Int):gNe (.int i) (.int j)=some (.bl (!decide (i=j))):=by simp only[gNe,zdI,jz]; rfl
theorem zru(i j:Bool):gEq (.bl i) (.bl j)=some (.bl (i == j)):=by simp only[gEq,zln,jz]
theorem zrm(i j:Bool):gNe (.bl i) (.bl j)=some (.bl (!(i == j))):=by simp only[gNe,zln,jz]
theorem zrs(i j:Str):gEq (.str i) (.str j)=some (.bl (decide (i=j))):=by
 simp only[gEq,zgm,jz]
 by_cases h:i=j<;>simp[h]
theorem zrk(i j:Str):gNe (.str i) (.str j)=some (.bl (!decide (i=j))):=by
 simp only[gNe,zgm,jz]
 by_cases h:i=j<;>simp[h]
theorem zlH(xs ys:List Str):gEq (.lst (xs.map T.str)) (.lst (ys.map T.str))=some (.bl (decide (xs=ys))):=by simp only[gEq,zda,jz]
theorem zpy(xs ys:List Str):gNe (.lst (xs.map T.str)) (.lst (ys.map T.str))=some (.bl (!decide (xs=ys))):=by simp only[gNe,zda,jz]
theorem zh9{n:Nat}(xs ys:List Nat):eqD (n+1) (.lst (xs.map nT)) (.lst (ys.map nT))=some (decide (xs=ys)):=zjj (fun a b=>by
 rw[vnT,vnT,zdI]; refine congrArg some ?_
 by_cases h:a=b
 ·subst h; simp
 ·rw[Df_ h]; simp; lia) xs ys
theorem zpE(xs ys:List Nat):gEq (.lst (xs.map nT)) (.lst (ys.map nT))=some (.bl (decide (xs=ys))):=by simp only[gEq,zh9,jz]
theorem zpz(xs ys:List Nat):gNe (.lst (xs.map nT)) (.lst (ys.map nT))=some (.bl (!decide (xs=ys))):=by simp only[gNe,zh9,jz]
theorem zpC(xs:List T):zbV (.lst xs)=some (.int xs.length):=rfl
theorem zpA(xs:List T):zbV (.tup xs)=some (.int xs.length):=rfl
theorem zpD(xs:List (Key × T)):zbV (.dct xs)=some (.int xs.length):=rfl
theorem zpB(xs:List Int):zbV (.scr xs)=some (.int xs.length):=rfl
theorem zeR{x:Str}(h:x.length<=1000000):zbV (.str x)=some (.int x.length):=by
 have q:x.length<=ja:=zam h;simp only[zbV,q,if_true]
theorem zhj{α:Type}(xs:List α)(k:Nat):atI xs (k:Int)=xs[k]?:=by
 unfold atI ixN;rw[Ip_ (by lia)]
 split
 ·simp
 ·rename_i h;rw[Option.bind_none,eq_comm,ZG]; lia
theorem zgE(xs:List T)(k:Nat):zaE (.lst xs) (.int (k:Int))=xs[k]?:=by
 have:zaE (.lst xs) (.int (k:Int))=orG gIx zmA (.lst xs) (.int (k:Int)):=rfl;rw[this]; unfold orG;have e:gIx (.lst xs) (.int (k:Int))=xs[k]?:=by show atI xs (k:Int)=_; exact zhj xs k
 rw[e];cases xs[k]?<;>rfl
theorem znr(xs:List T)(k:Nat):zaE (.tup xs) (.int (k:Int))=xs[k]?:=by
 have:zaE (.tup xs) (.int (k:Int))=orG gIx zmA (.tup xs) (.int (k:Int)):=rfl;rw[this]; unfold orG;have e:gIx (.tup xs) (.int (k:Int))=xs[k]?:=by show atI xs (k:Int)=_; exact zhj xs k
 rw[e];cases xs[k]?<;>rfl
theorem zlF(kvs:List (Key × T))(x:Str):zaE (.dct kvs) (.str x)=zbl kvs (.inr x):=by
 show (match (none:Option T) with |some t=>some t |none=>_)=_
 rfl
theorem zlG(kvs:List (Key × T))(x:Int):zaE (.dct kvs) (.int x)=zbl kvs (.inl x):=rfl
theorem zpx(b:Bool):tru (.bl b)=some b:=rfl
theorem zpv(xs:List T):tru (.lst xs)=some (!xs.isEmpty):=rfl
theorem zpw(i:Int):tru (.int i)=some (i != 0):=rfl
theorem znp(xs:List T):zlj (.lst xs)=some (.lst xs):=rfl
theorem zno(xs:List T):zlj (.tup xs)=some (.lst xs):=rfl
theorem zpG{xs:List Str}(x:Str)(h:xs.length<=1000000):zlb (.lst (xs.map T.str)) [.str x]=some (.lst ((xs++[x]).map T.str),.non):=by
 have q:(xs.map T.str).length < ja:=zee (by rw[je]; exact h)
 simp only[zlb,q,if_true,Zv,jp,gZ]
theorem zpH{xs:List Nat}(x:Nat)(h:xs.length<=1000000):zlb (.lst (xs.map nT)) [.int (x:Int)]=some (.lst ((xs++[x]).map nT),.non):=by
 have q:(xs.map nT).length < ja:=zee (by rw[je]; exact h)
 simp only[zlb,q,if_true,Zv,jp,gZ,vnT]
theorem zlA(x:Str)(xs:List Str):zc9 (.str x) (.lst (xs.map T.str))=some (.bl (!decide (x∈xs))):=by
 simp only[zc9,orG,zh5,zmz,toV,zdh,j8,jz,zh3]
theorem zrp(x:Str)(xs:List Str):zoo (.str x) (.lst (xs.map T.str))=some (.bl (decide (x∈xs))):=by
 simp only[zoo,orG,gIn,zmz,toV,zdh,j8,jz,zh3]
theorem zeT(xs:List Nat):zhq (xs.map nT)=some (xs.map fun(k:Nat)=>V.int (k:Int)):=by
 induction xs with
 |nil=>rfl
 |cons x xs ih=>rw[jp]; unfold zhq; rw[ih]; rfl
theorem zh4(x:Nat)(xs:List Nat):inV (.int (x:Int)) (xs.map fun(k:Nat)=>V.int (k:Int))=decide (x∈xs):=by
 unfold inV;rw[J9,Qe,gr,decide_eq_true_iff];constructor
 ·rintro⟨y,hy,e⟩;have:(y:Int)=x:=by simpa[eqV] using e
  have:y=x:=by lia
  exact this▸hy
 ·intro h;exact⟨x,h,by simp[eqV]⟩
theorem zrq(x:Nat)(xs:List Nat):zoo (.int (x:Int)) (.lst (xs.map nT))=some (.bl (decide (x∈xs))):=by
 simp only[zoo,orG,gIn,zmz,toV,zeT,j8,jz,zh4]
theorem zlB(x:Nat)(xs:List Nat):zc9 (.int (x:Int)) (.lst (xs.map nT))=some (.bl (!decide (x∈xs))):=by
 simp only[zc9,orG,zh5,zmz,toV,zeT,j8,jz,zh4]
theorem zrr(x:Str)(kvs:List (Key × T)):zoo (.str x) (.dct kvs)=some (.bl (zbl kvs (.inr x)).isSome):=rfl
theorem zlC(x:Str)(kvs:List (Key × T)):zc9 (.str x) (.dct kvs)=some (.bl (!(zbl kvs (.inr x)).isSome)):=rfl
theorem zlI(x:Str)(xs:List Str):ze7 (.lst (xs.map T.str)) (.str x)=some (.int (xs.count x:Nat)):=by
 simp only[ze7,zdh,toV,j8,jz,zgv]
theorem zna(xs:List T):isi "list" (.lst xs)=some true:=by simp[isi]
theorem znb(i:Int):isi "int" (.int i)=some true:=by simp[isi]
theorem znc(i:Int):isi "bool" (.int i)=some false:=by simp[isi]
theorem znd(b:Bool):isi "bool" (.bl b)=some true:=by simp[isi]
theorem zn8(xs:List T):isi "tuple" (.tup xs)=some true:=by simp[isi]
theorem zn9(x:Str):isi "str" (.str x)=some true:=by simp[isi]
theorem zhK(s:Sg):hasAll [] s=true:=rfl
theorem zhi(bs:List Bool):zn3 (bs.map T.bl)=some bs:=by
 induction bs with
 |nil=>rfl
 |cons b bs ih=>rw[jp]; unfold zn3; rw[ih]; rfl
theorem zpJ(bs:List Bool):zeJ (.lst (bs.map T.bl))=some (.bl (bs.all id)):=by simp only[zeJ,zhi,jz]
theorem zpI(bs:List Bool):zr1 (.lst (bs.map T.bl))=some (.bl (bs.any id)):=by simp only[zr1,zhi,jz]
theorem zj5(xs:List T):zj6 (.lst xs)=true:=rfl
theorem sz0:0<=ja:=Zs _
theorem sz1:1<=ja:=zam (by lia)
theorem sz2:2<=ja:=zam (by lia)
theorem sz3:3<=ja:=zam (by lia)
theorem sz4:4<=ja:=zam (by lia)
theorem rgN{k:Nat}(h:k<=2000):zf6 (k:Int)=true:=zdp (by lia) (by lia)
theorem zob{α:Type}{M:List Nat}{caps:List (Option Nat)}{fi:DI}{dg:DG}{ft:DT}{fe:DE}{s:Sg}(xs:List α)(enc:α->T)(b:α->Bool)(e:α->T)(hi:fi s=some (xs.map enc,s))(hl:xs.length<=1000000)
  (h:∀ x∈xs,∃ s1,dg (enc x) (zhh caps s)=some s1/\ft s1=some (b x,s1)/\(b x=true->fe s1=some (e x,s1))/\zaw M caps s1 s=s):dLC M caps fi dg ft fe s=some (.lst ((xs.filter b).map e),s):=by
 have key:∀(ys:List α) (acc:List T),(∀ y∈ys,y∈xs)->zjG M caps dg ft fe (ys.map enc) acc s=some (acc++(ys.filter b).map e,s):=by
  intro ys
  induction ys with
  |nil=>intro acc _; unfold zjG; simp
  |cons y ys ih=>
   intro acc hy;obtain⟨s1,h1,h2,h3,h4⟩:=h y (hy y jG);rw[jp];unfold zjG;rw[h1,j8,h2,j8];have ih':=fun acc=>ih acc fun z hz=>hy z (jh _ hz);cases hb:b y with
   |true=>rw[Ip_ rfl,h3 hb,j8,h4,ih',We,Ip_ hb,jp,gc]; rfl
   |false=>rw[In_ ju,h4,ih',We,In_ (by rw[hb]; exact ju)]
 unfold dLC;rw[hi,j8];have q:(xs.map enc).length<=zet:=zqs (by rw[je]; exact hl)
 rw[Ip_ q,key xs [] (fun _ h=>h),jz];rfl
theorem zbN{α:Type}{M:List Nat}{caps:List (Option Nat)}{fi:DI}{dg:DG}{fe:DE}{s:Sg}(xs:List α)(enc:α->T)(e:α->T)(hi:fi s=some (xs.map enc,s))(hl:xs.length<=1000000)
  (h:∀ x∈xs,∃ s1,dg (enc x) (zhh caps s)=some s1/\fe s1=some (e x,s1)/\zaw M caps s1 s=s):dLC M caps fi dg zdK fe s=some (.lst (xs.map e),s):=by
 have:=zob (M:=M) (caps:=caps) (fi:=fi) (dg:=dg) (ft:=zdK) (fe:=fe) (s:=s) xs enc (fun _=>true) e hi hl fun x hx=>by
  obtain⟨s1,h1,h2,h3⟩:=h x hx;exact⟨s1,h1,rfl,fun _=>h2,h3⟩
 rw[this,List.filter_eq_self.mpr (fun _ _=>rfl)]
theorem zmf{kvs:List (Key × T)}{k:Key}(t:T)(h:k∉kvs.map (·.1)):zk6 kvs k t=kvs++[(k,t)]:=by
 unfold zk6;rw[In_];intro z;obtain⟨kv,h1,h2⟩:=gr.mp z;exact h (Q5.mpr ⟨kv,h1,of_decide_eq_true h2⟩)
theorem zkq{α:Type}(xs:List α)(kk:α->Key)(e:α->T)(k:Key):zbl (xs.map fun x=>(kk x,e x)) k=(xs.find? fun x=>decide (kk x=k)).map e:=by
 unfold zbl;rw[List.find?_map,Option.map_map];rfl
theorem zjW(m:Nat):zaJ 0 m=(jK m).map nT:=by
 unfold zaJ;refine Ql fun i _=>?_;rw[W9]; rfl
theorem zah{f g:DS}{s s':Sg}{Q:Fl->Prop}(h:f s=some (.nx s'))(k:Run g s' Q):Run (zax f g) s Q:=zg6 h k
theorem zcN{f g:DS}{s s':Sg}{t:T}{Q:Fl->Prop}(h:f s=some (.rt t s'))(k:Q (.rt t s')):Run (zax f g) s Q:=⟨_,zii h,k⟩
theorem ze8{n:Nat}{d:DS}{ts:List T}{t:T}(h:Run d (zay n ts) fun r=>∃ s,r=.rt t s):fnP n d ts=some t:=by
 obtain⟨r,h1,s,rfl⟩:=h;exact zlm h1
theorem zbI{d:DS}{s s':Sg}{t t':T}(h:d s=some (.rt t' s'))(k:t'=t):Run d s fun r=>∃ s,r=.rt t s:=⟨_,h,s',by rw[k]⟩
theorem zpu(s:Sg):zhh [] s=[]:=rfl
theorem zpt(cs:List (Option Nat))(s:Sg):zhh (none::cs) s=none::zhh cs s:=rfl
theorem zps(j:Nat)(cs:List (Option Nat))(s:Sg):zhh (some j::cs) s=(s[j]?).join::zhh cs s:=rfl
theorem zd4{f g:DS}{s s':Sg}{t t':T}(h:f s=some (.rt t' s'))(k:t'=t):Run (zax f g) s fun r=>∃ s,r=.rt t s:=⟨_,zii h,s',by rw[k]⟩
theorem zbR{d:DS}{s s':Sg}{P:Sg->Prop}(h:d s=some (.nx s'))(k:P s'):Run d s (zr5 P):=⟨_,h,k⟩
def zjF(P:Sg->Prop)(Q:Fl->Prop):Fl->Prop
 |.nx s=>P s
 |.ct s=>P s
 |.rt t s=>Q (.rt t s)
 |.bk _=>False
theorem zlc{g:DG}{db:DS}{Q:Fl->Prop}(I:Nat->Sg->Prop):∀(xs:List T) (i:Nat) (s:Sg),I i s->(∀ j x s,xs[j]?=some x->I (i+j) s->∃ s1,g x s=some s1/\Run db s1 (zjF (I (i+j+1)) Q))->
  (∃ s',zbD g db xs s=some (.nx s')/\I (i+xs.length) s')∨∃ t s',zbD g db xs s=some (.rt t s')/\Q (.rt t s')
 |[],i,s,h0,_=>.inl ⟨s,by unfold zbD; rfl,h0⟩
 |x::xs,i,s,h0,h=>by
  obtain⟨s1,h1,r,h2,h3⟩:=h 0 x s rfl h0;have next:∀ s2,I (i+0+1) s2->(∃ s',zbD g db xs s2=some (.nx s')/\I (i+(xs.length+1)) s')∨∃ t s',zbD g db xs s2=some (.rt t s')/\Q (.rt t s'):=fun s2 q=>by
   have:=zlc I xs (i+1) s2 q fun j y s e q'=>by
    have z:=h (j+1) y s (by simpa using e)
    rw[show i+(j+1)=i+1+j by lia] at z
    exact z q'
   rw[show i+(xs.length+1)=i+1+xs.length by lia]
   exact this
  rw[jw];cases r with
  |nx s2=>unfold zbD; rw[h1,j8,h2,j8]; exact next s2 h3
  |ct s2=>unfold zbD; rw[h1,j8,h2,j8]; exact next s2 h3
  |bk s2=>exact h3.elim
  |rt t s2=>exact .inr ⟨t,s2,by unfold zbD; rw[h1,j8,h2]; rfl,h3⟩
theorem zgJ{fi:DI}{g:DG}{db d:DS}{s s1:Sg}{its:List T}{Q:Fl->Prop}(I:Nat->Sg->Prop)(h:fi s=some (its,s1))(h0:I 0 s1)
  (hs:∀ j x s,its[j]?=some x->I j s->∃ s1,g x s=some s1/\Run db s1 (zjF (I (j+1)) Q)) (k:∀ s',I its.length s'->Run d s' Q):Run (zax (zhb fi g db) d) s Q:=by
 rcases zlc (g:=g) (db:=db) (Q:=Q) I its 0 s1 h0 (fun j x s e q=>by rw[N2] at q ⊢; exact hs j x s e q) with ⟨s',h1,h2⟩ |⟨t,s',h1,h2⟩
 ·rw[N2] at h2;exact zg6 (zll h h1) (k s' h2)
 ·refine⟨.rt t s',?_,h2⟩;unfold zax zhb;rw[h,j8,h1];rfl
theorem ziI{d:DS}{s s':Sg}{P:Sg->Prop}{Q:Fl->Prop}(h:d s=some (.nx s'))(k:P s'):Run d s (zjF P Q):=⟨_,h,k⟩
theorem zlE(i j:Int):zeI (.int i) (.int j)=some (.bl (decide (i<=j))):=rfl
theorem zlD(i j:Str):zeI (.str i) (.str j)=some (.bl (!decide (j.cps.toList < i.cps.toList))):=rfl
theorem zih(c:Nat):(!decide (([c]:List Nat) < [97]))=decide (97<=c):=by
 by_cases h:97<=c
 ·rw[Dt_ h,Df_ (by rw[Zw]; simp; lia)]; rfl
 ·rw[Df_ h,Dt_ (by rw[Zw]; left; lia)]; rfl
theorem zig(c:Nat):(!decide (([122]:List Nat) < [c]))=decide (c<=122):=by
 by_cases h:c<=122
 ·rw[Dt_ h,Df_ (by rw[Zw]; simp; lia)]; rfl
 ·rw[Df_ h,Dt_ (by rw[Zw]; left; lia)]; rfl
theorem zpa(c:Nat):zg2 c=.str ⟨#[c]⟩:=rfl
theorem zqK(c:Nat):(⟨#[c]⟩:Str).cps.toList=[c]:=rfl
theorem zmQ:(Zu "a").cps.toList=[97]:=by decide +kernel
theorem zmP:(Zu "z").cps.toList=[122]:=by decide +kernel
theorem zc7(x:Str):x.length=x.cps.toList.length:=by simp[NN]
theorem znq(xs:List (Key × T)):zbV (.fd xs)=some (.int xs.length):=rfl
theorem zkk{d:DS}{s s':Sg}{P:Sg->Prop}{t t':T}(h:d s=some (.rt t' s'))(k:t'=t):Run d s (zjF P fun r=>∃ s,r=.rt t s):=⟨_,h,s',by rw[k]⟩
theorem ziH{f g:DS}{s s':Sg}{P:Sg->Prop}{t t':T}(h:f s=some (.rt t' s'))(k:t'=t):Run (zax f g) s (zjF P fun r=>∃ s,r=.rt t s):=⟨_,zii h,s',by rw[k]⟩
theorem zrO{c:DT}{f g:DS}{s s':Sg}{r:Option Fl}(h:c s=some (true,s'))(k:f s'=r):zbe c f g s=r:=by
 unfold zbe;rw[h];exact k
theorem zr0{c:DT}{f g:DS}{s s':Sg}{r:Option Fl}(h:c s=some (false,s'))(k:g s'=r):zbe c f g s=r:=by
 unfold zbe;rw[h];exact k
end L3
namespace Dw
open PySem PySem.Spec PyProof.Rows L2 L3
theorem zgV(x:Str):∀(wd acc:List Str),x∈wd.foldl stp acc↔x∈acc∨x∈wd
 |[],acc=>by simp
 |y::wd,acc=>by
  rw[QC,zgV x wd,jA];unfold stp;split
  ·rename_i h;constructor
   ·rintro(q |q)
    ·exact .inl q
    ·exact .inr (.inr q)
   ·rintro(q |q |q)
    ·exact .inl q
    ·exact .inl (q▸h)
    ·exact .inr q
  ·rw[jQ,jI];constructor
   ·rintro((q |q) |q)
    ·exact .inl q
    ·exact .inr (.inl q)
    ·exact .inr (.inr q)
   ·rintro(q |q |q)
    ·exact .inl (.inl q)
    ·exact .inl (.inr q)
    ·exact .inr q
theorem mem_firsts{x:Str}{wd:List Str}:x∈za4 wd↔x∈wd:=by unfold za4; rw[zgV]; simp
theorem ze3:∀(wd acc:List Str),acc.Nodup->(wd.foldl stp acc).Nodup
 |[],acc,h=>h
 |y::wd,acc,h=>by
  rw[QC];refine ze3 wd _ ?_;unfold stp;split
  ·exact h
  ·rename_i q;rw[Yk];exact⟨h,by simp,fun a ha b hb e=>q (by rw[jI] at hb; subst hb; subst e; exact ha)⟩
theorem zcU(wd:List Str):(za4 wd).Nodup:=ze3 wd [] Nh
theorem zcp(wd:List Str):(za4 wd).length<=wd.length:=by have:=ze9 wd []; simpa[za4] using this
theorem zkz{xs:List Str}{x:Str}(h:x∈xs):(xs.find? fun y=>decide ((gB y:Key)=gB x))=some x:=by
 induction xs with
 |nil=>cases h
 |cons y ys ih=>
  rw[Qz]
  by_cases e:y=x
  ·subst e; simp
  ·rw[Df_ (fun z=>e (Yn z))];rcases jA.mp h with q |q
   ·exact absurd q.symm e
   ·exact ih q
def zcz(x:Str):Bool:=decide (1<=x.length/\x.length<=8)&&x.cps.toList.all fun c=>decide (97<=c)&&decide (c<=122)
theorem isNm_iff{x:Str}:zcz x=true↔zbp x:=by
 unfold zcz zbp;rw[jo,decide_eq_true_iff,jm];constructor
 ·rintro⟨⟨h1,h2⟩,h3⟩;exact⟨h1,h2,fun c hc=>by have:=h3 c hc; rw[jo,decide_eq_true_iff,decide_eq_true_iff] at this; exact this⟩
 ·rintro⟨h1,h2,h3⟩;exact⟨⟨h1,h2⟩,fun c hc=>by rw[jo,decide_eq_true_iff,decide_eq_true_iff]; exact h3 c hc⟩
def zhX(wd:List Str):Bool:=wd.all zcz&&(decide ((za4 wd).length<=30)&&(za4 wd).all fun x=>decide (wd.count x=2))
theorem zeW:∀(wd ns:List Str),ns.Nodup->(∀ x∈wd,x∈ns)->wd.length=(ns.map fun x=>wd.count x).sum
 |[],ns,_,_=>by
  have:(ns.map fun x=>([]:List Str).count x)=ns.map fun _=>0:=Ql fun x _=>by simp
  have z:∀ l:List Str,(l.map fun _=>0).sum=0:=fun l=>by
   induction l with
   |nil=>rfl
   |cons n l ih=>rw[jp,ZZ,ih]
  rw[this,z];rfl
 |y::wd,ns,hn,h=>by
  have ih:=zeW wd ns hn fun x hx=>h x (jh _ hx);have key:∀(ns:List Str),ns.Nodup->(ns.map fun x=>(y::wd).count x).sum=(ns.map fun x=>wd.count x).sum+if y∈ns then 1 else 0:=by
   intro ns
   induction ns with
   |nil=>intro _; rfl
   |cons n ns ihn=>
    intro hn;rw[Qg] at hn;rw[jp,ZZ,jp,ZZ,ihn hn.2,QB]
    by_cases e:y=n
    ·subst e;rw[Ip_ (by simp),In_ hn.1,Ip_ (by simp)]; lia
    ·rw[In_ (by simpa using e)]
     by_cases e2:y∈ns
     ·rw[Ip_ e2,Ip_ (jh _ e2)]; lia
     ·rw[In_ e2,In_ (by simp[e,e2])]; lia
  rw[key ns hn,Ip_ (h y jG),<-ih,jw]
theorem zi5{wd:List Str}(h:∀ x∈wd,wd.count x=2):wd.length=2*(za4 wd).length:=by
 have:=zeW wd (za4 wd) (zcU wd) fun x hx=>mem_firsts.mpr hx;rw[this];have e:=Ql fun x hx=>h x (mem_firsts.mp hx);rw[e];generalize za4 wd=l
 induction l with
 |nil=>rfl
 |cons a l ih=>rw[jp,ZZ,ih,jw]; lia
theorem zku(wd:List Str):zhX wd=((wd.all fun x=>zcz x&&decide (wd.count x=2))&&decide (wd.length<=60)):=by
 unfold zhX
 by_cases h:∀ x∈wd,wd.count x=2
 ·have hl:=zi5 h;have e1:=jm.mpr fun x hx=>Dt_ (h x (mem_firsts.mp hx));have e2:wd.all (fun x=>zcz x&&decide (wd.count x=2))=wd.all zcz:=by
   rw[Qe,jm,jm];exact⟨fun q x hx=>((jo _ _).mp (q x hx)).1,fun q x hx=>(jo _ _).mpr ⟨q x hx,Dt_ (h x hx)⟩⟩
  rw[e1,e2,Bool.and_true]
  congr 1
  by_cases q:wd.length<=60
  ·rw[Dt_ q,Dt_ (by lia)]
  ·rw[Df_ q,Df_ (by lia)]
 ·obtain⟨x,hx⟩:=Classical.not_forall.mp h;obtain⟨hm,hc⟩:=Classical.not_imp.mp hx;have e1:(za4 wd).all (fun x=>decide (wd.count x=2))=false:=by
   rw[ge];exact⟨x,mem_firsts.mpr hm,by simpa using hc⟩
  have e2:wd.all (fun x=>zcz x&&decide (wd.count x=2))=false:=by
   rw[ge];refine⟨x,hm,?_⟩;rw[Df_ hc,Nj]; exact ju
  rw[e1,e2,Nj,Nj,Qv]
theorem zj4{wd:List Str}(g:GoodWord wd):zhX wd=true:=by
 rw[zku,jo,jm];refine⟨fun x hx=>?_,Dt_ g.len⟩;rw[jo];exact⟨isNm_iff.mpr (g.name x hx),Dt_ (g.two x hx)⟩
def zfU(wd:List Str):List (Key × T):=(za4 wd).map fun x=>(gB x,.int (wd.count x:Nat))
theorem zkK(wd:List Str)(x:Str):(zbl (zfU wd) (.inr x)).getD (.int 0)=.int (wd.count x:Nat):=by
 unfold zfU;rw[zkq]
 by_cases h:x∈wd
 ·rw[zkz (mem_firsts.mpr h)]; rfl
 ·rw[List.find?_eq_none.mpr,Y0.mpr h]; rfl;intro y hy;simp only[decide_eq_true_iff];intro z;exact h (Yn z▸mem_firsts.mp hy)
theorem zmR{wd:List Str}{j:Nat}{x:Str}(hx:wd[j]?=some x):zk6 (zfU (wd.take j)) (.inr x) (.int (((wd.take j).count x:Nat)+1))=zfU (wd.take (j+1)):=by
 have hF:=zdH hx;have hT:wd.take (j+1)=wd.take j++[x]:=by rw[Y5,hx]; rfl
 have hc:∀ y,(wd.take (j+1)).count y=(wd.take j).count y+if x=y then 1 else 0:=fun y=>by
  rw[hT,jO,QB,List.count_nil]
  by_cases e:x=y
  ·subst e; simp
  ·simp[e]
 by_cases h:x∈za4 (wd.take j)
 ·have e3:za4 (wd.take (j+1))=za4 (wd.take j):=by rw[hF]; unfold stp; rw[Ip_ h]
  unfold zk6;rw[Ip_]
  ·unfold zfU;rw[e3,Q6];refine Ql fun y hy=>?_;show (if (gB y:Key)=gB x then _ else _)=_
   by_cases e:y=x
   ·subst e;rw[Ip_ rfl,hc,Ip_ rfl];rfl
   ·rw[In_ (fun z=>e (Yn z)),hc,In_ (fun z=>e z.symm)];rfl
  ·refine gr.mpr ⟨(.inr x,.int ((wd.take j).count x:Nat)),Q5.mpr ⟨x,h,rfl⟩,by simp⟩
 ·have e3:za4 (wd.take (j+1))=za4 (wd.take j)++[x]:=by rw[hF]; unfold stp; rw[In_ h]
  have h':x∉wd.take j:=fun z=>h (mem_firsts.mpr z);rw[zmf]
  ·unfold zfU;rw[e3,Zv,jp,gZ]
   congr 1
   ·refine Ql fun y hy=>?_;have e:¬ x=y:=fun z=>h (z▸hy);rw[hc,In_ e];rfl
   ·rw[hc,Ip_ rfl];rfl
  ·unfold zfU;rw[Q6];intro z;obtain⟨y,hy,e⟩:=Q5.mp z;exact h (Yn e▸hy)
theorem zfz(y:Array Nat)(x z:Array Nat):∀ l:List Str,l.foldl (fun acc p=>acc++y++p.cps) (x++z)=x++l.foldl (fun acc p=>acc++y++p.cps) z
 |[]=>rfl
 |p::l=>by
  rw[QC,QC,ZP,ZP,zfz y x _ l,ZP]
theorem zcE(y:Str):∀ l:List Str,gA y l=Ze y l
 |[]=>rfl
 |[a]=>rfl
 |a::b::r=>by
  have ih:=zcE y (b::r);show gA y (a::b::r)=a++y++Ze y (b::r);rw[<-ih];apply WW;show (b::r).foldl (fun acc p=>acc++y.cps++p.cps) a.cps=a.cps++y.cps++r.foldl (fun acc p=>acc++y.cps++p.cps) b.cps;rw[QC,zfz]
theorem zhd{c:Nat}:∀ {a a' t t':List Nat},c∉a->c∉a'->a++c::t=a'++c::t'->a=a'/\t=t'
 |[],[],t,t',_,_,h=>by injection h with _ h; exact⟨rfl,h⟩
 |[],x::a',t,t',_,h2,h=>by injection h with h _; exact absurd (h▸jG) h2
 |x::a,[],t,t',h1,_,h=>by injection h with h _; exact absurd (h▸jG) h1
 |x::a,x'::a',t,t',h1,h2,h=>by
  injection h with h h';obtain⟨e1,e2⟩:=zhd (fun z=>h1 (jh _ z)) (fun z=>h2 (jh _ z)) h';exact⟨by rw[h,e1],e2⟩
theorem zb4(c:Nat)(a b:Str)(r:List Str):(Ze ⟨#[c]⟩ (a::b::r)).cps.toList=a.cps.toList++c::(Ze ⟨#[c]⟩ (b::r)).cps.toList:=by
 show (a.cps++#[c]++(Ze ⟨#[c]⟩ (b::r)).cps).toList=_;simp
theorem zgZ{c:Nat}:∀ {xs ys:List Str},xs≠[]->ys≠[]->(∀ x∈xs,c∉x.cps.toList)->(∀ y∈ys,c∉y.cps.toList)->Ze ⟨#[c]⟩ xs=Ze ⟨#[c]⟩ ys->xs=ys
 |[],_,h,_,_,_,_=>absurd rfl h
 |_::_,[],_,h,_,_,_=>absurd rfl h
 |[a],[b],_,_,_,_,h=>by rw[show a=b from h]
 |[a],b::b'::r,_,_,h1,_,h=>by
  have e:=congrArg (fun x:Str=>x.cps.toList) h;rw[zb4] at e;exact absurd (show c∈a.cps.toList by rw[show a.cps.toList=_ from e]; simp) (h1 a (by simp))
 |a::a'::r,[b],_,_,_,h2,h=>by
  have e:=congrArg (fun x:Str=>x.cps.toList) h;rw[zb4] at e;exact absurd (show c∈b.cps.toList by rw[show b.cps.toList=_ from e.symm]; simp) (h2 b (by simp))
 |a::a'::r,b::b'::s,_,_,h1,h2,h=>by
  have e:=congrArg (fun x:Str=>x.cps.toList) h;rw[zb4,zb4] at e;obtain⟨e1,e2⟩:=zhd (h1 a (by simp)) (h2 b (by simp)) e
  have e3:=zgZ (xs:=a'::r) (ys:=b'::s) (by simp) (by simp) (fun x hx=>h1 x (jh _ hx)) (fun x hx=>h2 x (jh _ hx)) (WW (gt.mp e2))
  rw[WW (gt.mp e1),e3]
theorem zgH(x y:Str):jx x y≠[]:=by
 unfold jx;split
 ·simp
 ·split
  ·simp
  ·unfold Z4;cases Qi x y 0 x.length (x.length+1)<;>simp
theorem zdX{c:Nat}{wd:List Str}(h:wd≠[])(hf:∀ x∈wd,c∉x.cps.toList):jx (gA ⟨#[c]⟩ wd) ⟨#[c]⟩=wd:=
 zgZ (zgH _ _) h (fun p hp=>NF _ c p hp) hf (by rw[Y2,zcE])
theorem zki{x y:Str}(h:2<=(jx x y).length):zdv x y=jx x y:=by
 unfold jx at h ⊢;split at h
 ·simp at h
 ·rename_i h1;split at h
  ·simp at h
  ·rename_i h2;rw[In_ h1,In_ h2]; rfl
theorem zeu(c:Nat):∀ l:List Str,(gA ⟨#[c]⟩ l).length<=(l.map (·.length)).sum+l.length:=by
 intro l;rw[zcE]
 induction l with
 |nil=>exact jl _
 |cons a l ih=>
  cases l with
  |nil=>show a.cps.size<=_; simp[NN]
  |cons b r=>
   have e:(Ze ⟨#[c]⟩ (a::b::r)).length=a.length+1+(Ze ⟨#[c]⟩ (b::r)).length:=by
    show (a.cps++#[c]++(Ze ⟨#[c]⟩ (b::r)).cps).size=_;rw[W4,W4]; rfl
   rw[e,jp,ZZ,jw (a:=a)];lia
theorem zeV{l:List Str}{k:Nat}(h:∀ x∈l,x.length<=k):(l.map (·.length)).sum<=l.length*k:=by
 induction l with
 |nil=>simp
 |cons a l ih=>
  rw[jp,ZZ,jw,Nat.add_mul,Nat.one_mul];have:=ih fun x hx=>h x (jh _ hx);have:=h a (by simp)
  lia
theorem zb5:(" ":Str)=⟨#[32]⟩:=rfl
end Dw
namespace Dw
abbrev F2:=Fin 2
section
variable {n:Nat}{i j nm:Nat->Nat}{hd:Nat->Bool}
def io(i j:Nat->Nat)(u k:Nat):F2:=if i u < k/\k<=j u then 1 else 0
def n2(k:Nat):F2:=Fin.ofNat 2 k
end
end Dw
set_option maxHeartbeats 1000000
set_option maxHeartbeats 4000000
namespace L3
open PySem PySem.Spec PyProof.Rows L2
section
variable [TheK]{X:Cx}{M:List Nat}
theorem qV(i:Nat){x:Str}{pos:Pos}(hN:X.N[i]?=some x:=by rfl)(hv:Vis X.env.scope x:=by first |exact Q0 rfl |exact YX (Q0 rfl) |exact YX (YX rfl))(hd:(x == ("__debug__":Str))=false:=by decide)(hcd:(x == ("__classdict__":Str))=false:=by decide)(hi:M.contains i=false:=by rfl):QE X (.Name x pos) (cE .e M (dV i)):=qv_ hi (qpv i hN hv hd hcd)
theorem qib{i:Int}{j:Nat}{pos:Pos}:QE X (.Constant (.int i) j pos) (cE .b M (dC (.int i))):=qeb qi_
end
end L3
namespace Dw
open PySem PySem.Spec PyProof.Rows L2 L3
def top(i:Nat):QR:=gm.main.body.getD i (.Pass ⟨0,0,0,0⟩)
variable {v:Ev}
abbrev nQ0 : Str := "_law_cell_here"
abbrev nQ1 : Str := "_law_text"
abbrev nQ2 : Str := "text"
abbrev nQ3 : Str := "_law_many"
abbrev nQ4 : Str := "_law_script"
abbrev nQ5 : Str := "_law_word_here"
abbrev nQ6 : Str := "read_word"
abbrev nQ7 : Str := "_law_bag_here"
abbrev nQ8 : Str := "_law_turn"
abbrev nQ9 : Str := "_law_names_here"
abbrev zp0 : Str := "_law_most"
abbrev zek:QR:=top 16
theorem zil:FnScope [nQ4,"_law_k"] [nQ4,"_law_k"] (za0 zek):=scm
def zeC:DS:=(zax (zbe (dB (d2 gLt (dV 1) (d1 zbV (dV 0)))) (zan [] (d2 zaE (dV 0) (dV 1))) zav)
  (zan [] (dC (.int 0))))
def zbb:List T->Option T:=fnP 2 zeC
abbrev zeH[TheK](v:Ev)(k:Nat):Prop:=Cl v k "_law_cell" [nQ4,"_law_k"] (spP .e 2 zbb)
theorem ziM[tk:TheK](h:Here tk.K v.mg "_law_cell" zek [nQ4,"_law_k"])(m_len:v.mg "len"=none):zeH v 1:=by
 refine(h.vP 0 [] zeC zil fun nd f cdv A outer s H E hr=>?_ :);have hu:=zj9 hr
 exact(qs_ (M':=[]) (zaM (M':=[]) (znH (qV 1) (qeb (zbg rfl rfl m_len (qeb (qV 0))))) (za2 (zad (zbr rfl hu (qV 0) (qeb (qV 1)) (fun _ _=>rfl)))) zag)
  (za2 (zad qi_)))
abbrev zg5:QR:=top 18
theorem zjT:FnScope [nQ0] [nQ0] (za0 zg5):=scm
def zgp:DS:=(zan [] (zeM (dAc (d2 zgh (d2 zh6 (dV 0) (dC (.int 2))) (d2 zex (dV 0) (dC (.int 2)))) (dAc (d2 zex (d2 zh6 (dV 0) (dC (.int 2))) (dC (.int 2147483647))) dAn))))
def zd9:List T->Option T:=zn1 1 zgp
abbrev zgA[TheK](v:Ev)(k:Nat):Prop:=Cl v k "_law_bag" [nQ0] (spP .n 1 zd9)
theorem zkm[tk:TheK](h:Here tk.K v.mg "_law_bag" zg5 [nQ0]):zgA v 1:=by
 refine(h.vN 0 [] zgp zjT fun nd f cdv A outer s H E hr=>?_ :);exact(za2 (zm5 (zbk (qa_ (zch (zdt (qV 0) qib) (qeb (zbA (qV 0) qib))) (qa_ (zbA (zdt (qV 0) qib) qib) za3)))))
abbrev zej:QR:=top 19
theorem zf4:FnScope [nQ7,nQ3,"_law_found"] [nQ7,nQ3] (za0 zej):=scm
def zdd:DS:=(zax (zbe (dB (d2 gGt (d2v zaE 0 (dC (.int 0))) (dC (.int 0)))) (zax (zbn 2 (d2 zex (d2v zaE 0 (dC (.int 0))) (dV 1)))
  (zax (zfC 0 (dC (.int 0)) (d2 zh6 (d2v zaE 0 (dC (.int 0))) (dV 1)))
  (zan [0] (dV 2)))) zav)
  (zax (zfC 0 (dC (.int 1)) (d2 zex (d2 zac (d2 zgh (d2v zaE 0 (dC (.int 1))) (dC (.int 48271))) (dC (.int 4099))) (dC (.int 2147483647))))
  (zan [0] (d2 zex (d2 zh6 (d2 zex (d2 zgh (d2v zaE 0 (dC (.int 1))) (d2 zac (d2 zh6 (d2v zaE 0 (dC (.int 1))) (dC (.int 65536))) (dC (.int 7)))) (dC (.int 2147483629))) (dC (.int 32))) (dV 1)))))
def zbO:List T->Option (T × T):=fnI 3 zdd
abbrev zeG[TheK](v:Ev)(k:Nat):Prop:=Cl v k "_law_draw" [nQ7,nQ3] (spI .e 2 zbO)
theorem ziL[tk:TheK](h:Here tk.K v.mg "_law_draw" zej [nQ7,nQ3]):zeG v 1:=by
 refine(h.vI 0 [] zdd zf4 fun nd f cdv A outer s H E hr=>?_ :);have sc:=zf4;have hu:=zj9 hr
 exact(qs_ (M':=[0]) (zaM (M':=[0]) (zm4 (zbT rfl rfl hu (qpv 0) qib (fun _ _=>rfl)) qib) (qs_ (M':=[0]) (zak (M':=[0]) (zaf (i:=2) sc.nd rfl (Q0 rfl) (zbA (zbT rfl rfl hu (qpv 0) qib (fun _ _=>rfl)) (qeb (qV 1)))))
  (qs_ (M':=[0]) (zel rfl (zem (zdt (zbT rfl rfl hu (qpv 0) qib (fun _ _=>rfl)) (qeb (qV 1))) (zen (qpv 0) qi_ zd3)))
  (za2 (zad (qV 2))))) zag)
  (qs_ (M':=[0]) (zel rfl (zem (zbA (za6 (zch (zbT rfl rfl hu (qpv 0) qib (fun _ _=>rfl)) qib) qib) qib) (zen (qpv 0) qi_ zd3)))
  (za2 (zad (zbA (zdt (zbA (zch (zbT rfl rfl hu (qpv 0) qib (fun _ _=>rfl)) (qeb (za6 (zdt (zbT rfl rfl hu (qpv 0) qib (fun _ _=>rfl)) qib) qib))) qib) qib) (qeb (qV 1)))))))
abbrev zeg:QR:=top 22
theorem zf2:FnScope [nQ0,nQ9,nQ7,"_law_free","_law_made","_law_name","_law_at","_law_far"] [nQ0,nQ9] (za0 zeg):=scm
def zdc:DS:=(zax (zbn 2 (zaj zd9 (dAc (dV 0) dAn)))
  (zax (zbn 3 (dLR (dAc (d2 zgh (dC (.int 2)) (d1 zbV (dV 1))) dAn)))
  (zax (zbn 4 (dLC [2,3] [none] (zmM 3) (dGn 0) zdK (dC (.str ""))))
  (zax (zhb (zcX (dV 1)) (dGn 5)
  (zax (zbn 6 (zmL zcm 3 (dAc (dC (.int 0)) dAn)))
  (zax (zbn 7 (zmL zcm 3 (dAc (zfE zbO 2 (dAc (d1 zbV (dV 3)) dAn)) dAn)))
  (zax (zfC 4 (dV 6) (dV 5))
  (zfC 4 (dV 7) (dV 5))))))
  (zan [] (dV 4))))))
def zdG:List T->Option T:=fnP 8 zdc
abbrev zeE[TheK](v:Ev)(k:Nat):Prop:=Cl v k "_law_word" [nQ0,nQ9] (spP .e 2 zdG)
theorem ziJ[tk:TheK](h:Here tk.K v.mg "_law_word" zeg [nQ0,nQ9])(pQ:zgA v 1)(pY:zeG v 1)(m_list:v.mg "list"=none)(m_range:v.mg "range"=none)(m_len:v.mg "len"=none):zeE v 2:=by
 refine(h.vP 1 [] zdc zf2 fun nd f cdv A outer s H E hr=>?_ :);have sc:=zf2
 exact(qs_ (M':=[2]) (zcA (M':=[2]) (zaf (i:=2) sc.nd rfl (Q0 rfl) (qcN pQ hr rfl (qa_ (qV 0) za3) ar1)))
  (qs_ (M':=[2,3]) (zcA (M':=[2,3]) (zaf (i:=3) sc.nd rfl (Q0 rfl) (zfd rfl rfl m_list rfl m_range (qa_ (zch qi_ (qeb (zbg rfl rfl m_len (qeb (qV 1))))) za3))))
  (qs_ (M':=[2,3,4]) (zcA (M':=[2,3,4]) (znK (i0:=3) (Mi:=[]) rfl rfl rfl rfl (zb7 (i:=0)) zbE (zds (i:=4) sc.nd rfl rfl (N:=["_law_at"]) (caps:=[none]) rfl (zjY (qpv 3)) (fun _ _ _ _ _=>(zao (i:=0) (show (["_law_at"]:List Str).Nodup by decide +kernel) rfl (Q0 rfl))) zb9 (fun _ _ _ _ _=>zaN) (fun _ _ _ _ _=>zab))))
  (qs_ (M':=[2,3,4]) (zdr (zc4 Z6 rfl (zbj rfl (qV 1)) (zc5 (zao (i:=5) sc.nd rfl (Q0 rfl)))
  (qs_ (M':=[2,3,4]) (zak (M':=[2,3,4]) (zaf (i:=6) sc.nd rfl (Q0 rfl) (zgO rfl (zbz Zf N3 N4 zgT (qpv 3) (qa_ qi_ za3)))))
  (qs_ (M':=[2,3,4]) (zak (M':=[2,3,4]) (zaf (i:=7) sc.nd rfl (Q0 rfl) (zgO rfl (zbz Zf N3 N4 zgT (qpv 3) (qa_ (qcI rfl pY hr rfl (qpv 2) (qa_ (zbg rfl rfl m_len (zkZ rfl (qpv 3))) za3) ar1) za3)))))
  (qs_ (M':=[2,3,4]) (zel rfl (zem (qV 5) (zen (qpv 4) (qV 6) zd3)))
  (za2 (zel rfl (zem (qV 5) (zen (qpv 4) (qV 7) zd3)))))))))
  (za2 (znJ (M':=[2,3]) (zad (qV 4))))))))
abbrev zei:QR:=top 17
theorem zf3:FnScope [nQ0,nQ8,nQ3,"_law_blent"] [nQ0,nQ8,nQ3] (za0 zei):=scm
def zeA:DS:=(zax (zbn 3 (d2 zex (d2 zgh (d2 zac (d2 zex (dV 0) (dC (.int 2147483647))) (dC (.int 7))) (d2 zac (dC (.int 48271)) (d2 zgh (dC (.int 7919)) (dV 1)))) (dC (.int 2147483647))))
  (zan [] (d2 zex (d2 zh6 (d2 zex (d2 zgh (dV 3) (dC (.int 16807))) (dC (.int 2147483647))) (dC (.int 8))) (dV 2))))
def zae:List T->Option T:=fnP 4 zeA
abbrev zcx[TheK](v:Ev)(k:Nat):Prop:=Cl v k "_law_pick" [nQ0,nQ8,nQ3] (spP .e 3 zae)
theorem ziK[tk:TheK](h:Here tk.K v.mg "_law_pick" zei [nQ0,nQ8,nQ3]):zcx v 1:=by
 refine(h.vP 0 [] zeA zf3 fun nd f cdv A outer s H E hr=>?_ :);have sc:=zf3
 exact(qs_ (M':=[]) (zak (M':=[]) (zaf (i:=3) sc.nd rfl (Q0 rfl) (zbA (zch (za6 (zbA (qV 0) qib) qib) (qeb (za6 qi_ (qeb (zch qi_ (qeb (qV 1))))))) qib)))
  (za2 (zad (zbA (zdt (zbA (zch (qV 3) qib) qib) qib) (qeb (qV 2))))))
abbrev zdm:QR:=top 20
theorem ze2:FnScope [nQ0,nQ3,"_law_letters","_law_base","_law_k","_law_spot","_law_first","_law_made","_law_far",nQ8] [nQ0,nQ3] (za0 zdm):=scm
def zcr:DS:=(zax (zbn 2 (dC (.str "abcdefghijklmnopqrstuvwxyz")))
  (zax (zbn 3 (dC (.str "")))
  (zax (zhb (zp2 (dAc (zaj zae (dAc (dV 0) (dAc (dC (.int 1)) (dAc (dC (.int 7)) dAn)))) dAn)) (dGn 4)
  (zbn 3 (d2 zac (dV 3) (d2 zaE (dV 2) (zaj zae (dAc (dV 0) (dAc (d2 zac (dC (.int 2)) (dV 4)) (dAc (dC (.int 26)) dAn))))))))
  (zax (zbn 5 (zaj zae (dAc (dV 0) (dAc (dC (.int 10)) (dAc (d2 zac (d1 zbV (dV 3)) (dC (.int 1))) dAn)))))
  (zax (zbn 6 (zaj zae (dAc (dV 0) (dAc (dC (.int 11)) (dAc (dC (.int 26)) dAn)))))
  (zax (zbn 7 (zeM dAn))
  (zax (zbe (dB (d2 gEq (zaj zae (dAc (dV 0) (dAc (dC (.int 12)) (dAc (dC (.int 4)) dAn)))) (dC (.int 0)))) (zbn 7 (dLC [7] [none,some 3] (zoB (dAc (dC (.int 1)) (dAc (d2 zac (d1 zbV (dV 3)) (dC (.int 1))) dAn))) (dGn 0) zdK (dSl zbC (dV 1) dOn (dOs (dV 0))))) zav)
  (zax (zhb (zp2 (dAc (dV 1) dAn)) (dGn 4)
  (zax (zbn 8 (d2 zac (d2 zaE (dV 2) (d2 zex (d2 zac (dV 6) (d2 zgh (dC (.int 5)) (dV 4))) (dC (.int 26)))) (d2 zaE (dV 2) (d2 zex (d2 zac (dV 6) (d2 zh6 (dV 4) (dC (.int 26)))) (dC (.int 26))))))
  (zbe (dB (d2 zc9 (d2 zac (d2 zac (dSl zbC (dV 3) dOn (dOs (dV 5))) (dV 8)) (dSl zbC (dV 3) (dOs (dV 5)) dOn)) (dV 7))) (dDo (zmL zlb 7 (dAc (d2 zac (d2 zac (dSl zbC (dV 3) dOn (dOs (dV 5))) (dV 8)) (dSl zbC (dV 3) (dOs (dV 5)) dOn)) dAn))) zav)))
  (zax (zbn 9 (zaj zae (dAc (dV 0) (dAc (dC (.int 13)) (dAc (d2 zac (dV 1) (dC (.int 1))) dAn)))))
  (zan [] (d2 zac (dSl zbC (zoA gSl 7 dOn (dOs (dV 1))) (dOs (dV 9)) dOn) (dSl zbC (zoA gSl 7 dOn (dOs (dV 1))) dOn (dOs (dV 9))))))))))))))
def zcG:List T->Option T:=fnP 10 zcr
abbrev zdN[TheK](v:Ev)(k:Nat):Prop:=Cl v k "_law_names" [nQ0,nQ3] (spP .e 2 zcG)
theorem zhA[tk:TheK](h:Here tk.K v.mg "_law_names" zdm [nQ0,nQ3])(pd:zcx v 1)(m_range:v.mg "range"=none)(m_len:v.mg "len"=none):zdN v 2:=by
 refine(h.vP 1 [] zcr ze2 fun nd f cdv A outer s H E hr=>?_ :);have sc:=ze2;have hu:=zj9 hr;have hu8:=zcn hr
 exact(qs_ (M':=[]) (zak (M':=[]) (zaf (i:=2) sc.nd rfl (Q0 rfl) zab))
  (qs_ (M':=[]) (zak (M':=[]) (zaf (i:=3) sc.nd rfl (YX rfl) zab))
  (qs_ (M':=[]) (zdr (zc4 Z6 rfl (zfb rfl m_range (qa_ (qc pd hr rfl (qa_ (qV 0) (qa_ qi_ (qa_ qi_ za3))) ar3) za3)) (zc5 (zao (i:=4) sc.nd rfl (Q0 rfl)))
  (za2 (zak (M':=[]) (zaf (i:=3) sc.nd rfl (YX rfl) (za6 (qV 3) (qeb (zbr rfl hu (qV 2) (qeb (qc pd hr rfl (qa_ (qV 0) (qa_ (za6 qi_ (qeb (qV 4))) (qa_ qi_ za3))) ar3)) (fun _ _=>rfl)))))))))
  (qs_ (M':=[]) (zak (M':=[]) (zaf (i:=5) sc.nd rfl (Q0 rfl) (qc pd hr rfl (qa_ (qV 0) (qa_ qi_ (qa_ (za6 (zbg rfl rfl m_len (qeb (qV 3))) qib) za3))) ar3)))
  (qs_ (M':=[]) (zak (M':=[]) (zaf (i:=6) sc.nd rfl (Q0 rfl) (qc pd hr rfl (qa_ (qV 0) (qa_ qi_ (qa_ qi_ za3))) ar3)))
  (qs_ (M':=[7]) (zcA (M':=[7]) (zaf (i:=7) sc.nd rfl (Q0 rfl) (zbk za3)))
  (qs_ (M':=[7]) (zaM (M':=[7]) (zc3 hu8 (qc pd hr rfl (qa_ (qV 0) (qa_ qi_ (qa_ qi_ za3))) ar3) qib) (za2 (zcA (M':=[7]) (znL (Mi:=[]) rfl (zb7 (i:=0)) zbE (zds (i:=7) sc.nd rfl rfl (N:=["_law_k","_law_base"]) (caps:=[none,some 3]) rfl (zit rfl m_range (qa_ qi_ (qa_ (za6 (zbg rfl rfl m_len (qeb (qV 3))) qib) za3))) (fun _ _ _ _ _=>(zao (i:=0) (show (["_law_k","_law_base"]:List Str).Nodup by decide +kernel) rfl (Q0 rfl))) zb9 (fun _ _ _ _ _=>zaN) (fun _ _ _ _ _=>(zaO rfl (qV 1) zau (zaq (qV 0)))))))) zag)
  (qs_ (M':=[7]) (zdr (zc4 Z6 rfl (zfb rfl m_range (qa_ (qV 1) za3)) (zc5 (zao (i:=4) sc.nd rfl (Q0 rfl)))
  (qs_ (M':=[7]) (zak (M':=[7]) (zaf (i:=8) sc.nd rfl (Q0 rfl) (za6 (zbr rfl hu (qV 2) (qeb (zbA (za6 (qV 6) (qeb (zch qi_ (qeb (qV 4))))) qib)) (fun _ _=>rfl)) (qeb (zbr rfl hu (qV 2) (qeb (zbA (za6 (qV 6) (qeb (zdt (qV 4) qib))) qib)) (fun _ _=>rfl))))))
  (za2 (zaM (M':=[7]) (zir hu (za6 (za6 (zaO rfl (qV 3) zau (zaq (qV 5))) (qeb (qV 8))) (qeb (zaO rfl (qV 3) (zaq (qV 5)) zau))) (zkZ rfl (qpv 7)) (by with_unfolding_all rfl)) (za2 (zqc (.inl rfl) (ziv rfl (zbz Zf PySem.F.slot_list_append PySem.F.type_list_append zfp (qpv 7) (qa_ (za6 (za6 (zaO rfl (qV 3) zau (zaq (qV 5))) (qeb (qV 8))) (qeb (zaO rfl (qV 3) (zaq (qV 5)) zau))) za3))))) zag)))))
  (qs_ (M':=[7]) (zak (M':=[7]) (zaf (i:=9) sc.nd rfl (Q0 rfl) (qc pd hr rfl (qa_ (qV 0) (qa_ qi_ (qa_ (za6 (qV 1) qib) za3))) ar3)))
  (za2 (zad (za6 (zaO rfl (qne (zkY rfl rfl (qpv 7) zau (zaq (qV 1)))) (zaq (qV 9)) zau) (qeb (zaO rfl (qne (zkY rfl rfl (qpv 7) zau (zaq (qV 1)))) zau (zaq (qV 9))))))))))))))))
abbrev zc2:QR:=top 25
theorem zcM:FnScope [nQ1,nQ5,nQ0,"_law_signs","_law_way","_law_at","_law_sign","_law_spot","_law_more"] [nQ1,nQ5,nQ0] (za0 zc2):=scm
def zbc:DS:=(zax (zbn 3 (dC (.str "abz AZ09_-;:none`{@")))
  (zax (zbn 4 (zaj zae (dAc (dV 2) (dAc (dC (.int 1)) (dAc (dC (.int 8)) dAn)))))
  (zax (zbn 5 (zaj zae (dAc (dV 2) (dAc (dC (.int 2)) (dAc (d2 zac (d1 zbV (dV 0)) (dC (.int 1))) dAn)))))
  (zax (zbn 6 (d2 zaE (dV 3) (zaj zae (dAc (dV 2) (dAc (dC (.int 3)) (dAc (d1 zbV (dV 3)) dAn))))))
  (zax (zbe (dB (d2 gEq (dV 4) (dC (.int 0)))) (zan [] (d2 zac (d2 zac (dSl zbC (dV 0) dOn (dOs (dV 5))) (dV 6)) (dSl zbC (dV 0) (dOs (dV 5)) dOn))) zav)
  (zax (zbe (dB (d2 gEq (dV 4) (dC (.int 1)))) (zan [] (d2 zac (dSl zbC (dV 0) dOn (dOs (dV 5))) (dSl zbC (dV 0) (dOs (d2 zac (dV 5) (dC (.int 1)))) dOn))) zav)
  (zax (zbe (dB (d2 gEq (dV 4) (dC (.int 2)))) (zan [] (d2 zac (d2 zac (dSl zbC (dV 0) dOn (dOs (dV 5))) (dV 6)) (dSl zbC (dV 0) (dOs (d2 zac (dV 5) (dC (.int 1)))) dOn))) zav)
  (zax (zbe (dB (d2 gEq (dV 1) (zeM dAn))) (zan [] (d2 zaE (zeM (dAc (dC (.str "")) (dAc (dC (.str " ")) (dAc (dC (.str "none none")) (dAc (dC (.str "None")) (dAc (dC (.str "a")) (dAc (dC (.str "a a a")) (dAc (dC (.str "nonea")) dAn)))))))) (zaj zae (dAc (dV 2) (dAc (dC (.int 4)) (dAc (dC (.int 7)) dAn)))))) zav)
  (zax (zbn 7 (zaj zae (dAc (dV 2) (dAc (dC (.int 5)) (dAc (d1 zbV (dV 1)) dAn)))))
  (zax (zbe (dB (d2 gEq (dV 4) (dC (.int 3)))) (zan [] (d2 zac (d2 zac (dV 0) (dC (.str " "))) (d2 zaE (dV 1) (dV 7)))) zav)
  (zax (zbe (dB (d2 gEq (dV 4) (dC (.int 4)))) (zan [] (zgq (dC (.str " ")) (d2 zac (dSl zbC (dV 1) dOn (dOs (dV 7))) (dSl zbC (dV 1) (dOs (d2 zac (dV 7) (dC (.int 1)))) dOn)))) zav)
  (zax (zbe (dB (d2 gEq (dV 4) (dC (.int 5)))) (zan [] (zgq (dC (.str " ")) (d2 zac (d2 zac (dSl zbC (dV 1) dOn (dOs (dV 7))) (zeM (dAc (d2 zaE (dV 1) (zaj zae (dAc (dV 2) (dAc (dC (.int 6)) (dAc (d1 zbV (dV 1)) dAn))))) dAn))) (dSl zbC (dV 1) (dOs (d2 zac (dV 7) (dC (.int 1)))) dOn)))) zav)
  (zax (zbe (dB (d2 gEq (dV 4) (dC (.int 6)))) (zax (zbn 8 (dLC [] [none] (zcX (dC (.str "abcdefghijklmnopqrstuvwxyzabcdefghijklmnopqrstuvwxyz"))) (dGn 0) zdK (d2 zac (dC (.str "qx")) (dV 0))))
  (zan [] (zgq (dC (.str " ")) (d2 zac (dV 1) (dSl zbC (d1 zev (dV 8)) dOn (dOs (d2 zgh (dC (.int 2)) (zaj zae (dAc (dV 2) (dAc (dC (.int 7)) (dAc (dC (.int 27)) dAn))))))))))) zav)
  (zan [] (d2 zaE (zeM (dAc (d2 zac (dC (.str " ")) (dV 0)) (dAc (d2 zac (dV 0) (dC (.str " "))) (dAc (d1 (zky " " "  ") (dV 0)) (dAc (d1 zjb (dV 0)) (dAc (d2 zac (dC (.str "none ")) (dV 0)) dAn)))))) (zaj zae (dAc (dV 2) (dAc (dC (.int 8)) (dAc (dC (.int 5)) dAn)))))))))))))))))))
def zbP:List T->Option T:=fnP 9 zbc
abbrev zca[TheK](v:Ev)(k:Nat):Prop:=Cl v k "_law_changed" [nQ1,nQ5,nQ0] (spP .e 3 zbP)
theorem zfo[tk:TheK](h:Here tk.K v.mg "_law_changed" zc2 [nQ1,nQ5,nQ0])(pd:zcx v 1)(m_len:v.mg "len"=none)(m_sorted:v.mg "sorted"=none):zca v 2:=by
 refine(h.vP 1 [] zbc zcM fun nd f cdv A outer s H E hr=>?_ :);have sc:=zcM;have hu:=zj9 hr;have hu8:=zcn hr
 exact(qs_ (M':=[]) (zak (M':=[]) (zaf (i:=3) sc.nd rfl (Q0 rfl) zab))
  (qs_ (M':=[]) (zak (M':=[]) (zaf (i:=4) sc.nd rfl (Q0 rfl) (qc pd hr rfl (qa_ (qV 2) (qa_ qi_ (qa_ qi_ za3))) ar3)))
  (qs_ (M':=[]) (zak (M':=[]) (zaf (i:=5) sc.nd rfl (Q0 rfl) (qc pd hr rfl (qa_ (qV 2) (qa_ qi_ (qa_ (za6 (zbg rfl rfl m_len (qeb (qV 0))) qib) za3))) ar3)))
  (qs_ (M':=[]) (zak (M':=[]) (zaf (i:=6) sc.nd rfl (Q0 rfl) (zbr rfl hu (qV 3) (qeb (qc pd hr rfl (qa_ (qV 2) (qa_ qi_ (qa_ (zbg rfl rfl m_len (qeb (qV 3))) za3))) ar3)) (fun _ _=>rfl))))
  (qs_ (M':=[]) (zaM (M':=[]) (zc3 hu8 (qV 4) qib) (za2 (zad (za6 (za6 (zaO rfl (qV 0) zau (zaq (qV 5))) (qeb (qV 6))) (qeb (zaO rfl (qV 0) (zaq (qV 5)) zau))))) zag)
  (qs_ (M':=[]) (zaM (M':=[]) (zc3 hu8 (qV 4) qib) (za2 (zad (za6 (zaO rfl (qV 0) zau (zaq (qV 5))) (qeb (zaO rfl (qV 0) (zaq (za6 (qV 5) qib)) zau))))) zag)
  (qs_ (M':=[]) (zaM (M':=[]) (zc3 hu8 (qV 4) qib) (za2 (zad (za6 (za6 (zaO rfl (qV 0) zau (zaq (qV 5))) (qeb (qV 6))) (qeb (zaO rfl (qV 0) (zaq (za6 (qV 5) qib)) zau))))) zag)
  (qs_ (M':=[]) (zaM (M':=[]) (zc3 hu8 (qV 1) (qnb (zbk za3))) (za2 (zad (zbr rfl hu (qne (zbk (qa_ zab (qa_ zab (qa_ zab (qa_ zab (qa_ zab (qa_ zab (qa_ zab za3))))))))) (qeb (qc pd hr rfl (qa_ (qV 2) (qa_ qi_ (qa_ qi_ za3))) ar3)) (fun _ _=>rfl)))) zag)
  (qs_ (M':=[]) (zak (M':=[]) (zaf (i:=7) sc.nd rfl (Q0 rfl) (qc pd hr rfl (qa_ (qV 2) (qa_ qi_ (qa_ (zbg rfl rfl m_len (qeb (qV 1))) za3))) ar3)))
  (qs_ (M':=[]) (zaM (M':=[]) (zc3 hu8 (qV 4) qib) (za2 (zad (za6 (za6 (qV 0) (qeb zab)) (qeb (zbr rfl hu (qV 1) (qeb (qV 7)) (fun _ _=>rfl)))))) zag)
  (qs_ (M':=[]) (zaM (M':=[]) (zc3 hu8 (qV 4) qib) (za2 (zad (zeo (zbz jL Zx Zy zer zab (zb3 (qeb (za6 (zaO rfl (qV 1) zau (zaq (qV 7))) (qeb (zaO rfl (qV 1) (zaq (za6 (qV 7) qib)) zau)))) zbq))))) zag)
  (qs_ (M':=[]) (zaM (M':=[]) (zc3 hu8 (qV 4) qib) (za2 (zad (zeo (zbz jL Zx Zy zer zab (zb3 (qeb (za6 (za6 (zaO rfl (qV 1) zau (zaq (qV 7))) (qnb (zbk (qa_ (zbr rfl hu (qV 1) (qeb (qc pd hr rfl (qa_ (qV 2) (qa_ qi_ (qa_ (zbg rfl rfl m_len (qeb (qV 1))) za3))) ar3)) (fun _ _=>rfl)) za3)))) (qeb (zaO rfl (qV 1) (zaq (za6 (qV 7) qib)) zau)))) zbq))))) zag)
  (qs_ (M':=[]) (zaM (M':=[]) (zc3 hu8 (qV 4) qib) (qs_ (M':=[]) (zak (M':=[]) (zqa (znL (Mi:=[]) rfl (zb7 (i:=0)) zbE (zds (i:=8) sc.nd rfl rfl (N:=["_law_letter"]) (caps:=[none]) rfl (zbj rfl zab) (fun _ _ _ _ _=>(zao (i:=0) (show (["_law_letter"]:List Str).Nodup by decide +kernel) rfl (Q0 rfl))) zb9 (fun _ _ _ _ _=>zaN) (fun _ _ _ _ _=>(za6 zab (qeb (qV 0))))))))
  (za2 (zad (zeo (zbz jL Zx Zy zer zab (zb3 (qeb (za6 (qV 1) (qeb (zaO rfl (qne (ziu rfl rfl m_sorted (qeb (qV 8)))) zau (zaq (zch qi_ (qeb (qc pd hr rfl (qa_ (qV 2) (qa_ qi_ (qa_ qi_ za3))) ar3)))))))) zbq)))))) zag)
  (za2 (zad (zbr rfl hu (qne (zbk (zk4 (za6 zab (qeb (qV 0))) (zk5 (za6 (qV 0) (qeb zab)) (zme (zk3 (L2.zhy (y:=" ") (z:="  ") (by decide) (by decide) (qV 0).un)) (qa_ (zjZ (zm6 jL PySem.F.slot_str_upper PySem.F.type_str_upper zko (qV 0))) (qa_ (za6 zab (qeb (qV 0))) za3))))))) (qeb (qc pd hr rfl (qa_ (qV 2) (qa_ qi_ (qa_ qi_ za3))) ar3)) (fun _ _=>rfl)))))))))))))))))
abbrev zc1:QR:=top 10
theorem zf1:FnScope [nQ2] [nQ2] (za0 zc1):=scm
def zbw:DS:=(zan [] (zhS (dCh zeI zeI (dC (.int 1)) (d1 zbV (dV 0)) (dC (.int 8))) (d1 zeJ (dLC [] [none] (zcX (dV 0)) (dGn 0) zdK (dCh zeI zeI (dC (.str "a")) (dV 0) (dC (.str "z")))))))
def zai:List T->Option T:=fnP 1 zbw
abbrev zaX[TheK](v:Ev)(k:Nat):Prop:=Cl v k "is_name" [nQ2] (spP .e 1 zai)
theorem zfn[tk:TheK]{t_LONGEST_NAME:Tok}(h:Here tk.K v.mg "is_name" zc1 [nQ2])(m_all:v.mg "all"=none)(m_len:v.mg "len"=none)(c_LONGEST_NAME:v.mg "LONGEST_NAME"=some (.int 8 t_LONGEST_NAME)):zaX v 1:=by
 refine(h.vP 0 [] zbw zf1 fun nd f cdv A outer s H E hr=>?_ :);exact(za2 (zad (zl2 (zga qi_ (zbg rfl rfl m_len (qeb (qV 0))) (zff (fun _ _=>.int 8) (zcg rfl c_LONGEST_NAME ⟨_,rfl⟩))) (zl0 (zcR rfl rfl rfl m_all (qnb (zfe (Mi:=[]) rfl (zb7 (i:=0)) zbE (zcQ (N:=["sign"]) (caps:=[none]) rfl (zbj rfl (qV 0)) (fun _ _ _ _ _=>(zao (i:=0) (show (["sign"]:List Str).Nodup by decide +kernel) rfl (Q0 rfl))) zb9 (fun _ _ _ _ _=>zaN) (fun _ _ _ _ _=>(zga zab (qV 0) zab))))))))))
abbrev zc0:QR:=top 11
theorem zcL:FnScope ["some","counts",nQ2] ["some"] (za0 zc0):=scm
def zbv:DS:=(zax (zbn 1 zmN)
  (zax (zhb (zcX (dV 0)) (dGn 2)
  (zax (zbe (zeL (zeK (zaj zai (dAc (dV 2) dAn)))) (zan [] (dC (.bl false))) zav)
  (zqJ 1 (dV 2) (d2 zac (zkG 1 (dV 2) (dC (.int 0))) (dC (.int 1))))))
  (zoC 1 (zan [] (zhS (d2 gLe (d1 zbV (dV 1)) (dC (.int 30))) (d1 zeJ (dLC [] [none] (zn2 (dV 1)) (dGn 0) zdK (d2 gEq (dV 0) (dC (.int 2))))))))))
def zaG:List T->Option T:=fnP 3 zbv
abbrev zbd[TheK](v:Ev)(k:Nat):Prop:=Cl v k "is_word" ["some"] (spP .e 1 zaG)
theorem zfm[tk:TheK]{t_MOST_NAMES:Tok}(h:Here tk.K v.mg "is_word" zc0 ["some"])(pe:zaX v 1)(m_all:v.mg "all"=none)(m_len:v.mg "len"=none)(c_MOST_NAMES:v.mg "MOST_NAMES"=some (.int 30 t_MOST_NAMES)):zbd v 2:=by
 refine(h.vP 1 [] zbv zcL fun nd f cdv A outer s H E hr=>?_ :);have sc:=zcL;have hu:=zj9 hr;have hu8:=zcn hr
 exact(qs_ (M':=[1]) (zcA (M':=[1]) (zaf (i:=1) sc.nd rfl (Q0 rfl) zmb))
  (qs_ (M':=[1]) (zdr (zc4 Z6 rfl (zbj rfl (qV 0)) (zc5 (zao (i:=2) sc.nd rfl (Q0 rfl)))
  (qs_ (M':=[1]) (zaM (M':=[1]) (zbL (zbK (qeb (qc pe hr rfl (qa_ (qV 2) za3) ar1)))) (za2 (zad zmd)) zag)
  (za2 (znI rfl (zjX hu (qpv 1) (qV 2) (za6 (zm9 rfl hu (qpv 1) (qV 2) qi_ ⟨rfl,rfl,rfl,rfl⟩) qib) rfl))))))
  (za2 (zqb (i:=1) (M':=[]) (zad (zl2 (zqd (zbg rfl rfl m_len (qeb (qV 1))) (qeb (zff (fun _ _=>.int 30) (zcg rfl c_MOST_NAMES ⟨_,rfl⟩)))) (zl0 (zcR rfl rfl rfl m_all (qnb (zfe (Mi:=[]) rfl (zb7 (i:=0)) zbE (zcQ (N:=["many"]) (caps:=[none]) rfl (zm7 (qV 1)) (fun _ _ _ _ _=>(zao (i:=0) (show (["many"]:List Str).Nodup by decide +kernel) rfl (Q0 rfl))) zb9 (fun _ _ _ _ _=>zaN) (fun _ _ _ _ _=>(zma hu8 (qV 0) qib)))))))))))))
abbrev zaK:QR:=top 14
theorem zaA:FnScope [nQ2,"names"] [nQ2] (za0 zaK):=scm
def zal:DS:=(zax (zbe (dB (d2 gEq (dV 0) (dC (.str "none")))) (zan [] (zeM dAn)) zav)
  (zax (zbn 1 (zcV (dV 0) (dC (.str " "))))
  (zax (zbe (zeL (zeK (d1 zeJ (dLC [] [none] (zcX (dV 1)) (dGn 0) zdK (zaj zai (dAc (dV 0) dAn)))))) zcW zav)
  (zax (zbe (zeL (zeK (zaj zaG (dAc (dV 1) dAn)))) zcW zav)
  (zan [] (dV 1))))))
def zas:List T->Option T:=fnP 2 zal
abbrev zby[TheK](v:Ev)(k:Nat):Prop:=Cl v k nQ6 [nQ2] (spP .e 1 zas)
theorem zdQ[tk:TheK]{t_EMPTY:Tok}(h:Here tk.K v.mg nQ6 zaK [nQ2])(pe:zaX v 2)(pf:zbd v 2)(m_all:v.mg "all"=none)(c_EMPTY:v.mg "EMPTY"=some (.str "none" t_EMPTY)):zby v 3:=by
 refine(h.vP 2 [] zal zaA fun nd f cdv A outer s H E hr=>?_ :);have sc:=zaA;have hu8:=zcn hr
 exact(qs_ (M':=[]) (zaM (M':=[]) (zc3 hu8 (qV 0) (qeb (zff (fun _ _=>.str "none") (zcg rfl c_EMPTY ⟨_,rfl⟩)))) (za2 (zad (qne (zbk za3)))) zag)
  (qs_ (M':=[]) (zak (M':=[]) (zaf (i:=1) sc.nd rfl (Q0 rfl) (qne (zd6 (zbz jL Zl Zm zd7 (qV 0) (zb3 (qeb zab) zbq))))))
  (qs_ (M':=[]) (zaM (M':=[]) (zbL (zbK (qeb (zcR rfl rfl rfl m_all (qnb (zfe (Mi:=[]) rfl (zb7 (i:=0)) zbE (zcQ (N:=["name"]) (caps:=[none]) rfl (zbj rfl (qV 1)) (fun _ _ _ _ _=>(zao (i:=0) (show (["name"]:List Str).Nodup by decide +kernel) rfl (Q0 rfl))) zb9 (fun _ _ _ _ _=>zaN) (fun _ _ _ _ _=>(qc pe hr rfl (qa_ (qV 0) za3) ar1))))))))) (za2 zbS) zag)
  (qs_ (M':=[]) (zaM (M':=[]) (zbL (zbK (qeb (qc pf hr rfl (qa_ (qV 1) za3) ar1)))) (za2 zbS) zag)
  (za2 (zad (qV 1)))))))
def zaB:DR:=(zct zfD (zbe (dB (d2 gEq (dV 0) (dC (.str "none")))) (zan [] (zeM dAn)) zav)
  (zct zfD (zbn 1 (zcV (dV 0) (dC (.str " "))))
  (zct (zlp (zeL (zeK (d1 zeJ (dLC [] [none] (zcX (dV 1)) (dGn 0) zdK (zaj zai (dAc (dV 0) dAn)))))) zkF zfD) (zbe (zeL (zeK (d1 zeJ (dLC [] [none] (zcX (dV 1)) (dGn 0) zdK (zaj zai (dAc (dV 0) dAn)))))) zcW zav)
  (zct zfD (zbe (zeL (zeK (zaj zaG (dAc (dV 1) dAn)))) zcW zav)
  zfD))))
def zaI:List T->Bool:=fnR 2 zaB
abbrev zbx[TheK](v:Ev)(a:Ax)(k:Nat):Prop:=ClR v k nQ6 [nQ2] (spR a.r3 1 zaI)
theorem zdw[tk:TheK]{t_EMPTY:Tok}{a:Ax}(h:Here tk.K v.mg nQ6 zaK [nQ2])(pe:zaX v 2)(pf:zbd v 2)(m_all:v.mg "all"=none)(c_EMPTY:v.mg "EMPTY"=some (.str "none" t_EMPTY))(mt:Mt v a):zbx v a 3:=by
 obtain⟨bm,xc,_⟩:=mt.t.xc;refine(h.vR 2 _ zaB zaA fun f cdv A outer s H E hr hA=>?_ :);have sc:=zaA;have hu8:=zcn hr
 exact(zcO (rk:=.e) zcP (zaM (M':=[]) (zc3 hu8 (qV 0) (qeb (zff (fun _ _=>.str "none") (zcg rfl c_EMPTY ⟨_,rfl⟩)))) (za2 (zad (qne (zbk za3)))) zag)
  (zcO (rk:=.e) zcP (zak (M':=[]) (zaf (i:=1) sc.nd rfl (Q0 rfl) (qne (zd6 (zbz jL Zl Zm zd7 (qV 0) (zb3 (qeb zab) zbq))))))
  (zcO (rk:=.e) (znN (zbL (zbK (qeb (zcR rfl rfl rfl m_all (qnb (zfe (Mi:=[]) rfl (zb7 (i:=0)) zbE (zcQ (N:=["name"]) (caps:=[none]) rfl (zbj rfl (qV 1)) (fun _ _ _ _ _=>(zao (i:=0) (show (["name"]:List Str).Nodup by decide +kernel) rfl (Q0 rfl))) zb9 (fun _ _ _ _ _=>zaN) (fun _ _ _ _ _=>(qc pe hr rfl (qa_ (qV 0) za3) ar1))))))))) (zgN (zgM (zfa hA) rfl xc rfl mt.m3 zis)) znM) (zaM (M':=[]) (zbL (zbK (qeb (zcR rfl rfl rfl m_all (qnb (zfe (Mi:=[]) rfl (zb7 (i:=0)) zbE (zcQ (N:=["name"]) (caps:=[none]) rfl (zbj rfl (qV 1)) (fun _ _ _ _ _=>(zao (i:=0) (show (["name"]:List Str).Nodup by decide +kernel) rfl (Q0 rfl))) zb9 (fun _ _ _ _ _=>zaN) (fun _ _ _ _ _=>(qc pe hr rfl (qa_ (qV 0) za3) ar1))))))))) (za2 zbS) zag)
  (zcO (rk:=.e) zcP (zaM (M':=[]) (zbL (zbK (qeb (qc pf hr rfl (qa_ (qV 1) za3) ar1)))) (za2 zbS) zag)
  (zgN zcP)))))
abbrev zbY:QR:=zaK
def zaR:DR:=(zct zfD (zbe (dB (d2 gEq (dV 0) (dC (.str "none")))) (zan [] (zeM dAn)) zav)
  (zct zfD (zbn 1 (zcV (dV 0) (dC (.str " "))))
  (zct zfD (zbe (zeL (zeK (d1 zeJ (dLC [] [none] (zcX (dV 1)) (dGn 0) zdK (zaj zai (dAc (dV 0) dAn)))))) zcW zav)
  (zct (zlp (zeL (zeK (zaj zaG (dAc (dV 1) dAn)))) zkF zfD) (zbe (zeL (zeK (zaj zaG (dAc (dV 1) dAn)))) zcW zav)
  zfD))))
def zaL:List T->Bool:=fnR 2 zaR
abbrev zbh[TheK](v:Ev)(a:Ax)(k:Nat):Prop:=ClR v k nQ6 [nQ2] (spR a.r4 1 zaL)
theorem zcZ[tk:TheK]{t_EMPTY:Tok}{a:Ax}(h:Here tk.K v.mg nQ6 zbY [nQ2])(pe:zaX v 2)(pf:zbd v 2)(m_all:v.mg "all"=none)(c_EMPTY:v.mg "EMPTY"=some (.str "none" t_EMPTY))(mt:Mt v a):zbh v a 3:=by
 obtain⟨bm,xc,_⟩:=mt.w.xc;refine(h.vR 2 _ zaR zaA fun f cdv A outer s H E hr hA=>?_ :);have sc:=zaA;have hu8:=zcn hr
 exact(zcO (rk:=.e) zcP (zaM (M':=[]) (zc3 hu8 (qV 0) (qeb (zff (fun _ _=>.str "none") (zcg rfl c_EMPTY ⟨_,rfl⟩)))) (za2 (zad (qne (zbk za3)))) zag)
  (zcO (rk:=.e) zcP (zak (M':=[]) (zaf (i:=1) sc.nd rfl (Q0 rfl) (qne (zd6 (zbz jL Zl Zm zd7 (qV 0) (zb3 (qeb zab) zbq))))))
  (zcO (rk:=.e) zcP (zaM (M':=[]) (zbL (zbK (qeb (zcR rfl rfl rfl m_all (qnb (zfe (Mi:=[]) rfl (zb7 (i:=0)) zbE (zcQ (N:=["name"]) (caps:=[none]) rfl (zbj rfl (qV 1)) (fun _ _ _ _ _=>(zao (i:=0) (show (["name"]:List Str).Nodup by decide +kernel) rfl (Q0 rfl))) zb9 (fun _ _ _ _ _=>zaN) (fun _ _ _ _ _=>(qc pe hr rfl (qa_ (qV 0) za3) ar1))))))))) (za2 zbS) zag)
  (zcO (rk:=.e) (znN (zbL (zbK (qeb (qc pf hr rfl (qa_ (qV 1) za3) ar1)))) (zgN (zgM (zfa hA) rfl xc rfl mt.m4 zis)) znM) (zaM (M':=[]) (zbL (zbK (qeb (qc pf hr rfl (qa_ (qV 1) za3) ar1)))) (za2 zbS) zag)
  (zgN zcP)))))
abbrev zeh:QR:=top 24
theorem zik:FnScope [nQ1,"e"] [nQ1] (za0 zeh):=scm
def zb0:List T->Option T:=fun ts=>match zas ts with
 |some t=>some (.tup [.str "told",t])
 |none=>if zaI ts=true then some (.tup [.str "text",.non]) else if zaL ts=true then some (.tup [.str "word",.non]) else none
abbrev zeF[TheK](v:Ev)(k:Nat):Prop:=Cl v k "_law_told" [nQ1] (spP .e 1 zb0)
theorem zhC[tk:TheK]{a:Ax}(h:Here tk.K v.mg "_law_told" zeh [nQ1])(pN:zby v 3)(pw:zbx v a 3)(me:zbh v a 3)(m_isinstance:v.mg "isinstance"=none)(m_ValueError:v.mg "ValueError"=none)(m_int:v.mg "int"=none)(mt:Mt v a):zeF v 4:=by
 obtain⟨f1,fd1,G1,b1,k1,m1⟩:=pN;obtain⟨f2,fd2,G2,b2,k2,m2⟩:=pw;obtain⟨f3,fd3,G3,b3,k3,m3⟩:=me;obtain⟨bmD,xd,_⟩:=mt.xd;have sc:=zik;refine h.okX (CX:=CX0) sc (fun vs H Q E ⟨C,ts,t,hl,r,_⟩=>by rw[r.1,hl]; rfl) fun f cdv A outer s H vs Q E hr hA hs=>?_
 refine⟨_,zk8 (ziw (i:=1) (bmD:=bmD) (tb:=fun E'=>fun D' σ' H'=>zoV (zoU (zb8 (tC (.str "told")) (zb8 (zg1 (spP .e 1 zas) [] E0 (zb8 (zcY 0) zfT)) zfT))) D' σ' H'∨(zoV (zoU (zb8 (tC (.str "told")) (zb8 (zg1 (spR a.r3 1 zaI) [] E' (zb8 (zcY 0) zfT)) zfT))) D' σ' H'∨zoV (zoU (zb8 (tC (.str "told")) (zb8 (zg1 (spR a.r4 1 zaL) [] E' (zb8 (zcY 0) zfT)) zfT))) D' σ' H'))
  (fun W E' hp=>zl6 (zbM (zcS (zcT (za8 zck (za8 (zcC G1 hr rfl m1 k1 b1 .nil zkh (za8 (pv 0) zaz)) zaz))))) (zl6 (zbM (zcS (zcT (za8 zck (za8 (zcC G2 hr rfl m2 k2 b2 .nil hp (za8 (pv 0) zaz)) zaz))))) (zbM (zcS (zcT (za8 zck (za8 (zcC G3 hr rfl m3 k3 b3 .nil hp (za8 (pv 0) zaz)) zaz)))))))
  rfl rfl rfl rfl sc.nd rfl rfl rfl mt.mD xd
  (fun x=>zci (zkc (PW.pt (znO (zl4 (zaY zjA rfl m_isinstance zaU (za8 (pv 1) (za8 (zcT (za8 (zc6 (v:=.ref a.C) rfl mt.mC rfl) (za8 (zc6 (v:=.ref a.r1) rfl mt.m1 rfl) (za8 (zc6 (v:=.ref a.r2) rfl mt.m2 rfl) zaz)))) zaz)))) (zl3 (zl5 (zl4 (zaY zde rfl m_isinstance zaU (za8 (pv 1) (za8 (zmr (v:=.ty "ValueError") rfl m_ValueError (by decide +kernel) rfl) zaz)))))))) (zbM (zcS (zcT (za8 zck (za8 zgP zaz))))) zgb)
   (zci (zkc (zcB zqj (zaY zde rfl m_isinstance zaU (za8 (pv 1) (za8 (zc6 (v:=.ref a.r3) rfl mt.m3 rfl) zaz))) (zaY zde rfl m_isinstance zaU (za8 (pv 1) (za8 (zc6 (v:=.ref a.r4) rfl mt.m4 rfl) zaz))) (zdx _)) (zbM (zcS (zcT (za8 zck (za8 zgP zaz))))) zgb)
   (zbM (zcS (zcT (za8 (zmq ix_list (zl8 (za8 zck (za8 zck zaz))) (zfi zjB rfl m_int zoL (za8 (zaY zde rfl m_isinstance zaU (za8 (pv 1) (za8 (zc6 (v:=.ref a.r3) rfl mt.m3 rfl) zaz))) zaz)) (fun _ _=>rfl)) (za8 zgP zaz)))))))),?_⟩
 obtain⟨C',ts,t,hl,r,hf,q⟩:=hs;obtain⟨v0,rfl⟩:∃ v0,vs=[v0]:=by
  match vs,(r.1.trans hl) with
  |[v0],_=>exact⟨v0,rfl⟩
 have uk:∀ {H:Hp} {a:ji} {o:HO},H a=none->∀ b u,H b=some u->upd H a o b=some u:=fun h b u e=>by rw[za1 (zaa e h)]; exact e
 unfold zb0 at hf;split at hf
 ·rename_i t' ht;obtain rfl:=jg hf;refine .inl ⟨_,rfl,C',ts,t',hl,r,ht,fun v1 H1 c=>⟨by show 2<=ja; decide,fun p hp=>?_⟩⟩
  have kb:∀ b o,H1 b=some o->upd H1 p (.tup [.str "told",v1]) b=some o:=fun b o e=>by rw[za1 (fun z=>by rw[z,hp] at e; cases e)]; exact e
  refine q _ _ ⟨fun b o e=>kb b o (c.keep b o e),fun b e=>c.dom b (zb6 e),.tup (.inr (c.dom p hp)) za5 rfl fun i u t e1 e2=>?_⟩
  match i,e1,e2 with
  |0,e1,e2=>cases e1; cases e2; exact .str _
  |1,e1,e2=>cases e1; cases e2; exact c.res.mono (fun _ z=>z) fun b o _ e=>kb b o e
 ·split at hf
  ·rename_i hrs;obtain rfl:=jg hf;obtain⟨bm,xc,hcD⟩:=mt.t.xc;refine .inr (.inl ⟨_,rfl,C',ts,hl,r,hrs,fun H' kp dm=>⟨a.r3,bm,rfl,xc,hcD,fun x hx=>?_⟩⟩);refine⟨_,rfl,by show 3<=ja; decide,fun p hp=>?_⟩
   have hxp:x≠p:=fun z=>by rw[<-z,za5] at hp; cases hp
   have hx1:∀ {o:HO},upd (upd H' x (zhY x a.r3)) p o x=some (zhY x a.r3):=fun {o}=>by rw[za1 hxp]; exact za5
   refine⟨x,a.r3,p,[a.C,a.r1,a.r2],false,rfl,hx1,mt.t.xi,za5,mt.t.no,false,rfl,?_⟩;refine⟨_,rfl,x,a.r3,.ty "ValueError",.type "ValueError",true,rfl,rfl,hx1,mt.t.xi,mt.t.ve,true,rfl,?_⟩;refine⟨_,rfl,x,a.r3,.ref a.r3,.ref a.r3,true,rfl,rfl,hx1,mt.t.xi,mt.t.se,?_⟩;refine⟨_,rfl,x,a.r3,.ref a.r4,.ref a.r4,false,rfl,rfl,hx1,mt.t.xi,mt.t.ot,rfl,false,rfl,?_⟩;refine⟨by show 2<=ja; decide,fun p2 hp2=>?_⟩
   have hx2:∀ {o2:HO},upd (upd (upd H' x (zhY x a.r3)) p (.tup [.ref a.C,.ref a.r1,.ref a.r2])) p2 o2 x=some (zhY x a.r3):=fun {o2}=>by rw[za1 (fun z=>by rw[<-z,hx1] at hp2; cases hp2)]; exact hx1
   refine⟨_,rfl,x,a.r3,.ref a.r3,.ref a.r3,true,rfl,rfl,hx2,mt.t.xi,mt.t.se,.inr ⟨true,rfl,?_⟩⟩;refine⟨p2,[.str "word",.str "text"],_,.str "text",rfl,rfl,SqL.of za5,rfl,by show 2<=ja; decide,fun p3 hp3=>?_⟩
   refine q _ _ ⟨fun b o e=>uk hp3 _ _ (uk hp2 _ _ (uk hp _ _ (uk hx _ _ (kp b o e)))),fun b e=>dm b (zb6 (zb6 (zb6 (zb6 e)))),.tup (.inr (dm p3 (zb6 (zb6 (zb6 hp3))))) za5 rfl fun i u t e1 e2=>?_⟩
   match i,e1,e2 with
   |0,e1,e2=>cases e1; cases e2; exact .str _
   |1,e1,e2=>cases e1; cases e2; exact .non
  ·split at hf
   case isFalse=>cases hf
   rename_i hrs;obtain rfl:=jg hf;obtain⟨bm,xc,hcD⟩:=mt.w.xc;refine .inr (.inr ⟨_,rfl,C',ts,hl,r,hrs,fun H' kp dm=>⟨a.r4,bm,rfl,xc,hcD,fun x hx=>?_⟩⟩);refine⟨_,rfl,by show 3<=ja; decide,fun p hp=>?_⟩
   have hxp:x≠p:=fun z=>by rw[<-z,za5] at hp; cases hp
   have hx1:∀ {o:HO},upd (upd H' x (zhY x a.r4)) p o x=some (zhY x a.r4):=fun {o}=>by rw[za1 hxp]; exact za5
   refine⟨x,a.r4,p,[a.C,a.r1,a.r2],false,rfl,hx1,mt.w.xi,za5,mt.w.no,false,rfl,?_⟩;refine⟨_,rfl,x,a.r4,.ty "ValueError",.type "ValueError",true,rfl,rfl,hx1,mt.w.xi,mt.w.ve,true,rfl,?_⟩;refine⟨_,rfl,x,a.r4,.ref a.r3,.ref a.r3,false,rfl,rfl,hx1,mt.w.xi,mt.w.ot,?_⟩;refine⟨_,rfl,x,a.r4,.ref a.r4,.ref a.r4,true,rfl,rfl,hx1,mt.w.xi,mt.w.se,rfl,false,rfl,?_⟩;refine⟨by show 2<=ja; decide,fun p2 hp2=>?_⟩
   have hx2:∀ {o2:HO},upd (upd (upd H' x (zhY x a.r4)) p (.tup [.ref a.C,.ref a.r1,.ref a.r2])) p2 o2 x=some (zhY x a.r4):=fun {o2}=>by rw[za1 (fun z=>by rw[<-z,hx1] at hp2; cases hp2)]; exact hx1
   refine⟨_,rfl,x,a.r4,.ref a.r3,.ref a.r3,false,rfl,rfl,hx2,mt.w.xi,mt.w.ot,.inr ⟨false,rfl,?_⟩⟩;refine⟨p2,[.str "word",.str "text"],_,.str "word",rfl,rfl,SqL.of za5,rfl,by show 2<=ja; decide,fun p3 hp3=>?_⟩
   refine q _ _ ⟨fun b o e=>uk hp3 _ _ (uk hp2 _ _ (uk hp _ _ (uk hx _ _ (kp b o e)))),fun b e=>dm b (zb6 (zb6 (zb6 (zb6 e)))),.tup (.inr (dm p3 (zb6 (zb6 (zb6 hp3))))) za5 rfl fun i u t e1 e2=>?_⟩
   match i,e1,e2 with
   |0,e1,e2=>cases e1; cases e2; exact .str _
   |1,e1,e2=>cases e1; cases e2; exact .non
abbrev zdn:QR:=top 21
theorem zht:FnScope [nQ0,zp0] [nQ0,zp0] (za0 zdn):=scm
def zcs:DS:=(zax (zbe (dB (d2 gEq (zaj zae (dAc (dV 0) (dAc (dC (.int 14)) (dAc (dC (.int 4)) dAn)))) (dC (.int 0)))) (zan [] (zaj zae (dAc (dV 0) (dAc (dC (.int 15)) (dAc (d2 zac (dV 1) (dC (.int 1))) dAn))))) zav)
  (zan [] (zaj zae (dAc (dV 0) (dAc (dC (.int 16)) (dAc (d2 zac (dA2 zp1 (dAc (dV 1) (dAc (dC (.int 8)) dAn))) (dC (.int 1))) dAn))))))
def zbm:List T->Option T:=fnP 2 zcs
abbrev zdO[TheK](v:Ev)(k:Nat):Prop:=Cl v k "_law_count" [nQ0,zp0] (spP .e 2 zbm)
theorem zhB[tk:TheK](h:Here tk.K v.mg "_law_count" zdn [nQ0,zp0])(pd:zcx v 1)(m_min:v.mg "min"=none):zdO v 2:=by
 refine(h.vP 1 [] zcs zht fun nd f cdv A outer s H E hr=>?_ :);have hu8:=zcn hr
 exact(qs_ (M':=[]) (zaM (M':=[]) (zc3 hu8 (qc pd hr rfl (qa_ (qV 0) (qa_ qi_ (qa_ qi_ za3))) ar3) qib) (za2 (zad (qc pd hr rfl (qa_ (qV 0) (qa_ qi_ (qa_ (za6 (qV 1) qib) za3))) ar3))) zag)
  (za2 (zad (qc pd hr rfl (qa_ (qV 0) (qa_ qi_ (qa_ (za6 (zm8 rfl rfl m_min zoK (qa_ (qV 1) (qa_ qi_ za3))) qib) za3))) ar3))))
abbrev zg4:QR:=top 23
theorem zgI:FnScope [nQ1,"_law_some","_law_name","_law_known"] [nQ1] (za0 zg4):=scm
def zeB:DS:=(zax (zbn 1 (zcV (dV 0) (dC (.str " "))))
  (zax (zbe (dB (d2 gEq (dV 0) (dC (.str "none")))) (zan [] (zmK (dAc (dC (.str "told")) (dAc (zeM dAn) dAn)))) zav)
  (zax (zhb (zcX (dV 1)) (dGn 2)
  (zbe (dOr (dB (d2 gLt (d1 zbV (dV 2)) (dC (.int 1)))) (dOr (dB (d2 gGt (d1 zbV (dV 2)) (dC (.int 8)))) (zeL (zeK (d1 zeJ (dLC [] [none] (zcX (dV 2)) (dGn 0) zdK (dCh zeI zeI (dC (.str "a")) (dV 0) (dC (.str "z"))))))))) (zan [] (zmK (dAc (dC (.str "text")) (dAc (dC .non) dAn)))) zav))
  (zax (zbn 3 (d1 zew (dV 1)))
  (zax (zbe (dOr (dB (d2 gGt (d1 zbV (dV 3)) (dC (.int 30)))) (zeL (zeK (d1 zeJ (dLC [] [none,some 1] (zcX (dV 3)) (dGn 0) zdK (d2 gEq (d2L ze7 (dV 1) (dV 0)) (dC (.int 2)))))))) (zan [] (zmK (dAc (dC (.str "word")) (dAc (dC .non) dAn)))) zav)
  (zan [] (zmK (dAc (dC (.str "told")) (dAc (dV 1) dAn)))))))))
def zco:List T->Option T:=fnP 4 zeB
abbrev zgz[TheK](v:Ev)(k:Nat):Prop:=Cl v k "_law_own" [nQ1] (spP .e 1 zco)
theorem zkl[tk:TheK](h:Here tk.K v.mg "_law_own" zg4 [nQ1])(m_all:v.mg "all"=none)(m_len:v.mg "len"=none)(m_sorted:v.mg "sorted"=none)(m_set:v.mg "set"=none):zgz v 1:=by
 refine(h.vP 0 [] zeB zgI fun nd f cdv A outer s H E hr=>?_ :);have sc:=zgI;have hu8:=zcn hr
 exact(qs_ (M':=[]) (zak (M':=[]) (zaf (i:=1) sc.nd rfl (YX rfl) (qne (zd6 (zbz jL Zl Zm zd7 (qV 0) (zb3 (qeb zab) zbq))))))
  (qs_ (M':=[]) (zaM (M':=[]) (zc3 hu8 (qV 0) (qeb zab)) (za2 (zad (zfc (qa_ zab (qa_ (qne (zbk za3)) za3))))) zag)
  (qs_ (M':=[]) (zdr (zc4 Z6 rfl (zbj rfl (qV 1)) (zc5 (zao (i:=2) sc.nd rfl (Q0 rfl)))
  (za2 (zaM (M':=[]) (QW.pt (zm3 (znH (zbg rfl rfl m_len (qeb (qV 2))) qib) (zm3 (zm4 (zbg rfl rfl m_len (qeb (qV 2))) qib) (zkX (zbL (zbK (qeb (zcR rfl rfl rfl m_all (qnb (zfe (Mi:=[]) rfl (zb7 (i:=0)) zbE (zcQ (N:=["_law_sign"]) (caps:=[none]) rfl (zbj rfl (qV 2)) (fun _ _ _ _ _=>(zao (i:=0) (show (["_law_sign"]:List Str).Nodup by decide +kernel) rfl (Q0 rfl))) zb9 (fun _ _ _ _ _=>zaN) (fun _ _ _ _ _=>(zga zab (qV 0) zab))))))))))))) (za2 (zad (zfc (qa_ zab (qa_ zl1 za3))))) zag))))
  (qs_ (M':=[]) (zak (M':=[]) (zaf (i:=3) sc.nd rfl (Q0 rfl) (qne (zhw rfl rfl m_sorted rfl m_set (qeb (qV 1))))))
  (qs_ (M':=[]) (zaM (M':=[]) (QW.pt (zm3 (zm4 (zbg rfl rfl m_len (qeb (qV 3))) qib) (zkX (zbL (zbK (qeb (zcR rfl rfl rfl m_all (qnb (zfe (Mi:=[]) rfl (zb7 (i:=0)) zbE (zcQ (N:=["_law_name","_law_some"]) (caps:=[none,some 1]) rfl (zbj rfl (qV 3)) (fun _ _ _ _ _=>(zao (i:=0) (show (["_law_name","_law_some"]:List Str).Nodup by decide +kernel) rfl (Q0 rfl))) zb9 (fun _ _ _ _ _=>zaN) (fun _ _ _ _ _=>(zma hu8 (zk0 (zbz Zf PySem.F.slot_list_count PySem.F.type_list_count ziR (qV 1) (zb3 (qeb (qV 0)) zbq))) qib)))))))))))) (za2 (zad (zfc (qa_ zab (qa_ zl1 za3))))) zag)
  (za2 (zad (zfc (qa_ zab (qa_ (qV 1) za3))))))))))
abbrev zlU:QR:=top 26
theorem zkV:FnScope [nQ4,"_law_head",nQ5,nQ1,nQ0,"_law_here"] [nQ4] (za0 zlU):=scm
def zkE:DS:=(zax (zbn 1 (zaj zbb (dAc (dV 0) (dAc (dC (.int 0)) dAn))))
  (zax (zbn 2 (zaj zdG (dAc (zaj zbb (dAc (dV 0) (dAc (dC (.int 1)) dAn))) (dAc (zaj zcG (dAc (dV 1) (dAc (zaj zbm (dAc (dV 1) (dAc (dC (.int 30)) dAn))) dAn))) dAn))))
  (zax (zbn 3 (zgq (dC (.str " ")) (dV 2)))
  (zax (zbe (dB (d2 gEq (dV 2) (zeM dAn))) (zbn 3 (dC (.str "none"))) zav)
  (zax (zhb (zcX (d2 zac (zeM (dAc (d2 zac (dV 1) (dC (.int 1))) dAn)) (dSl zbC (dV 0) (dOs (dC (.int 2))) (dOs (dC (.int 11)))))) (dGn 4)
  (zax (zbn 5 (zaj zbP (dAc (dV 3) (dAc (dV 2) (dAc (dV 4) dAn)))))
  (zbe (dB (d2 gNe (zaj zb0 (dAc (dV 5) dAn)) (zaj zco (dAc (dV 5) dAn)))) (zan [] (dC (.bl false))) zav)))
  (zax (zhb (zcX (zeM (dAc (dC (.str "")) (dAc (dC (.str " ")) (dAc (dC (.str "a")) (dAc (dC (.str "a a")) (dAc (dC (.str "a b a b")) (dAc (dC (.str "a a a a")) (dAc (dC (.str "a  a")) (dAc (dC (.str "a b b")) (dAc (dC (.str "abcdefghi abcdefghi")) (dAc (dC (.str "none none")) dAn)))))))))))) (dGn 5)
  (zbe (dB (d2 gNe (zaj zb0 (dAc (dV 5) dAn)) (zaj zco (dAc (dV 5) dAn)))) (zan [] (dC (.bl false))) zav))
  (zan [] (d2 gEq (zaj zb0 (dAc (dV 3) dAn)) (zmK (dAc (dC (.str "told")) (dAc (dV 2) dAn)))))))))))
def zor:List T->Option T:=fnP 6 zkE
theorem zqM[tk:TheK](pz:zeH v 4)(p8:zeE v 4)(pS:zdN v 4)(pF:zdO v 4)(pE:zca v 4)(px:zgz v 4)(pi:zeF v 4)  :QBody tk v.P v.w v.mg v.base 4 "law" zlU [nQ4,"_law_head",nQ5,nQ1,nQ0,"_law_here"] (cS .e [] [] [] [] zkE):=by
 intro f cdv A outer s H E hr;have sc:=zkV;have hu8:=zcn hr
 exact(qs_ (M':=[]) (zak (M':=[]) (zaf (i:=1) sc.nd rfl (Q0 rfl) (qc pz hr rfl (qa_ (qV 0) (qa_ qi_ za3)) ar2)))
  (qs_ (M':=[]) (zak (M':=[]) (zaf (i:=2) sc.nd rfl (Q0 rfl) (qc p8 hr rfl (qa_ (qc pz hr rfl (qa_ (qV 0) (qa_ qi_ za3)) ar2) (qa_ (qc pS hr rfl (qa_ (qV 1) (qa_ (qc pF hr rfl (qa_ (qV 1) (qa_ qi_ za3)) ar2) za3)) ar2) za3)) ar2)))
  (qs_ (M':=[]) (zak (M':=[]) (zaf (i:=3) sc.nd rfl (Q0 rfl) (zeo (zbz jL Zx Zy zer zab (zb3 (qeb (qV 2)) zbq)))))
  (qs_ (M':=[]) (zaM (M':=[]) (zc3 hu8 (qV 2) (qnb (zbk za3))) (za2 (zak (M':=[]) (zaf (i:=3) sc.nd rfl (Q0 rfl) zab))) zag)
  (qs_ (M':=[]) (zdr (zc4 Z6 rfl (zbj rfl (za6 (qne (zbk (qa_ (za6 (qV 1) qib) za3))) (qeb (zaO rfl (qV 0) (zaq qi_) (zaq qi_))))) (zc5 (zao (i:=4) sc.nd rfl (Q0 rfl)))
  (qs_ (M':=[]) (zak (M':=[]) (zaf (i:=5) sc.nd rfl (Q0 rfl) (qc pE hr rfl (qa_ (qV 3) (qa_ (qV 2) (qa_ (qV 4) za3))) ar3)))
  (za2 (zaM (M':=[]) (znG hu8 (qc pi hr rfl (qa_ (qV 5) za3) ar1) (qeb (qc px hr rfl (qa_ (qV 5) za3) ar1))) (za2 (zad zmd)) zag)))))
  (qs_ (M':=[]) (zdr (zc4 Z6 rfl (zbj rfl (qne (zbk (qa_ zab (qa_ zab (qa_ zab (qa_ zab (qa_ zab (qa_ zab (qa_ zab (qa_ zab (qa_ zab (qa_ zab za3))))))))))))) (zc5 (zao (i:=5) sc.nd rfl (Q0 rfl)))
  (za2 (zaM (M':=[]) (znG hu8 (qc pi hr rfl (qa_ (qV 5) za3) ar1) (qeb (qc px hr rfl (qa_ (qV 5) za3) ar1))) (za2 (zad zmd)) zag))))
  (za2 (zad (zma hu8 (qc pi hr rfl (qa_ (qV 3) za3) ar1) (qeb (zfc (qa_ zab (qa_ (qV 2) za3)))))))))))))
end Dw
set_option maxHeartbeats 1000000
namespace Dw
open PySem L2 L3
theorem zaF(c turn many:Int)(h0:0<=turn)(h1:turn<=1000)(hm:0 < many):∃ z:Int,zae [.int c,.int turn,.int many]=some (.int z)/\0<=z/\z < many:=by
 have m1:zfV (c%2147483647+7) (48271+7919*turn)=true:=by unfold zfV; rw[jX,decide_eq_true_iff]; left; lia
 have m2:zfV 7919 turn=true:=by unfold zfV; rw[jX,decide_eq_true_iff]; left; lia
 have m3:zfV ((c%2147483647+7)*(48271+7919*turn)%2147483647) 16807=true:=by unfold zfV; rw[jX,decide_eq_true_iff]; left; lia
 refine⟨(c%2147483647+7)*(48271+7919*turn)%2147483647*16807%2147483647 / 8%many,?_,g4 _ (by lia),Zn _ hm⟩
 unfold zae fnP zeA;simp[zax,zbn,zan,dV,dC,d2,zex,zgh,zh6,zac,orG,zjH,gI,zay,hasAll,zn4,zn5,m1,m2,m3,hm]
theorem zjw(ns:List Int)(k:Nat):zbb [.scr ns,.int k]=some (.int (ns.getD k 0)):=by
 unfold zbb fnP zeC
 by_cases h:k < ns.length
 ·have e:atI ns (k:Int)=some ns[k]:=zoN (j3 h);simp[zax,zav,zbe,zan,dV,dC,d2,d1,dB,gLt,zn0,zbV,zaE,orG,gIx,zay,hasAll,h,e]
 ·simp[zax,zav,zbe,zan,dV,dC,d2,d1,dB,gLt,zn0,zbV,zaE,orG,gIx,zay,hasAll,h]
structure Bag2 where
 (a b:Int)
def Bag2.t(x:Bag2):T:=.lst [.int x.a,.int x.b]
structure Bag2.Ok (x:Bag2):Prop where
 b0:0<=x.b
 b1:x.b < 2147483647
theorem zmV(n:Int):∃ x:Bag2,zd9 [.int n]=some x.t/\x.Ok:=by
 have m1:zfV (n / 2) (n%2)=true:=by unfold zfV; rw[jX,decide_eq_true_iff,decide_eq_true_iff]; right; lia
 have q2:2<=ja:=zam (by lia)
 refine⟨⟨n / 2*(n%2),n / 2%2147483647⟩,?_,⟨g4 _ (by lia),Zn _ (by lia)⟩⟩
 simp[zd9,zn1,zgp,zay,zan,zeM,dAc,dAn,d2,dV,dC,zgh,zh6,zex,gI,zn5,zn4,m1,hasAll,q2,Bag2.t]
theorem zmF{x:Bag2}(h:x.Ok)(n:Int)(hn:0 < n)(hn2:n < 1073741824):∃(z:Int) (y:Bag2),zbO [x.t,.int n]=some (.int z,y.t)/\y.Ok/\0<=z/\z < n:=by
 have h0:=h.b0;have h1:=h.b1;have m1:zfV x.b 48271=true:=by unfold zfV; rw[jX,decide_eq_true_iff]; left; lia
 have m2:zfV ((x.b*48271+4099)%2147483647) ((x.b*48271+4099)%2147483647 / 65536+7)=true:=by unfold zfV; rw[jX,decide_eq_true_iff]; left; lia
 by_cases hp:0 < x.a
 ·refine⟨x.a%n,⟨x.a / n,x.b⟩,?_,⟨h0,h1⟩,g4 _ (by lia),Zn _ hn⟩
  unfold zbO fnI zdd Bag2.t;simp[zax,zav,zbe,zbn,zfC,zan,dV,dC,d2,d2v,d1,dB,gGt,gI1,zaE,orG,gIx,zex,zh6,gI,zn4,zn5,zay,hasAll,atI,ixN,hp,hn,hn2]
 ·refine⟨(x.b*48271+4099)%2147483647*((x.b*48271+4099)%2147483647 / 65536+7)%2147483629 / 32%n,⟨x.a,(x.b*48271+4099)%2147483647⟩,?_,⟨g4 _ (by lia),Zn _ (by lia)⟩,g4 _ (by lia),Zn _ hn⟩
  unfold zbO fnI zdd Bag2.t;simp[zax,zav,zbe,zbn,zfC,zan,dV,dC,d2,d2v,d1,dB,gGt,gI1,zaE,orG,gIx,zex,zh6,zgh,zac,zjH,gI,zn4,zn5,zay,hasAll,atI,ixN,hp,m1,m2,hn,hn2]
theorem zjv(c:Int){M:Nat}(hM:M<=30)(h8:8<=M):∃ m:Nat,zbm [.int c,.int M]=some (.int m)/\m<=M:=by
 obtain⟨z,e,_,_⟩:=zaF c 14 4 (by decide) (by decide) (by decide)
 obtain⟨z1,e1,a1,b1⟩:=zaF c 15 ((M:Int)+1) (by decide) (by decide) (by lia)
 obtain⟨z2,e2,a2,b2⟩:=zaF c 16 9 (by decide) (by decide) (by decide)
 have hmin:zp1 (M:Int) 8=8:=by unfold zp1; split<;>lia
 unfold zbm
 by_cases h:z=0
 ·refine⟨z1.toNat,?_,by lia⟩
  rw[Nu a1];simp[fnP,zcs,zax,zav,zbe,zan,dV,dC,d2,dB,gEq,zaj,dAc,dAn,zac,orG,zjH,zay,hasAll,e,e1,zdI,h]
 ·refine⟨z2.toNat,?_,by lia⟩
  rw[Nu a2];simp[fnP,zcs,zax,zav,zbe,zan,dV,dC,d2,dB,gEq,zaj,dAc,dAn,zac,orG,zjH,dA2,hmin,zay,hasAll,e,e2,zdI,h]
theorem zkI(c:Int):∃ m:Nat,zbm [.int c,.int 30]=some (.int m)/\m<=30:=zjv c (M:=30) (by decide) (by decide)
end Dw
local macro_rules | `(tactic| simp? [$args,*]) => `(tactic| simp (disch := (first | lia | (simp only [List.length_map, List.length_append, List.length_cons, List.length_nil, List.length_reverse, List.length_range, List.length_set, List.length_take, List.length_drop, List.length_zipIdx]; lia))) only [L3.vdV, L3.vdC, L3.vd2, L3.zrh, L3.vdB, L3.zpd, L3.zr8, L3.zpk, L3.znl, L3.zre, L3.zrf, L3.zpm, L3.zpc, L3.znj, L3.zr9, L3.zr7, L3.zr6, L3.zpe, L3.zpg, L3.zng, L3.zpf, L3.zpq, L3.zrc, L3.znf, L3.zpl, L3.zpj, L3.zne, L3.zpi, L3.zph, L3.zrb, L3.znk, L3.zly, L3.vd1, L3.zrg, L3.znh, L3.zri, L3.zpp, L3.zrd, L3.zra, L3.zpo, L3.zpr, L3.zpn, L3.zni, L3.zlx, L3.zpb, L3.vnT, L3.znn, L3.zi4, L3.zpF, L3.vSb, L3.zrn, L3.zrv, L3.zro, L3.zrj, L3.vLt, L3.vLe, L3.vGt, L3.vGe, L3.zrt, L3.zrl, L3.zru, L3.zrm, L3.zrs, L3.zrk, L3.zlH, L3.zpy, L3.zpE, L3.zpz, L3.zpC, L3.zpA, L3.zpD, L3.zpB, L3.zgE, L3.znr, L3.zlF, L3.zlG, L3.zpx, L3.zpv, L3.zpw, L3.znp, L3.zno, L3.zpG, L3.zpH, L3.zlA, L3.zrp, L3.zrq, L3.zlB, L3.zrr, L3.zlC, L3.zlI, L3.zna, L3.znb, L3.znc, L3.znd, L3.zn8, L3.zn9, L3.zhK, L3.zpu, L3.zpt, L3.zps, L3.zpJ, L3.zpI, L3.zj5, L3.zpa, L3.sz0, L3.sz1, L3.sz2, L3.sz3, L3.sz4, List.getElem?_cons_zero, List.getElem?_cons_succ, L3.zmv, Option.bind_some, Option.map_some, List.set_cons_succ, List.set_cons_zero, List.length_cons, List.length_nil, List.length_map, if_true, if_false, Bool.not_true, Bool.not_false, decide_true, decide_false, Bool.false_eq_true, L3.zkU, L3.zol, Nat.reduceAdd, Nat.reduceLT, Int.zero_add, $args,*])
namespace Dw
open PySem L2 L3
theorem zfA{α β:Type}(f:α->β):∀(l:List α) (n:Nat),(l.map f).eraseIdx n=(l.eraseIdx n).map f
 |[],_=>rfl
 |_::_,0=>rfl
 |a::l,n+1=>congrArg (f a::·) (zfA f l n)
theorem zl7{xs:List T}{i:Int}{y:T}(h0:0<=i)(h1:i<=1000000)(h:xs[i.toNat]?=some y):zcm (.lst xs) [.int i]=some (.lst (xs.eraseIdx i.toNat),y):=by
 simp[zcm,h0,h1,h]
theorem zlf{n j:Nat}(h:j < n):ixN n (j:Int)=some j:=by simp[ixN,h]
theorem zcl:∀ {l:List Nat} {n:Nat},l.Nodup->(h:n < l.length)->l[n]∉l.eraseIdx n
 |[],_,_,h=>absurd h (gL _)
 |a::l,0,hd,_=>by rw[Qg] at hd; exact hd.1
 |a::l,n+1,hd,h=>by
  rw[Qg] at hd;have h':n < l.length:=by simpa using h
  rw[List.getElem_cons_succ,List.eraseIdx_cons_succ,jA];rintro(z |z)
  ·exact hd.1 (z▸Q8 h')
  ·exact zcl hd.2 h' z
def nmO(names:List Str):Option Nat->Str
 |none=>Zu ""
 |some k=>names.getD k Qh
theorem zjI(c:Int){names:List Str}(hn:names.length<=30)(hd:names.Nodup)(hN:∀ x∈names,zbp x):∃ wd:List Str,zdG [.int c,.lst (names.map T.str)]=some (.lst (wd.map T.str))/\GoodWord wd/\wd.length=2*names.length/\∀ x∈wd,x∈names:=by
 obtain⟨B,eb,ob⟩:=zmV c;have hr:zf6 (2*((names.length:Nat):Int))=true:=zdp (by lia) (by lia)
 have e2:(2*((names.length:Nat):Int)).toNat=2*names.length:=by lia
 obtain⟨t,e,wd,rfl,gw⟩:=zgi (n:=8) (d:=zdc) (ts:=[.int c,.lst (names.map T.str)]) (Q:=fun t=>∃ wd:List Str,t=.lst (wd.map T.str)/\GoodWord wd/\wd.length=2*names.length/\∀ x∈wd,x∈names) (by
  unfold zdc;show Run _ [some (.int c),some (.lst (names.map T.str)),none,none,none,none,none,none] _;refine zah (by simp?[eb]<;>rfl) (zah (by simp?[hr,e2,zjW]<;>rfl) ?_)
  have l1:=zbN (M:=[2,3]) (caps:=[none]) (fi:=zmM 3) (dg:=dGn 0) (fe:=dC (.str "")) (s:=[some (.int c),some (.lst (names.map T.str)),some B.t,some (.lst ((jK (2*names.length)).map nT)),none,none,none,none]) (jK (2*names.length)) nT (fun _=>.str "") (by simp?[]) (by simp; lia) (fun z _=>⟨[some (nT z)],rfl,rfl,rfl⟩)
  have l2:(jK (2*names.length)).map (fun _=>T.str "")=((gf (2*names.length) none).map (nmO names)).map T.str:=by
   rw[NG,NG];refine(List.eq_replicate_iff (a:=T.str (Zu ""))).mpr ⟨by simp,fun b hb=>?_⟩
   obtain⟨_,_,h⟩:=Q5.mp hb;exact h.symm
  rw[l2] at l1;refine zah (by simp?[l1]<;>rfl) ?_
  refine zdo (its:=names.map T.str) (fun i s=>∃(y:Bag2) (fr:List Nat) (pl:List (Option Nat)) (a b d:Option T),s=[some (.int c),some (.lst (names.map T.str)),some y.t,some (.lst (fr.map nT)),some (.lst ((pl.map (nmO names)).map T.str)),a,b,d]/\y.Ok/\fr.length+2*i=2*names.length/\fr.Nodup/\(∀ k∈fr,pl[k]?=some none)/\Half pl names.length i)
   (by simp?[]<;>rfl) ⟨B,_,_,_,_,_,rfl,ob,by simp,YL,fun k hk=>by rw[ZV,Ip_ (jR.mp hk)],Half.start _⟩ ?_ ?_
  ·rintro i z s hz ⟨y,fr,pl,a,b,d,rfl,oy,hl,hnd,hlt,hh⟩;rw[jk] at hz;obtain⟨x,hx,rfl⟩:=Qm hz;have hi:i < names.length:=(jd.mp hx).1;refine⟨_,by simp?[]<;>rfl,?_⟩
   match fr,hl,hnd,hlt with
   |[],hl,_,_=>exact absurd hl (by simp; lia)
   |k0::fr,hl,hnd,hlt=>
   rw[jw] at hl;rw[Qg] at hnd;have hk0:=hlt k0 (jG ..);obtain⟨u,y',eu,o',a',b'⟩:=zmF oy (fr.length:Int) (by lia) (by lia)
   have hu:u.toNat < fr.length:=by lia
   have hk1:=hlt fr[u.toNat] (jh _ (Q8 hu));have hne:k0≠fr[u.toNat]:=fun z=>hnd.1 (z▸Q8 hu);have hlen:=hh.len;have q0:k0 < pl.length:=(jd.mp hk0).1;have q1:fr[u.toNat] < pl.length:=(jd.mp hk1).1;have p0:zcm (.lst ((k0::fr).map nT)) [.int 0]=some (.lst (fr.map nT),nT k0):=zl7 (by decide) (by decide) rfl
   have p1:zcm (.lst (fr.map nT)) [.int u]=some (.lst ((fr.eraseIdx u.toNat).map nT),nT fr[u.toNat]):=by
    have:=zl7 (xs:=fr.map nT) (y:=nT fr[u.toNat]) a' (by lia) (by rw[jk,j3 hu]; rfl)
    rw[this,zfA]
   have hxn:x=nmO names (some i):=by
    show x=names.getD i Qh;rw[zdF hi];exact(jg ((j3 hi).symm.trans hx)).symm
   have i0:=zlf (n:=pl.length) q0;have i1:=zlf (n:=pl.length) q1;refine zah (by simp?[p0]<;>rfl) ?_
   refine zah (by simp?[eu,p1]<;>rfl) ?_
   refine zah (by simp?[i0]<;>rfl) ?_
   refine zbR (by simp?[jT,i1]<;>rfl) ⟨y',fr.eraseIdx u.toNat,(pl.set k0 (some i)).set fr[u.toNat] (some i),some (.str x),some (.int (k0:Int)),some (.int ((fr[u.toNat]:Nat):Int)),?_,o',?_,hnd.2.sublist (List.eraseIdx_sublist _ _),fun k hk=>?_,?_⟩
   ·rw[N5,N5,N5,N5,<-hxn]
   ·rw[List.length_eraseIdx_of_lt hu]; lia
   ·have hk':k∈fr:=List.mem_of_mem_eraseIdx hk;have n0:k0≠k:=fun z=>hnd.1 (z▸hk');have n1:fr[u.toNat]≠k:=fun z=>by
     rw[<-z] at hk;exact zcl hnd.2 hu hk
    rw[jc n1,jc n0];exact hlt k (jh _ hk')
   ·exact hh.next hi hk1 hk0 (Zp hne)
  ·rintro s ⟨y,fr,pl,a,b,d,rfl,oy,hl,hnd,hlt,hh⟩;rw[je] at hh;obtain⟨ps,hp,rfl⟩:=hh.done;have hg:=zgg hn rfl hd hN hp;refine⟨_,by simp?[]<;>rfl,_,_,rfl,_,rfl,?_,?_,fun x hx=>?_⟩
   ·rw[Q6]; exact hg
   ·rw[je,je,hp.len]
   ·rw[Q6] at hx;obtain⟨k,hk,rfl⟩:=Q5.mp hx;have hk':=hp.lt k hk;show names.getD k Qh∈names;rw[zdF hk']
    exact Q8 hk')
 exact⟨wd,e,gw⟩
end Dw
set_option maxHeartbeats 2000000
namespace Dw
open PySem L2 L3
theorem zgt{α β:Type}(f:α->β)(xs:List α)(lo hi:Option Int):zcu (xs.map f) lo hi=(zcu xs lo hi).map f:=by
 unfold zcu;rw[je,WQ,WP]
theorem zc8{z:Int}(h0:0<=z)(h:z < 26):zaE (.str letters) (.int z)=some (.str (Sx [97+z.toNat])):=by
 simp only[zaE,orG,gIx,zge,if_true,zhG h0 h,jz];rfl
theorem zaD(l m:List Nat)(h:l.length+m.length<=1000):zac (.str (Sx l)) (.str (Sx m))=some (.str (Sx (l++m))):=by
 rw[znm (by rw[zb1,zb1]; lia),zoS]
def zqP(l:List Nat):Prop:=∀ c∈l,97<=c/\c<=122
theorem ziV{l:List Nat}(h:zqP l)(h1:1<=l.length)(h8:l.length<=8):zbp (Sx l):=by
 unfold zbp;rw[zb1,zcy];exact⟨h1,h8,h⟩
def zhO(base:List Nat)(spot f:Nat)(k:Nat):List Nat:=base.take spot++[97+(f+5*k)%26,97+(f+k / 26)%26]++base.drop spot
theorem zkA{base:List Nat}{spot f j k:Nat}(hj:j < 31)(hk:k < 31)(h:zhO base spot f j=zhO base spot f k):j=k:=by
 unfold zhO at h;rw[gc,gc] at h;have h2:=List.append_cancel_left h;simp only[List.cons_append,Wr,List.cons.injEq] at h2;obtain⟨e1,e2,_⟩:=h2;have e3:j / 26=k / 26:=by omega
 clear e2 h
 omega
theorem zmD{base:List Nat}{spot f k:Nat}(hb:zqP base)(hl:base.length<=6):zbp (Sx (zhO base spot f k)):=by
 have hlen:(zhO base spot f k).length=base.length+2:=by
  unfold zhO;simp only[js,jN,Qk,jw,gG];lia
 refine ziV (fun c hc=>?_) (by lia) (by lia)
 unfold zhO at hc;simp only[jQ,jA,gq,or_false] at hc;rcases hc with (q |q |q) |q
 ·exact hb c (Qt q)
 ·lia
 ·lia
 ·exact hb c (gy q)
theorem zeq{α:Type}[DecidableEq α]:∀ {l m:List α},l.Nodup->(∀ x∈l,x∈m)->l.length<=m.length
 |[],m,_,_=>Zs _
 |a::l,m,hd,h=>by
  rw[Qg] at hd;have ha:=h a jG;have ih:=zeq (l:=l) (m:=m.erase a) hd.2 fun x hx=>(Nd (fun(z:x=a)=>hd.1 (z▸hx))).mpr (h x (jh _ hx));rw[Yh ha] at ih;have:=List.length_pos_of_mem ha;rw[jw];lia
structure Made (base:List Nat) (spot f:Nat) (k:Nat) (mk:List Str):Prop where
 nd:mk.Nodup
 nm:∀ x∈mk,zbp x
 has:∀ j,j < k->Sx (zhO base spot f j)∈mk
 len:mk.length<=6+k
theorem Made.enough{base:List Nat}{spot f k:Nat}{mk:List Str}(h:Made base spot f k mk)(hk:k<=31):k<=mk.length:=by
 have hnd:((jK k).map fun j=>Sx (zhO base spot f j)).Nodup:=by
  refine W5 _ (R:=fun a b=>a≠b/\a < 31/\b < 31) (fun a b ⟨n,ha,hb⟩ z=>n (zkA ha hb (zlt z))) ?_;refine Yl (R:=fun a b=>a≠b) (fun {a b} ha hb n=>⟨n,by have:=jR.mp ha; lia,by have:=jR.mp hb; lia⟩) YL
 have:=zeq hnd (m:=mk) (fun x hx=>by
  obtain⟨j,hj,rfl⟩:=Q5.mp hx
  exact h.has j (jR.mp hj))
 simpa using this
theorem ziP(c:Int){m:Nat}(hm:m<=30):∃ names:List Str,zcG [.int c,.int m]=some (.lst (names.map T.str))/\names.length=m/\names.Nodup/\∀ x∈names,zbp x:=by
 obtain⟨z1,e1,a1,b1⟩:=zaF c 1 7 (by decide) (by decide) (by decide)
 obtain⟨z6,e6,a6,b6⟩:=zaF c 11 26 (by decide) (by decide) (by decide)
 obtain⟨z7,e7,a7,b7⟩:=zaF c 12 4 (by decide) (by decide) (by decide)
 obtain⟨z9,e9,a9,b9⟩:=zaF c 13 ((m:Int)+1) (by decide) (by decide) (by lia)
 obtain⟨f,rfl⟩:∃ f:Nat,z6=(f:Int):=⟨z6.toNat,by lia⟩
 obtain⟨tn,rfl⟩:∃ tn:Nat,z9=(tn:Int):=⟨z9.toNat,by lia⟩
 obtain⟨t,e,wd,rfl,gw⟩:=zgi (n:=10) (d:=zcr) (ts:=[.int c,.int m]) (Q:=fun t=>∃ wd:List Str,t=.lst (wd.map T.str)/\wd.length=m/\wd.Nodup/\∀ x∈wd,zbp x) (by
  unfold zcr;show Run _ [some (.int c),some (.int m),none,none,none,none,none,none,none,none] _;refine zah (s':=[some (.int c),some (.int m),some (.str letters),none,none,none,none,none,none,none]) rfl ?_;refine zah (s':=[some (.int c),some (.int m),some (.str letters),some (.str (Sx [])),none,none,none,none,none,none]) rfl ?_;refine zdo (its:=zaJ 0 z1.toNat) (fun i s=>∃(l:List Nat) (a:Option T),s=[some (.int c),some (.int m),some (.str letters),some (.str (Sx l)),a,none,none,none,none,none]/\l.length=i/\zqP l)
   (by simp?[e1,zdp (j:=z1) (by lia) (by lia)]<;>rfl) ⟨_,_,rfl,rfl,fun c hc=>by cases hc⟩ ?_ ?_
  ·rintro i z s hz ⟨l,a,rfl,hl,hlo⟩;obtain⟨hi,rfl⟩:=zf9 hz;obtain⟨z2,e2,a2,b2⟩:=zaF c (2+(i:Int)) 26 (by lia) (by lia) (by decide)
   refine⟨_,by simp?[]<;>rfl,?_⟩
   refine zbR (by simp?[e2,zc8 a2 b2,zaD l [97+z2.toNat] (by simp; lia)]<;>rfl) ⟨_,_,rfl,by simp[hl],fun c hc=>?_⟩
   rcases jQ.mp hc with q |q
   ·exact hlo c q
   ·have:c=97+z2.toNat:=by simpa using q
    lia
  rintro s ⟨l,a,rfl,hl,hlo⟩;rw[zf8] at hl;obtain⟨z5,e5,a5,b5⟩:=zaF c 10 ((l.length:Int)+1) (by decide) (by decide) (by lia)
  obtain⟨sp,rfl⟩:∃ sp:Nat,z5=(sp:Int):=⟨z5.toNat,by lia⟩
  have lS:l.length<=ja:=zam (by lia)
  have gl:zbV (.str (Sx l))=some (.int l.length):=by rw[zeR (by rw[zb1]; lia),zb1]
  refine zah (by simp?[gl,e5]<;>rfl) (zah (by simp?[e6]<;>rfl) ?_)
  refine zah (s':=[some (.int c),some (.int m),some (.str letters),some (.str (Sx l)),a,some (.int sp),some (.int f),some (.lst (([]:List Str).map T.str)),none,none]) (by simp?[]<;>rfl) ?_
  have sl:∀ k:Nat,k<=l.length->zbC (.str (Sx l)) none (some (k:Int))=some (.str (Sx (l.take k))):=fun k hk=>by
   have:=zoR l (j:=(k:Int)) (by lia) (by lia)
   simp only[zbC,zkx,zb1,lS,if_true,this,jv]
  have sf:∀ k:Nat,k<=l.length->zbC (.str (Sx l)) (some (k:Int)) none=some (.str (Sx (l.drop k))):=fun k hk=>by
   have:=zgB l (j:=(k:Int)) (by lia) (by lia)
   simp only[zbC,zkx,zb1,lS,if_true,this,jv]
  obtain⟨mk,emk,hmk⟩:∃ mk:List Str,zbe (dB (d2 gEq (zaj zae (dAc (dV 0) (dAc (dC (.int 12)) (dAc (dC (.int 4)) dAn)))) (dC (.int 0)))) (zbn 7 (dLC [7] [none,some 3] (zoB (dAc (dC (.int 1)) (dAc (d2 zac (d1 zbV (dV 3)) (dC (.int 1))) dAn))) (dGn 0) zdK (dSl zbC (dV 1) dOn (dOs (dV 0))))) zav [some (.int c),some (.int m),some (.str letters),some (.str (Sx l)),a,some (.int sp),some (.int f),some (.lst (([]:List Str).map T.str)),none,none]=some (.nx [some (.int c),some (.int m),some (.str letters),some (.str (Sx l)),a,some (.int sp),some (.int f),some (.lst (mk.map T.str)),none,none])/\Made l sp f 0 mk:=by
   by_cases h7:z7=0
   ·have r12:zf6 1=true/\zf6 ((l.length:Int)+1)=true:=⟨zdp (by decide) (by decide),zdp (by lia) (by lia)⟩
    have e3:((l.length:Int)+1 - 1).toNat=l.length:=by lia
    have er:zaJ 1 l.length=(jK l.length).map fun k=>nT (k+1):=by
     unfold zaJ;refine Ql fun k _=>?_;rw[vnT]; congr 1; lia
    have l1:=zbN (M:=[7]) (caps:=[none,some 3]) (fi:=zoB (dAc (dC (.int 1)) (dAc (d2 zac (d1 zbV (dV 3)) (dC (.int 1))) dAn))) (dg:=dGn 0) (fe:=dSl zbC (dV 1) dOn (dOs (dV 0))) (s:=[some (.int c),some (.int m),some (.str letters),some (.str (Sx l)),a,some (.int sp),some (.int f),some (.lst (([]:List Str).map T.str)),none,none]) (jK l.length) (fun k=>nT (k+1)) (fun k=>.str (Sx (l.take (k+1)))) (by simp?[gl,r12,and_self,e3,er]) (by simp; lia) (by
     intro k hk;have hk':=jR.mp hk;refine⟨_,by simp?[]<;>rfl,?_,rfl⟩
     simp?[sl (k+1) (by lia)])
    have l2:(jK l.length).map (fun k=>T.str (Sx (l.take (k+1))))=((jK l.length).map fun k=>Sx (l.take (k+1))).map T.str:=by rw[Q6]; rfl
    rw[l2] at l1;refine⟨(jK l.length).map fun k=>Sx (l.take (k+1)),by simp?[e7,Dt_ h7,l1]<;>rfl,⟨?_,fun x hx=>?_,fun j hj=>absurd hj (gL _),by simp; lia⟩⟩
    ·refine W5 _ (R:=fun a b=>a≠b/\a < l.length/\b < l.length) (fun a b ⟨n,ha,hb⟩ z=>n ?_) (Yl (R:=fun a b=>a≠b) (fun {a b} ha hb n=>⟨n,jR.mp ha,jR.mp hb⟩) YL);have:=congrArg gF (zlt z);rw[jN,jN] at this;lia
    ·obtain⟨k,hk,rfl⟩:=Q5.mp hx;have hk':=jR.mp hk;exact ziV (fun c hc=>hlo c (Qt hc)) (by rw[jN]; lia) (by rw[jN]; lia)
   ·exact⟨[],by simp?[e7,Df_ h7]<;>rfl,⟨Nh,(fun x hx=>by cases hx),(fun j hj=>absurd hj (gL _)),by simp⟩⟩
  refine zah emk ?_;refine zdo (its:=zaJ 0 m) (fun i s=>∃(mk:List Str) (a g:Option T),s=[some (.int c),some (.int m),some (.str letters),some (.str (Sx l)),a,some (.int sp),some (.int f),some (.lst (mk.map T.str)),g,none]/\Made l sp f i mk)
   (by simp?[rgN (k:=m) (by lia),jv]<;>rfl) ⟨_,_,_,rfl,hmk⟩ ?_ ?_
  ·rintro i z s hz ⟨mk,a,g,rfl,hmk⟩;obtain⟨hi,rfl⟩:=zf9 hz;refine⟨_,by simp?[]<;>rfl,?_⟩
   have x1:=zc8 (z:=((f:Int)+5*(i:Int))%26) (by lia) (by lia)
   have x2:=zc8 (z:=((f:Int)+(i:Int) / 26)%26) (by lia) (by lia)
   have n1:(((f:Int)+5*(i:Int))%26).toNat=(f+5*i)%26:=by lia
   have n2:(((f:Int)+(i:Int) / 26)%26).toNat=(f+i / 26)%26:=by lia
   rw[n1] at x1;rw[n2] at x2;have pl:=zaD [97+(f+5*i)%26] [97+(f+i / 26)%26] (by simp)
   refine zah (by simp?[x1,x2,pl]<;>rfl) ?_
   have q1:=zaD (l.take sp) ([97+(f+5*i)%26]++[97+(f+i / 26)%26]) (by simp; lia)
   have q2:=zaD (l.take sp++([97+(f+5*i)%26]++[97+(f+i / 26)%26])) (l.drop sp) (by simp; lia)
   have hfar:l.take sp++([97+(f+5*i)%26]++[97+(f+i / 26)%26])++l.drop sp=zhO l sp f i:=rfl;rw[hfar] at q2;have hlen:=hmk.len
   by_cases hin:Sx (zhO l sp f i)∈mk
   ·refine zbR (by simp?[sl sp (by lia),sf sp (by lia),q1,q2,Dt_ hin]<;>rfl) ⟨_,_,_,rfl,⟨hmk.nd,hmk.nm,fun j hj=>?_,by lia⟩⟩
    by_cases e:j=i
    ·exact e▸hin
    ·exact hmk.has j (by lia)
   ·refine zbR (by simp?[sl sp (by lia),sf sp (by lia),q1,q2,Df_ hin]<;>rfl) ⟨mk++[Sx (zhO l sp f i)],_,_,rfl,⟨?_,fun x hx=>?_,fun j hj=>?_,by simp; lia⟩⟩
    ·rw[Yk];exact⟨hmk.nd,by simp,fun a ha b hb e=>hin (by rw[jI] at hb; subst hb; subst e; exact ha)⟩
    ·rcases jQ.mp hx with q |q
     ·exact hmk.nm x q
     ·have:x=Sx (zhO l sp f i):=by simpa using q
      rw[this]; exact zmD hlo (by lia)
    ·by_cases e:j=i
     ·exact e▸jH _ (by simp)
     ·exact ZD _ (hmk.has j (by lia))
  rintro s ⟨mk,a,g,rfl,hmk⟩;rw[zf8] at hmk;have hen:=hmk.enough (by lia)
  have hlen:=hmk.len;refine zah (by simp?[e9]<;>rfl) ?_
  have c1:gSl (.lst (mk.map T.str)) none (some (m:Int))=some (.lst ((mk.take m).map T.str)):=by
   show some (T.lst (zcu (mk.map T.str) none (some (m:Int))))=_;rw[zgt,zjs mk (by lia) (by lia),jv]
  have lt:(mk.take m).length=m:=by rw[jN]; lia
  have c2:zbC (.lst ((mk.take m).map T.str)) (some (tn:Int)) none=some (.lst (((mk.take m).drop tn).map T.str)):=by
   show some (T.lst (zcu ((mk.take m).map T.str) (some (tn:Int)) none))=_;rw[zgt,zjt (mk.take m) (by lia) (by lia),jv]
  have c3:zbC (.lst ((mk.take m).map T.str)) none (some (tn:Int))=some (.lst (((mk.take m).take tn).map T.str)):=by
   show some (T.lst (zcu ((mk.take m).map T.str) none (some (tn:Int))))=_;rw[zgt,zjs (mk.take m) (by lia) (by lia),jv]
  have pp:((mk.take m).drop tn++(mk.take m).take tn).Perm (mk.take m):=(List.perm_append_comm).trans (by rw[gk])
  refine⟨_,by simp?[c1,c2,c3,<-Zv]<;>rfl,_,_,rfl,_,rfl,?_,?_,fun x hx=>?_⟩
  ·rw[pp.length_eq,lt]
  ·exact pp.nodup_iff.mpr (hmk.nd.sublist (Ya _ _))
  ·exact hmk.nm x (Qt (pp.mem_iff.mp hx)))
 exact⟨wd,e,gw⟩
end Dw
set_option maxHeartbeats 1000000
namespace Dw
open PySem L2 L3
theorem zie(c:Nat)(s:Sg):dCh zeI zeI (dC (.str "a")) (dV 0) (dC (.str "z")) (some (.str ⟨#[c]⟩)::s)=some (.bl (decide (97<=c)&&decide (c<=122)),some (.str ⟨#[c]⟩)::s):=by
 simp?[zlD,zqK,zmQ,zmP,zih,zig]
 by_cases h:97<=c
 ·simp?[Dt_ h,zlD,zqK,zmQ,zmP,zih,zig]<;>rfl
 ·simp?[Df_ h,zlD,zqK,zmQ,zmP,zih,zig]<;>rfl
theorem ze4{x:Str}(h:x.length<=1000000):zai [.str x]=some (.bl (zcz x)):=by
 refine ze8 ?_;show Run zbw [some (.str x)] _;unfold zbw
 have e:=zbN (M:=[]) (caps:=[none]) (fi:=zcX (dV 0)) (dg:=dGn 0) (fe:=dCh zeI zeI (dC (.str "a")) (dV 0) (dC (.str "z"))) (s:=[some (.str x)]) x.cps.toList zg2 (fun c=>.bl (decide (97<=c)&&decide (c<=122))) (by simp?[]) (by rw[<-zc7]; exact h) (by
  intro c hc
  exact⟨_,by simp?[]<;>rfl,zie c [],rfl⟩)
 rw[show x.cps.toList.map (fun c=>T.bl (decide (97<=c)&&decide (c<=122)))=(x.cps.toList.map fun c=>decide (97<=c)&&decide (c<=122)).map T.bl by rw[Q6]; rfl] at e
 unfold zcz
 by_cases h1:1<=x.length
 ·by_cases h2:x.length<=8
  ·refine zbI (by simp?[zeR,zlE,Dt_ (show (1:Int)<=(x.length:Int) by lia),Dt_ (show (x.length:Int)<=8 by lia),e]<;>rfl) ?_
   rw[Dt_ (⟨h1,h2⟩:1<=x.length/\x.length<=8),g5,gh]; rfl
  ·refine zbI (by simp?[zeR,zlE,Dt_ (show (1:Int)<=(x.length:Int) by lia),Df_ (show ¬ (x.length:Int)<=8 by lia)]<;>rfl) ?_
   rw[Df_ (fun z=>h2 z.2),Qv]
 ·refine zbI (by simp?[zeR,zlE,Df_ (show ¬ (1:Int)<=(x.length:Int) by lia)]<;>rfl) ?_
  rw[Df_ (fun z=>h1 z.1),Qv]
theorem zhI{wd:List Str}(h:wd.length<=1000)(hl:∀ x∈wd,x.length<=1000000):zaG [.lst (wd.map T.str)]=some (.bl (zhX wd)):=by
 have hf:=zcp wd;refine ze8 ?_;show Run zbv [some (.lst (wd.map T.str)),none,none] _;unfold zbv;refine zah (by simp?[]<;>rfl) ?_
 refine zgJ (its:=wd.map T.str) (fun j s=>(∀ x∈wd.take j,zcz x=true)/\∃ a,s=[some (.lst (wd.map T.str)),some (.dct (zfU (wd.take j))),a]) (by simp?[]<;>rfl) ⟨fun x hx=>by simp at hx,_,rfl⟩ ?_ ?_
 ·rintro j z s hz ⟨hn,a,rfl⟩;rw[jk] at hz;obtain⟨x,hx,rfl⟩:=Qm hz;have hj:j < wd.length:=(jd.mp hx).1;have hm:x∈wd:=jZ hx;have e:=ze4 (hl x hm);refine⟨_,by simp?[]<;>rfl,?_⟩
  by_cases hnm:zcz x=true
  ·rw[hnm] at e;refine zah (by simp?[e]<;>rfl) ?_
   have l0:(zfU (wd.take j)).length < ja:=zee (by
    unfold zfU;rw[je];have:=zcp (wd.take j);rw[jN] at this
    lia)
   refine ziI (by simp?[zhH,zkK,l0,zmR hx]<;>rfl) ⟨fun y hy=>?_,_,rfl⟩
   rw[Y5,hx,NC,jQ,jI] at hy;rcases hy with q |q
   ·exact hn y q
   ·exact q▸hnm
  ·have hnm':zcz x=false:=by simpa using hnm
   rw[hnm'] at e;refine ziH (by simp?[e]<;>rfl) ?_
   have:zhX wd=false:=by
    unfold zhX;rw[show wd.all zcz=false from ge.mpr ⟨x,hm,hnm⟩,Qv]
   rw[this]
 ·rintro s ⟨hn,a,rfl⟩;rw[je,YM] at *;have hall:wd.all zcz=true:=jm.mpr hn
  have e:=zbN (M:=[]) (caps:=[none]) (fi:=zn2 (dV 1)) (dg:=dGn 0) (fe:=d2 gEq (dV 0) (dC (.int 2))) (s:=[some (.lst (wd.map T.str)),some (.fd (zfU wd)),a]) (za4 wd) (fun x=>T.int (wd.count x:Nat)) (fun x=>.bl (decide (wd.count x=2))) (by simp?[zfU,Q6]<;>rfl) (by lia) (by
   intro x hx;refine⟨_,by simp?[]<;>rfl,?_,rfl⟩
   have e1:decide (((wd.count x:Nat):Int)=2)=decide (wd.count x=2):=by
    by_cases q:wd.count x=2
    ·rw[q]; rfl
    ·rw[Df_ q,Df_ (by lia)]
   simp?[e1])
  rw[show (za4 wd).map (fun x=>T.bl (decide (wd.count x=2)))=((za4 wd).map fun x=>decide (wd.count x=2)).map T.bl by rw[Q6]; rfl] at e
  have l1:(zfU wd).length=(za4 wd).length:=by unfold zfU; rw[je]
  have fz:zoC 1 (zan [] (zhS (d2 gLe (d1 zbV (dV 1)) (dC (.int 30))) (d1 zeJ (dLC [] [none] (zn2 (dV 1)) (dGn 0) zdK (d2 gEq (dV 0) (dC (.int 2))))))) [some (.lst (wd.map T.str)),some (.dct (zfU wd)),a]=zan [] (zhS (d2 gLe (d1 zbV (dV 1)) (dC (.int 30))) (d1 zeJ (dLC [] [none] (zn2 (dV 1)) (dGn 0) zdK (d2 gEq (dV 0) (dC (.int 2)))))) [some (.lst (wd.map T.str)),some (.fd (zfU wd)),a]:=rfl;unfold zhX;rw[hall,g5]
  by_cases q:(za4 wd).length<=30
  ·refine zbI (by rw[fz]; simp?[znq,l1,Dt_ (show ((za4 wd).length:Int)<=30 by lia),e]<;>rfl) ?_
   rw[Dt_ q,g5,gh]; rfl
  ·refine zbI (by rw[fz]; simp?[znq,l1,Df_ (show ¬ ((za4 wd).length:Int)<=30 by lia)]<;>rfl) ?_
   rw[Df_ q,Qv]
theorem zbG:∀(l:List Str),zce (l.map T.str)=some l
 |[]=>rfl
 |k::l=>by show (zce (l.map T.str)).map (k::·)=_; rw[zbG l]; rfl
def nb(x:Str):Nat:=x.cps.toList.count 32
theorem ziO:∀ {ps:List Str},ps≠[]->(∀ p∈ps,32∉p.cps.toList)->nb (Ze ⟨#[32]⟩ ps)+1=ps.length
 |[],h,_=>absurd rfl h
 |[a],_,h=>by
  show (a.cps.toList.count 32)+1=1;rw[Zh (h a (by simp))]
 |a::b::r,_,h=>by
  have ih:=ziO (ps:=b::r) (by simp) fun p hp=>h p (jh _ hp)
  unfold nb at ih ⊢;rw[zb4,jO,List.count_cons_self,Zh (h a (by simp)),jw]
  lia
theorem zbQ(x:Str):(jx x " ").length=nb x+1:=by
 rw[zb5,<-ziO (zgH x ⟨#[32]⟩) (fun p hp=>NF _ 32 p hp),Y2]
theorem zkn(x:Str):nb x<=x.length:=by
 unfold nb;refine Q2 QY ?_;rw[zc7]; exact jl _
theorem zli{x:Str}(h:x.length<=900):zjc (.str x) (.str " ")=some (.lst ((jx x " ").map T.str)):=by
 show (if ((" ":Str).length == 0)=false/\x.length<=ja/\(jx x " ").length<=ja/\(zdv x " ").length<=ja then some (T.lst ((jx x " ").map T.str)) else none)=_
 have h1:=zkn x;have h2:(zdv x " ").length<=x.length+2:=by
  have:=StrLaws.occ_length_le x " " 0 x.length (x.length+1);unfold zdv Z4;simp;lia
 rw[Ip_ ⟨rfl,zam (by lia),zam (by rw[zbQ]; lia),zam (by lia)⟩]
structure Fine (x:Str):Prop where
 len:x.length<=900
 few:(∀ y∈jx x " ",zcz y=true)->(za4 (jx x " ")).length < 64
def ans(x:Str):T:=if x="none" then .tup [.str "told",.lst []] else if (jx x " ").all zcz=false then .tup [.str "text",.non] else if zhX (jx x " ")=true then .tup [.str "told",.lst ((jx x " ").map T.str)] else .tup [.str "word",.non]
theorem zdu{x:Str}(h:x.length<=900){y:Str}(hy:y∈jx x " "):y.length<=900:=by
 have e:=congrArg (fun z:Str=>z.cps.toList.length) (Y2 x ⟨#[32]⟩);have mem:∀ {ps:List Str},y∈ps->y.cps.toList.length<=(Ze ⟨#[32]⟩ ps).cps.toList.length:=by
  intro ps
  induction ps with
  |nil=>intro h; cases h
  |cons a r ih=>
   intro h;cases r with
   |nil=>rw[jI.mp h]; exact jl _
   |cons b r=>
    rw[zb4,js,jw];rcases jA.mp h with h |h
    ·rw[h]; lia
    ·have:=ih h; lia
 have h2:=mem (zb5▸hy);rw[e] at h2;rw[zc7] at h ⊢;lia
section
variable {x:Str}
theorem zqn(h:x.length<=900):dLC [] [none] (zcX (dV 1)) (dGn 0) zdK (zaj zai (dAc (dV 0) dAn)) [some (.str x),some (.lst ((jx x " ").map T.str))]=some (.lst (((jx x " ").map zcz).map T.bl),[some (.str x),some (.lst ((jx x " ").map T.str))]):=by
 have hl:=zbQ x;have h1:=zkn x
 have e:=zbN (M:=[]) (caps:=[none]) (fi:=zcX (dV 1)) (dg:=dGn 0) (fe:=zaj zai (dAc (dV 0) dAn)) (s:=[some (.str x),some (.lst ((jx x " ").map T.str))]) (jx x " ") T.str (fun x=>.bl (zcz x)) (by simp?[]) (by lia) (by
  intro y hy
  exact⟨_,by simp?[]<;>rfl,by simp?[ze4 (show y.length<=1000000 by have:=zdu h hy; lia)],rfl⟩)
 rw[show (jx x " ").map (fun x=>T.bl (zcz x))=((jx x " ").map zcz).map T.bl by rw[Q6]; rfl] at e
 exact e
theorem zi9(h:Fine x):zb0 [.str x]=some (ans x):=by
 unfold zb0 ans
 by_cases h0:x="none"
 ·rw[Ip_ h0];have:zas [.str x]=some (.lst []):=by
   refine ze8 ?_;show Run zal [some (.str x),none] _;unfold zal;exact zd4 (by simp?[Dt_ h0]<;>rfl) rfl
  rw[this]
 ·rw[In_ h0];have hd:=Df_ h0;have s2:=zli h.len;have s3:=zqn h.len;have hl:=zbQ x;have h1:=zkn x;have h4:=h.len;have s4:=zhI (wd:=jx x " ") (by lia) fun y hy=>by have:=zdu h.len hy; lia
  have am:((jx x " ").map zcz).all id=(jx x " ").all zcz:=by rw[gh]; rfl
  generalize hL:T.lst ((jx x " ").map T.str)=L at s2 s3 s4;have i1:zbe (dB (d2 gEq (dV 0) (dC (.str "none")))) (zan [] (zeM dAn)) zav [some (.str x),none]=some (.nx [some (.str x),none]):=by simp?[hd]
  have i2:zbn 1 (zcV (dV 0) (dC (.str " "))) [some (.str x),none]=some (.nx [some (.str x),some L]):=by simp?[s2]
  have st:zay 2 [T.str x]=[some (.str x),none]:=rfl;cases ha:(jx x " ").all zcz with
  |false=>
   rw[ha] at am;have i3:zeL (zeK (d1 zeJ (dLC [] [none] (zcX (dV 1)) (dGn 0) zdK (zaj zai (dAc (dV 0) dAn))))) [some (.str x),some L]=some (true,[some (.str x),some L]):=by simp?[s3,am]
   have f1:zas [.str x]=none:=by
    show fnP 2 zal [.str x]=none;unfold fnP;rw[st];unfold zal
    simp?[hd,s2,s3,am]
    rfl
   have f2:zaI [.str x]=true:=by
    show zaB [some (.str x),none]=true;unfold zaB zct zfD zlp;rw[i1];dsimp only;rw[i2];dsimp only;rw[i3];rfl
   rw[f1];dsimp only;rw[Ip_ f2,Ip_ rfl]
  |true=>
   rw[ha] at am;have i3:zeL (zeK (d1 zeJ (dLC [] [none] (zcX (dV 1)) (dGn 0) zdK (zaj zai (dAc (dV 0) dAn))))) [some (.str x),some L]=some (false,[some (.str x),some L]):=by simp?[s3,am]
   rw[In_ (show ¬ (true=false) by decide)]
   cases hw:zhX (jx x " ") with
   |true=>
    rw[hw] at s4;have f1:zas [.str x]=some L:=by
     refine ze8 ?_;show Run zal [some (.str x),none] _;unfold zal;exact zbI (by simp?[hd,s2,s3,am,s4]<;>rfl) rfl
    rw[f1,Ip_ rfl,<-hL]
   |false=>
    rw[hw] at s4;have i4:zeL (zeK (zaj zaG (dAc (dV 1) dAn))) [some (.str x),some L]=some (true,[some (.str x),some L]):=by simp?[s4]
    have n3:zbe (zeL (zeK (d1 zeJ (dLC [] [none] (zcX (dV 1)) (dGn 0) zdK (zaj zai (dAc (dV 0) dAn)))))) zcW zav [some (.str x),some L]=some (.nx [some (.str x),some L]):=by simp?[s3,am]
    have f1:zas [.str x]=none:=by
     show fnP 2 zal [.str x]=none;unfold fnP;rw[st];unfold zal
     simp?[hd,s2,s3,am,s4]
     rfl
    have f2:zaI [.str x]=false:=by
     show zaB [some (.str x),none]=false;unfold zaB zct zfD zlp;rw[i1];dsimp only;rw[i2];dsimp only;rw[i3,n3];dsimp only;rw[In_ (show ¬ (false=true) by decide)]
     split<;>rfl
    have f3:zaL [.str x]=true:=by
     show zaR [some (.str x),none]=true;unfold zaR zct zfD zlp;rw[i1];dsimp only;rw[i2];dsimp only;rw[n3];dsimp only;rw[i4];rfl
    rw[f1];dsimp only;rw[f2,In_ (show ¬ (false=true) by decide),Ip_ f3,In_ (show ¬ (false=true) by decide)]
theorem zo0(h:Fine x):zco [.str x]=some (ans x):=by
 have s2:=zli h.len;have hl:=zbQ x;have h1:=zkn x;have h4:=h.len;refine ze8 ?_;show Run zeB [some (.str x),none,none,none] _;unfold zeB ans;refine zah (s':=[some (.str x),some (.lst ((jx x " ").map T.str)),none,none]) (by simp?[s2]) ?_
 by_cases h0:x="none"
 ·rw[Ip_ h0];exact zd4 (by simp?[Dt_ h0]<;>rfl) rfl
 rw[In_ h0];refine zah (s':=[some (.str x),some (.lst ((jx x " ").map T.str)),none,none]) (by simp?[Df_ h0]) ?_
 generalize hps:jx x " "=ps at hl;have pl:∀ y∈ps,y.length<=900:=fun y hy=>zdu h.len (hps▸hy);have few:=h.few;rw[hps] at few;refine zgJ (its:=ps.map T.str) (fun j s=>(∀ y∈ps.take j,zcz y=true)/\∃ a,s=[some (.str x),some (.lst (ps.map T.str)),a,none]) (s1:=[some (.str x),some (.lst (ps.map T.str)),none,none]) (by simp?[]) ⟨fun y hy=>by simp at hy,_,rfl⟩ ?_ ?_
 ·rintro j z s hz ⟨hn,a,rfl⟩;rw[jk] at hz;obtain⟨y,hy,rfl⟩:=Qm hz;have hm:=jZ hy;have yl:=pl y hm;refine⟨[some (.str x),some (.lst (ps.map T.str)),some (.str y),none],rfl,?_⟩
  have e:=zbN (M:=[]) (caps:=[none]) (fi:=zcX (dV 2)) (dg:=dGn 0) (fe:=dCh zeI zeI (dC (.str "a")) (dV 0) (dC (.str "z"))) (s:=[some (.str x),some (.lst (ps.map T.str)),some (.str y),none]) y.cps.toList zg2 (fun c=>.bl (decide (97<=c)&&decide (c<=122))) (by simp?[]) (by rw[<-zc7]; lia) (by
   intro c hc
   exact⟨_,by simp?[]<;>rfl,zie c [],rfl⟩)
  rw[show y.cps.toList.map (fun c=>T.bl (decide (97<=c)&&decide (c<=122)))=(y.cps.toList.map fun c=>decide (97<=c)&&decide (c<=122)).map T.bl by rw[Q6]; rfl] at e
  have test:dOr (dB (d2 gLt (d1 zbV (dV 2)) (dC (.int 1)))) (dOr (dB (d2 gGt (d1 zbV (dV 2)) (dC (.int 8)))) (zeL (zeK (d1 zeJ (dLC [] [none] (zcX (dV 2)) (dGn 0) zdK (dCh zeI zeI (dC (.str "a")) (dV 0) (dC (.str "z")))))))) [some (.str x),some (.lst (ps.map T.str)),some (.str y),none]=some (!zcz y,[some (.str x),some (.lst (ps.map T.str)),some (.str y),none]):=by
   unfold zcz
   by_cases g1:1<=y.length
   ·by_cases g2:y.length<=8
    ·simp?[zeR,Df_ (show ¬ (y.length:Int) < 1 by lia),Df_ (show ¬ (8:Int) < (y.length:Int) by lia),e]
     rw[Dt_ (⟨g1,g2⟩:1<=y.length/\y.length<=8),g5,gh]; rfl
    ·simp?[zeR,Df_ (show ¬ (y.length:Int) < 1 by lia),Dt_ (show (8:Int) < (y.length:Int) by lia)]
     rw[Df_ (fun z=>g2 z.2),Qv]; rfl
   ·simp?[zeR,Dt_ (show (y.length:Int) < 1 by lia)]
    rw[Df_ (fun z=>g1 z.1),Qv]; rfl
  cases hn1:zcz y with
  |true=>
   rw[hn1] at test;refine ziI (zr0 test rfl) ⟨fun z hz'=>?_,_,rfl⟩;rw[Y5,hy] at hz';rcases jQ.mp hz' with q |q
   ·exact hn z q
   ·rw[jI.mp q]; exact hn1
  |false=>
   rw[hn1] at test;refine zkk (zrO test (by simp?[]<;>rfl)) ?_
   rw[Ip_ (ge.mpr ⟨y,hm,by rw[hn1]; simp⟩)]
 ·rintro s ⟨hn,a,rfl⟩;rw[je,YM] at hn;have hall:ps.all zcz=true:=jm.mpr hn;have hf:=few hn;have pm:=zbi (za4 ps);have g3:zew (.lst (ps.map T.str))=some (.lst ((zaW (za4 ps)).map T.str)):=by
   show ((zce (ps.map T.str)).bind fun ss=>if ss.length < 1000/\(za4 ss).length < 64 then some (T.lst ((zaW (za4 ss)).map T.str)) else none)=_
   rw[zbG,j8,Ip_ ⟨by lia,hf⟩]
  rw[In_ (by rw[hall]; simp)]
  refine zah (s':=[some (.str x),some (.lst (ps.map T.str)),a,some (.lst ((zaW (za4 ps)).map T.str))]) (by simp?[g3]) ?_
  have sl:(zaW (za4 ps)).length=(za4 ps).length:=pm.length_eq
  have e:=zbN (M:=[]) (caps:=[none,some 1]) (fi:=zcX (dV 3)) (dg:=dGn 0) (fe:=d2 gEq (d2L ze7 (dV 1) (dV 0)) (dC (.int 2))) (s:=[some (.str x),some (.lst (ps.map T.str)),a,some (.lst ((zaW (za4 ps)).map T.str))]) (zaW (za4 ps)) T.str (fun y=>.bl (decide (ps.count y=2))) (by simp?[]) (by lia) (by
   intro y hy;refine⟨_,by simp?[]<;>rfl,?_,rfl⟩
   have e1:decide (((ps.count y:Nat):Int)=2)=decide (ps.count y=2):=decide_eq_decide.mpr (by lia)
   simp?[e1])
  rw[show (zaW (za4 ps)).map (fun y=>T.bl (decide (ps.count y=2)))=((zaW (za4 ps)).map fun y=>decide (ps.count y=2)).map T.bl by rw[Q6]; rfl] at e
  have ea:((zaW (za4 ps)).map fun y=>decide (ps.count y=2)).all id=(za4 ps).all fun y=>decide (ps.count y=2):=by
   rw[gh,Qe,jm,jm];exact⟨fun k y hy=>k y (pm.mem_iff.mpr hy),fun k y hy=>k y (pm.mem_iff.mp hy)⟩
  have iw:zhX ps=(decide ((za4 ps).length<=30)&&(za4 ps).all fun y=>decide (ps.count y=2)):=by
   unfold zhX;rw[hall,g5]
  by_cases q:(za4 ps).length<=30
  ·rw[Dt_ q,g5] at iw;rw[<-iw] at ea;cases hw:zhX ps with
   |true=>
    rw[hw] at ea;rw[Ip_ rfl];refine zah (s':=[some (.str x),some (.lst (ps.map T.str)),a,some (.lst ((zaW (za4 ps)).map T.str))]) (by simp?[sl,Df_ (show ¬ (30:Int) < ((za4 ps).length:Int) by lia),e,ea]) ?_
    exact zbI (by simp?[]<;>rfl) rfl
   |false=>
    rw[hw] at ea;rw[In_ (by simp)]
    exact zd4 (by simp?[sl,Df_ (show ¬ (30:Int) < ((za4 ps).length:Int) by lia),e,ea]<;>rfl) rfl
  ·rw[Df_ q,Qv] at iw;rw[In_ (by rw[iw]; simp)]
   exact zd4 (by simp?[sl,Dt_ (show (30:Int) < ((za4 ps).length:Int) by lia)]<;>rfl) rfl
end
theorem zfR{f:T->T->Option Bool}:∀ {xs:List T},(∀ x∈xs,f x x=some true)->zeb f xs xs=some true:=by
 intro xs
 induction xs with
 |nil=>intro _; rfl
 |cons x xs ih=>
  intro h;unfold zeb;rw[h x (by simp),ih fun y hy=>h y (jh _ hy)]
  rfl
theorem zjk{n:Nat}{xs:List T}(h:∀ x∈xs,eqD n x x=some true):eqD (n+1) (.lst xs) (.lst xs)=some true:=by
 show (if xs.length=xs.length then zeb (eqD n) xs xs else some false)=some true
 rw[Ip_ rfl,zfR h]
theorem zda{n:Nat}(l:List Str):eqD (n+2) (.lst (l.map T.str)) (.lst (l.map T.str))=some true:=zjk fun x hx=>by
 obtain⟨y,_,rfl⟩:=Q5.mp hx;show scE (.str y) (.str y)=some true;simp[scE]
theorem zdb{n:Nat}(a:Str){t:T}(h:eqD n t t=some true)(hs:eqD n (.str a) (.str a)=some true):eqD (n+1) (.tup [.str a,t]) (.tup [.str a,t])=some true:=by
 show (zeb (eqD n) [.str a,t] [.str a,t]).map (fun b=>b&&_)=_
 rw[zfR (fun x hx=>by
  rcases jA.mp hx with e |e
  ·rw[e]; exact hs
  ·rw[jI.mp e]; exact h)]
 rfl
theorem zls(x:Str):eqD 8 (ans x) (ans x)=some true:=by
 have hs:∀ a:Str,eqD 7 (.str a) (.str a)=some true:=fun a=>by
  show scE (.str a) (.str a)=some true;simp[scE]
 unfold ans;split
 ·exact zdb _ rfl (hs _)
 ·split
  ·exact zdb _ rfl (hs _)
  ·split
   ·exact zdb _ (zda _) (hs _)
   ·exact zdb _ rfl (hs _)
theorem zoP(x:Str):gNe (ans x) (ans x)=some (.bl false):=by
 show (eqD 8 _ _).map (fun b=>T.bl (!b))=_;rw[zls]; rfl
theorem zmY(x:Str):x=Sx x.cps.toList:=by cases x; rfl
theorem zo7(l:List Nat):nb (Sx l)=l.count 32:=by unfold nb; rw[zcy]
theorem zbu{l:List Nat}(h:l.length<=900)(hn:l.count 32<=62):Fine (Sx l):=⟨by rw[zb1]; exact h,fun _=>by
 have:=zcp (jx (Sx l) " ");rw[zbQ,zo7] at this
 lia⟩
theorem zaP{wd:List Str}(g:GoodWord wd){x:Str}(hx:x∈wd):x.length<=8:=(g.name x hx).2.1
theorem ziQ{x:Str}(g:zbp x):32∉x.cps.toList:=fun h=>by
 have:=(g.2.2 32 h).1;lia
theorem zba{wd:List Str}(g:GoodWord wd):∀ x∈wd,32∉x.cps.toList:=fun x hx=>ziQ (g.name x hx)
def txt(wd:List Str):Str:=gA " " wd
theorem zmy{wd:List Str}(h:∀ x∈wd,x.length<=8)(hl:wd.length<=200):zjd " " (.lst (wd.map T.str))=some (.str (txt wd)):=by
 show ((zce (wd.map T.str)).bind fun ys=>if (ys.map (·.length)).sum+ys.length*(" ":Str).length<=16777216 then some (T.str (gA " " ys)) else none)=_
 rw[zbG,j8,Ip_]
 ·rfl
 ·have h1:=zeV (l:=wd) (k:=8) h;have h3:(" ":Str).length=1:=rfl;rw[h3];lia
theorem zbH{wd:List Str}(h:wd≠[])(hf:∀ x∈wd,32∉x.cps.toList):jx (txt wd) " "=wd:=by
 unfold txt;rw[zb5];exact zdX h hf
theorem zfY{wd:List Str}(h:∀ x∈wd,x.length<=8):(txt wd).length<=9*wd.length:=by
 have h0:=zeu 32 wd;have h1:=zeV (l:=wd) (k:=8) h;unfold txt;rw[zb5];lia
theorem zo6{wd:List Str}(h:wd≠[])(hf:∀ x∈wd,32∉x.cps.toList):nb (txt wd)+1=wd.length:=by
 rw[<-zbQ,zbH h hf]
def due(wd:List Str):Str:=if wd=[] then "none" else txt wd
theorem zhD:jx "none" " "=[("none":Str)]:=by decide +kernel
theorem zlo{wd:List Str}(g:GoodWord wd):(due wd).length<=540/\nb (due wd)<=59:=by
 unfold due;have hl:=g.len;split
 ·exact⟨by decide,by decide⟩
 ·rename_i h;have h1:=zfY fun x hx=>zaP g hx;have h2:=zo6 h (zba g);exact⟨by lia,by lia⟩
theorem zmX{wd:List Str}(g:GoodWord wd):ans (due wd)=.tup [.str "told",.lst (wd.map T.str)]:=by
 unfold ans due
 by_cases h:wd=[]
 ·rw[Ip_ h,Ip_ rfl,h]; rfl
 ·rw[In_ h];have hs:=zbH h (zba g);have h2:2<=wd.length:=by
   obtain⟨x,hx⟩:=Y7 wd h;have:=QY (a:=x) (l:=wd);rw[g.two x hx] at this;exact this
  rw[In_ (fun e=>by rw[e,zhD] at hs; rw[<-hs] at h2; simp at h2),hs,In_ (by rw[jm.mpr fun x hx=>isNm_iff.mpr (g.name x hx)]; simp),Ip_ (zj4 g)]
theorem zj2{x:Str}{k:Nat}(h:k < x.length)(hx:x.length<=1000):∃ c,zaE (.str x) (.int (k:Nat))=some (.str (Sx [c])):=by
 have hk:k < x.cps.toList.length:=by rw[<-zc7]; exact h
 have ha:atI x.cps.toList (k:Int)=some x.cps.toList[k]:=zjD (j3 hk);refine⟨x.cps.toList[k],?_⟩;simp only[zaE,orG,gIx,zam (show x.length<=1000000 by lia),if_true,ha,jz]
 rfl
theorem zrC{l:List Nat}(h:l.length<=900){k:Nat}(hk:k<=l.length):zbC (.str (Sx l)) none (some (k:Int))=some (.str (Sx (l.take k))):=by
 have:=zoR l (j:=(k:Int)) (by lia) (by lia)
 simp only[zbC,zkx,zb1,zam (show l.length<=1000000 by lia),if_true,this,jv]
theorem zhs(x:Str):gJ x (some ((x.length:Int)+1)) none=gJ x (some (x.length:Int)) none:=by
 have e:Zz (some ((x.length:Int)+1)) none 1 x.length=Zz (some (x.length:Int)) none 1 x.length:=by
  unfold Zz;dsimp only;have a1:¬ ((x.length:Int)+1 < 0):=by lia
  have a2:¬ ((x.length:Int) < 0):=by lia
  simp only[In_ a1,In_ a2,show (1:Int) > 0 from by decide,if_true]
  rw[show min ((x.length:Int)+1) (x.length:Int)=(x.length:Int) by lia,show min (x.length:Int) (x.length:Int)=(x.length:Int) by lia]
 show Ym x _ none=Ym x _ none;unfold Ym;rw[e]
theorem zkT{l:List Nat}(h:l.length<=900){k:Nat}(hk:k<=l.length+1):zbC (.str (Sx l)) (some (k:Int)) none=some (.str (Sx (l.drop k))):=by
 have:gJ (Sx l) (some (k:Int)) none=Sx (l.drop k):=by
  by_cases hk':k<=l.length
  ·exact zgB l (j:=(k:Int)) (by lia) (by lia)
  ·obtain rfl:k=l.length+1:=by lia
   have h1:=zhs (Sx l);have h2:=zgB l (j:=(l.length:Int)) (by lia) (by lia)
   rw[zb1] at h1;rw[show ((l.length+1:Nat):Int)=(l.length:Int)+1 by lia,h1,h2,jv,YS (jl _),YS (QN _)]
 simp only[zbC,zkx,zb1,zam (show l.length<=1000000 by lia),if_true,this]
theorem zpL(l:List Nat):ZJ (Sx l)=Sx (l.flatMap QD):=by
 unfold ZJ placed Sx;refine congrArg Str.mk (gt.mp ?_);have e:(l.mapIdx fun _ c=>(QD c).toArray)=l.map fun c=>(QD c).toArray:=by
  refine List.ext_getElem? fun i=>?_;rw[List.getElem?_mapIdx,jk]
 simp only[Array.toList_flatten,Array.toList_mapIdx,e,Q6];rfl
theorem zpK{l:List Nat}(h:∀ c∈l,c=32∨(97<=c/\c<=122)):∃ m:List Nat,ZJ (Sx l)=Sx m/\m.length=l.length/\m.count 32=l.count 32:=by
 have one:∀ c,(c=32∨(97<=c/\c<=122))->∃ d,QD c=[d]/\(d=32↔c=32):=by
  have key:∀ c,c < 123->(c=32∨97<=c)->(QD c).length=1/\((QD c).headD 0=32↔c=32):=by decide +kernel
  intro c hc;obtain⟨h1,h2⟩:=key c (by lia) (by lia)
  match hu:QD c,h1 with
  |[d],_=>exact⟨d,rfl,by rw[hu] at h2; exact h2⟩
 have fl:∀ l:List Nat,(∀ c∈l,c=32∨(97<=c/\c<=122))->∃ m:List Nat,l.flatMap QD=m/\m.length=l.length/\m.count 32=l.count 32:=by
  intro l
  induction l with
  |nil=>intro _; exact⟨[],rfl,rfl,rfl⟩
  |cons c l ih=>
   intro h;obtain⟨d,hd,e⟩:=one c (h c (by simp))
   obtain⟨m,h1,h2,h3⟩:=ih fun c hc=>h c (jh _ hc);refine⟨d::m,by rw[List.flatMap_cons,hd,h1]; rfl,by rw[jw,h2]; rfl,?_⟩
   rw[QB,QB,h3]
   by_cases q:c=32
   ·rw[q,e.mpr q]
   ·have:¬ d=32:=fun z=>q (e.mp z);simp[q,this]
 obtain⟨m,h1,h2,h3⟩:=fl l h;refine⟨m,?_,h2,h3⟩;rw[<-h1];exact zpL l
theorem zoE{α:Type}(xs:List α)(k:Nat):zcu xs none (some (k:Int))=xs.take k:=by
 unfold zcu;rw[HT.sIx_nat,HT.sIx_none,Wy,Nat.sub_zero]
 by_cases h:k<=xs.length
 ·rw[gN h]
 ·rw[Wf (by lia),YM,QH (by lia)]
theorem zkH{α:Type}(xs:List α)(k:Nat):zcu xs (some (k:Int)) none=xs.drop k:=by
 unfold zcu;rw[HT.sIx_nat,HT.sIx_none]
 by_cases h:k<=xs.length
 ·rw[gN h,QH (by rw[Qk]; lia)]
 ·rw[Wf (by lia),Nat.sub_self,List.take_zero,List.drop_of_length_le (by lia)]
theorem zju{α β:Type}(f:α->β)(xs:List α)(lo hi:Option Int):zcu (xs.map f) lo hi=(zcu xs lo hi).map f:=by
 unfold zcu;simp
theorem zkP(w:List Str)(k:Nat):zbC (.lst (w.map T.str)) none (some (k:Int))=some (.lst ((w.take k).map T.str)):=by
 show some (T.lst (zcu (w.map T.str) none (some (k:Int))))=_;rw[zju,zoE]
theorem zjK(w:List Str)(k:Nat):zbC (.lst (w.map T.str)) (some (k:Int)) none=some (.lst ((w.drop k).map T.str)):=by
 show some (T.lst (zcu (w.map T.str) (some (k:Int)) none))=_;rw[zju,zkH]
theorem zkd{a b:List Str}(h:a.length+b.length<=1000000):zac (.lst (a.map T.str)) (.lst (b.map T.str))=some (.lst ((a++b).map T.str)):=by
 rw[zi4 (by simpa using h),Zv]
theorem zkJ(l:List Nat)(k:Nat):(l.take k).count 32<=l.count 32:=(Ya k l).count_le 32
theorem zkL(l:List Nat)(k:Nat):(l.drop k).count 32<=l.count 32:=(List.drop_sublist k l).count_le 32
theorem zoF(l:List Nat)(k:Nat):(l.take k).count 32+(l.drop k).count 32=l.count 32:=by
 rw[<-jO,gk]
theorem zmS(c:Nat):[c].count 32<=1:=Q2 QY (jl 1)
theorem zhM{ws:List Str}(h0:ws≠[])(hf:∀ x∈ws,32∉x.cps.toList)(h8:∀ x∈ws,x.length<=8)(hl:ws.length<=100)(hw:(za4 ws).length < 64):Fine (txt ws):=⟨by have:=zfY h8; lia,fun _=>by rw[zbH h0 hf]; exact hw⟩
theorem zjm{wd:List Str}(g:GoodWord wd)(h:wd≠[]):∀ c∈(txt wd).cps.toList,c=32∨(97<=c/\c<=122):=by
 unfold txt;rw[zb5,zcE];have:∀ {ws:List Str},ws≠[]->(∀ x∈ws,zbp x)->∀ c∈(Ze ⟨#[32]⟩ ws).cps.toList,c=32∨(97<=c/\c<=122):=by
  intro ws
  induction ws with
  |nil=>intro h; exact absurd rfl h
  |cons a r ih=>
   intro _ hn c hc;cases r with
   |nil=>exact .inr ((hn a (by simp)).2.2 c hc)
   |cons b r=>
    rw[zb4] at hc;rcases jQ.mp hc with q |q
    ·exact .inr ((hn a (by simp)).2.2 c q)
    ·rcases jA.mp q with q |q
     ·exact .inl q
     ·exact ih (by simp) (fun x hx=>hn x (jh _ hx)) c q
 exact this h g.name
theorem zez{x:Str}(h:x.length<=900)(hn:nb x<=62):Fine x:=by
 rw[zmY x];rw[zc7] at h;exact zbu h hn
def zbt:List Str->List Str
 |[]=>[]
 |[a]=>[a]
 |a::b::r=>a::Qh::zbt (b::r)
theorem zh2(a:Str)(r:List Str):zbt (a::r)≠[]:=by cases r<;>simp[zbt]
theorem ze6:∀ ws:List Str,Ze "  " ws=Ze ⟨#[32]⟩ (zbt ws)
 |[]=>rfl
 |[a]=>rfl
 |a::b::r=>by
  have ih:=ze6 (b::r);refine WW (gt.mp ?_);have e:zbt (a::b::r)=a::Qh::zbt (b::r):=rfl;obtain⟨x,y,h⟩:∃ x y,zbt (b::r)=x::y:=by
   cases hi:zbt (b::r) with
   |nil=>exact absurd hi (zh2 b r)
   |cons x y=>exact⟨x,y,rfl⟩
  rw[e,zb4,h,zb4,<-h,<-ih];show (a.cps++(#[32,32]:Array Nat)++(Ze "  " (b::r)).cps).toList=_;simp[Qh]
theorem zfx:∀ {ws:List Str} {x:Str},x∈zbt ws->x=Qh∨x∈ws
 |[],x,h=>by simp[zbt] at h
 |[a],x,h=>.inr h
 |a::b::r,x,h=>by
  rcases jA.mp h with q |q
  ·exact .inr (by rw[q]; simp)
  ·rcases jA.mp q with q |q
   ·exact .inl q
   ·exact(zfx q).imp id (jh _)
theorem zfy:∀ ws:List Str,(zbt ws).length<=2*ws.length/\((zbt ws).map (·.length)).sum=(ws.map (·.length)).sum
 |[]=>⟨jl _,rfl⟩
 |[a]=>⟨by simp[zbt],rfl⟩
 |a::b::r=>by
  obtain⟨h1,h2⟩:=zfy (b::r);refine⟨?_,?_⟩
  ·show (zbt (b::r)).length+1+1<=2*((b::r).length+1);lia
  ·show a.length+(Qh.length+((zbt (b::r)).map (·.length)).sum)=a.length+((b::r).map (·.length)).sum
   rw[h2];show a.length+(0+_)=_;lia
theorem zim{wd:List Str}(g:GoodWord wd)(h:wd≠[]):∃ y,zky " " "  " (.str (txt wd))=some (.str y)/\Fine y:=by
 have hl:=g.len;have tl:=zfY fun x hx=>zaP g hx;have hs:=zbH h (zba g);have h2:2<=wd.length:=by
  obtain⟨x,hx⟩:=Y7 wd h;have:=QY (a:=x) (l:=wd);rw[g.two x hx] at this;exact this
 have hp:=zki (x:=txt wd) (y:=" ") (by rw[hs]; exact h2)
 have er:gd (txt wd) " " "  "=gA " " (zbt wd):=by
  have hoc:(Qi (txt wd) " " 0 (txt wd).length ((txt wd).length+1)).isEmpty=false:=by
   cases q:(Qi (txt wd) " " 0 (txt wd).length ((txt wd).length+1)).isEmpty with
   |false=>rfl
   |true=>
    have:jx (txt wd) " "=[txt wd]:=by
     unfold jx;split
     ·rfl
     ·first |rfl |rw[Ip_ q]
    rw[hs] at this;rw[this] at h2;simp at h2
  unfold gd;rw[In_ (by rw[hoc]; decide)]
  show Builtin.Str.glued "  " (zdv (txt wd) " ")=_;rw[hp,hs];show gA "  " wd=_;rw[zcE,ze6,zb5,zcE]
 have fr:∀ x∈zbt wd,32∉x.cps.toList:=fun x hx=>by
  rcases zfx hx with q |q
  ·rw[q]; simp[Qh]
  ·exact zba g x q
 obtain⟨a,b,r,rfl⟩:∃ a b r,wd=a::b::r:=by
  match wd,h2 with
  |a::b::r,_=>exact⟨a,b,r,rfl⟩
 refine⟨gd (txt (a::b::r)) " " "  ",?_,?_⟩
 ·show (if (txt (a::b::r)).length<=1048576 then some (T.str (gd (txt (a::b::r)) " " "  ")) else none)=_
  rw[Ip_ (by lia)]
 ·rw[er];refine⟨?_,fun k=>?_⟩
  ·have j1:=zeu 32 (zbt (a::b::r));obtain⟨i1,i2⟩:=zfy (a::b::r);have j2:=zeV (l:=a::b::r) (k:=8) fun x hx=>zaP g hx;rw[<-zb5] at j1;lia
  ·have e:=zdX (c:=32) (zh2 a (b::r)) fr;rw[<-zb5] at e;rw[e] at k;have:=k Qh (by simp[zbt])
   exact absurd this (by decide)
def AA:Str:="abcdefghijklmnopqrstuvwxyzabcdefghijklmnopqrstuvwxyz"
def qx(c:Nat):Str:=Sx [113,120,c]
def msA:List Str:=AA.cps.toList.map qx
theorem ziT:msA.length=52:=by decide +kernel
theorem ziS{x:Str}(h:x∈msA):∃ i,i < 26/\x=qx (97+i):=by
 obtain⟨c,hc,rfl⟩:=Q5.mp h;have key:∀ c∈AA.cps.toList,97<=c/\c<=122:=by decide +kernel
 have:=key c hc;exact⟨c - 97,by lia,by rw[show 97+(c - 97)=c by lia]⟩
theorem zq9{i:Nat}:(qx (97+i)).length=3/\32∉(qx (97+i)).cps.toList:=by
 unfold qx;rw[zb1,zcy];refine⟨rfl,fun h=>?_⟩;simp only[jA,gq,or_false] at h;lia
theorem ziU{wd:List Str}(g:GoodWord wd)(h:wd≠[]){pt:List Str}(hp:∀ x∈pt,x∈msA)(hl:pt.length<=52):Fine (txt (wd++pt))/\zjd " " (.lst ((wd++pt).map T.str))=some (.str (txt (wd++pt))):=by
 have wl:=g.len;have p3:∀ x∈pt,x.length=3/\32∉x.cps.toList:=fun x hx=>by
  obtain⟨i,_,rfl⟩:=ziS (hp x hx);exact zq9
 have fr:∀ x∈wd++pt,32∉x.cps.toList:=fun x hx=>(jQ.mp hx).elim (zba g x) fun q=>(p3 x q).2;have l8:∀ x∈wd++pt,x.length<=8:=fun x hx=>(jQ.mp hx).elim (zaP g) fun q=>by have:=(p3 x q).1; lia
 have ne:wd++pt≠[]:=fun z=>h (List.append_eq_nil_iff.mp z).1;refine⟨⟨?_,fun _=>?_⟩,zmy l8 (by rw[js]; lia)⟩
 ·have j:=zeu 32 (wd++pt);have s1:=zeV (l:=wd) (k:=8) fun x hx=>zaP g hx;have s2:=zeV (l:=pt) (k:=3) fun x hx=>W8 (p3 x hx).1;rw[Zv,List.sum_append,js,<-zb5] at j;unfold txt;lia
 ·rw[zbH ne fr];have:=zeq (zcU (wd++pt)) (m:=za4 wd++(jK 26).map fun i=>qx (97+i)) fun x hx=>by
   rcases jQ.mp (mem_firsts.mp hx) with q |q
   ·exact ZD _ (mem_firsts.mpr q)
   ·obtain⟨i,hi,rfl⟩:=ziS (hp x q);exact jH _ (Q5.mpr ⟨i,jR.mpr hi,rfl⟩)
  rw[js,je,ZB] at this;have t2:=zi5 g.two;lia
theorem zhV{wd:List Str}(g:GoodWord wd)(c:Int):∃ y,zbP [.str (due wd),.lst (wd.map T.str),.int c]=some (.str y)/\Fine y:=by
 obtain⟨dl,dn⟩:=zlo g;have wl:=g.len;have hch:wd≠[]->∀ c∈(due wd).cps.toList,c=32∨(97<=c/\c<=122):=fun h=>by
  have:due wd=txt wd:=In_ h;rw[this]; exact zjm g h
 have hrep:wd≠[]->∃ y,zky " " "  " (.str (due wd))=some (.str y)/\Fine y:=fun h=>by
  have:due wd=txt wd:=In_ h;rw[this]; exact zim g h
 generalize hX:due wd=X at dl dn hch hrep;obtain⟨l,rfl⟩:∃ l,X=Sx l:=⟨_,zmY X⟩;rw[zb1] at dl;rw[zo7] at dn;rw[zcy] at hch;have lx:zbV (.str (Sx l))=some (.int (l.length:Nat)):=by rw[zeR (by rw[zb1]; lia),zb1]
 obtain⟨z1,e1,a1,b1⟩:=zaF c 1 8 (by decide) (by decide) (by decide)
 obtain⟨z2,e2,a2,b2⟩:=zaF c 2 ((l.length:Int)+1) (by decide) (by decide) (by lia)
 obtain⟨k2,rfl⟩:∃ k:Nat,z2=(k:Int):=⟨z2.toNat,by lia⟩
 obtain⟨z3,e3,a3,b3⟩:=zaF c 3 19 (by decide) (by decide) (by decide)
 obtain⟨k3,rfl⟩:∃ k:Nat,z3=(k:Int):=⟨z3.toNat,by lia⟩
 obtain⟨d,hd⟩:=zj2 (x:="abz AZ09_-;:none`{@") (k:=k3) (by show k3 < 19; lia) (by decide)
 have d1:=zmS d;have c1:=zoF l k2;have c2:(l.drop (k2+1)).count 32<=(l.drop k2).count 32:=by
  have:=zkL (l.drop k2) 1
  rwa [List.drop_drop] at this
 have c3:=zkJ l k2;have hk2:k2<=l.length:=by lia
 have tl:(l.take k2).length=k2:=by rw[jN]; lia
 have s1:=zrC (l:=l) (by lia) hk2
 have s2:=zkT (l:=l) (by lia) (k:=k2) (by lia)
 have s3:=zkT (l:=l) (by lia) (k:=k2+1) (by lia)
 rw[show ((k2+1:Nat):Int)=(k2:Int)+1 by lia] at s3
 have p1:=zaD (l.take k2) [d] (by rw[tl]; simp; lia)
 have p2:=zaD (l.take k2++[d]) (l.drop k2) (by rw[js,tl,Qk]; simp; lia)
 have p3:=zaD (l.take k2) (l.drop (k2+1)) (by rw[tl,Qk]; lia)
 have p4:=zaD (l.take k2++[d]) (l.drop (k2+1)) (by rw[js,tl,Qk]; simp; lia)
 obtain⟨t,e,y,rfl,hF⟩:=zgi (n:=9) (d:=zbc) (ts:=[.str (Sx l),.lst (wd.map T.str),.int c]) (Q:=fun t=>∃ y,t=.str y/\Fine y) (by
  show Run zbc [some (.str (Sx l)),some (.lst (wd.map T.str)),some (.int c),none,none,none,none,none,none] _;unfold zbc;have gs:zbV (.str "abz AZ09_-;:none`{@")=some (.int 19):=rfl;refine zah (s':=[some (.str (Sx l)),some (.lst (wd.map T.str)),some (.int c),some (.str "abz AZ09_-;:none`{@"),none,none,none,none,none]) (by simp?[]<;>rfl) ?_
  refine zah (s':=[some (.str (Sx l)),some (.lst (wd.map T.str)),some (.int c),some (.str "abz AZ09_-;:none`{@"),some (.int z1),none,none,none,none]) (by simp?[e1]) ?_
  refine zah (s':=[some (.str (Sx l)),some (.lst (wd.map T.str)),some (.int c),some (.str "abz AZ09_-;:none`{@"),some (.int z1),some (.int (k2:Int)),none,none,none]) (by simp?[lx,e2]) ?_
  refine zah (s':=[some (.str (Sx l)),some (.lst (wd.map T.str)),some (.int c),some (.str "abz AZ09_-;:none`{@"),some (.int z1),some (.int (k2:Int)),some (.str (Sx [d])),none,none]) (by simp?[gs,e3,hd]) ?_
  generalize T.str "abz AZ09_-;:none`{@"=SG
  by_cases w0:z1=0
  ·exact zcN (by simp?[Dt_ w0,s1,p1,s2,p2]<;>rfl) ⟨_,_,rfl,_,rfl,zbu (by simp; lia) (by rw[jO,jO]; lia)⟩
  refine zah (s':=[some (.str (Sx l)),some (.lst (wd.map T.str)),some (.int c),some SG,some (.int z1),some (.int (k2:Int)),some (.str (Sx [d])),none,none]) (by simp?[Df_ w0]) ?_
  by_cases w1:z1=1
  ·exact zcN (by simp?[Dt_ w1,s1,s3,p3]<;>rfl) ⟨_,_,rfl,_,rfl,zbu (by simp; lia) (by rw[jO]; lia)⟩
  refine zah (s':=[some (.str (Sx l)),some (.lst (wd.map T.str)),some (.int c),some SG,some (.int z1),some (.int (k2:Int)),some (.str (Sx [d])),none,none]) (by simp?[Df_ w1]) ?_
  by_cases w2:z1=2
  ·exact zcN (by simp?[Dt_ w2,s1,p1,s3,p4]<;>rfl) ⟨_,_,rfl,_,rfl,zbu (by simp; lia) (by rw[jO,jO]; lia)⟩
  refine zah (s':=[some (.str (Sx l)),some (.lst (wd.map T.str)),some (.int c),some SG,some (.int z1),some (.int (k2:Int)),some (.str (Sx [d])),none,none]) (by simp?[Df_ w2]) ?_
  have hE:gEq (.lst (wd.map T.str)) (.lst [])=some (.bl (decide (wd=[]))):=zlH wd []
  by_cases hw:wd=[]
  ·obtain⟨z4,e4,a4,b4⟩:=zaF c 4 7 (by decide) (by decide) (by decide)
   obtain⟨k4,rfl⟩:∃ k:Nat,z4=(k:Int):=⟨z4.toNat,by lia⟩
   have q7:7<=ja:=zam (by lia)
   have all7:∀ y∈([""," ","none none","None","a","a a a","nonea"]:List Str),y.length<=900/\nb y<=62:=by decide
   have i7:∃ y,zaE (.lst [.str "",.str " ",.str "none none",.str "None",.str "a",.str "a a a",.str "nonea"]) (.int (k4:Int))=some (.str y)/\y∈([""," ","none none","None","a","a a a","nonea"]:List Str):=by
    have h7:k4 < ([""," ","none none","None","a","a a a","nonea"]:List Str).length:=by show k4 < 7; lia
    refine⟨_,?_,Q8 h7⟩;show zaE (.lst (([""," ","none none","None","a","a a a","nonea"]:List Str).map T.str)) (.int (k4:Int))=_;rw[zgE,jk,j3 h7]; rfl
   obtain⟨y,i7,my⟩:=i7;exact zcN (by simp?[hE,Dt_ hw,q7,e4,i7]<;>rfl) ⟨_,_,rfl,y,rfl,zez (all7 y my).1 (all7 y my).2⟩
  refine zah (s':=[some (.str (Sx l)),some (.lst (wd.map T.str)),some (.int c),some SG,some (.int z1),some (.int (k2:Int)),some (.str (Sx [d])),none,none]) (by simp?[hE,Df_ hw]) ?_
  have wp:0 < wd.length:=List.length_pos_iff.mpr hw;obtain⟨z5,e5,a5,b5⟩:=zaF c 5 ((wd.length:Nat):Int) (by decide) (by decide) (by lia)
  obtain⟨k5,rfl⟩:∃ k:Nat,z5=(k:Int):=⟨z5.toNat,by lia⟩
  have h5:k5 < wd.length:=by lia
  refine zah (s':=[some (.str (Sx l)),some (.lst (wd.map T.str)),some (.int c),some SG,some (.int z1),some (.int (k2:Int)),some (.str (Sx [d])),some (.int (k5:Int)),none]) (by simp?[e5]) ?_
  have bl:(" ":Str)=Sx [32]:=rfl;have i5:zaE (.lst (wd.map T.str)) (.int (k5:Int))=some (.str wd[k5]):=by rw[zgE,jk,j3 h5]; rfl
  have q5:=Q8 h5
  by_cases w3:z1=3
  ·have n8:=zaP g q5;have nf:=zba g _ q5;obtain⟨m,hm⟩:∃ m,wd[k5]=Sx m:=⟨_,zmY _⟩;rw[hm] at i5 n8 nf;rw[zb1] at n8;rw[zcy] at nf;have p5:zac (.str (Sx l)) (.str " ")=some (.str (Sx (l++[32]))):=by rw[bl]; exact zaD l [32] (by simp; lia)
   have p6:=zaD (l++[32]) m (by simp; lia)
   exact zcN (by simp?[Dt_ w3,p5,i5,p6]<;>rfl) ⟨_,_,rfl,_,rfl,zbu (by simp; lia) (by rw[jO,jO,Zh nf]; simp; lia)⟩
  refine zah (s':=[some (.str (Sx l)),some (.lst (wd.map T.str)),some (.int c),some SG,some (.int z1),some (.int (k2:Int)),some (.str (Sx [d])),some (.int (k5:Int)),none]) (by simp?[Df_ w3]) ?_
  have sub:∀ {ws:List Str},(∀ x∈ws,x∈wd)->ws≠[]->ws.length<=63->Fine (txt ws)/\zjd " " (.lst (ws.map T.str))=some (.str (txt ws)):=fun {ws} hs h0 h3=>
   ⟨zhM h0 (fun x hx=>zba g x (hs x hx)) (fun x hx=>zaP g (hs x hx)) (by lia) (by have:=zcp ws; lia),zmy (fun x hx=>zaP g (hs x hx)) (by lia)⟩
  have h2:2<=wd.length:=by
   have:=QY (a:=wd[k5]) (l:=wd);rw[g.two _ q5] at this;exact this
  have sA:=zkP wd k5;have sB:=zjK wd (k5+1);rw[show ((k5+1:Nat):Int)=(k5:Int)+1 by lia] at sB
  have la:(wd.take k5).length=k5:=by rw[jN]; lia
  have lb:(wd.drop (k5+1)).length=wd.length - (k5+1):=Qk
  by_cases w4:z1=4
  ·have pl:=zkd (a:=wd.take k5) (b:=wd.drop (k5+1)) (by lia)
   obtain⟨f1,f2⟩:=sub (ws:=wd.take k5++wd.drop (k5+1)) (fun x hx=>by
    rcases jQ.mp hx with q |q
    ·exact Qt q
    ·exact gy q) (fun z=>by have:=congrArg gF z; rw[js,la,lb,gG] at this; lia) (by rw[js,la,lb]; lia)
   exact zcN (by simp?[Dt_ w4,sA,sB,pl,f2]<;>rfl) ⟨_,_,rfl,_,rfl,f1⟩
  refine zah (s':=[some (.str (Sx l)),some (.lst (wd.map T.str)),some (.int c),some SG,some (.int z1),some (.int (k2:Int)),some (.str (Sx [d])),some (.int (k5:Int)),none]) (by simp?[Df_ w4]) ?_
  by_cases w5:z1=5
  ·obtain⟨z6,e6,a6,b6⟩:=zaF c 6 ((wd.length:Nat):Int) (by decide) (by decide) (by lia)
   obtain⟨k6,rfl⟩:∃ k:Nat,z6=(k:Int):=⟨z6.toNat,by lia⟩
   have h6:k6 < wd.length:=by lia
   have i6:zaE (.lst (wd.map T.str)) (.int (k6:Int))=some (.str wd[k6]):=by rw[zgE,jk,j3 h6]; rfl
   have q6:=Q8 h6;generalize wd[k6]=u at i6 q6;have pl:zac (.lst ((wd.take k5).map T.str)) (.lst [.str u])=some (.lst ((wd.take k5++[u]).map T.str)):=zkd (a:=wd.take k5) (b:=[u]) (by simp; lia)
   have pl2:=zkd (a:=wd.take k5++[u]) (b:=wd.drop (k5+1)) (by rw[js,la,lb]; simp; lia)
   obtain⟨f1,f2⟩:=sub (ws:=wd.take k5++[u]++wd.drop (k5+1)) (fun x hx=>by
    rcases jQ.mp hx with q |q
    ·rcases jQ.mp q with q |q
     ·exact Qt q
     ·rw[jI.mp q]; exact q6
    ·exact gy q) (by simp) (by rw[js,js,la,lb]; simp; lia)
   exact zcN (by simp?[Dt_ w5,sA,e6,i6,pl,sB,pl2,f2]<;>rfl) ⟨_,_,rfl,_,rfl,f1⟩
  refine zah (s':=[some (.str (Sx l)),some (.lst (wd.map T.str)),some (.int c),some SG,some (.int z1),some (.int (k2:Int)),some (.str (Sx [d])),some (.int (k5:Int)),none]) (by simp?[Df_ w5]) ?_
  by_cases w6:z1=6
  ·obtain⟨z7,e7,a7,b7⟩:=zaF c 7 27 (by decide) (by decide) (by decide)
   obtain⟨k7,rfl⟩:∃ k:Nat,z7=(k:Int):=⟨z7.toNat,by lia⟩
   have elc:=zbN (M:=[]) (caps:=[none]) (fi:=zcX (dC (.str "abcdefghijklmnopqrstuvwxyzabcdefghijklmnopqrstuvwxyz"))) (dg:=dGn 0) (fe:=d2 zac (dC (.str "qx")) (dV 0)) (s:=[some (.str (Sx l)),some (.lst (wd.map T.str)),some (.int c),some SG,some (.int z1),some (.int (k2:Int)),some (.str (Sx [d])),some (.int (k5:Int)),none]) AA.cps.toList zg2 (fun c=>.str (qx c)) (by simp?[]<;>rfl) (by rw[<-zc7]; decide) (by
    intro c hc;have:zac (.str "qx") (.str ⟨#[c]⟩)=some (.str (qx c)):=zaD [113,120] [c] (by simp)
    exact⟨[some (.str ⟨#[c]⟩)],rfl,by simp?[this],rfl⟩)
   rw[show AA.cps.toList.map (fun c=>T.str (qx c))=msA.map T.str by unfold msA; rw[Q6]; rfl] at elc
   have gS:zev (.lst (msA.map T.str))=some (.lst ((zaW msA).map T.str)):=by
    show (match zce (msA.map T.str) with
     |some ss=>if ss.length < 64 then some (T.lst ((zaW ss).map T.str)) else none
     | none=>(zj7 (msA.map T.str)).bind fun ns=>if ns.length < 64 then some (T.lst ((zed ns).map T.int)) else none)=_
    rw[zbG];dsimp only;rw[Ip_ (by rw[ziT]; decide)]
   have sC:=zkP (zaW msA) (2*k7);rw[show ((2*k7:Nat):Int)=2*(k7:Int) by lia] at sC
   have pm:=zbi msA;have pl5:((zaW msA).take (2*k7)).length<=52:=by rw[jN,pm.length_eq,ziT]; lia
   have plus6:=zkd (a:=wd) (b:=(zaW msA).take (2*k7)) (by lia)
   obtain⟨f1,f2⟩:=ziU g hw (pt:=(zaW msA).take (2*k7)) (fun x hx=>pm.mem_iff.mp (Qt hx)) pl5;exact zcN (by simp?[Dt_ w6,elc,gS,e7,sC,plus6,f2]<;>rfl) ⟨_,_,rfl,_,rfl,f1⟩
  have w7:z1=7:=by lia
  refine zah (s':=[some (.str (Sx l)),some (.lst (wd.map T.str)),some (.int c),some SG,some (.int z1),some (.int (k2:Int)),some (.str (Sx [d])),some (.int (k5:Int)),none]) (by simp?[Df_ w6]) ?_
  obtain⟨z8,e8,a8,b8⟩:=zaF c 8 5 (by decide) (by decide) (by decide)
  obtain⟨k8,rfl⟩:∃ k:Nat,z8=(k:Int):=⟨z8.toNat,by lia⟩
  obtain⟨r,er,fr⟩:=hrep hw;obtain⟨m,eu,ml,mc⟩:=zpK (hch hw);have gu:zjb (.str (Sx l))=some (.str (Sx m)):=by
   show (if (ZJ (Sx l)).length<=ja then some (T.str (ZJ (Sx l))) else none)=_
   rw[eu,Ip_ (zam (by rw[zb1]; lia))]
  have p5:zac (.str " ") (.str (Sx l))=some (.str (Sx ([32]++l))):=by rw[bl]; exact zaD [32] l (by simp; lia)
  have p6:zac (.str (Sx l)) (.str " ")=some (.str (Sx (l++[32]))):=by rw[bl]; exact zaD l [32] (by simp; lia)
  have p7:zac (.str "none ") (.str (Sx l))=some (.str (Sx ([110,111,110,101,32]++l))):=by
   rw[show ("none ":Str)=Sx [110,111,110,101,32] from rfl]; exact zaD [110,111,110,101,32] l (by simp; lia)
  have q5':5<=ja:=zam (by lia)
  obtain⟨y,i8,f8⟩:∃ y,zaE (.lst [.str (Sx ([32]++l)),.str (Sx (l++[32])),.str r,.str (Sx m),.str (Sx ([110,111,110,101,32]++l))]) (.int (k8:Int))=some (.str y)/\Fine y:=by
   have c5:k8=0∨k8=1∨k8=2∨k8=3∨k8=4:=by lia
   rcases c5 with rfl |rfl |rfl |rfl |rfl
   ·exact⟨_,rfl,zbu (by simp; lia) (by rw[jO]; simp; lia)⟩
   ·exact⟨_,rfl,zbu (by simp; lia) (by rw[jO]; simp; lia)⟩
   ·exact⟨_,rfl,fr⟩
   ·exact⟨_,rfl,zbu (by lia) (by lia)⟩
   ·exact⟨_,rfl,zbu (by simp; lia) (by rw[jO]; simp; lia)⟩
  exact zlY (r:=.rt (.str y) [some (.str (Sx l)),some (.lst (wd.map T.str)),some (.int c),some SG,some (.int z1),some (.int (k2:Int)),some (.str (Sx [d])),some (.int (k5:Int)),none]) (by simp?[p5,p6,er,gu,p7,q5',e8,i8]) ⟨_,_,rfl,y,rfl,f8⟩)
 exact⟨y,e,hF⟩
theorem zkC{wd:List Str}(g:GoodWord wd):Fine (due wd):=by
 obtain⟨h1,h2⟩:=zlo g;exact zez (by lia) (by lia)
theorem zhU(ns:List Int):(zcu ns (some 2) (some 11)).length<=11:=by
 unfold zcu;rw[jN];have:HT.sIx ns.length ns.length (some ((11:Nat):Int))=min 11 ns.length:=HT.sIx_nat _ _ 11;have:HT.sIx ns.length ns.length (some 11)=min 11 ns.length:=this;lia
theorem zod(ns:List Int):zor [.scr ns]=some (.bl true):=by
 have c0:zbb [.scr ns,.int 0]=some (.int (ns.getD 0 0)):=zjw ns 0;have c1:zbb [.scr ns,.int 1]=some (.int (ns.getD 1 0)):=zjw ns 1;generalize ns.getD 0 0=k0 at c0;generalize ns.getD 1 0=k1 at c1;obtain⟨m,em,hm⟩:=zkI k0;obtain⟨names,en,ln,nd,nn⟩:=ziP k0 hm;obtain⟨wd,ew,gw,lw,_⟩:=zjI k1 (names:=names) (by lia) nd nn
 have hl:=gw.len;have gj:=zmy (wd:=wd) (fun x hx=>zaP gw hx) (by lia)
 have hE:gEq (.lst (wd.map T.str)) (.lst [])=some (.bl (decide (wd=[]))):=zlH wd [];have same:∀ {x:Str},Fine x->∀ {s:Sg},s[5]?=some (some (.str x))->zbe (dB (d2 gNe (zaj zb0 (dAc (dV 5) dAn)) (zaj zco (dAc (dV 5) dAn)))) (zan [] (dC (.bl false))) zav s=some (.nx s):=fun {x} hF {s} hs=>by
  have h1:=zi9 hF;have h2:=zo0 hF;have h3:=zoP x;refine zr0 (s':=s) ?_ rfl
  simp?[hs,h1,h2,h3]
 refine ze8 ?_;show Run zkE [some (.scr ns),none,none,none,none,none] _;unfold zkE;refine zah (s':=[some (.scr ns),some (.int k0),none,none,none,none]) (by simp?[c0]) ?_
 refine zah (s':=[some (.scr ns),some (.int k0),some (.lst (wd.map T.str)),none,none,none]) (by simp?[c1,em,en,ew]) ?_
 refine zah (s':=[some (.scr ns),some (.int k0),some (.lst (wd.map T.str)),some (.str (txt wd)),none,none]) (by simp?[gj]) ?_
 refine zah (s':=[some (.scr ns),some (.int k0),some (.lst (wd.map T.str)),some (.str (due wd)),none,none]) (by
  by_cases h:wd=[]
  ·simp?[hE,Dt_ h,show due wd="none" from Ip_ h]
  ·simp?[hE,Df_ h,show due wd=txt wd from In_ h]) ?_
 have dl:=zkC gw;have et:=zi9 dl;have ea:=zmX gw;have ch:=zhV gw;generalize due wd=D at dl et ea ch;obtain⟨its,hi,hint⟩:∃ its:List T,zcX (d2 zac (zeM (dAc (d2 zac (dV 1) (dC (.int 1))) dAn)) (dSl zbC (dV 0) (dOs (dC (.int 2))) (dOs (dC (.int 11))))) [some (.scr ns),some (.int k0),some (.lst (wd.map T.str)),some (.str D),none,none]=some (its,[some (.scr ns),some (.int k0),some (.lst (wd.map T.str)),some (.str D),none,none])/\∀ z∈its,∃ i,z=.int i:=by
  have sl:zbC (.scr ns) (some 2) (some 11)=some (.lst ((zcu ns (some 2) (some 11)).map T.int)):=rfl;have hcl:=zhU ns;generalize zcu ns (some 2) (some 11)=cs at sl hcl;have pl:zac (.lst [.int (k0+1)]) (.lst (cs.map T.int))=some (.lst (((k0+1)::cs).map T.int)):=by rw[zi4 (by rw[je,Zr]; lia)]; rfl
  exact⟨((k0+1)::cs).map T.int,by simp?[sl,pl],fun z hz=>by
   obtain⟨i,_,rfl⟩:=Q5.mp hz
   exact⟨i,rfl⟩⟩
 refine zdo (its:=its) (fun _ s=>∃ a b,s=[some (.scr ns),some (.int k0),some (.lst (wd.map T.str)),some (.str D),a,b]) hi ⟨_,_,rfl⟩ ?_ ?_
 ·rintro j z s hz ⟨a,b,rfl⟩;obtain⟨i,rfl⟩:=hint z (jZ hz);obtain⟨y,ey,fy⟩:=ch i;refine⟨[some (.scr ns),some (.int k0),some (.lst (wd.map T.str)),some (.str D),some (.int i),b],rfl,?_⟩;refine zah (s':=[some (.scr ns),some (.int k0),some (.lst (wd.map T.str)),some (.str D),some (.int i),some (.str y)]) (by simp?[ey]) ?_
  exact zbR (same fy rfl) ⟨_,_,rfl⟩
 ·rintro s ⟨a,b,rfl⟩;have q10:10<=ja:=zam (by lia)
  have all10:∀ y∈([""," ","a","a a","a b a b","a a a a","a  a","a b b","abcdefghi abcdefghi","none none"]:List Str),y.length<=900/\nb y<=62:=by decide
  refine zdo (its:=([""," ","a","a a","a b a b","a a a a","a  a","a b b","abcdefghi abcdefghi","none none"]:List Str).map T.str) (fun _ s=>∃ b,s=[some (.scr ns),some (.int k0),some (.lst (wd.map T.str)),some (.str D),a,b]) (by simp?[q10]<;>rfl) ⟨_,rfl⟩ ?_ ?_
  ·rintro j z s hz ⟨b,rfl⟩;rw[jk] at hz;obtain⟨y,hy,rfl⟩:=Qm hz;have fy:=all10 y (jZ hy);refine⟨[some (.scr ns),some (.int k0),some (.lst (wd.map T.str)),some (.str D),a,some (.str y)],rfl,?_⟩;exact zbR (same (zez fy.1 fy.2) rfl) ⟨_,rfl⟩
  ·rintro s ⟨b,rfl⟩;have es:=zls D;rw[ea] at es et;have eg:gEq (.tup [.str "told",.lst (wd.map T.str)]) (.tup [.str "told",.lst (wd.map T.str)])=some (.bl true):=by
    show (eqD 8 _ _).map T.bl=_;rw[es]; rfl
   exact zbI (by simp?[et,eg]<;>rfl) rfl
end Dw
namespace Dw
open PySem PySem.Spec PyProof.Rows L2 L3
set_option maxHeartbeats 1000000 in
theorem zoQ{l:gH}{w:jS}{K:j9}{h:Qq}{mg:Str->Option j5}{fa:ji}(X:K.In h)(G:h.Ns jr mg)(hfa:mg "law"=some (.ref fa)){tq1:Tok}{tq2:Tok}{tq3:Tok}{kNoMove kDrawError kNoRow kNotDrawn kNoText kNoWord:ji}
  (a1:Fd K "_law_cell" zek)
  (a2:Fd K "_law_bag" zg5)
  (a3:Fd K "_law_draw" zej)
  (a4:Fd K "_law_word" zeg)
  (a5:Fd K "_law_pick" zei)
  (a6:Fd K "_law_names" zdm)
  (a7:Fd K "_law_changed" zc2)
  (a8:Fd K "is_name" zc1)
  (a9:Fd K "is_word" zc0)
  (a10:Fd K "read_word" zaK)
  (a11:Fd K "read_word" zbY)
  (a12:Fd K "_law_told" zeh)
  (a13:Fd K "_law_count" zdn)
  (a14:Fd K "_law_own" zg4)
  (a15:Fd K "law" zlU)
  (z1:jD K jr "len"=some none)
  (z2:jD K jr "list"=some none)
  (z3:jD K jr "range"=some none)
  (z4:jD K jr "sorted"=some none)
  (z5:jD K jr "all"=some none)
  (z6:jD K jr "isinstance"=some none)
  (z7:jD K jr "ValueError"=some none)
  (z8:jD K jr "int"=some none)
  (z9:jD K jr "min"=some none)
  (z10:jD K jr "set"=some none)
  (q1:jD K jr "LONGEST_NAME"=some (some (.int 8 tq1)))
  (q2:jD K jr "MOST_NAMES"=some (some (.int 30 tq2)))
  (q3:jD K jr "EMPTY"=some (some (.str "none" tq3)))
  (xNoMove:jD K jr "NoMove"=some (some (.ref kNoMove)))
  (xDrawError:jD K jr "DrawError"=some (some (.ref kDrawError)))
  (xNoRow:jD K jr "NoRow"=some (some (.ref kNoRow)))
  (xNotDrawn:jD K jr "NotDrawn"=some (some (.ref kNotDrawn)))
  (xNoText:jD K jr "NoText"=some (some (.ref kNoText)))
  (xNoWord:jD K jr "NoWord"=some (some (.ref kNoWord)))
  (xAll:L3.zqq K kNoMove kDrawError kNoRow kNotDrawn kNoText kNoWord=true)
  : ∃ fd:QU,(∀(s:j6) (v:j5),NL s fd ⟨[v],[]⟩ [("_law_script",v)])/\∀ base:Qq,K.In base->base.Ns jr mg->FnOk l.prog w K mg base CX0 5 fa fd ["_law_script"] (L3.zhr K):=by
 have m_len:=Q1 X G z1;have m_list:=Q1 X G z2;have m_range:=Q1 X G z3;have m_sorted:=Q1 X G z4;have m_all:=Q1 X G z5;have m_isinstance:=Q1 X G z6;have m_ValueError:=Q1 X G z7;have m_int:=Q1 X G z8;have m_min:=Q1 X G z9;have m_set:=Q1 X G z10;have c_LONGEST_NAME:=Qo X G q1;have c_MOST_NAMES:=Qo X G q2;have c_EMPTY:=Qo X G q3;refine zkr (M':=[]) (Mb:=[]) X G hfa a15 zkV (fun _ _ _ _ _ _ _=>rfl) (by decide) zod fun base KB GB=>?_
 letI:TheK:=⟨K⟩
 let v:Ev:=⟨l.prog,w,mg,base⟩
 let a:Ax:=⟨kNoMove,kDrawError,kNoRow,kNotDrawn,kNoText,kNoWord⟩
 have mt:Mt v a:=L3.zqp (v:=v) (a:=a) KB GB xNoMove xDrawError xNoRow xNotDrawn xNoText xNoWord xAll;have md:=a1.here X G (ps:=["_law_script","_law_k"]) (bd2 fun _ _ _ _ _ _ _ _=>rfl);have pA:=a2.here X G (ps:=["_law_cell_here"]) (bd1 fun _ _ _ _ _ _ _=>rfl);have pC:=a3.here X G (ps:=["_law_bag_here","_law_many"]) (bd2 fun _ _ _ _ _ _ _ _=>rfl);have pI:=a4.here X G (ps:=["_law_cell_here","_law_names_here"]) (bd2 fun _ _ _ _ _ _ _ _=>rfl);have pB:=a5.here X G (ps:=["_law_cell_here","_law_turn","_law_many"]) (bd3 fun _ _ _ _ _ _ _ _ _=>rfl);have pZ:=a6.here X G (ps:=["_law_cell_here","_law_many"]) (bd2 fun _ _ _ _ _ _ _ _=>rfl);have pO:=a7.here X G (ps:=["_law_text","_law_word_here","_law_cell_here"]) (bd3 fun _ _ _ _ _ _ _ _ _=>rfl);have pG:=a8.here X G (ps:=["text"]) (bd1 fun _ _ _ _ _ _ _=>rfl);have ma:=a9.here X G (ps:=["some"]) (bd1 fun _ _ _ _ _ _ _=>rfl);have ph:=a10.here X G (ps:=["text"]) (bd1 fun _ _ _ _ _ _ _=>rfl);have pJ:=a11.here X G (ps:=["text"]) (bd1 fun _ _ _ _ _ _ _=>rfl);have pK:=a12.here X G (ps:=["_law_text"]) (bd1 fun _ _ _ _ _ _ _=>rfl);have pU:=a13.here X G (ps:=["_law_cell_here","_law_most"]) (bd2 fun _ _ _ _ _ _ _ _=>rfl);have pH:=a14.here X G (ps:=["_law_text"]) (bd1 fun _ _ _ _ _ _ _=>rfl);have pP:zeH v 1:=ziM md m_len;have mf:zgA v 1:=zkm pA;have pX:zeG v 1:=ziL pC;have pR:zeE v 2:=ziJ pI mf.up pX.up m_list m_range m_len;have pk:zcx v 1:=ziK pB;have pW:zdN v 2:=zhA pZ pk.up m_range m_len;have pT:zca v 2:=zfo pO pk.up m_len m_sorted;have pg:zaX v 1:=zfn pG m_all m_len c_LONGEST_NAME;have pj:zbd v 2:=zfm ma pg.up m_all m_len c_MOST_NAMES;have p9:zby v 3:=zdQ ph pg.up pj.up m_all c_EMPTY;have pq:zbx v a 3:=zdw ph pg.up pj.up m_all c_EMPTY mt;have pD:zbh v a 3:=zcZ pJ pg.up pj.up m_all c_EMPTY mt;have pV:zeF v 4:=zhC pK p9.up pq.up pD.up m_isinstance m_ValueError m_int mt;have pL:zdO v 2:=zhB pU pk.up m_min;have pM:zgz v 1:=zkl pH m_all m_len m_sorted m_set;exact zqM (v:=v) pP.up pR.up pW.up pL.up pT.up pM.up pV.up
end Dw
namespace PySem.W.Fast
theorem tw12145160311644503671:True:=⟨⟩
theorem tw13808726487856142289:True:=⟨⟩
theorem tw14865304468492033408:True:=⟨⟩
theorem tw17883959687411808562:True:=⟨⟩
theorem tw8247213684295850263:True:=⟨⟩
theorem tw8072513077972223428:True:=⟨⟩
theorem tw18271272881082533957:True:=⟨⟩
theorem tw10520803107187022251:True:=⟨⟩
theorem tw2463254808425744922:True:=⟨⟩
theorem tw9358810473786873895:True:=⟨⟩
theorem tw9831257310354661095:True:=⟨⟩
theorem tw7407229727593022856:True:=⟨⟩
theorem tw4637218196725421057:True:=⟨⟩
theorem tw14283731579662969892:True:=⟨⟩
theorem tw5761807464052854247:True:=⟨⟩
theorem tw11093432961851490174:True:=⟨⟩
theorem tw13741839202143365438:True:=⟨⟩
theorem tw8139453857264094910:True:=⟨⟩
theorem tw14779591280983308698:True:=⟨⟩
theorem tw8534134068682232972:True:=⟨⟩
theorem tw16942736257530056385:True:=⟨⟩
theorem tw7038033807730404708:True:=⟨⟩
theorem tw10023358228862327297:True:=⟨⟩
theorem tw4737464748678603453:True:=⟨⟩
theorem tw14237359075108006256:True:=⟨⟩
theorem tw5576469931350597615:True:=⟨⟩
theorem tw10495085839144758481:True:=⟨⟩
theorem tw13100405318821954593:True:=⟨⟩
theorem tw12951190002603690874:True:=⟨⟩
theorem tw10178443883636082934:True:=⟨⟩
theorem tw3843218029996491168:True:=⟨⟩
theorem tw15522242076013758530:True:=⟨⟩
theorem tw14697240283410266553:True:=⟨⟩
theorem tw13720223616977881299:True:=⟨⟩
theorem tw10964347368678517176:True:=⟨⟩
theorem tw7554402633761006347:True:=⟨⟩
theorem tw4339087419013391382:True:=⟨⟩
theorem tw4740930489910901756:True:=⟨⟩
end PySem.W.Fast
open PySem PySem.W PyProof.Rows
set_option maxRecDepth 100000 in
set_option maxHeartbeats 0 in
theorem PySem.Challenge.cw_drawnword_k41_texts_that_are_no_words_holds : PySem.Challenge.rw_drawnword_k41_texts_that_are_no_words.Holds := by
 w_on; o_law; k_head; (case hw=>w_witness2)
 k_fill
 refine L3.zp9 (l:=PySem.Challenge.rw_drawnword_k41_texts_that_are_no_words) (x:="_law_script") (k:=5) rfl rfl (by decide) (fun w h Y=>PySem.W.kIn_of Y) ?F
 case F=>
  intro w mg fa h KX G hmg
  refine' Dw.zoQ KX G hmg (.mk ?_ ?_ ?_ ?_) (.mk ?_ ?_ ?_ ?_) (.mk ?_ ?_ ?_ ?_) (.mk ?_ ?_ ?_ ?_) (.mk ?_ ?_ ?_ ?_) (.mk ?_ ?_ ?_ ?_) (.mk ?_ ?_ ?_ ?_) (.mk ?_ ?_ ?_ ?_) (.mk ?_ ?_ ?_ ?_) (.mk ?_ ?_ ?_ ?_) (.mk ?_ ?_ ?_ ?_) (.mk ?_ ?_ ?_ ?_) (.mk ?_ ?_ ?_ ?_) (.mk ?_ ?_ ?_ ?_) (.mk ?_ ?_ ?_ ?_) ?_ ?_ ?_ ?_ ?_ ?_ ?_ ?_ ?_ ?_ ?_ ?_ ?_ ?xNoMove ?xDrawError ?xNoRow ?xNotDrawn ?xNoText ?xNoWord ?xAll
  (case xNoMove=>k_is)
  (case xDrawError=>k_is)
  (case xNoRow=>k_is)
  (case xNotDrawn=>k_is)
  (case xNoText=>k_is)
  (case xNoWord=>k_is)
  (case xAll=>kernel_rfl)
  all_goals try k_is
