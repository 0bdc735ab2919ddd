import PyProof.Rows.All
import Wide.All
import OpenK.AllK
import Wide.FinOn
import Lean
import PyProof.EqAt
import PyProof.EqKinds
import PyProof.TupleCall
import PyProof.EnumMake
import PyProof.EnumFor
import PyProof.NeKinds
import PyProof.EnumStmt
import PyProof.DictCompW
import KE.KDictList
import KE.KRevSl
import PyProof.ListRange
import PyProof.ConsumeWalk
import PyProof.SumWalk
import PyProof.MinMaxWalk
import PyProof.DictWalks
import PyProof.StrWalks
import PyProof.Rows.SortStr
import PyProof.Rows.SortShell
import PyProof.Rows.SortWalk
import PyProof.StrBlockG
import PyProof.StrLawsTight
import PyProof.Rows.RuleB_and
import PyProof.Rows.RuleB_or
import PyProof.Rows.SetFrom
import PyProof.SetRoads
import PyProof.Rows.SumAny
import KE.KRevIter
import PyProof.Rows.Range3
import KE.KDictLaws
import PyProof.ConsumeS
import PyProof.ZipIter
import PyProof.ListNew
import PyProof.Draws
import PyProof.SeqI3
import OpenK.KRaise
import PyProof.ExcBaseAll.ValueError
import PyProof.RulesAs
import OpenK.KDescr
import KE.KIsAll
import PyProof.ExcArgs
import PyProof.InstSpecial
import PyProof.ExcClass2
import PyProof.InstStore
import PyProof.InstStoreFacts
import PyProof.NsDelKeeps
import PyProof.AutoSeq1
import PyProof.CollectIter
import PyProof.StrCalls6
import PyProof.StrCalls
import PyProof.CallStr
import OpenK.KOwn
import PyProof.StrLawsChain
import PySem.Challenge.RW_drawnword_k34_whole_pieces_hang_together
noncomputable section
open List renaming getElem?_eq_getElem->j3,getElem?_eq_some_iff->j5,length_map->ja,getElem?_map->jc,getElem?_set_ne->jf,size_toArray->ji,length_cons->jl,mem_cons_of_mem->jm,range->jp,length_append->js,mem_cons->jt,map_cons->ju,all_eq_true->jx,mem_singleton->jy,mem_range->jz,mem_cons_self->jC,mem_map->jH,mem_append_right->jJ,length_take->jK,getElem?_set_self->jL,count_eq_zero->jM,mem_of_getElem?->jN,take_append_drop->jP,map_map->jQ,getElem?_append_left->jR,count_append->jU,mem_append->jV,length_drop->jX,length_set->jZ,getElem?_append_right->Q2,getD_eq_getElem?_getD->Q3,filter_append->Q8,mem_filter->Qc,getElem?_range->Qe,take_of_length_le->Qn,filter_eq_nil_iff->Qo,map_append->Qq,append_assoc->Qw,nodup_cons->Qy,mem_append_left->QD,getElem?_of_mem->QF,mem_of_mem_take->QH,append_nil->QM,getElem_mem->QU,filter_cons->QV,length_eq_zero_iff->QX,map_congr_left->Z4,length_singleton->Z9,getElem?_eq_none->Zb,drop_eq_getElem_cons->Ze,find?_cons->Zl,count_cons->Zm,eraseIdx_eq_take_drop_succ->Zn,pairwise_map->Zp,map_nil->Zs,lookup_cons->ZC,getElem?_take->ZH,count_pos_iff->ZJ,getElem?_toArray->ZL,nil_append->ZM,idxOf_lt_length_of_mem->ZO,length_range->ZS,nodup_append->ZT,range_add->g6,exists_mem_of_ne_nil->g7,getElem_inj->g8,filter_map->gh,foldl_cons->gj,findIdx?_eq_some_iff_getElem->gk,pairwise_mergeSort->gm,getElem_idxOf->gq,getElem?_cons_succ->gs,getElem?_drop->gu,sum_cons->gv,take_sublist->gB,filter_congr->gE,perm_append_comm->gN,nodup_range->gQ,getElem_toArray->gR,mem_of_mem_drop->gS,all_cons->gT,filterMap_cons->gX,of_mem_zip->gZ,length->Y0,mergeSort_perm->Y3,filter_eq_self->Y5,eq_append_cons_of_mem->Y9,perm_ext_iff_of_nodup->Ya,getElem_range->Yf,pairwise_cons->Yh,replicate->Yj,drop_zero->Yk,mem_or_eq_of_mem_set->Yl,getElem?_eq_none_iff->Ym,pairwise_iff_getElem->Yp,drop_drop->Yq,eq_of_mem_replicate->Yv,length_erase_of_mem->Yw,getElem?_replicate->YF,drop_length->YN,getElem_map->YO,not_mem_nil->YQ,take_length->YT,range_succ_eq_map->YZ,length_eq_one_iff->N0,length_pos_of_mem->N1,length_replicate->N7,length_nil->N9,count_cons_of_ne->Nh,map_set->Ni,Nodup->Nm,length_eraseIdx->Nq,mem_erase_of_ne->Nr,count_cons_self->Nu,nodup_nil->Nz,length_pos_iff->NE,mem_filterMap->NK,filter_filter->NY,map_replicate->NZ,mapM_toArray->Wd,idxOf_append->Wn,ext_getElem?->Wo,countP_cons->Wt,ext_getElem->Ww,map_snd_zip->Wx,any_eq_true->Wy,cons_append->Wz,cons_ne_nil->WB,forIn_cons->WL,count_set->WU,drop_left->WY,take_left->WZ,count_nil->J0,any_cons->Ja,map_drop->Jd,map_take->Je,all_map->Jo,any_map->Jq
open PySem renaming wpAny_bind->j4,Value->j7,Shared->j8,wpAny_pure->jb,starEach->jj,Addr->jo,sizeLine->jq,wpAny->jD,model->jF,Program->jG,mainGlobals->jS,wpAny_holding->jW,Expr->Q0,Around->Q1,assignEach->Q5,wpAny_setState_of->Q6,World->Q7,sizeLine_eq->Qr,codeAny_builtin->QB,wpAny_call_entry->QW,bootBuiltins->QZ,wpAny_mono->Z0,wpAny_newObj_type->Z1,scanBound->Z3,FuncData->Zh,SetTable->Zi,wpAny_passesOwn->Zj,foldedSetIterable->Zk,Heap->Zq,backTo->Zr,behindInMarks->Zv,mem_of_lookup->Zw,wpAny_getItem_str_slice->Zy,wpAny_callSpecial?_slot->ZA,wpAny_loadPart'->ZN,wpAny_truthy_bool->ZQ,Stmt->ZU,compareOp->ZV,wpAny_setField->ZY,wpAny_askSetting->g9,codeAny_mono->gb,setEntries->gc,letOwnedTupleGo->gd,rawInt->ge,binaryOp->gf,plainId_quiet->gp,wpAny_pyIter_list->gA,sliceBounds->gC,cLine->gO,wpAny_attempt->gV,wpAny_rule->gW,wpAny_execs_nil->gY,post_val_or_str->Y2,pyNext->Yc,wpAny_Call_Name_kw->Ye,wpAny_fieldsOf->Yn,sysModules->Ys,wpAny_comprehension_free->Yu,Scope->Yz,holding->YA,wpAny_standAt->YB,codeAny->YC,bindArgs->YD,NameKind->YE,Builtin->YH,setNext->YI,wpAny_pyNext_list_item->YU,wpAny_pyNext_range_end->YV,wpAny_pyIter_rangeiter->YW,wpAny_isTrue_Compare1->N3,swapsWith->N4,wpAny_pyNext_list_end->N5,wpAny_specialOf->N8,codeAny_of_tree->Na,weight_type_call_type->Nb,wpAny_typeOf->Nc,builtinLookup_eq_fast->Nd,call_meets->Nj,relayAll->Nk,setsByText->Nl,wpAny_loadName_local->Nn,codeAny_call_builtin->No,assign->Nv,wpAny_runValue->Nw,wpAny_loadName_cell->NB,subscripted->NC,GenState->NI,wpAny_pyIter_range->NJ,seqIndex?->NN,tupleKind_room_in1->NO,wpAny_newList->NU,wpAny_assign_Name->W2,BindsTo->W5,slot_list_getitem->W6,valueAt->W7,callerA->W9,wpAny_pyIter_enum->Wb,wpAny_storeSet_of->We,fits_of_scanBound->Wf,wpAny_pyIter_slot->Wh,wpAny_setEpoch_of->Wi,seqIndex_neg->Wp,tupleKind->WE,PassesOwn->WF,pyIter->WG,IsRangeIter->WH,getItem->WJ,seqIndex_of->WK,pickOrder->WO,boot_len->WW,builtinsNs->J1,wpAny_Name->J2,wpAny_call->J3,typeIs_str->J5,call->J6,Operator->J9,fieldsOf->Jg,Paired->Jj,again->Jl,bindL->Jt,bindC->Ju
open PySem.Heap renaming get?_push_of_some->j6,lt_size->jk,get?_push_size->jn,size_push->Qp,get?_update_self->Qu,get?_update_other->QJ,SameBut->Z7,ExtBut->YG
open Option renaming bind_some->j9,map_some->jv,getD_none->Ws
open PySem.W renaming Frag->jd,fnOf->Qd,keepIn->Qx,mg_none_of->QR,nsIn->Zd,codeIn->ZX,OpenLaw->Y1,methodObj->Yt,cellsFrom_some->YX,WalkO->Jb,mg_of->Jh
open Option.some renaming inj->je
open Nat renaming le_refl->jg,ne_of_lt->jB,lt_of_lt_of_le->jI,le_succ->Qk,le_trans->Qt,lt_succ_of_lt->Qv,lt_irrefl->QL,not_lt_zero->Z2,ne_of_gt->Z8,zero_add->Zc,zero_le->Zx,lt_succ_self->ZD,min_eq_left->ZP,lt_trichotomy->gD,le_of_ble_eq_true->gH,le_of_not_lt->gP,le_of_lt->Yb,add_sub_cancel_left->YK,max_eq_right->YR,ble_eq_true_of_le->Ng,le_succ_of_le->Wl,sub_zero->Wr,min_eq_right->WA,mod_eq_of_lt->WC
open Int renaming toNat_natCast->jh,emod_lt_of_pos->QQ,emod_nonneg->Z5,toNat_of_nonneg->Y6,fdiv_eq_ediv_of_nonneg->Y8,natCast_nonneg->Yd,zero_add->Yg,natCast_add->WS
open Bool renaming false_ne_true->jr,and_eq_true->jw,or_eq_true->Q4,false_eq_true->Za,false_and->ZF,eq_iff_iff->ZK,and_false->WX
open Array renaming length_toList->jA,perm_iff_toList_perm->Z6,getElem?_eq_getElem->Zg,getElem?_eq_none->gy,toList_zip->YS,toArray_toList->Nt,toList_push->Wg,size_map->WV,toList->Jk
open PySem.Builtin.Range renaming rangeSize->jE,small->ga
open PySem.F renaming plainAttrs_list->jO,called_set->Qf,slot_list_append->QN,type_list_append->QP,slot_list_pop->gL,type_list_pop->gM,slot_list_index->YL,type_list_index->YM,sub_list_frozenset->Np,entry_type_call->Wc,plain_list_iadd->Wk,typeCall_set_1->Wu,entry_set_init->Wv,plain_set_new->WN,slot_set_iter->WP
open Or renaming inl->jT,inr->gx
open PyProof.Rows renaming callWith_type1->jY,wpS_bind->Qa,arrOf->Qj,wpS_pure->QY,wpS_forRange->gK,seqObj->Yi,subscriptTail_builtinR->YY,AllBare->N2,envOfC->N6,SortSt->Nx,getElem?_mirror_all->ND,subscriptTail->NM,sortedAll_old->NQ,SBase->NV,pendingOf->NW,listUpdate_at->NX,boot_range->W3,IntsAre->W8,sortedAll_at->Wq,wpS_mono->WD,wpS_get->WM,seqEpoch_at->WQ,Subscript_->J4,wpS_modify->J8,StrsAre->Jf
open List.Pairwise renaming imp_of_mem->Q9,map->Wm,sublist->Jn,nil->Jy
open PySem.PassesOwn renaming never->Qg
open PySem.NameKind renaming free->Qh,cell->Jc
open PySem.Str renaming empty->Qi,ofString->gJ
open PySem.Around renaming under_plainId->Ql,under_plain->NS
open PySem.Heap.SameBut renaming update->Qs,refl->Wa
open ForInStep renaming yield->Qz
open PyProof.Rows.F renaming plain_set_update_loop->QC,entry_set_update_loop->Zz
open PySem.Obj renaming mapSeq->QK,mapFields->YJ,putSet->J7
open PySem.SetTable renaming below->Zf,grown->ZG
open List.Perm renaming eq_of_pairwise->Zo,append_left->Nf,refl->Ny
open PySem.Value renaming isStrOf->Zt,ref->ZB,none->ZE,type->gz,str->Yr,isStrOf_shape->NA,int->Ji,isInt->Jr
open Ne renaming symm->Zu
open PySem.Builtin renaming divisionGoesByPylong->ZI,bitAnd->ZW,bitOr->gg,bitNot->gG
open False renaming elim->ZR
open Decidable renaming byContradiction->ZZ
open PySem.Challenge renaming pw_drawnword_k34_whole_pieces_hang_together->gF
open PySem.Builtin.Frozenset renaming updateFrom->gU,sizeOf->Yx,newClass->WT
open PySem.Builtin.List renaming listExtendWith->Y4,listSameRef->Yy
open PySem.Calls renaming Name_function_global->Y7,call_function_entry->Yo,spliced_cons->NL,spliced_nil->W4
open PySem.SeqAt.EqAt renaming int_str->NF,str_int->NG
open PySem.Paired renaming length->NH
open PySem.Txt renaming slice->NP
open PySem.Code renaming quiet_builtin->NR
open PySem.Shared renaming TypeIs->NT
open Sum renaming inl->W0,inr->W1
open PySem.SetTable.below renaming go->Wj
open PySem.IsRange renaming new->WI
open Array.Perm renaming refl->WR
open Nat.succ renaming inj->Jm
open PySem.pickOrder renaming go->Jp
open PySem.Walks renaming range->Js
open PySem.Moved renaming trans->Jv
open PySem.Heap.IsSliceOf renaming new->Jw
open PySem.W.WShape renaming has->Jx
set_option Elab.async false
set_option linter.all false
set_option maxRecDepth 100000
theorem Qb{α β:Type _}{x:Option α}{f:α->Option β}{b:β}(h:x.bind f=some b):∃ a,x=some a/\f a=some b:=Option.bind_eq_some_iff.mp h
theorem Qm{α β:Type _}{x:Option α}{f:α->β}{b:β}(h:x.map f=some b):∃ a,x=some a/\f a=b:=Option.map_eq_some_iff.mp h
theorem Df_{p:Prop}[Decidable p](h:¬p):decide p=false:=decide_eq_false h
theorem Dt_{p:Prop}[Decidable p](h:p):decide p=true:=decide_eq_true h
theorem Ip_{c:Prop}{h:Decidable c}(hc:c){α:Sort _}{t e:α}:ite c t e=t:=if_pos hc
theorem In_{c:Prop}{h:Decidable c}(hc:¬c){α:Sort _}{t e:α}:ite c t e=e:=if_neg hc
namespace L2
open PySem PySem.Spec PyProof.Rows
variable {H:Hp}{h h':Zq}{a:jo}{X:Cx}{pc:List (jo × Obj)}{s:j8}{b e:Q0}{ta tb:TE}{pos:Pos}{σ:St}{es:List Q0}{t:TA}
abbrev Key:=Sum Int Str
def zgz:Key->j7->Bool
 |.inl k,v=>Jr k v
 |.inr x,v=>Zt x v
def zrG(w:Q7):Key->Int
 |.inl k=>hashInt k
 |.inr x=>hashStr w x
theorem zam:∀ {k:Key} {v:j7},zgz k v=true->(∃ i t,k=W0 i/\v=Ji i t)∨(∃ x t,k=W1 x/\v=Yr x t)
 |.inl i,v,h=>by
  obtain⟨t,e⟩:=Value.isInt_shape (k:=i) (v:=v) h;exact .inl ⟨i,t,rfl,e⟩
 |.inr x,v,h=>by
  obtain⟨t,e⟩:=NA (x:=x) (v:=v) h;exact .inr ⟨x,t,rfl,e⟩
theorem zja(i:Int)(t:Tok):zgz (.inl i) (.int i t)=true:=by simp[zgz,Jr]
theorem zj9(x:Str)(t:Tok):zgz (.inr x) (.str x t)=true:=by simp[zgz,Zt]
theorem zog(a b:Int):decide ((W0 a:Key)=W0 b)=(a == b):=by
 by_cases e:a=b
 ·subst e; simp
 ·have h:¬ (W0 a:Key)=W0 b:=fun q=>e (Sum.inl.inj q);rw[Df_ h];exact(beq_eq_false_iff_ne.mpr e).symm
theorem zod(a b:Str):decide ((W1 a:Key)=W1 b)=decide (a=b):=by
 by_cases e:a=b
 ·subst e; simp
 ·have h:¬ (W1 a:Key)=W1 b:=fun q=>e (Sum.inr.inj q);rw[Df_ h,Df_ e]
theorem zof(a:Int)(b:Str):decide ((W0 a:Key)=W1 b)=false:=Df_ (fun q=>nomatch q)
theorem zoe(a:Str)(b:Int):decide ((W1 a:Key)=W0 b)=false:=Df_ (fun q=>nomatch q)
def zaN(prog:jG)(w:Q7):PySem.KeyKind prog w Key where
 is:=zgz
 hash:=zrG w
 inj:=fun v a b ha hb=>by
  rcases zam ha with ⟨i,t,rfl,rfl⟩ |⟨x,t,rfl,rfl⟩
  ·rcases zam hb with ⟨j,u,rfl,e⟩ |⟨y,u,rfl,e⟩
   ·injection e with e1 _; rw[e1]
   ·exact nomatch e
  ·rcases zam hb with ⟨j,u,rfl,e⟩ |⟨y,u,rfl,e⟩
   ·exact nomatch e
   ·injection e with e1 _; rw[e1]
 byValue:=fun k v h=>by
  rcases zam h with ⟨i,t,rfl,rfl⟩ |⟨x,t,rfl,rfl⟩<;>rfl
 pyHash:=fun hv h=>by
  rcases zam hv with ⟨i,t,rfl,rfl⟩ |⟨x,t,rfl,rfl⟩
  ·exact wpAny_pyHash_int h
  ·exact wpAny_pyHash_str h
 eqBool:=fun hu hv h=>by
  rcases zam hu with ⟨i,t,rfl,rfl⟩ |⟨x,t,rfl,rfl⟩
  ·rcases zam hv with ⟨j,u,rfl,rfl⟩ |⟨y,u,rfl,rfl⟩
   ·rw[zog] at h; exact wpAny_eqBool_int h
   ·rw[zof] at h; exact NF i t y u _ _ _ _ h
  ·rcases zam hv with ⟨j,u,rfl,rfl⟩ |⟨y,u,rfl,rfl⟩
   ·rw[zoe] at h; exact NG x t j u _ _ _ _ h
   ·rw[zod] at h; exact wpAny_eqBool_str h
 «strs»:=fun k x t v h=>by
  rcases zam h with ⟨i,u,rfl,e⟩ |⟨y,u,rfl,e⟩
  ·exact nomatch e
  ·injection e with e1 _;subst e1;cases v<;>rfl
theorem zgw(prog:jG)(w:Q7)(i:Int)(t:Tok):(zaN prog w).is (.inl i) (.int i t)=true:=zja i t
theorem zgv(prog:jG)(w:Q7)(x:Str)(t:Tok):(zaN prog w).is (.inr x) (.str x t)=true:=zj9 x t
inductive V where
 |non |bl (b:Bool) |int (i:Int) |str (x:Str) |byt (b:Array UInt8) |flt (b:UInt64) |ref (a:jo) |ty (n:String)
 deriving DecidableEq
def RelV:V->j7->Prop
 |.non,u=>u=ZE
 |.bl b,u=>u=Value.bool b
 |.int i,u=>∃ t,u=Ji i t
 |.str x,u=>∃ t,u=Yr x t
 |.byt b,u=>∃ t,u=Value.bytes b t
 |.flt b,u=>∃ t,u=Value.float b t
 |.ref a,u=>u=ZB a
 |.ty n,u=>u=gz n
abbrev Vals:List V->List j7->Prop:=Jj RelV
theorem Vals.length{xs:List V}{us:List j7}(r:Vals xs us):xs.length=us.length:=NH r
theorem Vals.get:∀ {xs:List V} {us:List j7} {i:Nat} {x:V},Vals xs us->xs[i]?=some x->∃ u,us[i]?=some u/\RelV x u
 |_,_,_,_,.nil,e=>by simp at e
 |_,_,0,_,.cons r _,e=>by simp at e; subst e; exact⟨_,rfl,r⟩
 |_,_,i+1,x,.cons _ t,e=>by
  obtain⟨u,h1,h2⟩:=Vals.get (i:=i) (x:=x) t (by simpa using e)
  exact⟨u,by simpa using h1,h2⟩
theorem Vals.set{x:V}{u:j7}(r:RelV x u):∀ {xs:List V} {us:List j7} (i:Nat),Vals xs us->Vals (xs.set i x) (us.set i u)
 |_,_,_,.nil=>.nil
 |_,_,0,.cons _ t=>.cons r t
 |_,_,i+1,.cons q t=>.cons q (Vals.set r i t)
theorem Vals.append:∀ {xs ys:List V} {us ws:List j7},Vals xs us->Vals ys ws->Vals (xs++ys) (us++ws)
 |_,_,_,_,.nil,s=>s
 |_,_,_,_,.cons r t,s=>.cons r (Vals.append t s)
theorem Vals.take:∀ {xs:List V} {us:List j7} (n:Nat),Vals xs us->Vals (xs.take n) (us.take n)
 |_,_,0,_=>.nil
 |_,_,_+1,.nil=>.nil
 |_,_,n+1,.cons r t=>.cons r (Vals.take n t)
theorem Vals.drop:∀ {xs:List V} {us:List j7} (n:Nat),Vals xs us->Vals (xs.drop n) (us.drop n)
 |_,_,0,r=>r
 |_,_,_+1,.nil=>.nil
 |_,_,n+1,.cons _ t=>Vals.drop n t
def RelO:Option V->Option j7->Prop
 |some v,some u=>RelV v u
 |none,none=>True
 |_,_=>False
def KV{κ:Type}:List (κ × V)->List (κ × j7)->Prop:=Jj fun(p:κ × V) (q:κ × j7)=>p.1=q.1/\RelV p.2 q.2
def kV:Key->V
 |.inl i=>.int i
 |.inr x=>.str x
inductive HO where
 /-- a list -/
 |lst (xs:List V)
 /-- a tuple (never changes) -/
 |tup (xs:List V)
 /-- a dict whose keys are ints and texts; one whose keys are tuples of ints and texts (the empty one is both) -/
 |dK (kvs:List (Key × V)) |dT (kvs:List (List Key × V))
 /-- a set of ints: its members,its size -/
 |set (S:Int->Bool) (n:Nat)
 /-- an instance of the class at C,its dict at dx,its attributes -/
 |ins (C dx:jo) (fs:List (Str × V))
 /-- the dict of the instance at x -/
 |own (x:jo)
 /-- the dict of an exception -/
 |xd (fs:List (Str × V))
 /-- a bound method,f of x -/
 |met (f x:jo)
 /-- a range object lo,lo+1,.. below hi -/
 |rng (lo hi:Int)
 /-- a thing that is known to the object (the script; a dict while a loop walks it): read,never written while it is so -/
 |frz (o:Obj) (u:HO)
 /-- a code object's table -/
 |tbl (ps:Array j7)
 /-- any other thing,by what is true of its one object (a def of one's own: SetO a S n:=HO.ext fun h=>..) -/
 |ext (φ:Zq->Prop)
abbrev Hp:=jo->Option HO
def upd(H:Hp)(a:jo)(o:HO):Hp:=fun b=>if b=a then some o else H b
theorem zab{H:Hp}{a:jo}{o:HO}:upd H a o a=some o:=by unfold upd; rw[Ip_ rfl]
theorem za7{H:Hp}{a b:jo}{o:HO}(h:b≠a):upd H a o b=H b:=by unfold upd; rw[In_ h]
theorem za3{H:Hp}{a b:jo}{o:HO}(h:H a=some o)(h':H b=none):a≠b:=by
 intro e; subst e; rw[h] at h'; cases h'
section
variable (P:jG)(w:Q7)
def ObjOk(H:Hp)(h:Zq)(a:jo):HO->Prop
 |.lst xs=>xs.length<=jq/\∃(its:List j7) (n:Nat),Vals xs its/\h.get? a=some { cls:=.type "list",data:=.seq its.toArray n }
 |.tup xs=>xs.length<=jq/\∃ its:List j7,Vals xs its/\IsTup h a its.toArray
 |.dK kvs=>kvs.length<=jq/\(a == Ys)=false/\∃ vs,KV kvs vs/\h.DictOf (zaN P w) a vs
 |.dT kvs=>kvs.length<=jq/\(a == Ys)=false/\∃ xs:List (List Key × jo × j7),
   Jj (fun(p:List Key × V) (q:List Key × jo × j7)=>p.1=q.1/\H q.2.1=some (.tup (p.1.map kV))/\RelV p.2 q.2.2) kvs xs /\
   ∃ o es ep,h.get? a=some o/\o.ExactDict/\o.data=.dict es ep/\es.toList=xs.map (entryOfKey (WE (zaN P w)))/\(xs.map (·.1)).Nodup
 |.set S n=>h.SetOf (intKind P w) a S n
 |.ins C dx fs=>H dx=some (.own a)/\fs.length<=1000/\dx≠a/\h.get? a=some (PySem.W.instObj C dx) /\
   ∃ mA,h.Ns1 dx mA/\(∀ f,RelO (fs.lookup f) (mA f))/\PySem.Within mA (fs.map (·.1))
 |.own _=>∃ o,h.get? a=some o
 |.xd fs=>∃ mA,h.Ns1 a mA/\∀ f,RelO (fs.lookup f) (mA f)
 |.rng lo hi=>∃ t u v,h.get? a=some { cls:=.type "range",data:=.fields #[.int lo t,.int hi u,.int 1 v] }
 |.frz o u=>h.get? a=some o/\ObjOk H h a u
 |.tbl ps=>h.get? a=some { cls:=.none,data:=.fields ps }
 |.met f x=>h.get? a=some (Yt (.ref f) (.ref x))
 |.ext φ=>φ h/\(∃ o,h.get? a=some o)/\∀ h1 h2:Zq,φ h1->(∀ o,h1.get? a=some o->h2.get? a=some o)->φ h2
def HOk(H:Hp)(h:Zq):Prop:=∀ a o,H a=some o->ObjOk P w H h a o
end
section
variable {P:jG}{w:Q7}{H':Hp}{o:HO}
theorem ObjOk.lt(x:ObjOk P w H h a o):a < h.objs.size:=by
 cases o with
 |lst xs=>obtain⟨_,_,_,_,e⟩:=x; exact jk e
 |tup xs=>obtain⟨_,_,_,p⟩:=x; exact p.lt
 |dK kvs=>obtain⟨_,_,_,_,o,_,_,e,_⟩:=x; exact jk e
 |dT kvs=>obtain⟨_,_,_,_,o,_,_,e,_⟩:=x; exact jk e
 |set S n=>obtain⟨o,_,_,_,e,_⟩:=x; exact jk e
 |ins C dx fs=>obtain⟨_,_,_,e,_⟩:=x; exact jk e
 |own y=>obtain⟨_,e⟩:=x; exact jk e
 |xd fs=>obtain⟨_,⟨_,_,_,e,_⟩,_⟩:=x; exact jk e
 |rng lo hi=>obtain⟨_,_,_,e⟩:=x; exact jk e
 |frz ob u=>obtain⟨e,_⟩:=x; exact jk e
 |tbl ps=>exact jk (show h.get? a=some _ from x)
 |met f y=>exact jk (show h.get? a=some _ from x)
 |ext φ=>obtain⟨_,⟨_,e⟩,_⟩:=x; exact jk e
theorem Paired.mapP{α β:Type}{F G:α->β->Prop}:∀ {l₁:List α} {l₂:List β},Jj F l₁ l₂->(∀ a b,F a b->G a b)->Jj G l₁ l₂
 |_,_,.nil,_=>.nil
 |_,_,.cons r t,f=>.cons (f _ _ r) (Paired.mapP t f)
theorem ObjOk.stay(x:ObjOk P w H h a o)(k:∀ b u,(b=a∨H b=some (.own a))->h.get? b=some u->h'.get? b=some u)
  (ho:∀ b,H b=some (.own a)->H' b=some (.own a)) (ht:∀ b xs,H b=some (.tup xs)->H' b=some (.tup xs)):ObjOk P w H' h' a o:=by
 induction o with
 |lst xs=>obtain⟨z,its,n,r,e⟩:=x; exact⟨z,its,n,r,k _ _ (.inl rfl) e⟩
 |tup xs=>obtain⟨z,its,r,ob,e,c⟩:=x; exact⟨z,its,r,ob,k _ _ (.inl rfl) e,c⟩
 |dK kvs=>obtain⟨z,y,vs,r,ob,es,ep,e,c⟩:=x; exact⟨z,y,vs,r,ob,es,ep,k _ _ (.inl rfl) e,c⟩
 |dT kvs=>
  obtain⟨z,y,xs,r,ob,es,ep,e,c⟩:=x;exact⟨z,y,xs,Paired.mapP r fun p q z=>⟨z.1,ht _ _ z.2.1,z.2.2⟩,ob,es,ep,k _ _ (.inl rfl) e,c⟩
 |set S n=>obtain⟨ob,es,ep,t,e,c⟩:=x; exact⟨ob,es,ep,t,k _ _ (.inl rfl) e,c⟩
 |ins C dx fs=>
  obtain⟨d,z,ne,e,mA,⟨od,es,ep,e2,c⟩,r⟩:=x;exact⟨ho _ d,z,ne,k _ _ (.inl rfl) e,mA,⟨od,es,ep,k _ _ (.inr d) e2,c⟩,r⟩
 |own y=>obtain⟨ob,e⟩:=x; exact⟨ob,k _ _ (.inl rfl) e⟩
 |xd fs=>obtain⟨mA,⟨od,es,ep,e,c⟩,r⟩:=x; exact⟨mA,⟨od,es,ep,k _ _ (.inl rfl) e,c⟩,r⟩
 |rng lo hi=>obtain⟨t,u,v,e⟩:=x; exact⟨t,u,v,k _ _ (.inl rfl) e⟩
 |frz ob u ih=>obtain⟨e,q⟩:=x; exact⟨k _ _ (.inl rfl) e,ih q⟩
 |tbl ps=>
  have e:h.get? a=some { cls:=.none,data:=.fields ps }:=x;show h'.get? a=some { cls:=.none,data:=.fields ps };exact k a _ (.inl rfl) e
 |met f y=>
  have e:h.get? a=some (Yt (.ref f) (.ref y)):=x;show h'.get? a=some (Yt (.ref f) (.ref y));exact k a _ (.inl rfl) e
 |ext φ=>obtain⟨p,⟨o,e⟩,st⟩:=x; exact⟨st _ _ p fun o q=>k _ _ (.inl rfl) q,⟨o,k _ _ (.inl rfl) e⟩,st⟩
theorem HOk.lt(x:HOk P w H h)(e:H a=some o):a < h.objs.size:=(x a o e).lt
theorem HOk.fresh(x:HOk P w H h)(e:h.objs.size<=a):H a=none:=by
 cases q:H a with
 |none=>rfl
 |some u=>exact absurd (jI (x.lt q) e) (QL _)
theorem HOk.kept(x:HOk P w H h)(k:∀ b u,h.get? b=some u->h'.get? b=some u):HOk P w H h':=fun a o e=>
 (x a o e).stay (fun b u _ q=>k b u q) (fun _ q=>q) fun _ _ q=>q
theorem HOk.laid(x:HOk P w H h)(k:∀ b u,h.get? b=some u->h'.get? b=some u)(hp:h.objs.size<=a)(new:ObjOk P w (upd H a o) h' a o):HOk P w (upd H a o) h':=fun b u e=>by
 have hn:=x.fresh hp
 by_cases hb:b=a
 ·subst hb; rw[zab] at e; cases e; exact new
 ·rw[za7 hb] at e;exact(x b u e).stay (fun c v _ q=>k c v q) (fun c q=>by rw[za7 (za3 q hn)]; exact q) fun c xs q=>by rw[za7 (za3 q hn)]; exact q
end
def Rd(H:Hp)(a:jo)(u:HO):Prop:=H a=some u∨∃ o,H a=some (.frz o u)
theorem Rd.ok{P:jG}{w:Q7}{H:Hp}{h:Zq}{a:jo}{u:HO}(r:Rd H a u)(x:HOk P w H h):ObjOk P w H h a u:=by
 rcases r with r |⟨o,r⟩
 ·exact x a u r
 ·obtain⟨_,q⟩:=x a _ r;exact q
def Mut:Option HO->Prop
 |some (.lst _)=>True
 |some (.dK _)=>True
 |some (.dT _)=>True
 |some (.set _ _)=>True
 |some (.ins _ _ _)=>True
 |some (.ext _)=>True
 |_=>False
section
variable {P:jG}{w:Q7}{x e:jo}{o':HO}
theorem HOk.write(ok:HOk P w H h)(mu:Mut (H x))(he:e=x∨H e=some (.own x))(k:∀ b u,b≠e->h.get? b=some u->h'.get? b=some u)(heo:∃ u,h'.get? e=some u)
  (new:ObjOk P w (upd H x o') h' x o'):HOk P w (upd H x o') h':=fun b u q=>by
 have nown:∀ c y,H c=some (.own y)->c≠x:=fun c y r z=>by subst z; rw[r] at mu; exact mu
 have ntup:∀ c xs,H c=some (.tup xs)->c≠x:=fun c xs r z=>by subst z; rw[r] at mu; exact mu
 by_cases hb:b=x
 ·subst hb; rw[zab] at q; cases q; exact new
 ·rw[za7 hb] at q
  by_cases hbe:b=e
  ·have q':H b=some (.own x):=by
    rcases he with z |z
    ·exact absurd (hbe.trans z) hb
    ·rw[hbe]; exact z
   rw[q] at q'; cases q';obtain⟨v,hv⟩:=heo;exact⟨v,by rw[hbe]; exact hv⟩
  ·refine(ok b u q).stay (fun c v hc r=>k c v ?_ r) (fun c r=>by rw[za7 (nown c b r)]; exact r) fun c xs r=>by rw[za7 (ntup c xs r)]; exact r
   rcases hc with rfl |hc
   ·exact hbe
   ·rintro rfl;rcases he with z |z
    ·exact nown c b hc z
    ·rw[hc] at z; cases z; exact hb rfl
end
structure Un (fs ex:List jo) (H H':Hp) (h h':Zq):Prop where
 keep:∀ b o,h.get? b=some o->H b=none->b∉fs->b∉ex->h'.get? b=some o
 slot:∀ b o,h.get? b=some o->H b=none->b∈fs->b∉ex->∃ sl,h'.get? b=some { o with slots:=sl }
 free:∀ b o,h.get? b=some o->H b=none->b∉ex->H' b=none
 there:∀ b o,h.get? b=some o->b∉ex->∃ o',h'.get? b=some o'
 tups:∀ b xs,H b=some (.tup xs)->H' b=some (.tup xs)
 frzs:∀ b o u,H b=some (.frz o u)->H' b=some (.frz o u)
 tbls:∀ b ps,H b=some (.tbl ps)->∃ more,H' b=some (.tbl (ps++more))
section
variable {fs fs' ex ex':List jo}{H1 H2:Hp}{h1 h2:Zq}{x e:jo}{o:HO}
theorem Un.any(u:Un fs ex H H1 h h1){b:jo}{ob:Obj}(q:h.get? b=some ob)(n:H b=none)(hx:b∉ex):∃ sl,h1.get? b=some { ob with slots:=sl }:=by
 by_cases hb:b∈fs
 ·exact u.slot b ob q n hb hx
 ·exact⟨ob.slots,u.keep b ob q n hb hx⟩
theorem Un.kept(k:∀ b u,h.get? b=some u->h'.get? b=some u):Un fs ex H H h h':=
 ⟨fun b ob q _ _ _=>k b ob q,fun b ob q _ _ _=>⟨ob.slots,k b ob q⟩,fun _ _ _ n _=>n,fun b ob q _=>⟨ob,k b ob q⟩,fun _ _ q=>q,fun _ _ _ q=>q,fun _ ps q=>⟨#[],by rw[q]; simp⟩⟩
theorem Un.refl:Un fs ex H H h h:=Un.kept fun _ _ q=>q
theorem Un.laid(k:∀ b u,h.get? b=some u->h'.get? b=some u)(hp:h.objs.size<=a)(hn:H a=none):Un fs ex H (upd H a o) h h' where
 keep:=fun b u q _ _ _=>k b u q
 slot:=fun b u q _ _ _=>⟨u.slots,k b u q⟩
 free:=fun b u q n _=>by rw[za7 (jB (jI (jk q) hp))]; exact n
 there:=fun b u q _=>⟨u,k b u q⟩
 tups:=fun b xs q=>by rw[za7 (za3 q hn)]; exact q
 frzs:=fun b u xs q=>by rw[za7 (za3 q hn)]; exact q
 tbls:=fun b ps q=>⟨#[],by rw[za7 (za3 q hn),q]; simp⟩
theorem Un.write(mu:Mut (H x))(he:e=x∨H e=some (.own x))(k:∀ b u,b≠e->h.get? b=some u->h'.get? b=some u)(heo:∃ u,h'.get? e=some u):Un fs ex H (upd H x o) h h':=by
 have hx:∀ b,H b=none->b≠x:=fun b n z=>by subst z; rw[n] at mu; exact mu
 have hb:∀ b,H b=none->b≠e:=fun b n z=>by
  subst z;rcases he with r |r
  ·exact hx b n r
  ·rw[n] at r; cases r
 have hm:∀ b u,H b=some u->¬ Mut (some u)->b≠x:=fun b u q nm z=>by subst z; rw[q] at mu; exact nm mu
 refine⟨fun b u q n _ _=>k b u (hb b n) q,fun b u q n _ _=>⟨u.slots,k b u (hb b n) q⟩,fun b u q n _=>by rw[za7 (hx b n)]; exact n,fun b u q _=>?_,
  fun b xs q=>by rw[za7 (hm b _ q fun z=>z)]; exact q,fun b u xs q=>by rw[za7 (hm b _ q fun z=>z)]; exact q,fun b ps q=>⟨#[],by rw[za7 (hm b _ q fun z=>z),q]; simp⟩⟩
 by_cases hbe:b=e
 ·subst hbe; exact heo
 ·exact⟨u,k b u hbe q⟩
end
def trk(h:Zq)(H:Hp):List jo:=(jp h.objs.size).filter fun a=>(H a).isSome
def zkt(h:Zq)(H:Hp):Zq:=PySem.W.hideAll h (trk h H)
theorem zjf(h:Zq)(H:Hp):(zkt h H).objs.size=h.objs.size:=PySem.W.hideAll_size _ _
theorem zks{h:Zq}{H:Hp}{b:jo}{o:Obj}(e:h.get? b=some o)(n:H b=none):(zkt h H).get? b=some o:=
 PySem.W.hideAll_get _ e fun hm=>by
  have q:(H b).isSome=true:=(Qc.mp hm).2;rw[n] at q; simp at q
theorem zmd{h:Zq}{H:Hp}{b:jo}{o:Obj}(e:(zkt h H).get? b=some o):h.get? b=some o/\H b=none:=by
 have e':h.get? b=some o:=PySem.W.of_hideAll (trk h H) e;refine⟨e',?_⟩;cases q:H b with
 |none=>rfl
 |some x=>
  have hm:b∈trk h H:=Qc.mpr ⟨jz.mpr (jk e'),by simp[q]⟩
  have z:(zkt h H).get? b=none:=PySem.W.hideAll_none (trk h H) hm;rw[z] at e; cases e
def zmM(g h:Zq)(L:jo):List (jo × Obj):=(jp h.objs.size).filterMap fun a=>if a=L∨(g.get? a).isSome=true then none else (h.get? a).map fun o=>(a,o)
def zc2(g h:Zq)(L d:jo):List (jo × Obj):=(zmM g h L).filter fun p=>decide (p.1≠d)
structure Mod (K:jd) (mg:Str->Option j7) (base:Zq):Prop where
 kin:K.In base
 glob:base.Ns jS mg
 blt:∃ mb,base.Ns J1 mb/\∀ x:Str,x≠"__name__"->mb x=QZ x
 nolimit:base.NoLimit
structure Cx where
 prog:jG
 w:Q7
 K:jd
 mg:Str->Option j7
 base:Zq
 A:Q1
 N:List Str
 s₀:j8
 H₀:Hp
 env:Env
 outer:List Env
 stack:List Env
 ex:List jo
 fn:Str->Bool
 calm:Bool
 pn:List (jo × Obj)
 xe:j7->j8->Prop
def frs(l:List Env):List jo:=l.filterMap (·.frame)
abbrev Cx.fs(X:Cx):List jo:=frs X.outer
def Vis(sc:Yz)(x:Str):Prop:=sc.names.lookup x=some .local∨sc.names.lookup x=some .cell∨sc.names.lookup x=some .free
def Loc(sc:Yz)(x:Str):Prop:=sc.names.lookup x=some .local∨sc.names.lookup x=some .cell
def zrQ(env:Env)(h:Zq)(m:Str->Option j7)(x:Str)(u:j7):Prop:=
 (env.kindOf x=some .local/\m x=some u)∨((env.kindOf x=some .cell∨env.kindOf x=some .free)/\∃ c,env.cells.lookup x=some c/\h.IsCell c (some u))
structure Cx.Ok (X:Cx):Prop where
 mod:Mod X.K X.mg X.base
 kind:X.env.scope.kind=.function
 glob:X.env.globals=jS
 blt:X.env.builtins=J1
 above:X.s₀.heap.objs.size<=X.env.locals
 inj:∀ x y c,X.env.cells.lookup x=some c->X.env.cells.lookup y=some c->x=y
 has:∀ x,(X.env.kindOf x=some .cell∨X.env.kindOf x=some .free)->∃ c,X.env.cells.lookup x=some c
 cab:∀ x c,X.fn x=true->X.env.cells.lookup x=some c->X.s₀.heap.objs.size<=c
 hd:X.calm=true->X.A.handled=none
 frames:X.A.frames=some X.stack
 stk:X.stack=X.outer∨(X.stack=X.env::X.outer/\X.env.frame=some X.env.locals)
 exf:∀ b∈X.ex,b≠X.env.locals/\∀ x c,X.env.cells.lookup x=some c->c≠b
 bs:∀ b o,X.base.get? b=some o->X.s₀.heap.get? b=some o/\X.H₀ b=none
 bsz:X.base.objs.size<=X.s₀.heap.objs.size
 noex:∀ b o,X.base.get? b=some o->b∉X.ex
 exfs:∀ b∈X.ex,b∉X.fs
 funs:X.s₀.heap.FunFrames X.base X.outer
 frf:∀ b∈X.fs,X.H₀ b=none
structure Inv (X:Cx) (pc:List (jo × Obj)) (σ:List (Option V)) (H:Hp) (s:j8):Prop where
 ok:X.Ok
 os:s.os=X.s₀.os
 bare:N2 s.gens
 base:Un X.fs X.ex X.H₀ H X.s₀.heap s.heap
 loc:∃ m,s.heap.Ns X.env.locals m/\∀(i:Nat) (x:Str) (v:V),X.N[i]?=some x->σ[i]?=some (some v)->Vis X.env.scope x->∃ u,RelV v u/\zrQ X.env s.heap m x u
 cell:∀ x c,X.env.cells.lookup x=some c->∃ v,s.heap.IsCell c v
 free:H X.env.locals=none
 freeC:∀ x c,X.env.cells.lookup x=some c->H c=none
 pin:∀ p∈X.pn++pc,s.heap.get? p.1=some p.2/\H p.1=none/\p.1≠X.env.locals/\p.1∉X.fs/\∀ v,p.2.data≠.cell v
 hok:HOk X.prog X.w H s.heap
 len:σ.length=X.N.length
section
variable {σ:List (Option V)}{H':Hp}
theorem Cx.Ok.nofr(ok:X.Ok){b:jo}{o:Obj}(e:X.base.get? b=some o):b∉X.fs:=fun hb=>by
 have:=(ok.funs.mem hb).1;rw[e] at this; cases this
theorem Inv.bs(I:Inv X pc σ H s):∀ b o,X.base.get? b=some o->s.heap.get? b=some o/\H b=none:=fun b o e=>
 ⟨I.base.keep b o (I.ok.bs b o e).1 (I.ok.bs b o e).2 (I.ok.nofr e) (I.ok.noex b o e),I.base.free b o (I.ok.bs b o e).1 (I.ok.bs b o e).2 (I.ok.noex b o e)⟩
theorem Inv.bk(I:Inv X pc σ H s):∀ b o,X.base.get? b=some o->s.heap.get? b=some o:=fun b o e=>(I.bs b o e).1
theorem Inv.mod(I:Inv X pc σ H s):Mod X.K X.mg X.base:=I.ok.mod
theorem Inv.kIn(I:Inv X pc σ H s):X.K.In s.heap:=I.ok.mod.kin.keeps I.bk
theorem Inv.lt(I:Inv X pc σ H s):X.env.locals < s.heap.objs.size:=let ⟨_,hn,_⟩:=I.loc; hn.lt
theorem Inv.sz(I:Inv X pc σ H s):X.s₀.heap.objs.size<=s.heap.objs.size:=Qt I.ok.above (Yb I.lt)
theorem Inv.nofs(I:Inv X pc σ H s){a:jo}(h:s.heap.objs.size<=a):a∉X.fs:=fun hb=>by
 obtain⟨_,o,ho,_⟩:=I.ok.funs.mem hb;exact absurd (jI (jk ho) (Qt I.sz h)) (QL _)
theorem Inv.cne(I:Inv X pc σ H s):∀ x c,X.env.cells.lookup x=some c->c≠X.env.locals:=fun x c e z=>by
 obtain⟨v,o,ho,hd⟩:=I.cell x c e;obtain⟨m,⟨o',es,ep,ho',hd',_⟩,_⟩:=I.loc;rw[z,ho'] at ho; cases ho; rw[hd'] at hd; cases hd
theorem Inv.funs(I:Inv X pc σ H s):s.heap.FunFrames X.base X.outer:=by
 have all:∀(l:List Env),(∀ b∈frs l,b∈X.fs)->X.s₀.heap.FunFrames X.base l->s.heap.FunFrames X.base l:=by
  intro l
  induction l with
  |nil=>intro _ _; trivial
  |cons env r ih=>
   intro hs hl;obtain⟨hk,⟨L,o,hf,hn,ho,hd⟩,hr⟩:=hl;have hL:L∈X.fs:=hs L (by unfold frs; rw[gX,hf]; exact jC)
   obtain⟨sl,e⟩:=I.base.slot L o ho (I.ok.frf L hL) hL fun z=>I.ok.exfs L z hL;exact⟨hk,⟨L,_,hf,hn,e,hd⟩,ih (fun b hb=>hs b (by unfold frs; rw[gX,hf]; exact jm _ hb)) hr⟩
 exact all X.outer (fun _ hb=>hb) I.ok.funs
theorem Inv.stack(I:Inv X pc σ H s):s.heap.FunFrames X.base X.stack:=by
 rcases I.ok.stk with e |⟨e,hf⟩
 ·rw[e]; exact I.funs
 ·rw[e];obtain⟨m,hn,_⟩:=I.loc;refine .cons (by rw[I.ok.kind]; decide) hf hn ?_ I.funs
  exact Heap.get?_none_of_le (Qt I.ok.bsz I.ok.above)
theorem Inv.stkSub(I:Inv X pc σ H s):∀ b∈frs X.stack,b∈X.env.locals::X.fs:=fun b hb=>by
 rcases I.ok.stk with e |⟨e,hf⟩
 ·rw[e] at hb; exact jm _ hb
 ·rw[e] at hb;unfold frs at hb;rw[gX,hf] at hb;exact hb
theorem Inv.stkFree(I:Inv X pc σ H s):∀ b∈frs X.stack,H b=none:=fun b hb=>by
 rcases jt.mp (I.stkSub b hb) with e |hb
 ·rw[e]; exact I.free
 ·obtain⟨_,o,ho,_⟩:=I.ok.funs.mem hb;exact I.base.free b o ho (I.ok.frf b hb) fun z=>I.ok.exfs b z hb
theorem Inv.step{g':Array NI}{t':Nat}{d':Drawn}{ch:List jo}(I:Inv X pc σ H s)
  (hch:∀ b∈ch,(b∈X.ex∨X.s₀.heap.objs.size<=b)/\b≠X.env.locals/\(∀ x c,X.env.cells.lookup x=some c->c≠b)/\∀ p∈X.pn++pc,p.1≠b)
  (keep:∀ b o,b≠X.env.locals->b∉X.fs->b∉ch->s.heap.get? b=some o->H b=none->h'.get? b=some o)
  (slot:∀ b o,b≠X.env.locals->b∈X.fs->b∉ch->s.heap.get? b=some o->H b=none->∃ sl,h'.get? b=some { o with slots:=sl }) (free:∀ b o,b∉ch->s.heap.get? b=some o->H b=none->H' b=none)
  (there:∀ b o,b∉ch->s.heap.get? b=some o->∃ o',h'.get? b=some o')
  (tups:∀ b xs,H b=some (.tup xs)->H' b=some (.tup xs)) (frzs:∀ b o u,H b=some (.frz o u)->H' b=some (.frz o u)) (tbls:∀ b ps,H b=some (.tbl ps)->∃ more,H' b=some (.tbl (ps++more)))
  (ns:∀ m,s.heap.Ns X.env.locals m->h'.Ns X.env.locals m) (hok:HOk X.prog X.w H' h') (hg:N2 g') :
  Inv X pc σ H' { s with heap:=h',gens:=g',drawn:=d',toks:=t' }:=by
 have neL:∀ b o,X.s₀.heap.get? b=some o->b≠X.env.locals:=fun b o e=>jB (jI (jk e) I.ok.above);have neC:∀ b o,X.s₀.heap.get? b=some o->b∉X.ex->b∉ch:=fun b o e hx hb=>by
  rcases(hch b hb).1 with z |z
  ·exact hx z
  ·exact absurd (jI (jk e) z) (QL _)
 have cellK:∀ x c,X.env.cells.lookup x=some c->∀ v,s.heap.IsCell c v->h'.IsCell c v:=fun x c e v ⟨o,ho,hd⟩=>by
  have nch:c∉ch:=fun z=>(hch c z).2.2.1 x c e rfl
  by_cases hc:c∈X.fs
  ·obtain⟨sl,q⟩:=slot c o (I.cne x c e) hc nch ho (I.freeC x c e);exact⟨_,q,hd⟩
  ·exact⟨o,keep c o (I.cne x c e) hc nch ho (I.freeC x c e),hd⟩
 refine⟨I.ok,I.os,hg,⟨fun b o e n hb hx=>?_,fun b o e n hb hx=>?_,fun b o e n hx=>?_,fun b o e hx=>?_,fun b xs e=>tups b xs (I.base.tups b xs e),fun b o xs e=>frzs b o xs (I.base.frzs b o xs e),fun b ps e=>?_⟩,?_,fun x c e=>?_,?_,fun x c e=>?_,fun p hp=>?_,hok,I.len⟩
 ·exact keep b o (neL b o e) hb (neC b o e hx) (I.base.keep b o e n hb hx) (I.base.free b o e n hx)
 ·obtain⟨sl,e1⟩:=I.base.slot b o e n hb hx;obtain⟨sl',e2⟩:=slot b _ (neL b o e) hb (neC b o e hx) e1 (I.base.free b o e n hx);exact⟨sl',e2⟩
 ·obtain⟨o',e1⟩:=I.base.there b o e hx;exact free b o' (neC b o e hx) e1 (I.base.free b o e n hx)
 ·obtain⟨o',e1⟩:=I.base.there b o e hx;exact there b o' (neC b o e hx) e1
 ·obtain⟨m1,e1⟩:=I.base.tbls b ps e;obtain⟨m2,e2⟩:=tbls b _ e1;exact⟨m1++m2,by rw[e2,Array.append_assoc]⟩
 ·obtain⟨m,hn,hl⟩:=I.loc;refine⟨m,ns m hn,fun i x v e1 e2 e3=>?_⟩;obtain⟨u,r,l⟩:=hl i x v e1 e2 e3;refine⟨u,r,?_⟩;rcases l with l |⟨k,c,e,z⟩
  ·exact .inl l
  ·exact .inr ⟨k,c,e,cellK x c e _ z⟩
 ·obtain⟨v,z⟩:=I.cell x c e;exact⟨v,cellK x c e v z⟩
 ·obtain⟨m,⟨o,_,_,ho,_⟩,_⟩:=I.loc;exact free _ o (fun z=>(hch _ z).2.1 rfl) ho I.free
 ·obtain⟨v,o,ho,hd⟩:=I.cell x c e;exact free c o (fun z=>(hch c z).2.2.1 x c e rfl) ho (I.freeC x c e)
 ·obtain⟨e,n,ne,nf,d⟩:=I.pin p hp;have nch:p.1∉ch:=fun z=>(hch p.1 z).2.2.2 p hp rfl;exact⟨keep p.1 p.2 ne nf nch e n,free p.1 p.2 nch e n,ne,nf,d⟩
theorem Inv.un{t':Nat}(I:Inv X pc σ H s)(u:Un X.fs [] H H' s.heap h')(hok:HOk X.prog X.w H' h'):Inv X pc σ H' { s with heap:=h',toks:=t' }:=by
 obtain⟨m,⟨o,es,ep,ho,r⟩,_⟩:=id I.loc;obtain⟨sl,hL⟩:=u.any ho I.free (by simp)
 exact I.step (g':=s.gens) (d':=s.drawn) (ch:=[]) (fun _ z=>nomatch z) (fun b o _ hb _ e n=>u.keep b o e n hb (by simp)) (fun b o _ hb _ e n=>u.slot b o e n hb (by simp)) (fun b o _ e n=>u.free b o e n (by simp)) (fun b o _ e=>u.there b o e (by simp)) u.tups u.frzs u.tbls (fun m' hm=>by
  obtain⟨o',es',ep',ho',r'⟩:=hm;rw[ho] at ho'; cases ho'
  exact⟨_,es',ep',hL,r'⟩) hok I.bare
theorem Inv.call{g':Array NI}{t':Nat}{d':Drawn}{ch:List jo}(I:Inv X pc σ H s)(u:Un (frs X.stack) ch H H' s.heap h')(hok:HOk X.prog X.w H' h')(hg:N2 g')
  (hch:∀ b∈ch,(b∈X.ex∨X.s₀.heap.objs.size<=b)/\b≠X.env.locals/\(∀ x c,X.env.cells.lookup x=some c->c≠b)/\∀ p∈X.pn++pc,p.1≠b) :
  Inv X pc σ H' { s with heap:=h',gens:=g',drawn:=d',toks:=t' }:=by
 obtain⟨m,⟨o,es,ep,ho,r⟩,_⟩:=id I.loc;obtain⟨sl,hL⟩:=u.any ho I.free fun z=>(hch _ z).2.1 rfl
 exact I.step (ch:=ch) hch (fun b o hL hb hc e n=>u.keep b o e n (fun z=>(jt.mp (I.stkSub b z)).elim hL hb) hc) (fun b o _ _ hc e n=>u.any e n hc) (fun b o hc e n=>u.free b o e n hc) (fun b o hc e=>u.there b o e hc) u.tups u.frzs u.tbls (fun m' hm=>by
  obtain⟨o',es',ep',ho',r'⟩:=hm;rw[ho] at ho'; cases ho'
  exact⟨_,es',ep',hL,r'⟩) hok hg
theorem Inv.turned{t':Nat}{it:jo}(I:Inv X pc σ H s)(k:∀ b o,b≠it->s.heap.get? b=some o->h'.get? b=some o)(hn:H it=none)(hL:it≠X.env.locals)
  (h1:it∈X.ex∨X.s₀.heap.objs.size<=it) (h2:∀ x c,X.env.cells.lookup x=some c->c≠it) (h3:∀ p∈X.pn++pc,p.1≠it):Inv X pc σ H { s with heap:=h',toks:=t' }:=by
 have nit:∀ b u,H b=some u->b≠it:=fun b u e z=>by rw[z,hn] at e; cases e
 refine I.step (g':=s.gens) (d':=s.drawn) (ch:=[it]) (fun b hb=>?_) (fun b o _ _ hc e _=>k b o (fun z=>hc (by simp[z])) e) (fun b o _ _ hc e _=>⟨o.slots,k b o (fun z=>hc (by simp[z])) e⟩) (fun _ _ _ _ n=>n)
  (fun b o hc e=>⟨o,k b o (fun z=>hc (by simp[z])) e⟩) (fun _ _ e=>e) (fun _ _ _ e=>e) (fun b ps e=>⟨#[],by rw[e]; simp⟩) (fun m hm=>?_) (fun b u e=>?_) I.bare
 ·have e:b=it:=by simpa using hb
  subst e;exact⟨h1,hL,h2,h3⟩
 ·obtain⟨o,es,ep,ho,r⟩:=hm;exact⟨o,es,ep,k _ o (Zu hL) ho,r⟩
 ·refine(I.hok b u e).stay (fun c v hc q=>k c v ?_ q) (fun _ q=>q) fun _ _ q=>q;rcases hc with z |z
  ·rw[z]; exact nit b u e
  ·exact nit c _ z
theorem Inv.tok(I:Inv X pc σ H s)(t:Nat):Inv X pc σ H { s with toks:=t }:=I.un (h':=s.heap) (t':=t) Un.refl I.hok
theorem Inv.kept{t':Nat}(I:Inv X pc σ H s)(k:∀ b u,s.heap.get? b=some u->h'.get? b=some u):Inv X pc σ H { s with heap:=h',toks:=t' }:=I.un (Un.kept k) (I.hok.kept k)
theorem Inv.laid{a:jo}{o:HO}{t':Nat}(I:Inv X pc σ H s)(k:∀ b u,s.heap.get? b=some u->h'.get? b=some u)(hp:s.heap.objs.size<=a)(new:ObjOk X.prog X.w (upd H a o) h' a o) :
  Inv X pc σ (upd H a o) { s with heap:=h',toks:=t' }:=I.un (Un.laid k hp (I.hok.fresh hp)) (I.hok.laid k hp new)
theorem Inv.write{x e:jo}{o:HO}{t':Nat}(I:Inv X pc σ H s)(mu:Mut (H x))(he:e=x∨H e=some (.own x))(k:∀ b u,b≠e->s.heap.get? b=some u->h'.get? b=some u)(heo:∃ u,h'.get? e=some u)
  (new:ObjOk X.prog X.w (upd H x o) h' x o):Inv X pc σ (upd H x o) { s with heap:=h',toks:=t' }:=I.un (Un.write mu he k heo) (I.hok.write mu he k heo new)
theorem Inv.pins_of{pins':List (jo × Obj)}(I:Inv X pc σ H s)(h:∀ p∈pins',s.heap.get? p.1=some p.2/\H p.1=none/\p.1≠X.env.locals/\p.1∉X.fs/\∀ v,p.2.data≠.cell v):Inv X pins' σ H s:=
 ⟨I.ok,I.os,I.bare,I.base,I.loc,I.cell,I.free,I.freeC,fun p hp=>(jV.mp hp).elim (fun z=>I.pin p (QD _ z)) (h p),I.hok,I.len⟩
theorem zh9{N:List Str}(hN:N.Nodup){i j:Nat}{x:Str}(a:N[i]?=some x)(b:N[j]?=some x):i=j:=by
 obtain⟨h1,e1⟩:=j5.mp a;obtain⟨h2,e2⟩:=j5.mp b;exact(g8 hN).mp (e1.trans e2.symm)
theorem zfj{M:Model}{A:Q1}{E:j7->j8->Prop}{i:Nat}{x:Str}{v:V}{u:j7}{Q:Unit->j8->Prop}(I:Inv X pc σ H s)(hN:X.N.Nodup)(hi:X.N[i]?=some x)(hx:Loc X.env.scope x)(r:RelV v u)
  (h:∀ s',Inv X pc (σ.set i (some v)) H s'->(∃ a,Z7 a s.heap s'.heap/\(a=X.env.locals∨X.env.cells.lookup x=some a))->Q () s') (hf:X.fn x=true∨X.env.scope.names.lookup x=some .local:=by first |exact .inl rfl |exact .inr rfl |assumption):jD M A (storeName X.env x u) Q E s:=by
 obtain⟨m,hn,hl⟩:=id I.loc;have hcls:(X.env.scope.kind == .class||(X.env.scope.kind == .module&&X.env.locals != X.env.globals))=false:=by rw[I.ok.kind]; rfl
 have hiσ:i < σ.length:=by rw[I.len]; exact(j5.mp hi).1
 have cne:=I.cne;have tracked:∀ {a:jo} {h':Zq},(∃ o,s.heap.get? a=some o/\H a=none)->Z7 a s.heap h'->HOk X.prog X.w H h':=fun {a h'} ha hs b ob e=>by
  obtain⟨_,_,hfree⟩:=ha;refine(I.hok b ob e).stay (fun c w' hc q=>(hs.2 c ?_).trans q) (fun _ q=>q) fun _ _ q=>q;rintro rfl;rcases hc with rfl |hc
  ·rw[hfree] at e; cases e
  ·rw[hfree] at hc; cases hc
 rcases hx with hk |hk
 ·refine wpAny_storeName_local hk hn (fun h' hn' hs=>?_) hcls;obtain⟨oL,_,_,hoL,_⟩:=id hn;refine h _ ⟨I.ok,I.os,I.bare,⟨fun b o e n hb hx=>?_,fun b o e n hb hx=>?_,I.base.free,fun b o e hx=>?_,I.base.tups,I.base.frzs,I.base.tbls⟩,⟨_,hn',fun j y v' e1 e2 e3=>?_⟩,fun y c e=>?_,I.free,I.freeC,fun p hp=>?_,tracked ⟨oL,hoL,I.free⟩ hs,by simpa using I.len⟩ ⟨_,hs,.inl rfl⟩
  ·exact(hs.2 b (jB (jI (jk e) I.ok.above))).trans (I.base.keep b o e n hb hx)
  ·obtain⟨sl,e1⟩:=I.base.slot b o e n hb hx;exact⟨sl,(hs.2 b (jB (jI (jk e) I.ok.above))).trans e1⟩
  ·obtain⟨o',e1⟩:=I.base.there b o e hx;exact⟨o',(hs.2 b (jB (jI (jk e) I.ok.above))).trans e1⟩
  ·by_cases hj:j=i
   ·subst hj;rw[hi] at e1; cases e1;rw[jL hiσ] at e2;cases e2;exact⟨u,r,.inl ⟨hk,by simp⟩⟩
   ·rw[jf (Zu hj)] at e2;obtain⟨u',r',q⟩:=hl j y v' e1 e2 e3;refine⟨u',r',?_⟩;rcases q with ⟨k,e⟩ |⟨k,c,e,z⟩
    ·refine .inl ⟨k,?_⟩;have:y≠x:=fun e=>hj (zh9 hN e1 (e▸hi));simp[this,e]
    ·exact .inr ⟨k,c,e,z.sameBut hs (cne y c e)⟩
  ·obtain⟨w',z⟩:=I.cell y c e;exact⟨w',z.sameBut hs (cne y c e)⟩
  ·obtain⟨e,n,ne,nf,d⟩:=I.pin p hp;exact⟨(hs.2 p.1 ne).trans e,n,ne,nf,d⟩
 ·have hfn:X.fn x=true:=by
   rcases hf with z |z
   ·exact z
   ·rw[z] at hk; cases hk
  obtain⟨c,hc⟩:=I.ok.has x (.inl hk);obtain⟨w',z⟩:=I.cell x c hc;refine wpAny_storeName_cell I.ok.kind hk hc z (fun h' hc' hs=>?_);obtain⟨oc,hoc,hocd⟩:=id z;refine h { s with heap:=h' } ⟨I.ok,I.os,I.bare,⟨fun b o e n hb hx=>?_,fun b o e n hb hx=>?_,I.base.free,fun b o e hx=>?_,I.base.tups,I.base.frzs,I.base.tbls⟩,⟨m,hn.sameBut hs (Zu (cne x c hc)),fun j y v' e1 e2 e3=>?_⟩,fun y c' e=>?_,I.free,I.freeC,fun p hp=>?_,tracked ⟨oc,hoc,I.freeC x c hc⟩ hs,by simpa using I.len⟩ ⟨c,hs,.inr hc⟩
  ·exact(hs.2 b (jB (jI (jk e) (I.ok.cab x c hfn hc)))).trans (I.base.keep b o e n hb hx)
  ·obtain⟨sl,e1⟩:=I.base.slot b o e n hb hx;exact⟨sl,(hs.2 b (jB (jI (jk e) (I.ok.cab x c hfn hc)))).trans e1⟩
  ·obtain⟨o',e1⟩:=I.base.there b o e hx;exact⟨o',(hs.2 b (jB (jI (jk e) (I.ok.cab x c hfn hc)))).trans e1⟩
  ·by_cases hj:j=i
   ·subst hj;rw[hi] at e1; cases e1;rw[jL hiσ] at e2;cases e2;exact⟨u,r,.inr ⟨.inl hk,c,hc,hc'⟩⟩
   ·rw[jf (Zu hj)] at e2;obtain⟨u',r',q⟩:=hl j y v' e1 e2 e3;refine⟨u',r',?_⟩;rcases q with q |⟨k,c',e,z'⟩
    ·exact .inl q
    ·refine .inr ⟨k,c',e,z'.sameBut hs ?_⟩;rintro rfl;exact hj (zh9 hN e1 (I.ok.inj _ _ _ e hc▸hi))
  ·by_cases hcc:c'=c
   ·subst hcc; exact⟨_,hc'⟩
   ·obtain⟨w2,z2⟩:=I.cell y c' e;exact⟨w2,z2.sameBut hs hcc⟩
  ·obtain⟨e,n,ne,nf,d⟩:=I.pin p hp;refine⟨(hs.2 p.1 ?_).trans e,n,ne,nf,d⟩;intro q;rw[q,hoc] at e;have q':oc=p.2:=je e;exact d w' (by rw[<-q']; exact hocd)
theorem zeu{M:Model}{A:Q1}{E:j7->j8->Prop}{i:Nat}{x:Str}{v:V}{u:j7}{Q:Unit->j8->Prop}(I:Inv X pc σ H s)(hN:X.N.Nodup)(hi:X.N[i]?=some x)(hx:Loc X.env.scope x)(r:RelV v u)
  (h:∀ s',Inv X pc (σ.set i (some v)) H s'->Q () s') (hf:X.fn x=true∨X.env.scope.names.lookup x=some .local:=by first |exact .inl rfl |exact .inr rfl |assumption):jD M A (storeName X.env x u) Q E s:=
 zfj I hN hi hx r (fun s' I' _=>h s' I') hf
theorem Inv.call'{s':j8}{ch:List jo}(I:Inv X pc σ H s)(ho:s'.os=s.os)(u:Un (frs X.stack) ch H H' s.heap s'.heap)(hok:HOk X.prog X.w H' s'.heap)(hg:N2 s'.gens)
  (hch:∀ b∈ch,(b∈X.ex∨X.s₀.heap.objs.size<=b)/\b≠X.env.locals/\(∀ x c,X.env.cells.lookup x=some c->c≠b)/\∀ p∈X.pn++pc,p.1≠b):Inv X pc σ H' s':=by
 obtain⟨h',g',d',t',o'⟩:=s';have e:o'=s.os:=ho;subst e;exact I.call (g':=g') (t':=t') (d':=d') u hok hg hch
end
abbrev XK:=j7->Option jo->Hp->Prop
abbrev St:=List (Option V)
abbrev VK:=V->Hp->Prop
abbrev TE:=St->Hp->VK->Prop
abbrev TT:=St->Hp->(Bool->Hp->Prop)->Prop
abbrev TA:=St->Hp->(List V->Hp->Prop)->Prop
structure Ends where
 nx:St->Hp->Prop
 rt:VK
 bk:St->Hp->Prop:=fun _ _=>False
 ct:St->Hp->Prop:=fun _ _=>False
abbrev TS:=Ends->St->Hp->Prop
def EP(X:Cx)(pc:List (jo × Obj))(σ:St)(Q:VK)(u:j7)(s':j8):Prop:=∃ v H',Inv X pc σ H' s'/\RelV v u/\Q v H'
def TP(X:Cx)(pc:List (jo × Obj))(σ:St)(Q:Bool->Hp->Prop)(b:Bool)(s':j8):Prop:=∃ H',Inv X pc σ H' s'/\Q b H'
def AP(X:Cx)(pc:List (jo × Obj))(σ:St)(Q:List V->Hp->Prop)(us:List j7)(s':j8):Prop:=∃ vs H',Inv X pc σ H' s'/\Vals vs us/\Q vs H'
def SP(X:Cx)(pc:List (jo × Obj))(D:Ends)(f:Flow)(s':j8):Prop:=
 match f with
 |.next=>∃ σ' H',Inv X pc σ' H' s'/\D.nx σ' H'
 |.brk=>∃ σ' H',Inv X pc σ' H' s'/\D.bk σ' H'
 |.cont=>∃ σ' H',Inv X pc σ' H' s'/\D.ct σ' H'
 |.ret u=>∃ v σ' H',Inv X pc σ' H' s'/\RelV v u/\D.rt v H'
def PE(X:Cx)(e:Q0)(t:TE):Prop:=
 ∀(pc:List (jo × Obj)) (s:j8) (σ:St) (H:Hp) (Q:VK),Inv X pc σ H s->t σ H Q->jD (jF X.prog X.w) X.A (eval e X.env) (EP X pc σ Q) X.xe s
def PT(X:Cx)(e:Q0)(t:TT):Prop:=
 ∀(pc:List (jo × Obj)) (s:j8) (σ:St) (H:Hp) (Q:Bool->Hp->Prop),Inv X pc σ H s->t σ H Q->jD (jF X.prog X.w) X.A (isTrue e X.env (eval e X.env)) (TP X pc σ Q) X.xe s
def PA(X:Cx)(es:List Q0)(t:TA):Prop:=
 ∀(pos:Pos) (pc:List (jo × Obj)) (s:j8) (σ:St) (H:Hp) (Q:List V->Hp->Prop),Inv X pc σ H s->t σ H Q->jD (jF X.prog X.w) X.A (spliced (Zr pos (jj es X.env))) (AP X pc σ Q) X.xe s
def PS(X:Cx)(st:ZU)(t:TS):Prop:=
 ∀(pc:List (jo × Obj)) (s:j8) (σ:St) (H:Hp) (D:Ends),Inv X pc σ H s->t D σ H->jD (jF X.prog X.w) X.A (exec st X.env) (SP X pc D) X.xe s
def PSs(X:Cx)(st:List ZU)(t:TS):Prop:=
 ∀(pc:List (jo × Obj)) (s:j8) (σ:St) (H:Hp) (D:Ends),Inv X pc σ H s->t D σ H->jD (jF X.prog X.w) X.A (execs st X.env) (SP X pc D) X.xe s
theorem thn{α:Type}{t:Sem α}{Q Q':α->j8->Prop}{M:Model}{A:Q1}{E:j7->j8->Prop}{s:j8}(h:jD M A t Q E s)(hQ:∀ a s,Q a s->Q' a s):jD M A t Q' E s:=Z0 h hQ fun _ _ x=>x
section
def zdM(i:Nat):TE:=fun σ H Q=>∃ v,σ[i]?=some (some v)/\Q v H
def tC(v:V):TE:=fun _ H Q=>Q v H
theorem znR{i:Nat}{x:Str}{pos:Pos}(hN:X.N[i]?=some x)(hv:Vis X.env.scope x)(hd:(x == ("__debug__":Str))=false:=by decide)(hcd:(x == ("__classdict__":Str))=false:=by decide):PE X (.Name x pos) (zdM i):=by
 intro pc s σ H Q I h;obtain⟨v,e,h⟩:=h;obtain⟨m,hn,hl⟩:=I.loc;obtain⟨u,r,l⟩:=hl i x v hN e hv;have fin:EP X pc σ Q u s:=⟨v,H,I,r,h⟩;rcases l with ⟨hk,hm⟩ |⟨hk,c,hc,hcell⟩
 ·exact J2 (Nn I.ok.kind hk hn hm fin) hd
 ·rcases hk with hk |hk
  ·exact J2 (NB I.ok.kind hk hc hcell fin) hd
  ·exact J2 (wpAny_loadName_free I.ok.kind hk hc hcell fin hcd) hd
theorem znX{i j pos}:PE X (.Constant (.int i) j pos) (tC (.int i)):=fun _ _ _ H _ I h=>wpAny_Constant_int ⟨.int i,H,I.tok _,⟨_,rfl⟩,h⟩
theorem zq3{b j pos}:PE X (.Constant (.bool b) j pos) (tC (.bl b)):=fun _ _ _ H _ I h=>Constant_bool ⟨.bl b,H,I,rfl,h⟩
theorem znT{x j pos}:PE X (.Constant (.str x) j pos) (tC (.str x)):=fun _ _ _ H _ I h=>Calls.Constant_str ⟨.str x,H,I.tok _,⟨_,rfl⟩,h⟩
def Gl(X:Cx)(x:Str):Prop:=X.env.kindOf x=some .globalImplicit
theorem zmg{E:j7->j8->Prop}{pc:List (jo × Obj)}{s:j8}{σ:St}{H:Hp}{x:Str}{u:j7}{pos:Pos}{Q:j7->j8->Prop}(I:Inv X pc σ H s)(hg:Gl X x)(hm:X.mg x=some u)(h:Q u s)
  (hd:(x == ("__debug__":Str))=false:=by decide):jD (jF X.prog X.w) X.A (eval (.Name x pos) X.env) Q E s:=
 Y7 I.ok.kind hg (Calls.loadGlobal_global (by rw[I.ok.glob]; exact I.mod.glob.keeps I.bk) hm h) hd
theorem zcG{E:j7->j8->Prop}{pc:List (jo × Obj)}{s:j8}{σ:St}{H:Hp}{x:Str}{u:j7}{pos:Pos}{Q:j7->j8->Prop}(I:Inv X pc σ H s)(hg:Gl X x)(hm:X.mg x=none)(hv:QZ x=some u)(h:Q u s)
  (hn:x≠"__name__":=by decide) (hd:(x == ("__debug__":Str))=false:=by decide):jD (jF X.prog X.w) X.A (eval (.Name x pos) X.env) Q E s:=by
 obtain⟨mb,h1,h2⟩:=I.mod.blt;exact Y7 I.ok.kind hg (Calls.loadGlobal_builtin (by rw[I.ok.glob]; exact I.mod.glob.keeps I.bk) hm (by rw[I.ok.blt]; exact h1.keeps I.bk) ((h2 x hn).trans hv) h) hd
variable {a:Q0}
def PC(X:Cx)(op:CmpOp)(a b:Q0)(t:TE):Prop:=
 ∀(pc:List (jo × Obj)) (s:j8) (σ:St) (H:Hp) (Q:VK),Inv X pc σ H s->t σ H Q->
  jD (jF X.prog X.w) X.A (eval a X.env) (fun v s₁=>jD (jF X.prog X.w) X.A (eval b X.env) (fun u s₂=>jD (jF X.prog X.w) X.A (ZV op v u) (EP X pc σ Q) X.xe s₂) X.xe s₁) X.xe s
def tB(t:TE):TT:=fun σ H Q=>t σ H fun x H1=>∃ c,x=.bl c/\Q c H1
theorem znJ{op:CmpOp}{t:TE}(h:PC X op a b t)(h1:Zv op b=false:=by first |exact nobehind _ (by decide) (by decide) |rfl):PT X (.Compare a [op] [b] pos) (tB t):=by
 intro pc s σ H Q I hw;refine N3 (thn (h pc s σ H _ I hw) fun v s1 h1=>thn h1 fun u s2 h2=>thn h2 fun c s3 ⟨x,H1,I1,r1,q1⟩=>?_) h1;obtain⟨d,rfl,q⟩:=q1;cases r1;exact ZQ ⟨H1,I1,q⟩
variable {tA tB':TT}{zc2:List Q0}
def zrv(t:TT):TT:=fun σ H Q=>t σ H fun c H1=>Q (!c) H1
theorem znI(ha:PT X a tA):PT X (.UnaryOp .Not a pos) (zrv tA):=by
 intro pc s σ H Q I h;exact isTrue_not (ha pc s σ H (fun c H1=>Q (!c) H1) I h)
def zru(ta tb:TE):TE:=fun σ H Q=>ta σ H fun x H1=>∃ c,x=.bl c/\if c=true then Q (.bl true) H1 else tb σ H1 Q
theorem znU{op}{t:TE}(h:PE X a t):PE X (.BoolOp op [a] pos) t:=fun pc s σ H Q I hw=>BoolOp_one (h pc s σ H Q I hw)
theorem zq0(ha:PE X a ta)(hb:PE X (.BoolOp .Or (b::zc2) pos) tb):PE X (.BoolOp .Or (a::b::zc2) pos) (zru ta tb):=by
 intro pc s σ H Q I h;refine BoolOp_or (thn (ha pc s σ H _ I h) fun v s1 h_=>?_); obtain⟨x,H1,I1,r1,q1⟩:=h_;obtain⟨c,rfl,q1⟩:=q1;cases r1;refine ZQ ?_;cases c with
 |false=>exact hb pc s1 σ H1 Q I1 q1
 |true=>exact⟨.bl true,H1,I1,rfl,q1⟩
end
def SqL(K:jd)(H:Hp)(a:jo)(xs:List V):Prop:=
 Rd H a (.lst xs) ∨
  ∃(o:Obj) (its:Array j7) (n:Nat),K.lookup a=some o/\o.cls=.type "list"/\o.dict=none/\o.data=.seq its n/\its.size<=jq/\Vals xs its.toList
def SqT(K:jd)(H:Hp)(a:jo)(xs:List V):Prop:=
 Rd H a (.tup xs) ∨
  ∃(o:Obj) (its:Array j7) (n:Nat),K.lookup a=some o/\o.cls=.type "tuple"/\o.data=.seq its n/\its.size<=jq/\Vals xs its.toList
def zrO:j7->Option V
 |.none=>some .non
 |.bool b=>some (.bl b)
 |.int i _=>some (.int i)
 |.str x _=>some (.str x)
 |.bytes b _=>some (.byt b)
 |.float b _=>some (.flt b)
 |.ref a=>some (.ref a)
 |.type n=>some (.ty n)
 |_=>none
theorem RelV.abs{x:V}{u:j7}(r:RelV x u):zrO u=some x:=by
 cases x with
 |non=>cases r; rfl
 |bl _=>cases r; rfl
 |int _=>obtain⟨t,rfl⟩:=r; rfl
 |str _=>obtain⟨t,rfl⟩:=r; rfl
 |byt _=>obtain⟨t,rfl⟩:=r; rfl
 |flt _=>obtain⟨t,rfl⟩:=r; rfl
 |ref _=>cases r; rfl
 |ty _=>cases r; rfl
theorem RelV.inj{x y:V}{u:j7}(r:RelV x u)(q:RelV y u):x=y:=je (r.abs.symm.trans q.abs)
theorem Vals.inj:∀ {xs ys:List V} {us:List j7},Vals xs us->Vals ys us->xs=ys
 |_,_,_,.nil,.nil=>rfl
 |_,_,_,.cons r t,.cons r' t'=>by rw[r.inj r',Vals.inj t t']
section
variable {xs ys:List V}
theorem SqL.of{K:jd}(h:H a=some (.lst xs)):SqL K H a xs:=.inl (.inl h)
theorem SqT.of{K:jd}(h:H a=some (.tup xs)):SqT K H a xs:=.inl (.inl h)
theorem Inv.list(I:Inv X pc σ H s)(h:SqL X.K H a xs):∃ its:List j7,Vals xs its/\PlainL s.heap a its.toArray/\xs.length<=jq:=by
 rcases h with h |⟨o,its,n,hk,hc,hd,hs,hz,r⟩
 ·obtain⟨z,its,n,r,e⟩:=h.ok I.hok;exact⟨its,r,⟨_,n,e,rfl,rfl,rfl⟩,z⟩
 ·refine⟨its.toList,r,⟨o,n,I.kIn a o hk,hc,hd,by simpa using hs⟩,?_⟩
  have e:=r.length;simp only[jA] at e;lia
theorem Inv.tuple(I:Inv X pc σ H s)(h:SqT X.K H a xs):∃ its:List j7,Vals xs its/\IsTup s.heap a its.toArray/\xs.length<=jq:=by
 rcases h with h |⟨o,its,n,hk,hc,hs,hz,r⟩
 ·obtain⟨z,its,r,p⟩:=h.ok I.hok;exact⟨its,r,p,z⟩
 ·refine⟨its.toList,r,⟨o,I.kIn a o hk,hc,n,by simpa using hs⟩,?_⟩
  have e:=r.length;simp only[jA] at e;lia
theorem Inv.list_inj(I:Inv X pc σ H s)(h:SqL X.K H a xs)(h':SqL X.K H a ys):xs=ys:=by
 obtain⟨its,r,⟨o,n,e,_,_,d⟩,_⟩:=I.list h;obtain⟨its',r',⟨o',n',e',_,_,d'⟩,_⟩:=I.list h';rw[e] at e'; cases e';rw[d] at d';injection d' with d1 _;have:its=its':=by simpa using congrArg Jk d1
 subst this;exact r.inj r'
theorem Inv.tuple_inj(I:Inv X pc σ H s)(h:SqT X.K H a xs)(h':SqT X.K H a ys):xs=ys:=by
 obtain⟨its,r,⟨o,e,_,n,d⟩,_⟩:=I.tuple h;obtain⟨its',r',⟨o',e',_,n',d'⟩,_⟩:=I.tuple h';rw[e] at e'; cases e';rw[d] at d';injection d' with d1 _;have:its=its':=by simpa using congrArg Jk d1
 subst this;exact r.inj r'
end
abbrev Cx.wish(X:Cx)(E:j7->j8->Prop):Cx:={ X with xe:=E }
abbrev Cx.nox(X:Cx):Cx:=X.wish fun _ _=>False
theorem Cx.Ok.wish{X:Cx}(ok:X.Ok)(E:j7->j8->Prop):(X.wish E).Ok:=
 ⟨ok.mod,ok.kind,ok.glob,ok.blt,ok.above,ok.inj,ok.has,ok.cab,ok.hd,ok.frames,ok.stk,ok.exf,ok.bs,ok.bsz,ok.noex,ok.exfs,ok.funs,ok.frf⟩
theorem Cx.Ok.unwish{X:Cx}{E:j7->j8->Prop}(ok:(X.wish E).Ok):X.Ok:=
 ⟨ok.mod,ok.kind,ok.glob,ok.blt,ok.above,ok.inj,ok.has,ok.cab,ok.hd,ok.frames,ok.stk,ok.exf,ok.bs,ok.bsz,ok.noex,ok.exfs,ok.funs,ok.frf⟩
section
variable {E:j7->j8->Prop}
theorem Inv.wish(I:Inv X pc σ H s)(E:j7->j8->Prop):Inv (X.wish E) pc σ H s:=⟨I.ok.wish E,I.os,I.bare,I.base,I.loc,I.cell,I.free,I.freeC,I.pin,I.hok,I.len⟩
theorem Inv.unwish(I:Inv (X.wish E) pc σ H s):Inv X pc σ H s:=⟨I.ok.unwish,I.os,I.bare,I.base,I.loc,I.cell,I.free,I.freeC,I.pin,I.hok,I.len⟩
theorem SP.unwish{D:Ends}{f:Flow}{s':j8}(h:SP (X.wish E) pc D f s'):SP X pc D f s':=by
 cases f with
 |next=>obtain⟨σ',H',I,q⟩:=h; exact⟨σ',H',I.unwish,q⟩
 |brk=>obtain⟨σ',H',I,q⟩:=h; exact⟨σ',H',I.unwish,q⟩
 |cont=>obtain⟨σ',H',I,q⟩:=h; exact⟨σ',H',I.unwish,q⟩
 |ret u=>obtain⟨v,σ',H',I,r,q⟩:=h; exact⟨v,σ',H',I.unwish,r,q⟩
theorem PSs.nox{st:List ZU}{t:TS}(h:PSs X.nox st t):PSs X st t:=fun pc s σ H D I hw=>
 Z0 (h pc s σ H D (I.wish _) hw) (fun _ _ q=>q.unwish) fun _ _ z=>ZR z
end
section
variable {st:ZU}{zc2:List ZU}{t u:TS}{te:TE}
def zpE:TS:=fun D σ H=>D.nx σ H
def zrs(t u:TS):TS:=fun D σ H=>t { D with nx:=u D } σ H
theorem zlW:PSs X [] zpE:=fun _ _ σ H _ I h=>gY ⟨σ,H,I,h⟩
theorem zkj(h1:PS X st t)(h2:PSs X zc2 u):PSs X (st::zc2) (zrs t u):=by
 intro pc s σ H D I h;refine wpAny_execs_cons (thn (h1 pc s σ H { D with nx:=u D } I h) fun f s1 q=>?_);cases f with
 |next=>
  obtain⟨σ',H',I',q⟩:=q;exact h2 pc s1 σ' H' D I' q
 |ret v=>exact q
 |brk=>exact q
 |cont=>exact q
theorem zlV(h1:PS X st t):PSs X [st] t:=by
 intro pc s σ H D I h;refine wpAny_execs_cons (thn (h1 pc s σ H D I h) fun f s1 q=>?_);cases f with
 |next=>exact gY q
 |ret v=>exact q
 |brk=>exact q
 |cont=>exact q
theorem Inv.quiet{pc:List (jo × Obj)}{σ:St}{H:Hp}{s:j8}(I:Inv X pc σ H s):interactive X.env=false:=by simp[interactive,I.ok.kind]
def zpF(te:TE):TS:=fun D σ H=>te σ H fun _ H1=>D.nx σ H1
theorem zlX(he:PE X e te)(hs:N4 e none pos.line X.env=pure false:=by rfl):PS X (.Expr e pos) (zpF te):=by
 intro pc s σ H D I h;exact wpAny_Expr_any (thn (he pc s σ H _ I h) fun v s1 ⟨x,H1,I1,r1,q1⟩=>⟨σ,H1,I1,q1⟩) I.quiet hs
def zrt(te:TE):TS:=fun D σ H=>te σ H D.rt
theorem zkS(he:PE X e te):PS X (.Return (some e) pos) (zrt te):=by
 intro pc s σ H D I h;exact wpAny_Return_some (thn (he pc s σ H _ I h) fun v s1 ⟨x,H1,I1,r1,q1⟩=>⟨x,σ,H1,I1,r1,q1⟩)
def zrx(c:TT)(t u:TS):TS:=fun D σ H=>c σ H fun b H1=>if b=true then t D σ H1 else u D σ H1
theorem zpY{c:Q0}{a b:List ZU}{tc:TT}(hc:PT X c tc)(ha:PSs X a t)(hb:PSs X b u):PS X (.If c a b pos) (zrx tc t u):=by
 intro pc s σ H D I h;refine wpAny_If (thn (hc pc s σ H _ I h) fun d s1 h_=>?_); obtain⟨H1,I1,q1⟩:=h_;cases d with
 |true=>exact ha pc s1 σ H1 D I1 q1
 |false=>exact hb pc s1 σ H1 D I1 q1
end
abbrev TG:=V->St->Hp->(St->Hp->Prop)->Prop
abbrev TGs:=List V->St->Hp->(St->Hp->Prop)->Prop
def PG(X:Cx)(target:Q0)(t:TG):Prop:=
 ∀(pc:List (jo × Obj)) (s:j8) (σ:St) (H:Hp) (v:V) (u:j7) (Q:St->Hp->Prop),Inv X pc σ H s->RelV v u->t v σ H Q->
  jD (jF X.prog X.w) X.A (Nv target X.env u) (fun _ s'=>∃ σ' H',Inv X pc σ' H' s'/\Q σ' H') X.xe s
def PGs(X:Cx)(ts:List Q0)(t:TGs):Prop:=
 ∀(pc:List (jo × Obj)) (s:j8) (σ:St) (H:Hp) (vs:List V) (us:List j7) (Q:St->Hp->Prop),Inv X pc σ H s->Vals vs us->t vs σ H Q->
  jD (jF X.prog X.w) X.A (assignInOrder ((Q5 ts X.env).map (·.2)) us) (fun _ s'=>∃ σ' H',Inv X pc σ' H' s'/\Q σ' H') X.xe s
abbrev zoW:=V->V->V->Hp->(Hp->Prop)->Prop
def zqC(X:Cx)(t:zoW):Prop:=
 ∀(pc:List (jo × Obj)) (s:j8) (σ:St) (H:Hp) (o i v:V) (ov iv u:j7) (Q:Hp->Prop),Inv X pc σ H s->RelV o ov->RelV i iv->RelV v u->t o i v H Q->
  jD (jF X.prog X.w) X.A (setItem ov iv u) (fun _ s'=>∃ H',Inv X pc σ H' s'/\Q H') X.xe s
abbrev TIp:=V->V->Hp->VK->Prop
def PIp(X:Cx)(op:J9)(t:TIp):Prop:=
 ∀(pc:List (jo × Obj)) (s:j8) (σ:St) (H:Hp) (x y:V) (v u:j7) (Q:VK),Inv X pc σ H s->RelV x v->RelV y u->t x y H Q->
  jD (jF X.prog X.w) X.A (inplaceOp op v u) (EP X pc σ Q) X.xe s
section
def zbo(i:Nat):TG:=fun v σ H Q=>Q (σ.set i (some v)) H
theorem zm6{i:Nat}{x:Str}(hN:X.N.Nodup)(hi:X.N[i]?=some x)(hx:Loc X.env.scope x)(hf:X.fn x=true∨X.env.scope.names.lookup x=some .local:=by first |exact .inl rfl |exact .inr rfl |assumption):PG X (.Name x pos) (zbo i):=by
 intro pc s σ H v u Q I r h;exact W2 (zeu I hN hi hx r (fun s' I'=>⟨_,H,I',h⟩) hf)
def zmt:TGs:=fun vs σ H Q=>vs=[]/\Q σ H
def zfQ(t:TG)(u:TGs):TGs:=fun vs σ H Q=>∃ v r,vs=v::r/\t v σ H fun σ' H'=>u r σ' H' Q
theorem zm4:PGs X [] zmt:=by
 intro pc s σ H vs us Q I r h;obtain⟨e,h⟩:=h;subst e;cases r;exact assignInOrder_nil ⟨σ,H,I,h⟩
theorem zkm{e:Q0}{es:List Q0}{t:TG}{u:TGs}(h1:PG X e t)(h2:PGs X es u)
  (hs:(Q5 (e::es) X.env).map (·.2)=Nv e X.env::(Q5 es X.env).map (·.2):=by rfl):PGs X (e::es) (zfQ t u):=by
 intro pc s σ H vs us Q I r h;obtain⟨v,vr,e1,h⟩:=h;subst e1;cases r with
 |cons r rr=>
  rw[hs];refine assignInOrder_cons (thn (h1 pc s σ H _ _ _ I r h) fun _ s1 h_=>?_); obtain⟨σ1,H1,I1,q1⟩:=h_;exact h2 pc s1 σ1 H1 _ _ Q I1 rr q1
def zjl(K:jd)(n:Nat)(t:TGs):TG:=fun v σ H Q=>∃ a xs,v=.ref a/\SqT K H a xs/\xs.length=n/\t xs σ H Q
theorem zkT{es:List Q0}{k:Nat}{t:TGs}{n:Nat}(hc:X.calm=true)(h:PGs X es t)
  (hn:(Q5 es X.env).length=n:=by rfl) (hst:(Q5 es X.env).findIdx? (·.1)=none:=by rfl):PG X (.Tuple es k pos) (zjl X.K n t):=by
 intro pc s σ H v u Q I r hw;obtain⟨a,xs,e1,hq,hl,hw⟩:=hw;subst e1;cases r;obtain⟨its,rv,ht,hz⟩:=I.tuple hq;refine assign_Tuple_tuple (I.ok.hd hc) ht (by simp[hn,<-hl,rv.length]) hst fun h' hx=>?_
 have I1:Inv X pc σ H { s with heap:=h' }:=I.kept (t':=s.toks) fun b o e=>hx b o (jB (jk e)) e;exact h pc _ σ H xs _ Q I1 (by simpa using rv) hw
def zqj(to ti:TE)(t:zoW):TG:=fun v σ H Q=>to σ H fun o H1=>ti σ H1 fun i H2=>t o i v H2 fun H3=>Q σ H3
theorem znQ{o i:Q0}{to ti:TE}{t:zoW}(ho:PE X o to)(hi:PE X i ti)(hs:zqC X t)
  (ha:∀ v,Nv (.Subscript o i pos) X.env v=(do
   let ov <-YA [v] (eval o X.env)
   let iv <-YA [v,ov] (eval i X.env)
   standAt pos
   YA [v,ov,iv] (setItem ov iv v)
   release [v,ov,iv] []):=by intro _; rfl):PG X (.Subscript o i pos) (zqj to ti t):=by
 intro pc s σ H v u Q I r h;rw[ha];refine j4 (jW (thn (ho pc s σ H _ I h) fun ov s1 h_=>?_)); obtain⟨x,H1,I1,r1,q1⟩:=h_;refine j4 (jW (thn (hi pc s1 σ H1 _ I1 q1) fun iv s2 h_=>?_)); obtain⟨y,H2,I2,r2,q2⟩:=h_;refine j4 (YB (j4 (jW (thn (hs pc s2 σ H2 x y v ov iv u _ I2 r1 r2 r q2) fun _ s3 h_=>?_)))); obtain⟨H3,I3,q3⟩:=h_;exact wpAny_release ⟨σ,H3,I3,q3⟩
def zgd(te:TE)(g:TG):TS:=fun D σ H=>te σ H fun x H1=>g x σ H1 D.nx
theorem znN{tg e:Q0}{te:TE}{g:TG}(he:PE X e te)(hg:PG X tg g)(hs:swapsWithSole [tg] e pos.line X.env=pure false:=by rfl)(hw:swappedStores [tg] e X.env=pure none:=by rfl)
  (h1:(Q5 [tg] X.env).map (·.2)=[Nv tg X.env]:=by rfl):PS X (.Assign [tg] e pos) (zgd te g):=by
 intro pc s σ H D I h;refine wpAny_Assign_stores (thn (he pc s σ H _ I h) fun v s1 ⟨x,H1,I1,r1,q1⟩=>?_) hs hw;rw[h1];exact thn (hg pc s1 σ H1 x v _ I1 r1 q1) fun _ s2 q=>q
theorem znK{i:Nat}{x:Str}{e:Q0}{te:TE}{pos':Pos}(hN:X.N.Nodup)(hi:X.N[i]?=some x)(hx:Loc X.env.scope x)(he:PE X e te)(hs:N4 e (some (.Name x pos')) pos.line X.env=pure false:=by rfl)(hf:X.fn x=true∨X.env.scope.names.lookup x=some .local:=by first |exact .inl rfl |exact .inr rfl |assumption) :
  PS X (.Assign [.Name x pos'] e pos) (zgd te (zbo i)):=by
 intro pc s σ H D I h;refine wpAny_Assign_Name (thn (he pc s σ H _ I h) fun v s1 ⟨y,H1,I1,r1,q1⟩=>?_) hs;exact zeu I1 hN hi hx r1 (fun s2 I2=>⟨_,H1,I2,q1⟩) hf
def zpH(i:Nat)(te:TE)(ti:TIp):TS:=fun D σ H=>∃ x,σ[i]?=some (some x)/\te σ H fun y H1=>ti x y H1 fun z H2=>D.nx (σ.set i (some z)) H2
theorem znM{i:Nat}{x:Str}{e:Q0}{te:TE}{op:J9}{ti:TIp}{pos':Pos}(hN:X.N.Nodup)(hi:X.N[i]?=some x)(hx:Loc X.env.scope x)(he:PE X e te)(ho:PIp X op ti)(hf:X.fn x=true∨X.env.scope.names.lookup x=some .local:=by first |exact .inl rfl |exact .inr rfl |assumption) :
  PS X (.AugAssign (.Name x pos') op e pos) (zpH i te ti):=by
 intro pc s σ H D I h;obtain⟨v,e1,h⟩:=h;obtain⟨m,hn,hl⟩:=I.loc;have vis:Vis X.env.scope x:=by rcases hx with k |k; exact .inl k; exact .inr (.inl k)
 obtain⟨u,r,l⟩:=hl i x v hi e1 vis;refine wpAny_AugAssign_Name ?_;have go:jD (jF X.prog X.w) X.A (eval e X.env) (fun w s₂=>jD (jF X.prog X.w) X.A (inplaceOp op u w) (fun r s₃=>jD (jF X.prog X.w) X.A (storeName X.env x r) (fun _=>SP X pc D .next) X.xe s₃) X.xe s₂) X.xe s:=by
  refine thn (he pc s σ H _ I h) fun w s1 h_=>?_; obtain⟨y,H1,I1,r1,q1⟩:=h_;refine thn (ho pc s1 σ H1 v y u w _ I1 r r1 q1) fun z s2 h_=>?_; obtain⟨zv,H2,I2,r2,q2⟩:=h_;exact zeu I2 hN hi hx r2 (fun s3 I3=>⟨_,H2,I3,q2⟩) hf
 rcases l with ⟨hk,hm⟩ |⟨hk,c,hc,hcell⟩
 ·exact Nn I.ok.kind hk hn hm go
 ·rcases hk with hk |hk
  ·exact NB I.ok.kind hk hc hcell go
  ·rcases hx with k |k
   ·have:X.env.scope.names.lookup x=some .free:=hk;rw[k] at this; cases this
   ·have:X.env.scope.names.lookup x=some .free:=hk;rw[k] at this; cases this
def ipI(f:Int->Int->Int):TIp:=fun x y H Q=>∃ i j,x=.int i/\y=.int j/\Q (.int (f i j)) H
theorem zoj:PIp X .Add (ipI fun i j=>i+j):=by
 intro pc s σ H x y v u Q I r1 r2 h;obtain⟨i,j,e1,e2,q⟩:=h;subst e1; subst e2;obtain⟨t,rfl⟩:=r1;obtain⟨t',rfl⟩:=r2;exact iadd_int ⟨.int _,H,I.tok _,⟨_,rfl⟩,q⟩
end
section
def zkK(c:TT)(tb:TS):TS:=fun D σ H=>∃ W:Nat->St->Hp->Prop,(∃ m,W m σ H)/\∀ m σ H,W m σ H->
 c σ H fun b H1=>if b=true then ∃ N:St->Hp->Prop,(∀ σ' H',N σ' H'->∃ m',m' < m/\W m' σ' H')/\tb { D with nx:=N,ct:=N,bk:=D.nx } σ H1 else D.nx σ H1
theorem zkk{c:Q0}{body:List ZU}{tc:TT}{tb:TS}(hp:WF (jF X.prog X.w) X.A X.env X.xe)(hc:PT X c tc)(hb:PSs X body tb):PS X (.While c body [] pos) (zkK tc tb):=by
 intro pc s σ H D I h;obtain⟨W,⟨m0,w0⟩,turn⟩:=h;refine wpAny_While (codeAny_whileLoop (fun n s'=>∃ σ' H',Inv X pc σ' H' s'/\W n σ' H') ?_ m0 ⟨σ,H,I,w0⟩);rintro n s1 ⟨σ1,H1,I1,w1⟩;refine Zj hp (thn (hc pc s1 σ1 H1 _ I1 (turn n σ1 H1 w1)) fun b s2 h_=>?_); obtain⟨H2,I2,q2⟩:=h_;cases b with
 |true=>
  obtain⟨N,hN,q2⟩:=q2;rw[Ip_ rfl];refine Zj hp (thn (hb pc s2 σ1 H2 _ I2 q2) fun f s3 q3=>?_);cases f with
  |next=>
   obtain⟨σ3,H3,I3,n3⟩:=q3;obtain⟨m',hm,w3⟩:=hN σ3 H3 n3;exact⟨m',hm,σ3,H3,I3,w3⟩
  |cont=>
   obtain⟨σ3,H3,I3,n3⟩:=q3;obtain⟨m',hm,w3⟩:=hN σ3 H3 n3;exact⟨m',hm,σ3,H3,I3,w3⟩
  |brk=>exact q3
  |ret v=>exact q3
 |false=>
  rw[In_ jr];exact gY ⟨σ1,H2,I2,q2⟩
end
structure It where
 go:Nat->Hp->Prop
 yld:Nat->Hp->V->Hp->Prop
 stop:Nat->Hp->Prop
def zia(X:Cx)(pc:List (jo × Obj))(H:Hp)(b:jo):Prop:=
 H b=none/\b≠X.env.locals/\b∉X.fs/\(b∈X.ex∨X.s₀.heap.objs.size<=b)/\(∀ x c,X.env.cells.lookup x=some c->c≠b)/\∀ p∈X.pn++pc,p.1≠b
theorem Inv.fpOk{X:Cx}{pc:List (jo × Obj)}{σ:St}{H H':Hp}{s:j8}{b:jo}(I:Inv X pc σ H s)(hb:s.heap.objs.size<=b)(hn:H' b=none):zia X pc H' b:=by
 refine⟨hn,Z8 (jI I.lt hb),I.nofs hb,.inr (Qt I.sz hb),fun x c e z=>?_,fun p hp z=>?_⟩
 ·obtain⟨v,q⟩:=I.cell x c e;exact absurd (jI q.lt (by rw[z]; exact hb)) (QL _)
 ·exact absurd (jI (jk (I.pin p hp).1) (by rw[z]; exact hb)) (QL _)
structure Turn (P:jG) (w:Q7) (K:jd) (tg:Q0) (J:It) (fp:List jo) (it:jo) (tn:Nat->Zq->Prop):Prop where
 mem:it∈fp
 obj:∀ i h,tn i h->∀ b∈fp,∃ o,h.get? b=some o/\∀ v,o.data≠.cell v
 keep:∀ i h h',tn i h->(∀ b∈fp,∀ o,h.get? b=some o->h'.get? b=some o)->tn i h'
 item:∀(X:Cx),X.prog=P->X.w=w->X.K=K->X.calm=true->∀(i:Nat) (pc:List (jo × Obj)) (s:j8) (σ:St) (H:Hp) (E:j7->j8->Prop),Inv X pc σ H s->(∀ b∈fp,zia X pc H b)->tn i s.heap->J.go i H->
  jD (jF P w) X.A (Yc (.ref it)) (fun r s1=>∃ u,r=some u /\
   jD (jF P w) X.A (gd tg (.ref it) u) (fun _ s2=>∃ x H',Inv X pc σ H' s2/\RelV x u/\J.yld i H x H'/\tn (i+1) s2.heap/\∀ b∈fp,H' b=none) E s1) E s
 done:∀(X:Cx),X.prog=P->X.w=w->X.K=K->X.calm=true->∀(i:Nat) (pc:List (jo × Obj)) (s:j8) (σ:St) (H:Hp) (E:j7->j8->Prop),Inv X pc σ H s->(∀ b∈fp,zia X pc H b)->tn i s.heap->J.stop i H->
  jD (jF P w) X.A (Yc (.ref it)) (fun r s1=>r=none/\Inv X pc σ H s1) E s
 self:∀(A:Q1) (i:Nat) (s:j8) (Q:j7->j8->Prop) (E:j7->j8->Prop),tn i s.heap->Q (.ref it) s->jD (jF P w) A (WG (.ref it)) Q E s
abbrev TI:=St->Hp->(It->Hp->Prop)->Prop
def PIE(X:Cx)(pc:List (jo × Obj))(σ:St)(tg:Q0)(R:It->Hp->Prop)(itv:j7)(s2:j8):Prop:=
 ∃(it:jo) (fp:List jo) (tn:Nat->Zq->Prop) (J:It) (H':Hp),itv=.ref it/\Inv X pc σ H' s2/\Turn X.prog X.w X.K tg J fp it tn/\tn 0 s2.heap/\(∀ b∈fp,zia X pc H' b)/\R J H'
def PI(X:Cx)(tg iter:Q0)(wi:TI):Prop:=
 ∀(pc:List (jo × Obj)) (s:j8) (σ:St) (H:Hp) (R:It->Hp->Prop),Inv X pc σ H s->wi σ H R->
  jD (jF X.prog X.w) X.A (eval iter X.env) (fun v s1=>jD (jF X.prog X.w) X.A (WG v) (PIE X pc σ tg R) X.xe s1) X.xe s
theorem zi2{M:Model}{A:Q1}{E:j7->j8->Prop}{s:j8}{tg:Q0}{it:jo}{u:j7}{o:Obj}{n:String}{vs:Array j7}{Q:Unit->j8->Prop}(ho:s.heap.get? it=some o)(hc:o.cls=.type n)(hd:o.data=.fields vs)
    (hn:["enumerate","zip","dict_itemiterator","dict_reverseitemiterator","odict_iterator","itertools.zip_longest","itertools.pairwise"].contains n=false) (hQ:Q () s):jD M A (gd tg (.ref it) u) Q E s:=by
  unfold gd;cases tg<;>first
    |exact jb hQ
    | (cases u<;>first
        |exact jb hQ
        | (refine j4 (wpAny_load ho ?_)
           rw[hc,hd];show jD M A (if (["enumerate","zip","dict_itemiterator","dict_reverseitemiterator","odict_iterator","itertools.zip_longest","itertools.pairwise"].contains n&&vs[0]? == some (ge _))=true then _ else _) Q E s
           rw[In_ (by intro h; rw[hn,ZF] at h; cases h)]
           exact jb hQ))
def Itl(K:jd)(a:jo):It:=
 ⟨fun i H=>∃ xs x,SqL K H a xs/\xs[i]?=some x,fun i H x H'=>H'=H/\∀ xs,SqL K H a xs->xs[i]?=some x,fun i H=>∃ xs,SqL K H a xs/\xs.length<=i⟩
def Itt(K:jd)(a:jo):It:=
 ⟨fun i H=>∃ xs x,SqT K H a xs/\xs[i]?=some x,fun i H x H'=>H'=H/\∀ xs,SqT K H a xs->xs[i]?=some x,fun i H=>∃ xs,SqT K H a xs/\xs.length<=i⟩
def Itr(lo:Int)(n:Nat):It:=⟨fun i _=>i < n,fun i H x H'=>H'=H/\x=.int (lo+i),fun i _=>n<=i⟩
theorem zii{P:jG}{w:Q7}{K:jd}{tg:Q0}(a it:jo):Turn P w K tg (Itl K a) [it] it (fun i h=>h.IsListIter it a i) where
 mem:=by simp
 obj:=fun i h st b hb=>by
  have e:b=it:=by simpa using hb
  subst e;obtain⟨o,e,c,d⟩:=st;exact⟨o,e,fun v z=>by rw[d] at z; cases z⟩
 keep:=fun i h h' st k=>st.at fun o e=>k it (by simp) o e
 item:=by
  intro X hP hw hK hc i pc s σ H E I hf st hg;subst hP hw hK;obtain⟨xs,x,hq,hx⟩:=hg;obtain⟨its,rv,p,hz⟩:=I.list hq;obtain⟨u,hu,ru⟩:=rv.get hx;obtain⟨f0,f1,f2,f3,f4,f5⟩:=hf it (by simp)
  refine YU st p.isList (x:=u) (by simpa using hu) fun h' st' sb=>?_
  have I1:Inv X pc σ H { s with heap:=h' }:=I.turned (t':=s.toks) (fun b o hb e=>(sb.2 b hb).trans e) f0 f1 f3 f4 f5;obtain⟨o,e,c,d⟩:=id st';exact⟨u,rfl,zi2 (s:={ s with heap:=h' }) e c d (by decide) ⟨x,H,I1,ru,⟨rfl,fun ys hy=>by rw[I.list_inj hy hq]; exact hx⟩,st',fun b hb=>(hf b hb).1⟩⟩
 done:=by
  intro X hP hw hK hc i pc s σ H E I hf st hg;subst hP hw hK;obtain⟨xs,hq,hx⟩:=hg;obtain⟨its,rv,p,hz⟩:=I.list hq;obtain⟨f0,f1,f2,f3,f4,f5⟩:=hf it (by simp)
  have hl:=rv.length;exact N5 (I.ok.hd hc) st p.isList (by simp; lia) fun h' eb=>⟨rfl,I.turned (t':=s.toks) (fun b o hb e=>eb b o hb e) f0 f1 f3 f4 f5⟩
 self:=fun _ _ _ _ _ st h=>wpAny_pyIter_listiter st h
theorem zhI{P:jG}{w:Q7}{K:jd}{tg:Q0}(a it:jo):Turn P w K tg (Itt K a) [it] it (fun i h=>h.IsTupleIter it a i) where
 mem:=by simp
 obj:=fun i h st b hb=>by
  have e:b=it:=by simpa using hb
  subst e;obtain⟨o,e,c,d⟩:=st;exact⟨o,e,fun v z=>by rw[d] at z; cases z⟩
 keep:=fun i h h' st k=>st.at fun o e=>k it (by simp) o e
 item:=by
  intro X hP hw hK hc i pc s σ H E I hf st hg;subst hP hw hK;obtain⟨xs,x,hq,hx⟩:=hg;obtain⟨its,rv,p,hz⟩:=I.tuple hq;obtain⟨u,hu,ru⟩:=rv.get hx;obtain⟨f0,f1,f2,f3,f4,f5⟩:=hf it (by simp)
  refine wpAny_pyNext_tuple_item st (show s.heap.IsTuple a its.toArray from p) (x:=u) (by simpa using hu) fun h' st' sb=>?_
  have I1:Inv X pc σ H { s with heap:=h' }:=I.turned (t':=s.toks) (fun b o hb e=>(sb.2 b hb).trans e) f0 f1 f3 f4 f5;obtain⟨o,e,c,d⟩:=id st';exact⟨u,rfl,zi2 (s:={ s with heap:=h' }) e c d (by decide) ⟨x,H,I1,ru,⟨rfl,fun ys hy=>by rw[I.tuple_inj hy hq]; exact hx⟩,st',fun b hb=>(hf b hb).1⟩⟩
 done:=by
  intro X hP hw hK hc i pc s σ H E I hf st hg;subst hP hw hK;obtain⟨xs,hq,hx⟩:=hg;obtain⟨its,rv,p,hz⟩:=I.tuple hq;obtain⟨f0,f1,f2,f3,f4,f5⟩:=hf it (by simp)
  have hl:=rv.length;exact wpAny_pyNext_tuple_end (I.ok.hd hc) st (show s.heap.IsTuple a its.toArray from p) (by simp; lia) fun h' eb=>⟨rfl,I.turned (t':=s.toks) (fun b o hb e=>eb b o hb e) f0 f1 f3 f4 f5⟩
 self:=fun _ _ _ _ _ st h=>wpAny_pyIter_tupleiter st h
theorem zhJ{P:jG}{w:Q7}{K:jd}{tg:Q0}(it:jo)(lo:Int)(n:Nat):Turn P w K tg (Itr lo n) [it] it (fun i h=>WH h it (lo+(i:Nat)*1) ((n:Int) - (i:Nat)) 1) where
 mem:=by simp
 obj:=fun i h st b hb=>by
  have e:b=it:=by simpa using hb
  subst e
  exact⟨_,st,fun v z=>by
   have z':Data.fields _=Data.cell v:=z
   cases z'⟩
 keep:=fun i h h' st k=>k it (by simp) _ st
 item:=by
  intro X hP hw hK hc i pc s σ H E I hf st hg;subst hP hw hK;obtain⟨f0,f1,f2,f3,f4,f5⟩:=hf it (by simp)
  have W:=Js (prog:=X.prog) (w:=X.w) (I.ok.hd hc) it lo 1 n;refine W.item i s _ _ hg st fun v h' tk hv st' kk=>?_;obtain⟨t,rfl⟩:=hv;have I1:Inv X pc σ H { s with heap:=h',toks:=tk }:=I.turned (fun b o hb e=>kk b o (by simpa using hb) e) f0 f1 f3 f4 f5
  refine⟨_,rfl,zi2 (s:={ s with heap:=h',toks:=tk }) (n:="range_iterator") st' rfl rfl (by decide) ⟨.int (lo+i),H,I1,⟨t,?_⟩,⟨rfl,rfl⟩,st',fun b hb=>(hf b hb).1⟩⟩
  rw[Int.mul_one]
 done:=by
  intro X hP hw hK hc i pc s σ H E I hf st hg;subst hP hw hK;obtain⟨f0,f1,f2,f3,f4,f5⟩:=hf it (by simp)
  exact YV (I.ok.hd hc) st (by have:n<=i:=hg; lia) fun h' eb=>⟨rfl,I.turned (t':=s.toks) (fun b o hb e=>eb b o hb e) f0 f1 f3 f4 f5⟩
 self:=fun _ _ _ _ _ st h=>YW st h
section
variable {tg:Q0}
def zhZ(K:jd)(tl:TE):TI:=fun σ H R=>tl σ H fun x H1=>∃ a,x=.ref a/\(∃ xs,SqL K H1 a xs)/\R (Itl K a) H1
def zrI(K:jd)(tl:TE):TI:=fun σ H R=>tl σ H fun x H1=>∃ a,x=.ref a/\(∃ xs,SqT K H1 a xs)/\R (Itt K a) H1
theorem ziL{l:Q0}{tl:TE}(hl:PE X l tl):PI X tg l (zhZ X.K tl):=by
 intro pc s σ H R I h;refine thn (hl pc s σ H _ I h) fun v s1 h_=>?_; obtain⟨x,H1,I1,r1,q1⟩:=h_;obtain⟨a,e,⟨xs,hq⟩,q⟩:=q1;subst e;cases r1;obtain⟨its,rv,p,hz⟩:=I1.list hq;refine gA p.isList ?_;refine⟨s1.heap.objs.size,[s1.heap.objs.size],_,_,H1,rfl,I1.kept (t':=s1.toks) fun b o e=>j6 _ e,zii a _,⟨_,jn _ rfl,rfl,rfl⟩,fun b hb=>?_,q⟩;have e:b=s1.heap.objs.size:=by simpa using hb
 subst e;exact I1.fpOk (jg _) (I1.hok.fresh (jg _))
theorem znO{l:Q0}{tl:TE}(hl:PE X l tl):PI X tg l (zrI X.K tl):=by
 intro pc s σ H R I h;refine thn (hl pc s σ H _ I h) fun v s1 h_=>?_; obtain⟨x,H1,I1,r1,q1⟩:=h_;obtain⟨a,e,⟨xs,hq⟩,q⟩:=q1;subst e;cases r1;obtain⟨its,rv,p,hz⟩:=I1.tuple hq;refine wpAny_pyIter_tuple (show s1.heap.IsTuple a its.toArray from p) ?_;refine⟨s1.heap.objs.size,[s1.heap.objs.size],_,_,H1,rfl,I1.kept (t':=s1.toks) fun b o e=>j6 _ e,zhI a _,⟨_,jn _ rfl,rfl,rfl⟩,fun b hb=>?_,q⟩;have e:b=s1.heap.objs.size:=by simpa using hb
 subst e;exact I1.fpOk (jg _) (I1.hok.fresh (jg _))
theorem zh2{pc:List (jo × Obj)}{σ:St}{H:Hp}{s:j8}{R:It->Hp->Prop}{E:j7->j8->Prop}{lo hi:Int}{t u v:Tok}{tk:Nat}(I:Inv X pc σ H s)(h1:-(2 ^ 62)<=lo)(h2:lo < 2 ^ 62)(h3:-(2 ^ 62)<=hi)(h4:hi < 2 ^ 62)
  (q:R (Itr lo (hi - lo).toNat) H):jD (jF X.prog X.w) X.A (WG (.ref s.heap.objs.size)) (PIE X pc σ tg R) E { s with heap:=s.heap.push { cls:=.type "range",data:=.fields #[.int lo t,.int hi u,.int 1 v] },toks:=tk }:=by
 refine NJ (WI ..) (small_one h1 h2 h3 h4) ?_;have I1:Inv X pc σ H { s with heap:=s.heap.push { cls:=.type "range",data:=.fields #[.int lo t,.int hi u,.int 1 v] },toks:=tk }:=I.kept fun b o e=>j6 _ e
 refine⟨(s.heap.push { cls:=.type "range",data:=.fields #[.int lo t,.int hi u,.int 1 v] }).objs.size,[(s.heap.push { cls:=.type "range",data:=.fields #[.int lo t,.int hi u,.int 1 v] }).objs.size],_,_,H,rfl,
  I1.kept (t':=tk) fun b o e=>j6 _ e,zhJ _ lo (hi - lo).toNat,?_,fun b hb=>?_,q⟩
 ·have e1:lo+((0:Nat):Int)*1=lo:=by simp
  have e2:(((hi - lo).toNat:Nat):Int) - ((0:Nat):Int)=jE lo hi 1:=by rw[rangeSize_one]; split<;>lia
  show WH _ _ (lo+((0:Nat):Int)*1) ((((hi - lo).toNat:Nat):Int) - ((0:Nat):Int)) 1;rw[e1,e2];exact jn _ rfl
 ·have e:b=(s.heap.push { cls:=.type "range",data:=.fields #[.int lo t,.int hi u,.int 1 v] }).objs.size:=by simpa using hb
  subst e;exact I1.fpOk (jg _) (I1.hok.fresh (jg _))
def zqf(ta:TA):TI:=fun σ H R=>ta σ H fun vs H1=>∃ j:Int,vs=[.int j]/\-(2 ^ 62)<=j/\j < 2 ^ 62/\R (Itr 0 j.toNat) H1
def zqe(ta:TA):TI:=fun σ H R=>ta σ H fun vs H1=>∃ i j:Int,vs=[.int i,.int j]/\(-(2 ^ 62)<=i/\i < 2 ^ 62/\-(2 ^ 62)<=j/\j < 2 ^ 62)/\R (Itr i (j - i).toNat) H1
theorem ziK{a:Q0}{ta:TA}{p pos:Pos}(hg:Gl X "range")(hm:X.mg "range"=none)(ha:PA X [a] ta)(hs:jj [a] X.env=[(false,eval a X.env)]:=by rfl):PI X tg (.Call (.Name "range" p) [a] [] pos) (zqf ta):=by
 intro pc s σ H R I h;refine Call_ (zcG I hg hm W3 (jY (thn (ha pos pc s σ H _ I h) fun us s1 ⟨vs,H1,I1,r1,q1⟩=>?_) hs rfl));obtain⟨j,e,q1,q2,q⟩:=q1;subst e;cases r1 with
 |cons r rr=>
  cases rr;obtain⟨t,rfl⟩:=r;exact call_range_1 (zh2 I1 (by lia) (by lia) q1 q2 (by simpa using q))
theorem ziJ{a b:Q0}{ta:TA}{p pos:Pos}(hg:Gl X "range")(hm:X.mg "range"=none)(ha:PA X [a,b] ta)(hs:jj [a,b] X.env=[(false,eval a X.env),(false,eval b X.env)]:=by rfl)(hs2:jj [b] X.env=[(false,eval b X.env)]:=by rfl) :
  PI X tg (.Call (.Name "range" p) [a,b] [] pos) (zqe ta):=by
 intro pc s σ H R I h;refine Call_ (zcG I hg hm W3 (jY (thn (ha pos pc s σ H _ I h) fun us s1 ⟨vs,H1,I1,r1,q1⟩=>?_) (by rw[hs,hs2]) (by rw[hs2]; rfl)))
 obtain⟨i,j,e,⟨q1,q2,q3,q4⟩,q⟩:=q1;subst e;cases r1 with
 |cons r rr=>
  cases rr with
  |cons r' rr=>
   cases rr;obtain⟨t,rfl⟩:=r;obtain⟨t',rfl⟩:=r';exact call_range_2 (zh2 I1 q1 q2 q3 q4 q)
def zoL(wi:TI)(g:TG)(tb:TS):TS:=fun D σ H=>wi σ H fun J H1=>∃ W:Nat->Nat->St->Hp->Prop,(∃ m,W 0 m σ H1)/\∀ i m σ H,W i m σ H->
 (J.stop i H/\D.nx σ H)∨(J.go i H/\∃ N:St->Hp->Prop,(∀ σ' H',N σ' H'->∃ m',m' < m/\W (i+1) m' σ' H')/\∀ x H',J.yld i H x H'->g x σ H' fun σ2 H2=>tb { D with nx:=N,ct:=N,bk:=D.nx } σ2 H2)
def zfA(fp:List jo)(h:Zq):List (jo × Obj):=fp.filterMap fun b=>(h.get? b).map fun o=>(b,o)
theorem zbE{fp:List jo}{h:Zq}{b:jo}{o:Obj}(hb:b∈fp)(e:h.get? b=some o):(b,o)∈zfA fp h:=NK.mpr ⟨b,hb,by rw[e]; rfl⟩
theorem ziY{fp:List jo}{h:Zq}{p:jo × Obj}(hp:p∈zfA fp h):p.1∈fp/\h.get? p.1=some p.2:=by
 obtain⟨b,hb,e⟩:=NK.mp hp;cases q:h.get? b with
 |none=>rw[q] at e; cases e
 |some o=>
  rw[q] at e;have e':(b,o)=p:=je e;subst e';exact⟨hb,q⟩
theorem Inv.pinned{pc:List (jo × Obj)}{σ:St}{H:Hp}{s:j8}{fp:List jo}(I:Inv X pc σ H s)(hf:∀ b∈fp,zia X pc H b)(ho:∀ b∈fp,∃ o,s.heap.get? b=some o/\∀ v,o.data≠.cell v):Inv X (pc++zfA fp s.heap) σ H s:=
 I.pins_of fun p hp=>(jV.mp hp).elim (fun z=>I.pin p (jJ _ z)) fun z=>by
  obtain⟨hb,e⟩:=ziY z;obtain⟨f0,f1,f2,_⟩:=hf p.1 hb;obtain⟨o,e',d⟩:=ho p.1 hb;rw[e] at e'; cases e';exact⟨e,f0,f1,f2,d⟩
theorem Inv.unpinned{pc pl:List (jo × Obj)}{σ:St}{H:Hp}{s:j8}(I:Inv X (pc++pl) σ H s):Inv X pc σ H s:=I.pins_of fun p hp=>I.pin p (jJ _ (QD _ hp))
theorem znL{iter:Q0}{body:List ZU}{wi:TI}{g:TG}{tb:TS}{pos:Pos}(hp:WF (jF X.prog X.w) X.A X.env X.xe)(hc:X.calm=true)(hi:PI X tg iter wi)(hg:PG X tg g)(hb:PSs X body tb)
  (hs:∀ x,Zk iter X.env x=pure x:=by intro _; rfl):PS X (.For tg iter body [] pos) (zoL wi g tb):=by
 intro pc s σ H D I h;refine wpAny_For (thn (hi pc s σ H _ I h) fun v s1 h1=>thn h1 fun itv s2 h2=>?_) hs;obtain⟨it,fp,tn,J,H2,e,I2,T,st2,f2,W,⟨m0,w0⟩,turn⟩:=h2;subst e
 -- what stays true of the iterator's objects through the loop
 have stat:∀ {H':Hp},(∀ b∈fp,H' b=none)->∀ b∈fp,zia X pc H' b:=fun hn b hb=>⟨hn b hb,(f2 b hb).2⟩;refine codeAny_forLoop_any (fun n s'=>∃ i σ' H',Inv X pc σ' H' s'/\tn i s'.heap/\(∀ b∈fp,H' b=none)/\W i n σ' H') ?_ m0 ⟨0,σ,H2,I2,st2,fun b hb=>(f2 b hb).1,w0⟩;rintro n s3 ⟨i,σ3,H3,I3,st3,fr3,w3⟩;rcases turn i n σ3 H3 w3 with ⟨stop,qn⟩ |⟨go,N,hN,step⟩
 ·refine Zj hp (thn (T.done X rfl rfl rfl hc i pc s3 σ3 H3 X.xe I3 (stat fr3) st3 stop) fun r s4 h_=>?_); obtain⟨hr,I4⟩:=h_;subst hr;exact gY ⟨σ3,H3,I4,qn⟩
 ·refine Zj hp (thn (T.item X rfl rfl rfl hc i pc s3 σ3 H3 X.xe I3 (stat fr3) st3 go) fun r s4 h_=>?_); obtain⟨u,hr,h4⟩:=h_;subst hr;refine Zj hp (thn h4 fun _ s5 h_=>?_); obtain⟨x,H5,I5,r5,y5,st5,fr5⟩:=h_;have I5':=I5.pinned (stat fr5) (T.obj _ _ st5);refine Zj hp (thn (hg _ s5 σ3 H5 x u _ I5' r5 (step x H5 y5)) fun _ s6 h_=>?_); obtain⟨σ6,H6,I6,q6⟩:=h_;refine Zj hp (thn (hb _ s6 σ6 H6 _ I6 q6) fun f s7 q7=>?_);have Jl:∀ {σ7:St} {H7:Hp},Inv X (pc++zfA fp s5.heap) σ7 H7 s7->N σ7 H7->∃ m,m < n/\∃ i σ' H',Inv X pc σ' H' s7/\tn i s7.heap/\(∀ b∈fp,H' b=none)/\W i m σ' H':=fun {σ7 H7} I7 n7=>by
   obtain⟨m',hm,w7⟩:=hN σ7 H7 n7;refine⟨m',hm,i+1,σ7,H7,I7.unpinned,T.keep _ _ _ st5 fun b hb o e=>(I7.pin (b,o) (jJ _ (jJ _ (zbE hb e)))).1,fun b hb=>?_,w7⟩;obtain⟨o,e,d⟩:=T.obj _ _ st5 b hb;exact(I7.pin (b,o) (jJ _ (jJ _ (zbE hb e)))).2.1
  cases f with
  |next=>obtain⟨σ7,H7,I7,n7⟩:=q7; exact Jl I7 n7
  |cont=>obtain⟨σ7,H7,I7,n7⟩:=q7; exact Jl I7 n7
  |brk=>obtain⟨σ7,H7,I7,q7⟩:=q7; exact⟨σ7,H7,I7.unpinned,q7⟩
  |ret v=>obtain⟨x7,σ7,H7,I7,r7,q7⟩:=q7; exact⟨x7,σ7,H7,I7.unpinned,r7,q7⟩
end
abbrev R2:=V->V->Hp->VK->Prop
def OpR(X:Cx)(f:j7->j7->Sem j7)(r:R2):Prop:=
 ∀(pc:List (jo × Obj)) (s:j8) (σ:St) (H:Hp) (x y:V) (v u:j7) (Q:VK),Inv X pc σ H s->RelV x v->RelV y u->r x y H Q->
  jD (jF X.prog X.w) X.A (f v u) (EP X pc σ Q) X.xe s
def CallR(X:Cx)(f:j7)(r:List V->Hp->VK->Prop):Prop:=
 ∀(pc:List (jo × Obj)) (s:j8) (σ:St) (H:Hp) (xs:List V) (us:List j7) (Q:VK),Inv X pc σ H s->Vals xs us->r xs H Q->
  jD (jF X.prog X.w) X.A (call f us) (EP X pc σ Q) X.xe s
def zrP(X:Cx)(r:V->Hp->(Bool->Hp->Prop)->Prop):Prop:=
 ∀(pc:List (jo × Obj)) (s:j8) (σ:St) (H:Hp) (x:V) (v:j7) (Q:Bool->Hp->Prop),Inv X pc σ H s->RelV x v->r x H Q->
  jD (jF X.prog X.w) X.A (truthy v) (TP X pc σ Q) X.xe s
def tOp(r:R2)(ta tb:TE):TE:=fun σ H Q=>ta σ H fun x H1=>tb σ H1 fun y H2=>r x y H2 Q
def rI(C:Int->Int->Prop)(g:Int->Int->V):R2:=fun x y H Q=>∃ i j,x=.int i/\y=.int j/\C i j/\Q (g i j) H
def rI0(g:Int->Int->V):R2:=fun x y H Q=>∃ i j,x=.int i/\y=.int j/\Q (g i j) H
section
variable {a c:Q0}{tc:TE}
theorem zqx(ha:PE X a ta)(hb:PE X b tb){pc:List (jo × Obj)}{s:j8}{σ:St}{H:Hp}{R:V->V->Hp->Prop}(I:Inv X pc σ H s)
  (h:ta σ H fun x H1=>tb σ H1 fun y H2=>R x y H2) {Q:j7->j8->Prop} {f:j7->j7->Sem j7}
  (hf:∀ v u s2 x y H2,Inv X pc σ H2 s2->RelV x v->RelV y u->R x y H2->jD (jF X.prog X.w) X.A (f v u) Q X.xe s2) :
  jD (jF X.prog X.w) X.A (eval a X.env) (fun v s₁=>jD (jF X.prog X.w) X.A (eval b X.env) (fun u s₂=>jD (jF X.prog X.w) X.A (f v u) Q X.xe s₂) X.xe s₁) X.xe s:=by
 refine thn (ha pc s σ H _ I h) fun v s1 h_=>?_; obtain⟨x,H1,I1,r1,q1⟩:=h_;refine thn (hb pc s1 σ H1 _ I1 q1) fun u s2 h_=>?_; obtain⟨y,H2,I2,r2,q2⟩:=h_;exact hf v u s2 x y H2 I2 r1 r2 q2
theorem zdS{op:J9}{r:R2}(ho:OpR X (gf op) r)(ha:PE X a ta)(hb:PE X b tb):PE X (.BinOp a op b pos) (tOp r ta tb):=by
 intro pc s σ H Q I h;exact wpAny_BinOp (zqx ha hb I h fun v u s2 x y H2 I2 rx ry q=>ho pc s2 σ H2 x y v u Q I2 rx ry q)
theorem opI{f:j7->j7->Sem j7}{C:Int->Int->Prop}{g:Int->Int->Int}
  (rule:∀(i j:Int) (t u:Tok) (s:j8) (Q:j7->j8->Prop) (E:j7->j8->Prop),C i j->Q (.int (g i j) s.toks) { s with toks:=s.toks+1 }->jD (jF X.prog X.w) X.A (f (.int i t) (.int j u)) Q E s) :
  OpR X f (rI C fun i j=>.int (g i j)):=by
 intro pc s σ H x y v u Q I rx ry h;obtain⟨i,j,rfl,rfl,hc,q⟩:=h;obtain⟨t,rfl⟩:=rx;obtain⟨t',rfl⟩:=ry;exact rule i j t t' s _ _ hc ⟨.int (g i j),H,I.tok _,⟨_,rfl⟩,q⟩
theorem zoQ{f:j7->j7->Sem j7}{g:Int->Int->Int}
  (rule:∀(i j:Int) (t u:Tok) (s:j8) (Q:j7->j8->Prop) (E:j7->j8->Prop),Q (.int (g i j) s.toks) { s with toks:=s.toks+1 }->jD (jF X.prog X.w) X.A (f (.int i t) (.int j u)) Q E s) :
  OpR X f (rI0 fun i j=>.int (g i j)):=by
 intro pc s σ H x y v u Q I rx ry h;obtain⟨i,j,rfl,rfl,q⟩:=h;obtain⟨t,rfl⟩:=rx;obtain⟨t',rfl⟩:=ry;exact rule i j t t' s _ _ ⟨.int (g i j),H,I.tok _,⟨_,rfl⟩,q⟩
theorem zqO{f:j7->j7->Sem j7}{g:Int->Int->Bool}
  (rule:∀(i j:Int) (t u:Tok) (s:j8) (Q:j7->j8->Prop) (E:j7->j8->Prop),Q (.bool (g i j)) s->jD (jF X.prog X.w) X.A (f (.int i t) (.int j u)) Q E s) :
  OpR X f (rI0 fun i j=>.bl (g i j)):=by
 intro pc s σ H x y v u Q I rx ry h;obtain⟨i,j,rfl,rfl,q⟩:=h;obtain⟨t,rfl⟩:=rx;obtain⟨t',rfl⟩:=ry;exact rule i j t t' s _ _ ⟨.bl (g i j),H,I,rfl,q⟩
def zrS(i j:Int):Prop:=0 < j/\j < 1073741824
def zrR(i j:Int):Prop:=0<=j/\j<=1000000/\i.natAbs < 2 ^ 64
def CMul(i j:Int):Prop:=(-(2 ^ 64) < i/\i < 2 ^ 64)∨(-(2 ^ 64) < j/\j < 2 ^ 64)
theorem CMul.ok{i j:Int}(h:CMul i j):IntMulOk i j:=by
 rcases h with ⟨h1,h2⟩ |⟨h1,h2⟩
 ·exact .of_left (intBits_le_64 h1 h2)
 ·exact .of_right (intBits_le_64 h1 h2)
theorem zhH(k:Nat):(0:Int)<=2 ^ k:=by
 rw[two_pow_cast];exact Yd _
theorem op_add:OpR X (gf .Add) (rI0 fun i j=>.int (i+j)):=zoQ fun _ _ _ _ _ _ _ q=>add_int q
theorem znY:OpR X (gf .Sub) (rI0 fun i j=>.int (i - j)):=zoQ fun _ _ _ _ _ _ _ q=>sub_int q
theorem zo1:OpR X (gf .Mult) (rI CMul fun i j=>.int (i*j)):=opI fun _ _ _ _ _ _ _ hc q=>mul_int q hc.ok
theorem zm9:OpR X (gf .FloorDiv) (rI zrS fun i j=>.int (i / j)):=opI fun i j _ _ _ _ _ hc q=>by
 have h1:(0:Int) < j:=hc.1;have h2:j < 1073741824:=hc.2;exact floordiv_int (by lia) (by rw[Y8 i (by lia)]; exact q) (.inl (PyProof.noPylong_small (by lia)))
theorem zo2:OpR X (gf .Mod) (rI (fun _ j=>0 < j) fun i j=>.int (i%j)):=opI fun i j _ _ _ _ _ hc q=>by
 have h1:(0:Int) < j:=hc;exact mod_int' (by lia) (by rw[Int.fmod_eq_emod_of_nonneg i (by lia)]; exact q)
theorem zo0:OpR X (gf .LShift) (rI zrR fun i j=>.int (i*2 ^ j.toNat)):=opI fun _ _ _ _ _ _ _ hc q=>lshift_int_small hc.1 hc.2.1 hc.2.2 q
theorem znZ:OpR X (gf .RShift) (rI (fun _ j=>0<=j) fun i j=>.int (i / 2 ^ j.toNat)):=opI fun i j _ _ _ _ _ hc q=>
 rshift_int hc (by rw[Y8 i (zhH _)]; exact q)
theorem zo4:OpR X (gf .BitAnd) (rI0 fun i j=>.int (ZW i j)):=zoQ fun _ _ _ _ _ _ _ q=>and_int q
theorem zq4:OpR X (gf .BitOr) (rI0 fun i j=>.int (gg i j)):=zoQ fun _ _ _ _ _ _ _ q=>or_int q
end
section
variable {a c:Q0}{tc:TE}
theorem zor{pc:List (jo × Obj)}{σ:St}{H:Hp}{s:j8}{Q:VK}{k k':Bool}(I:Inv X pc σ H s)(q:Q (.bl k) H)(e:k=k'):EP X pc σ Q (.bool k') s:=by
 subst e;exact⟨.bl k,H,I,rfl,q⟩
theorem op_lt:OpR X (ZV .Lt) (rI0 fun i j=>.bl (decide (i < j))):=zqO fun _ _ _ _ _ _ _ q=>lt_int q
theorem zq5:OpR X (ZV .Gt) (rI0 fun i j=>.bl (decide (j < i))):=zqO fun _ _ _ _ _ _ _ q=>gt_int q
theorem ziQ:OpR X (ZV .Lt) (fun x y H Q=>∃ i j,x=.str i/\y=.str j/\Q (.bl (decide (i.cps.toList < j.cps.toList))) H):=by
 intro pc s σ H x y v u Q I rx ry h;obtain⟨i,j,rfl,rfl,q⟩:=h;obtain⟨t,rfl⟩:=rx;obtain⟨t',rfl⟩:=ry;exact lt_str (zor I q rfl)
theorem OpR.or{f:j7->j7->Sem j7}{r r':R2}(h:OpR X f r)(h':OpR X f r'):OpR X f (fun x y H Q=>r x y H Q∨r' x y H Q):=by
 intro pc s σ H x y v u Q I rx ry q;rcases q with q |q
 ·exact h pc s σ H x y v u Q I rx ry q
 ·exact h' pc s σ H x y v u Q I rx ry q
theorem zeb(b:Q0){op:CmpOp}(h:op≠.In:=by decide)(h2:op≠.NotIn:=by decide):Zv op b=false:=by
 have e1:(op == CmpOp.In)=false:=by cases op<;>first |rfl |exact absurd rfl h
 have e2:(op == CmpOp.NotIn)=false:=by cases op<;>first |rfl |exact absurd rfl h2
 cases b<;>simp[Zv,e1,e2]
theorem zm7{op:CmpOp}{r:R2}(ho:OpR X (ZV op) r)(ha:PE X a ta)(hb:PE X b tb)(hm:Zv op b=false):PE X (.Compare a [op] [b] pos) (tOp r ta tb):=by
 intro pc s σ H Q I h;exact wpAny_Compare1 (zqx ha hb I h fun v u s2 x y H2 I2 rx ry q=>ho pc s2 σ H2 x y v u Q I2 rx ry q) hm
def zni(t:TE):TT:=fun σ H Q=>t σ H fun x H'=>∃ k,x=.bl k/\Q k H'
theorem zcr{op:CmpOp}{r:R2}(ho:OpR X (ZV op) r)(ha:PE X a ta)(hb:PE X b tb)(hm:Zv op b=false):PT X (.Compare a [op] [b] pos) (zni (tOp r ta tb)):=by
 intro pc s σ H Q I h
 refine N3 (thn (ha pc s σ H _ I h) fun v s1 ⟨x,H1,I1,r1,q1⟩=>thn (hb pc s1 σ H1 _ I1 q1) fun u s2 ⟨y,H2,I2,r2,q2⟩=>
  thn (ho pc s2 σ H2 x y v u _ I2 r1 r2 q2) fun c s3 ⟨z,H3,I3,r3,k,e,q3⟩=>?_) hm
 subst e;cases r3;exact ZQ ⟨H3,I3,q3⟩
def zqA(K:jd)(x:V)(H:Hp)(k:Bool):Prop:=
 match x with
 |.non=>k=false
 |.bl b=>k=b
 |.int i=>k=(i != 0)
 |.str y=>y.length<=jq/\k=((y.length:Int) != 0)
 |.byt y=>y.size<=jq/\k=((y.size:Int) != 0)
 |.ref p=>(∃ xs,SqL K H p xs/\k=!xs.isEmpty)∨(∃ xs,SqT K H p xs/\k=!xs.isEmpty)∨∃ kvs,H p=some (.dK kvs)/\k=!kvs.isEmpty
 |_=>False
theorem zhY{κ:Type}{kvs:List (κ × V)}{vs:List (κ × j7)}(r:KV kvs vs):(!vs.isEmpty)=!kvs.isEmpty:=by
 cases r<;>rfl
theorem zee{xs:List V}{its:List j7}(r:Vals xs its):(!its.toArray.isEmpty)=!xs.isEmpty:=by
 cases r<;>simp
theorem zdp:(jq:Nat) < 2 ^ 63:=by rw[Qr]; decide
theorem zng:zrP X (fun x H Q=>∃ k,zqA X.K x H k/\Q k H):=by
 intro pc s σ H x v Q I rx h;obtain⟨k,e,q⟩:=h;have hl:=zdp;have hs:jq=16777216:=Qr;cases x with
 |non=>
  cases rx;have e':k=false:=e;subst e';exact truthy_none ⟨H,I,q⟩
 |bl b=>
  cases rx;have e':k=b:=e;subst e';exact ZQ ⟨H,I,q⟩
 |int i=>
  obtain⟨t,rfl⟩:=rx;have e':k=(i != 0):=e;subst e';exact PySem.P.truthy_int ⟨H,I,q⟩
 |str y=>
  obtain⟨t,rfl⟩:=rx;obtain⟨hy,e'⟩:y.length<=jq/\k=((y.length:Int) != 0):=e;subst e';exact PySem.P.truthy_str (by lia) ⟨H,I.tok _,q⟩
 |byt y=>
  obtain⟨t,rfl⟩:=rx;obtain⟨hy,e'⟩:y.size<=jq/\k=((y.size:Int) != 0):=e;subst e';exact PySem.W.truthy_bytes (by lia) ⟨H,I.tok _,q⟩
 |ref p=>
  cases rx;have e':(∃ xs,SqL X.K H p xs/\k=!xs.isEmpty)∨(∃ xs,SqT X.K H p xs/\k=!xs.isEmpty)∨∃ kvs,H p=some (.dK kvs)/\k=!kvs.isEmpty:=e;rcases e' with ⟨xs,hx,e'⟩ |⟨xs,hx,e'⟩ |⟨kvs,hx,e'⟩
  ·subst e';obtain⟨its,r,pl,hz⟩:=I.list hx;have hlen:=r.length;exact wpAny_truthy_list pl.isList (by simp only[ji]; lia) ⟨H,I.tok _,by rw[zee r]; exact q⟩
  ·subst e';obtain⟨its,r,pl,hz⟩:=I.tuple hx;have hlen:=r.length;exact truthy_tuple pl (by simp only[ji]; lia) ⟨H,I.tok _,by rw[zee r]; exact q⟩
  ·subst e';obtain⟨hz,hS,vs,r,m⟩:kvs.length<=jq/\(p == Ys)=false/\∃ vs,KV kvs vs/\s.heap.DictOf (zaN X.prog X.w) p vs:=I.hok p _ hx;have hlen:kvs.length=vs.length:=NH r;exact wpAny_truthy_dict hS m (by lia) ⟨H,I.tok _,by rw[zhY r]; exact q⟩
 |_=>exact(show False from e).elim
theorem zki(ha:PE X a ta)(he:∀ whole,isTrue a X.env whole=(do let v <-whole; standAt a.pos; YA [v] (truthy v))) :
  PT X a (fun σ H Q=>ta σ H fun x H'=>∃ k,zqA X.K x H' k/\Q k H'):=by
 intro pc s σ H Q I h;exact isTrue_plain (thn (ha pc s σ H _ I h) fun v s1 ⟨x,H1,I1,r1,q1⟩=>zng pc s1 σ H1 x v Q I1 r1 q1) (he _)
theorem zhO:OpR X (gf .Add) (fun x y H Q=>∃ i j,x=.str i/\y=.str j/\i.length+j.length<=jq/\Q (.str (i++j)) H):=by
 intro pc s σ H x y v u Q I rx ry h;obtain⟨i,j,rfl,rfl,hz,q⟩:=h;obtain⟨t,rfl⟩:=rx;obtain⟨t',rfl⟩:=ry;exact add_str (fun t' tk=>⟨.str (i++j),H,I.tok _,⟨_,rfl⟩,q⟩) hz
theorem zic{x:V}{us:List j7}(r:Vals [x] us):∃ u,us=[u]/\RelV x u:=by
 cases r with
 |cons r1 r2=>cases r2; exact⟨_,rfl,r1⟩
theorem zpm{x y:V}{us:List j7}(r:Vals [x,y] us):∃ u w',us=[u,w']/\RelV x u/\RelV y w':=by
 cases r with
 |cons r1 r2=>
  cases r2 with
  |cons r3 r4=>cases r4; exact⟨_,_,rfl,r1,r3⟩
theorem zjH(hc:X.calm=true):CallR X (.builtin "min") (fun xs H Q=>∃ i j,xs=[.int i,.int j]/\Q (.int (if j < i then j else i)) H):=by
 intro pc s σ H xs us Q I r h;obtain⟨i,j,rfl,q⟩:=h;obtain⟨u,w',rfl,⟨t,rfl⟩,⟨t',rfl⟩⟩:=zpm r;refine min_two_ints (I.ok.hd hc) fun h' tk k=>⟨_,H,I.kept k,?_,q⟩
 by_cases hj:j < i
 ·rw[Ip_ hj,Ip_ hj]; exact⟨_,rfl⟩
 ·rw[In_ hj,In_ hj]; exact⟨_,rfl⟩
end
theorem RelO.some_of{v:V}{o:Option j7}(r:RelO (some v) o):∃ u,o=some u/\RelV v u:=by
 cases o with
 |none=>exact(show False from r).elim
 |some u=>exact⟨u,rfl,r⟩
structure Room (k:Nat) (A:Q1):Prop where
 hd:A.handled=none
 dp:A.depth+3*k+5 < recursionLimit
 un:A.units+16*k+200 < gO
theorem Room.mono{j k:Nat}{A:Q1}(r:Room k A)(h:j<=k):Room j A:=⟨r.hd,by have:=r.dp; lia,by have:=r.un; lia⟩
theorem Room.deeper{k:Nat}{A:Q1}(r:Room (k+1) A)(env:Env):Room k (A.deeper env):=
 ⟨r.hd,by have:=r.dp; show A.depth+1+3*k+5 < _; lia,by have:=r.un; show A.units+3+16*k+200 < _; lia⟩
theorem Room.depth{k:Nat}{A:Q1}(r:Room k A):A.depth < recursionLimit:=by have:=r.dp; lia
theorem Room.units{k:Nat}{A:Q1}(r:Room k A):A.units+64 < gO:=by have:=r.un; lia
def zlt:TA:=fun _ H Q=>Q [] H
def zfi(ta:TE)(tr:TA):TA:=fun σ H Q=>ta σ H fun x H1=>tr σ H1 fun xs H2=>Q (x::xs) H2
section
variable {te:TE}
theorem zbO:PA X [] zlt:=fun _ _ _ _ H Q I h=>W4 ⟨[],H,I,.nil,h⟩
theorem zb0(ha:PE X e te)(hr:PA X es t)(hs:jj (e::es) X.env=(false,eval e X.env)::jj es X.env:=by rfl):PA X (e::es) (zfi te t):=by
 intro pos pc s σ H Q I h;rw[hs];show jD _ _ (spliced ((false,eval e X.env)::Zr pos (jj es X.env))) _ _ s;refine NL (thn (ha pc s σ H _ I h) fun u s1 h_=>?_); obtain⟨x,H1,I1,r1,q1⟩:=h_;exact thn (hr pos pc s1 σ H1 _ I1 q1) fun us s2 ⟨xs,H2,I2,r2,q2⟩=>⟨x::xs,H2,I2,.cons r1 r2,q2⟩
def zrr(t:TA):TE:=fun σ H Q=>t σ H fun xs H1=>xs.length<=jq/\∀ p,H1 p=none->Q (.ref p) (upd H1 p (.tup xs))
def zrw(t:TA):TE:=fun σ H Q=>t σ H fun xs H1=>xs.length<=jq/\∀ p,H1 p=none->Q (.ref p) (upd H1 p (.lst xs))
theorem znS{x1}(h:PA X es t):PE X (.Tuple es x1 pos) (zrr t):=by
 intro pc s σ H Q I hq;refine wpAny_Tuple_spliced (thn (h pos pc s σ H _ I hq) fun us s1 ⟨xs,H1,I1,r,z,q⟩=>⟨by rw[<-r.length]; exact z,?_⟩)
 have hf:H1 s1.heap.objs.size=none:=I1.hok.fresh (jg _);refine⟨.ref s1.heap.objs.size,upd H1 s1.heap.objs.size (.tup xs),I1.laid (t':=s1.toks) (fun b u e=>j6 _ e) (jg _) ?_,rfl,q _ hf⟩;exact⟨z,us,r,⟨_,jn _ rfl,rfl,_,rfl⟩⟩
theorem znV(h:PA X es t):PE X (.List es pos) (zrw t):=by
 intro pc s σ H Q I hq;refine wpAny_List_spliced (thn (h pos pc s σ H _ I hq) fun us s1 ⟨xs,H1,I1,r,z,q⟩=>⟨by rw[<-r.length]; exact z,?_⟩)
 have hf:H1 s1.heap.objs.size=none:=I1.hok.fresh (jg _);refine⟨.ref s1.heap.objs.size,upd H1 s1.heap.objs.size (.lst xs),I1.laid (t':=s1.toks) (fun b u e=>j6 _ e) (jg _) ?_,rfl,q _ hf⟩;exact⟨z,us,0,r,jn _ rfl⟩
end
abbrev Sp:=List V->Hp->VK->XK->Prop
abbrev CXT:=List Env->Hp->j8->XK->j7->j8->Prop
structure Env0 (P:jG) (w:Q7) (K:jd) (mg:Str->Option j7) (base:Zq) (A:Q1) (outer:List Env) (s:j8) (H:Hp):Prop where
 frames:A.frames=some outer
 mod:Mod K mg base
 bs:∀ b o,base.get? b=some o->s.heap.get? b=some o/\H b=none
 bsz:base.objs.size<=s.heap.objs.size
 funs:s.heap.FunFrames base outer
 frf:∀ b∈frs outer,H b=none
 hok:HOk P w H s.heap
 bare:N2 s.gens
def CE(outer:List Env)(P:jG)(w:Q7)(H:Hp)(s:j8)(Q:VK)(u:j7)(s':j8):Prop:=
 ∃ v H',s'.os=s.os/\N2 s'.gens/\Un (frs outer) [] H H' s.heap s'.heap/\HOk P w H' s'.heap/\RelV v u/\Q v H'
def CR(CX:CXT)(outer:List Env)(P:jG)(w:Q7)(H:Hp)(s:j8)(Q:VK)(E:XK)(r:Result)(s':j8):Prop:=
 match r with
 |.ok (.ret u)=>CE outer P w H s Q u s'
 |.ok _=>False
 |.error e=>CX outer H s E e s'
structure FnOk (P:jG) (w:Q7) (K:jd) (mg:Str->Option j7) (base:Zq) (CX:CXT) (k:Nat) (f:jo) (fd:Zh) (ps:List Str) (sp:Sp):Prop where
 len:∀ vs H Q E,sp vs H Q E->vs.length=ps.length
 run:∀(A:Q1) (outer:List Env) (s:j8) (H:Hp) (args:Args) (us:List j7) (vs:List V) (Q:VK) (E:XK),Room k A->Env0 P w K mg base A outer s H->W5 s fd args (ps.zip us)->Vals vs us->sp vs H Q E->
  YC (jF P w) A (.call (.ref f) args) (CR CX outer P w H s Q E) s
theorem FnOk.mono{P:jG}{w:Q7}{K:jd}{mg:Str->Option j7}{base:Zq}{CX:CXT}{j k:Nat}{f:jo}{fd:Zh}{ps:List Str}{sp:Sp}(F:FnOk P w K mg base CX j f fd ps sp)(h:j<=k) :
  FnOk P w K mg base CX k f fd ps sp:=⟨F.len,fun A outer s H args us vs Q E hr=>F.run A outer s H args us vs Q E (hr.mono h)⟩
section
variable {s':j8}
theorem Inv.env0(I:Inv X pc σ H s):Env0 X.prog X.w X.K X.mg X.base X.A X.stack s H:=
 ⟨I.ok.frames,I.ok.mod,I.bs,Qt I.ok.bsz I.sz,I.stack,I.stkFree,I.hok,I.bare⟩
theorem Inv.after{Q:VK}{u:j7}(I:Inv X pc σ H s)(h:CE X.stack X.prog X.w H s Q u s'):EP X pc σ Q u s':=by
 obtain⟨v,H',os,bare,un,hok,r,q⟩:=h;obtain⟨hh,g,d,t,os'⟩:=s';obtain rfl:os'=s.os:=os;exact⟨v,H',I.call (h':=hh) (g':=g) (d':=d) (t':=t) (ch:=[]) un hok bare (fun b z=>absurd z (by simp)),r,q⟩
end
def zjW(sp:Sp)(dvs:List V)(E:XK)(t:TA):TE:=fun σ H Q=>t σ H fun vs H1=>sp (vs++dvs) H1 Q E
def Binds(K:jd)(fd:Zh)(ps:List Str)(ds:List j7):Prop:=
 ∀(s:j8) (us:List j7),K.In s.heap->(us++ds).length=ps.length->W5 s fd ⟨us,[]⟩ (ps.zip (us++ds))
theorem Binds.all{K:jd}{fd:Zh}{ps:List Str}(h:∀ us:List j7,us.length=ps.length->YD fd ⟨us,[]⟩=pure (ps.zip us)):Binds K fd ps []:=fun s us _ hl=>by
 rw[QM] at hl ⊢;exact .of_eq (h us hl)
def zjL(CX:CXT)(X:Cx)(E:XK):Prop:=∀(pc:List (jo × Obj)) (σ:St) (H:Hp) (s:j8) (e:j7) (s':j8),Inv X pc σ H s->CX X.stack H s E e s'->X.xe e s'
section
variable {CX:CXT}{k:Nat}{f C:jo}{fd:Zh}{ps:List Str}{sp:Sp}{dvs:List V}{ds:List j7}{E:XK}{x m:Str}{p apos:Pos}{o:Q0}
theorem zns{pc:List (jo × Obj)}{σ:St}{H:Hp}{s:j8}{Q:VK}{us:List j7}{vs:List V}(F:FnOk X.prog X.w X.K X.mg X.base CX k f fd ps sp)(hr:Room k X.A)(hb:Binds X.K fd ps ds)(hd:Vals dvs ds)(hx:zjL CX X E)
  (I:Inv X pc σ H s) (r:Vals vs us) (h:sp (vs++dvs) H Q E):jD (jF X.prog X.w) X.A (call (.ref f) us) (EP X pc σ Q) X.xe s:=by
 have r2:Vals (vs++dvs) (us++ds):=r.append hd;have hl:(us++ds).length=ps.length:=by rw[<-r2.length]; exact F.len _ _ _ _ h
 refine J3 (gb (F.run X.A X.stack s H ⟨us,[]⟩ (us++ds) (vs++dvs) Q E hr I.env0 (hb s us I.kIn hl) r2 h) fun r s' hq=>?_);cases r with
 |error e=>exact hx pc σ H s e s' I hq
 |ok fl=>
  cases fl with
  |ret u=>exact I.after hq
  |next=>exact ZR hq
  |brk=>exact ZR hq
  |cont=>exact ZR hq
theorem zgr(F:FnOk X.prog X.w X.K X.mg X.base CX k f fd ps sp)(hr:Room k X.A)(hg:Gl X x)(hm:X.mg x=some (.ref f))(hk:Qx X.K (.ref f)=true)(hb:Binds X.K fd ps ds)(hd:Vals dvs ds)(hx:zjL CX X E)
  (ha:PA X (e::es) t) (hdb:(x == ("__debug__":Str))=false:=by decide) (he:jj (e::es) X.env=(false,eval e X.env)::jj es X.env:=by rfl) (hpl:(Zr pos (jj es X.env)).any (·.1)=false:=by rfl) :
  PE X (.Call (.Name x p) (e::es) [] pos) (zjW sp dvs E t):=by
 intro pc s σ H Q I h;refine Ye (zmg I hg hm ?_ hdb);refine PySem.W.callWith_K (h₀:=X.base) I.ok.mod.kin hk (thn (ha pos pc s σ H _ I h) fun us s1 ⟨vs,H1,I1,r,q⟩=>⟨I1.kIn,?_⟩) he hpl;exact zns F hr hb hd hx I1 r q
end
structure FnScope (N P:List Str) (sc:Yz):Prop where
 kind:sc.kind=.function
 co:sc.isCoroutine=false
 gen:sc.isGenerator=false
 nd:N.Nodup
 pre:N.take P.length=P
 par:∀ x∈P,sc.names.lookup x=some .local∨sc.names.lookup x=some .cell
 nofree:∀ y∈sc.names,y.2≠.free
theorem zg8{kindOf:Str->Option YE}{x:Str}:∀ {binds:List (Str × j7)} {m:Str->Option j7},(∀ v,(x,v)∉binds)->Jt kindOf binds m x=m x
 |[],_,_=>rfl
 |(n,v)::r,m,h=>by
  unfold Jt;rw[zg8 fun w hw=>h w (jm _ hw)];split
  ·have:x≠n:=by rintro rfl; exact h v jC
   simp[this]
  ·rfl
theorem zga{kindOf:Str->Option YE}{x:Str}:∀ {binds:List (Str × j7)} {m:Str->Option j7},(∀ v,(x,v)∉binds)->Ju kindOf binds m x=m x
 |[],_,_=>rfl
 |(n,v)::r,m,h=>by
  unfold Ju;rw[zga fun w hw=>h w (jm _ hw)];split
  ·rfl
  ·have:x≠n:=by rintro rfl; exact h v jC
   simp[this]
theorem zg9{kindOf:Str->Option YE}{x:Str}{v:j7}:∀ {P:List Str} {vs:List j7} {i:Nat} {m:Str->Option j7},P.Nodup->P[i]?=some x->vs[i]?=some v->kindOf x=some .local->
  Jt kindOf (P.zip vs) m x=some v
 |[],_,_,_,_,h,_,_=>by simp at h
 |_::_,[],_,_,_,_,h,_=>by simp at h
 |p::P,w::vs,0,m,nd,h1,h2,hk=>by
  simp at h1 h2; subst h1; subst h2;show Jt kindOf ((p,w)::P.zip vs) m p=_;unfold Jt;rw[zg8 fun v hv=>(Qy.mp nd).1 (gZ hv).1,Ip_ hk];simp
 |p::P,w::vs,i+1,m,nd,h1,h2,hk=>by
  show Jt kindOf ((p,w)::P.zip vs) m x=_;unfold Jt;exact zg9 (i:=i) (Qy.mp nd).2 (by simpa using h1) (by simpa using h2) hk
theorem zgb{kindOf:Str->Option YE}{x:Str}{v:j7}:∀ {P:List Str} {vs:List j7} {i:Nat} {m:Str->Option j7},P.Nodup->P[i]?=some x->vs[i]?=some v->kindOf x≠some .local->
  Ju kindOf (P.zip vs) m x=some v
 |[],_,_,_,_,h,_,_=>by simp at h
 |_::_,[],_,_,_,_,h,_=>by simp at h
 |p::P,w::vs,0,m,nd,h1,h2,hk=>by
  simp at h1 h2; subst h1; subst h2;show Ju kindOf ((p,w)::P.zip vs) m p=_;unfold Ju;rw[zga fun v hv=>(Qy.mp nd).1 (gZ hv).1,In_ hk];simp
 |p::P,w::vs,i+1,m,nd,h1,h2,hk=>by
  show Ju kindOf ((p,w)::P.zip vs) m x=_;unfold Ju;exact zgb (i:=i) (Qy.mp nd).2 (by simpa using h1) (by simpa using h2) hk
def start(N:List Str)(vs:List V):St:=vs.map some++Yj (N.length - vs.length) none
def zkA(CX:CXT)(P:jG)(w:Q7)(K:jd)(mg:Str->Option j7)(base:Zq)(N:List Str)(qual:Str)(scope:Yz)(f:jo)(cd:j7)(A:Q1)(outer:List Env)(s:j8)(H:Hp)(E:XK):Cx where
 prog:=P
 w:=w
 K:=K
 mg:=mg
 base:=base
 A:=A.deeper (N6 qual scope s.heap.objs.size f cd)
 N:=N
 s₀:=s
 H₀:=H
 env:=N6 qual scope s.heap.objs.size f cd
 outer:=outer
 stack:=N6 qual scope s.heap.objs.size f cd::outer
 ex:=[]
 calm:=true
 fn:=fun _=>true
 pn:=[]
 xe:=fun e s'=>jD (jF P w) (A.deeper (N6 qual scope s.heap.objs.size f cd)) (leaving (N6 qual scope s.heap.objs.size f cd) e) (fun _ s''=>CX outer H s E e s'') (fun e' s''=>CX outer H s E e' s'') s'
theorem zhw{sc:Yz}{n:Nat}{x:Str}(h:sc.names.lookup x=some .cell):∃ c,(cellsFrom n sc.names []).lookup x=some c:=by
 have q:=YX sc.names n [] (.inl h);exact Option.isSome_iff_exists.mp q
theorem zje{CX:CXT}{P:jG}{w:Q7}{K:jd}{mg:Str->Option j7}{base:Zq}{N ps:List Str}{qual:Str}{scope:Yz}{f:jo}{cd:j7}{A:Q1}{outer:List Env}{s s1:j8}{H:Hp}{E:XK}{us:List j7}{vs:List V}
  (S:FnScope N ps scope) (hd:A.handled=none) (e0:Env0 P w K mg base A outer s H) (hl:vs.length=ps.length) (r:Vals vs us)
  (x:InCallC s s.heap.objs.size (Jt (N6 qual scope s.heap.objs.size f cd).kindOf (ps.zip us) fun _=>none) (cellsFrom (s.heap.objs.size+1) scope.names []) (Ju (N6 qual scope s.heap.objs.size f cd).kindOf (ps.zip us) fun _=>none) s1) :
  Inv (zkA CX P w K mg base N qual scope f cd A outer s H E) [] (start N vs) H s1:=by
 have hpl:ps.length<=N.length:=by have:=congrArg Y0 S.pre; rw[jK] at this; lia
 obtain⟨h1,tk,rfl,hk⟩:=x.done;have noA:∀ b:jo,b∉(zkA CX P w K mg base N qual scope f cd A outer s H E).ex:=fun b z=>absurd (show b∈([]:List jo) from z) (by simp)
 refine⟨⟨e0.mod,S.kind,rfl,rfl,jg _,fun y z c h1 h2=>?_,fun y hy=>?_,fun y c _ h=>?_,fun _=>hd,Around.frames_deeper e0.frames,.inr ⟨rfl,rfl⟩,fun b z=>absurd z (noA b),e0.bs,e0.bsz,fun b _ _=>noA b,fun b z=>absurd z (noA b),e0.funs,e0.frf⟩,
  rfl,e0.bare,Un.kept hk,⟨_,x.toInCall.ns,fun i y v h1 h2 h3=>?_⟩,fun y c h=>⟨_,x.cell y c h⟩,e0.hok.fresh (jg _),fun y c h=>?_,fun p hp=>absurd (show p∈([]:List (jo × Obj)) from hp) (by simp),e0.hok.kept hk,?_⟩
 ·exact name_of_addr x.apart (Zw h1) (Zw h2)
 ·have hy:scope.names.lookup y=some .cell∨scope.names.lookup y=some .free:=hy;rcases hy with hy |hy
  ·exact zhw hy
  ·exact absurd rfl (S.nofree _ (Zw hy))
 ·exact Yb (x.above y c (Zw h))
 ·have hi:i < vs.length:=by
   unfold start at h2
   by_cases hi:i < vs.length
   ·exact hi
   ·rw[Q2 (by simpa using hi)] at h2
    rw[YF] at h2;split at h2<;>cases h2
  have ha:vs[i]?=some v:=by
   unfold start at h2;rw[jR (by simpa using hi),jc] at h2
   cases e:vs[i]? with
   |none=>rw[e] at h2; cases h2
   |some a=>rw[e] at h2; cases h2; rfl
  obtain⟨u,hu,rv⟩:=r.get ha;have hp:ps[i]?=some y:=by
   rw[<-S.pre,List.getElem?_take_of_lt (by lia)]; exact h1
  have ndP:ps.Nodup:=by rw[<-S.pre]; exact S.nd.sublist (gB _ _)
  refine⟨u,rv,?_⟩;rcases S.par y (jN hp) with k |k
  ·exact .inl ⟨k,zg9 ndP hp hu k⟩
  ·obtain⟨c,e⟩:=zhw (n:=s.heap.objs.size+1) k;refine .inr ⟨.inl k,c,e,?_⟩;have q:=x.cell y c e;rw[zgb ndP hp hu (by show scope.names.lookup y≠_; rw[k]; decide)] at q
   exact q
 ·exact e0.hok.fresh (Yb (x.above y c (Zw h)))
 ·unfold start;show _=N.length;rw[js,ja,N7];lia
theorem zql{CX:CXT}{P:jG}{w:Q7}{K:jd}{mg:Str->Option j7}{base:Zq}{k:Nat}{f:jo}{name qual:Str}{params:Arguments}{body:List ZU}{scope:Yz}{dV kV doc pm cdv ct oc:j7}{an od:Option jo}
  {osl:Array (Option j7)} {N ps:List Str} {sp:Sp} (lk:K.lookup f=some ⟨oc,od,.func (Qd name qual params body scope dV kV doc pm an cdv ct),osl⟩) (hcd:ZX K cdv qual=true) (S:FnScope N ps scope)
  (len:∀ vs H Q E,sp vs H Q E->vs.length=ps.length)
  (hbody:∀(A:Q1) (outer:List Env) (s:j8) (H:Hp) (vs:List V) (Q:VK) (E:XK),Room k (A.deeper (N6 qual scope s.heap.objs.size f cdv))->sp vs H Q E->
   ∃ t,PSs (zkA CX P w K mg base N qual scope f cdv A outer s H E) body t/\t { nx:=fun _ H'=>Q .non H',rt:=Q } (start N vs) H) :
  FnOk P w K mg base CX (k+1) f (Qd name qual params body scope dV kV doc pm an cdv ct) ps sp:=by
 refine⟨len,fun A outer s H args us vs Q E hr e0 hb r hsp=>?_⟩;have hl:=len _ _ _ _ hsp;have KX:K.In s.heap:=e0.mod.kin.keeps fun b o e=>(e0.bs b o e).1;have lim:s.heap.NoLimit:=e0.mod.nolimit.keeps fun b o e=>(e0.bs b o e).1;have hkind:∀ y∈ps.zip us,scope.names.lookup y.1=some .local∨(scope.names.lookup y.1=some .cell/\((cellsFrom (s.heap.objs.size+1) scope.names []).lookup y.1).isSome=true):=fun⟨n,v⟩ hy=>by
  rcases S.par n (gZ hy).1 with q |q
  ·exact .inl q
  ·exact .inr ⟨q,YX _ _ _ (.inl q)⟩
 refine codeAny_call_function hr.depth (KX _ _ lk) rfl S.co S.gen rfl (PySem.W.codeRec_of KX hcd) (hb _ _ _ _ ?_);refine wpAny_newFunctionEnv_cells S.kind hkind fun env he s1 x=>?_;subst he;refine⟨lim.keeps x.toInCall.keep,codeAny_func ?_⟩;obtain⟨t,ht,hq⟩:=hbody A outer s H vs Q E (hr.deeper _) hsp;have I:Inv (zkA CX P w K mg base N qual scope f cdv A outer s H E) [] (start N vs) H s1:=zje S hr.hd e0 hl r x;refine Z0 (ht [] s1 (start N vs) H _ I hq) (fun fl s' hs=>?_) fun e s' hs=>hs;have fin:∀ {σ':St} {H':Hp} {v:V} {u:j7},Inv (zkA CX P w K mg base N qual scope f cdv A outer s H E) [] σ' H' s'->RelV v u->Q v H'->CE outer P w H s Q u s':=
  fun {σ' H' v u} J rv q=>⟨v,H',J.os,J.bare,J.base,J.hok,rv,q⟩
 cases fl with
 |ret u=>
  obtain⟨v,σ',H',J,rv,q⟩:=hs;exact fin J rv q
 |next=>
  obtain⟨σ',H',J,q⟩:=hs;exact fin (v:=V.non) (u:=ZE) J rfl q
 |brk=>
  obtain⟨_,_,_,q⟩:=hs;exact ZR q
 |cont=>
  obtain⟨_,_,_,q⟩:=hs;exact ZR q
section
variable {x:Str}{p:Pos}{id T:String}{r:List V->Hp->VK->Prop}
def tCB(r:List V->Hp->VK->Prop)(t:TA):TE:=fun σ H Q=>t σ H fun vs H1=>r vs H1 Q
theorem zbD(hc:CallR X (.builtin id) r)(hg:Gl X x)(hm:X.mg x=none)(hv:QZ x=some (.builtin id))(ha:PA X (e::es) t)(hn:x≠"__name__":=by decide)(hdb:(x == ("__debug__":Str))=false:=by decide)
  (he:jj (e::es) X.env=(false,eval e X.env)::jj es X.env:=by rfl) (hpl:(Zr pos (jj es X.env)).any (·.1)=false:=by rfl):PE X (.Call (.Name x p) (e::es) [] pos) (tCB r t):=by
 intro pc s σ H Q I h;refine Ye (zcG I hg hm hv ?_ hn hdb);exact PyProof.Rows.callWith_builtin1 (thn (ha pos pc s σ H _ I h) fun us s1 ⟨vs,H1,I1,r1,q1⟩=>hc pc s1 σ H1 vs us Q I1 r1 q1) he hpl
theorem zdn(hc:CallR X (.type T) r)(hg:Gl X x)(hm:X.mg x=none)(hv:QZ x=some (.type T))(ha:PA X (e::es) t)(hn:x≠"__name__":=by decide)(hdb:(x == ("__debug__":Str))=false:=by decide)
  (he:jj (e::es) X.env=(false,eval e X.env)::jj es X.env:=by rfl) (hpl:(Zr pos (jj es X.env)).any (·.1)=false:=by rfl):PE X (.Call (.Name x p) (e::es) [] pos) (tCB r t):=by
 intro pc s σ H Q I h;refine Ye (zcG I hg hm hv ?_ hn hdb);exact jY (thn (ha pos pc s σ H _ I h) fun us s1 ⟨vs,H1,I1,r1,q1⟩=>hc pc s1 σ H1 vs us Q I1 r1 q1) he hpl
end
end L2
namespace HT
open PySem PyProof.Rows
section
variable {prog:jG}{w:Q7}{A:Q1}{E:j7->j8->Prop}{s:j8}
def sIx(n d:Nat):Option Int->Nat
 |none=>d
 |some v=>if v < 0 then (v+(n:Int)).toNat else min v.toNat n
theorem sIx_none(n d:Nat):sIx n d none=d:=rfl
theorem sIx_nat(n d k:Nat):sIx n d (some (k:Int))=min k n:=by
 show (if (k:Int) < 0 then ((k:Int)+(n:Int)).toNat else min (k:Int).toNat n)=min k n
 rw[In_ (by lia),jh]
end
end HT
namespace L2
open PySem PySem.Spec PyProof.Rows
variable {X:Cx}{e:Q0}{pos:Pos}{pc:List (jo × Obj)}{σ:St}{H:Hp}{s:j8}{a:jo}
abbrev TO:=St->Hp->(Option Int->Hp->Prop)->Prop
def PO(X:Cx)(e:Option Q0)(t:TO):Prop:=
 ∀(pc:List (jo × Obj)) (s:j8) (σ:St) (H:Hp) (Q:Option Int->Hp->Prop),Inv X pc σ H s->t σ H Q->
  jD (jF X.prog X.w) X.A (evalPart e X.env) (fun u s'=>∃ o H',Inv X pc σ H' s'/\IsPart u o/\Q o H') X.xe s
def zls:TO:=fun _ H Q=>Q none H
def zpD(t:TE):TO:=fun σ H Q=>t σ H fun x H1=>∃ i,x=.int i/\Q (some i) H1
section
variable {te:TE}{lo hi:Option Q0}{tl th:TO}{p2:Pos}
theorem zlZ:PO X none zls:=by
 intro pc s σ H Q I h;rw[evalPart_none];exact jb ⟨none,H,I,.none,h⟩
theorem zlY(h:PE X e te):PO X (some e) (zpD te):=by
 intro pc s σ H Q I hw;rw[evalPart_some];refine thn (h pc s σ H _ I hw) fun u s1 h_=>?_; obtain⟨x,H1,I1,r1,q1⟩:=h_;obtain⟨i,rfl,q⟩:=q1;obtain⟨t,rfl⟩:=r1;exact⟨some i,H1,I1,.int i t,q⟩
def SlR(X:Cx)(r:V->Option Int->Option Int->Hp->VK->Prop):Prop:=
 ∀(pc:List (jo × Obj)) (s:j8) (σ:St) (H:Hp) (x:V) (v vl vu:j7) (lo hi:Option Int) (sl:jo) (Q:VK),Inv X pc σ H s->RelV x v->s.heap.IsSliceOf sl vl vu .none->IsPart vl lo->IsPart vu hi->r x lo hi H Q->
  ∃ T id,typeLookup (.type T) "__getitem__"=pure (some (.builtin id))/\s.TypeIs v T/\jD (jF X.prog X.w) X.A (WJ v (.ref sl)) (EP X pc σ Q) X.xe s
def tSl(r:V->Option Int->Option Int->Hp->VK->Prop)(te:TE)(tl th:TO):TE:=fun σ H Q=>te σ H fun x H1=>tl σ H1 fun l H2=>th σ H2 fun u H3=>r x l u H3 Q
theorem zeT{r:V->Option Int->Option Int->Hp->VK->Prop}(hr:SlR X r)(he:PE X e te)(hl:PO X lo tl)(hu:PO X hi th):PE X (.Subscript e (.Slice lo hi none p2) pos) (tSl r te tl th):=by
 intro pc s σ H Q I h;refine J4 (thn (he pc s σ H _ I h) fun v s1 h_=>?_); obtain⟨x,H1,I1,r1,q1⟩:=h_;refine wpAny_Slice (thn (hl pc s1 σ H1 _ I1 q1) fun vl s2 h_=>?_); obtain⟨l,H2,I2,pl,q2⟩:=h_; refine thn (hu pc s2 σ H2 _ I2 q2) fun vu s3 h_=>?_; obtain⟨u,H3,I3,pu,q3⟩:=h_;rw[evalPart_none];refine jb ?_;have I4:Inv X pc σ H3 { s3 with heap:=s3.heap.push { cls:=.type "slice",data:=.fields #[vl,vu,.none] } }:=I3.kept (t':=s3.toks) fun b ob q=>j6 _ q;obtain⟨T,id,hT,ht,hg⟩:=hr pc { s3 with heap:=s3.heap.push { cls:=.type "slice",data:=.fields #[vl,vu,.none] } } σ H3 x v vl vu l u s3.heap.objs.size Q I4 r1 (Jw ..) pl pu q3;show jD (jF X.prog X.w) X.A (NM e (.Slice lo hi none p2) v (.ref s3.heap.objs.size)) (EP X pc σ Q) X.xe { s3 with heap:=s3.heap.push { cls:=.type "slice",data:=.fields #[vl,vu,.none] } };exact tail_any (ops:=[.ref s3.heap.objs.size,v]) ht hT hg (by with_unfolding_all rfl)
def zlb(xs:List V)(lo hi:Option Int):List V:=(xs.drop (HT.sIx xs.length 0 lo)).take (HT.sIx xs.length xs.length hi - HT.sIx xs.length 0 lo)
theorem zgL(xs:List V)(lo hi:Option Int):(zlb xs lo hi).length<=xs.length:=by
 unfold zlb;rw[jK,jX];lia
end
def ixN(n:Nat)(i:Int):Option Nat:=if 0<=i then (if i < n then some i.toNat else none) else if -(n:Int)<=i then some (i+n).toNat else none
def atI{α:Type}(xs:List α)(i:Int):Option α:=(ixN xs.length i).bind fun j=>xs[j]?
theorem zjb{n:Nat}{i:Int}{j:Nat}(h:ixN n i=some j):NN i n=some j/\j < n/\-(n:Int)<=i/\i < n:=by
 unfold ixN at h
 by_cases h0:0<=i
 ·rw[Ip_ h0] at h
  by_cases h1:i < n
  ·rw[Ip_ h1] at h;have e:i.toNat=j:=je h;exact⟨by rw[WK h0 h1,e],by lia,by lia,h1⟩
  ·rw[In_ h1] at h; cases h
 ·rw[In_ h0] at h
  by_cases h1:-(n:Int)<=i
  ·rw[Ip_ h1] at h;have e:(i+n).toNat=j:=je h;exact⟨by rw[Wp (by lia) h1,e],by lia,h1,by lia⟩
  ·rw[In_ h1] at h; cases h
theorem zgR{α:Type}{xs:List α}{i:Int}{v:α}(h:atI xs i=some v):∃ j,NN i xs.length=some j/\xs[j]?=some v/\j < xs.length/\-(xs.length:Int)<=i/\i < xs.length:=by
 unfold atI at h;cases e:ixN xs.length i with
 |none=>rw[e] at h; cases h
 |some j=>
  rw[e] at h;obtain⟨h1,h2,h3,h4⟩:=zjb e;exact⟨j,h1,h,h2,h3,h4⟩
theorem zmL{α:Type}{xs:List α}{j:Nat}{v:α}(h:xs[j]?=some v):atI xs (j:Int)=some v:=by
 have hj:j < xs.length:=(j5.mp h).1;have e:ixN xs.length (j:Int)=some j:=by
  unfold ixN;rw[Ip_ (by lia),Ip_ (by lia)]; simp
 unfold atI; rw[e]; exact h
def zdL(b:Q0):Prop:=∀ o i,NC b false o i=operate [o,i] (WJ o i)
def IxR(X:Cx)(r:R2):Prop:=
 ∀(value slice:Q0) (pc:List (jo × Obj)) (s:j8) (σ:St) (H:Hp) (x y:V) (v u:j7) (Q:VK),Inv X pc σ H s->RelV x v->RelV y u->r x y H Q->
  NC slice false v u=operate [v,u] (WJ v u)->jD (jF X.prog X.w) X.A (NM value slice v u) (EP X pc σ Q) X.xe s
def MtR(X:Cx)(id:String)(r:V->List V->Hp->VK->Prop):Prop:=
 ∀(pc:List (jo × Obj)) (s:j8) (σ:St) (H:Hp) (x:V) (xs:List V) (v:j7) (us:List j7) (Q:VK),Inv X pc σ H s->RelV x v->Vals xs us->r x xs H Q->
  jD (jF X.prog X.w) X.A (call (.builtin id) (v::us)) (EP X pc σ Q) X.xe s
section
variable {a b:Q0}{ta tb:TE}
theorem IxR.or{r r':R2}(h:IxR X r)(h':IxR X r'):IxR X (fun x y H Q=>r x y H Q∨r' x y H Q):=by
 intro value slice pc s σ H x y v u Q I rx ry q hs;rcases q with q |q
 ·exact h value slice pc s σ H x y v u Q I rx ry q hs
 ·exact h' value slice pc s σ H x y v u Q I rx ry q hs
theorem znW{r:R2}(hr:IxR X r)(ha:PE X a ta)(hb:PE X b tb)(hs:zdL b):PE X (.Subscript a b pos) (tOp r ta tb):=by
 intro pc s σ H Q I h;exact J4 (zqx ha hb I h fun v u s2 x y H2 I2 rx ry q=>hr a b pc s2 σ H2 x y v u Q I2 rx ry q (hs _ _))
def zqM(K:jd):R2:=fun x y H Q=>∃ p xs i v,x=.ref p/\y=.int i/\SqL K H p xs/\atI xs i=some v/\Q v H
def zqK(K:jd):R2:=fun x y H Q=>∃ p xs i v,x=.ref p/\y=.int i/\SqT K H p xs/\atI xs i=some v/\Q v H
def zqL:R2:=fun x y H Q=>∃ z i c,x=.str z/\y=.int i/\z.length<=jq/\atI z.cps.toList i=some c/\Q (.str ⟨#[c]⟩) H
theorem ix_list:IxR X (zqM X.K):=by
 intro value slice pc s σ H x y v u Q I rx ry h hs;obtain⟨p,xs,i,z,rfl,rfl,hq,he,q⟩:=h;cases rx;obtain⟨t,rfl⟩:=ry;obtain⟨its,r,pl,hz⟩:=I.list hq;obtain⟨j,h1,h2,h3,h4,h5⟩:=zgR he;obtain⟨w,ew,rw'⟩:=r.get h2;have hl:=r.length;have hn:=zdp;have fin:EP X pc σ Q w s:=⟨z,H,I,rw',q⟩
 by_cases h0:0<=i
 ·have hj:i.toNat=j:=by
   rw[WK h0 h5] at h1;exact je h1
  exact item_listR pl.isList h0 (by lia) (by rw[hj]; simpa using ew) fin hs
 ·have hj:(i+(its.toArray.size:Int)).toNat=j:=by
   rw[Wp (by lia) h4] at h1
   rw[ji,<-hl];exact je h1
  exact YY (x:=w) pl.isList.typeIs W6.lookup
   (wpAny_getItem_list_neg (Q:=fun r s'=>r=w/\EP X pc σ Q r s') pl.isList (by lia) (by rw[ji]<;>lia) (by lia) (by rw[hj]; simpa using ew) ⟨rfl,fin⟩) hs
theorem ix_tup:IxR X (zqK X.K):=by
 intro value slice pc s σ H x y v u Q I rx ry h hs;obtain⟨p,xs,i,z,rfl,rfl,hq,he,q⟩:=h;cases rx;obtain⟨t,rfl⟩:=ry;obtain⟨its,r,pl,hz⟩:=I.tuple hq;obtain⟨j,h1,h2,h3,h4,h5⟩:=zgR he;obtain⟨w,ew,rw'⟩:=r.get h2;have hl:=r.length;have hn:=zdp;have fin:EP X pc σ Q w s:=⟨z,H,I,rw',q⟩;exact YY (x:=w) pl.typeIs slot_tuple_getitem.lookup
  (getItem_tuple (j:=j) (Q:=fun r s'=>r=w/\EP X pc σ Q r s') pl (by lia) (by lia) (by rw[ji,<-hl]; exact h1) (by simpa using ew) ⟨rfl,fin⟩) hs
theorem zoi:IxR X zqL:=by
 intro value slice pc s σ H x y v u Q I rx ry h hs;obtain⟨z,i,c,rfl,rfl,hz,he,q⟩:=h;obtain⟨t,rfl⟩:=rx;obtain⟨t',rfl⟩:=ry;obtain⟨j,h1,h2,h3,h4,h5⟩:=zgR he;have hl:z.cps.toList.length=z.length:=by simp[Str.length]
 rw[hl] at h1 h4 h5;have hn:=zdp
 exact tail_any (J5 s z t) slot_str_getitem.lookup (getItem_str (c:=c) (by
  have e1:decide (i < -(2 ^ 63:Int))=false:=Df_ (by lia)
  have e2:decide (i≥2 ^ 63)=false:=Df_ (by lia)
  rw[e1,e2,Bool.or_false]) (by rw[h1]; simpa using h2) ⟨.str ⟨#[c]⟩,H,I.tok _,⟨_,rfl⟩,q⟩) hs
def rIx(K:jd):R2:=fun x y H Q=>zqM K x y H Q∨zqK K x y H Q∨zqL x y H Q
theorem zl1:IxR X (rIx X.K):=ix_list.or (ix_tup.or zoi)
theorem zhU(its:List j7)(n j:Nat)(u:j7):QK (·.setIfInBounds j u) { cls:=.type "list",data:=.seq its.toArray n }={ cls:=.type "list",data:=.seq (its.set j u).toArray n }:=by
 simp[QK]
theorem Inv.lst{pc:List (jo × Obj)}{σ:St}{H:Hp}{s:j8}{p:jo}{xs:List V}(I:Inv X pc σ H s)(h:H p=some (.lst xs)) :
  ∃(its:List j7) (n:Nat),Vals xs its/\s.heap.get? p=some { cls:=.type "list",data:=.seq its.toArray n }/\xs.length<=jq:=by
 obtain⟨z,its,n,r,e⟩:=I.hok p _ h;exact⟨its,n,r,e,z⟩
theorem Inv.lstUpd{pc:List (jo × Obj)}{σ:St}{H:Hp}{s:j8}{p:jo}{xs ys:List V}{its its':List j7}{n n':Nat}{f:Obj->Obj}(I:Inv X pc σ H s)(h:H p=some (.lst xs))
  (ho:s.heap.get? p=some { cls:=.type "list",data:=.seq its.toArray n }) (hf:f { cls:=.type "list",data:=.seq its.toArray n }={ cls:=.type "list",data:=.seq its'.toArray n' }) (r:Vals ys its') (hz:ys.length<=jq) (t:Nat) :
  Inv X pc σ (upd H p (.lst ys)) { s with heap:=s.heap.update p f,toks:=t }:=by
 have e:(s.heap.update p f).get? p=some { cls:=.type "list",data:=.seq its'.toArray n' }:=by
  rw[Qu f ho (by rw[hf]<;>rfl),hf]
 refine I.write (x:=p) (e:=p) (by rw[h]; trivial) (.inl rfl) (fun b u hb q=>(QJ _ _ (Zu hb)).trans q) ⟨_,e⟩ ?_
 exact⟨hz,its',n',r,e⟩
def znx:V->V->V->Hp->(Hp->Prop)->Prop:=fun o i v H Q=>∃ p xs k j,o=.ref p/\i=.int k/\H p=some (.lst xs)/\ixN xs.length k=some j/\Q (upd H p (.lst (xs.set j v)))
theorem zcO:zqC X znx:=by
 intro pc s σ H o i v ov iv u Q I ro ri rv h;obtain⟨p,xs,k,j,rfl,rfl,hp,hj,q⟩:=h;cases ro;obtain⟨t,rfl⟩:=ri;obtain⟨its,n,r,ho,hz⟩:=I.lst hp;obtain⟨h1,h2,h3,h4⟩:=zjb hj;have hl:=r.length;have hn:=zdp;have I':Inv X pc σ (upd H p (.lst (xs.set j v))) { s with heap:=s.heap.update p (QK (·.setIfInBounds j u)) }:=
  I.lstUpd hp ho (zhU its n j u) (r.set rv j) (by rw[jZ]; exact hz) s.toks
 by_cases h0:0<=k
 ·have hk:k.toNat=j:=by
   rw[WK h0 h4] at h1;exact je h1
  exact PySem.W.ki_setAt ho h0 (by lia) (by rw[ji,<-hl]; exact h4) (by rw[hk]; exact⟨_,I',q⟩)
 ·have hk:(k+(its.toArray.size:Int)).toNat=j:=by
   rw[Wp (by lia) h3] at h1
   rw[ji,<-hl];exact je h1
  exact PySem.W.ki_setBack ho (by lia) (by rw[ji,<-hl]; exact h3) (by lia) (by rw[hk]; exact⟨_,I',q⟩)
theorem zfn(lo hi:Option Int)(n:Nat):(gC lo hi none n).1=((HT.sIx n 0 lo:Nat):Int)/\(gC lo hi none n).2.1=((HT.sIx n n hi:Nat):Int)/\(gC lo hi none n).2.2=1:=by
 refine⟨?_,?_,rfl⟩
 ·cases lo with
  |none=>simp[gC,HT.sIx]
  |some i=>
   simp only[gC,HT.sIx,Ws,show (1:Int) > 0 by decide,if_true]
   by_cases h:i < 0
   ·simp only[h,if_true]<;>lia
   ·simp only[h,if_false]<;>lia
 ·cases hi with
  |none=>simp[gC,HT.sIx]
  |some i=>
   simp only[gC,HT.sIx,Ws,show (1:Int) > 0 by decide,if_true]
   by_cases h:i < 0
   ·simp only[h,if_true]<;>lia
   ·simp only[h,if_false]<;>lia
theorem zez(its:List j7)(lo hi:Option Int):slicePick its.toArray lo hi none=((its.drop (HT.sIx its.length 0 lo)).take (HT.sIx its.length its.length hi - HT.sIx its.length 0 lo)).toArray:=by
 obtain⟨h1,h2,h3⟩:=zfn lo hi its.toArray.size;unfold slicePick;rw[h1,h2,h3];simp only[sliceRange_one,pick_run,ji]<;>rfl
def zqJ(K:jd):V->Option Int->Option Int->Hp->VK->Prop:=fun x lo hi H Q=>∃ a xs,x=.ref a/\SqL K H a xs/\∀ p,H p=none->Q (.ref p) (upd H p (.lst (zlb xs lo hi)))
theorem zin:SlR X (zqJ X.K):=by
 intro pc s σ H x v vl vu lo hi sl Q I rx hs pl pu h;obtain⟨a,xs,rfl,hx,q⟩:=h;cases rx;obtain⟨its,r,ht,hz⟩:=I.list hx;have hlen:=r.length;refine⟨"list",_,W6.lookup,ht.isList.typeIs,?_⟩;refine wpAny_getItem_list_slice ht.isList hs pl pu .none (by simp) ?_ (by rw[ji]<;>lia)
 rw[zez,<-hlen];refine⟨.ref s.heap.objs.size,_,I.laid (t':=s.toks) (o:=.lst (zlb xs lo hi)) (fun b ob q=>j6 _ q) (jg _) ?_,rfl,q _ (I.hok.fresh (jg _))⟩;exact⟨Qt (zgL xs lo hi) hz,_,0,(r.drop (HT.sIx xs.length 0 lo)).take (HT.sIx xs.length xs.length hi - HT.sIx xs.length 0 lo),jn _ rfl⟩
def zbX:V->Bool
 |.non=>true
 |.bl _=>true
 |.int _=>true
 |.str _=>true
 |_=>false
def eqV:V->V->Bool
 |.non,.non=>true
 |.bl a,.bl b=>a == b
 |.bl a,.int b=>(if a then 1 else 0) == b
 |.int a,.bl b=>a == (if b then 1 else 0)
 |.int a,.int b=>a == b
 |.str a,.str b=>a == b
 |_,_=>false
theorem zot{A:Q1}{s:j8}{y x:V}{u v:j7}(ry:RelV y u)(rx:RelV x v)(fy:zbX y=true)(fx:zbX x=true):SeqAt.EqAt A s u v (eqV y x):=by
 cases y with
 |non=>
  cases ry;cases x with
  |non=>cases rx; exact SeqAt.EqAt.same _
  |bl b=>cases rx; exact SeqAt.EqAt.none_bool b
  |int b=>obtain⟨t,rfl⟩:=rx; exact SeqAt.EqAt.none_int b t
  |str b=>obtain⟨t,rfl⟩:=rx; exact SeqAt.EqAt.none_str b t
  |_=>exact absurd (show false=true from fx) jr
 |bl a=>
  cases ry;cases x with
  |non=>cases rx; exact SeqAt.EqAt.bool_none a
  |bl b=>cases rx; exact SeqAt.EqAt.bool_bool a b
  |int b=>obtain⟨t,rfl⟩:=rx; exact SeqAt.EqAt.bool_int a b t
  |str b=>obtain⟨t,rfl⟩:=rx; exact SeqAt.EqAt.bool_str a b t
  |_=>exact absurd (show false=true from fx) jr
 |int a=>
  obtain⟨t',rfl⟩:=ry;cases x with
  |non=>cases rx; exact SeqAt.EqAt.int_none a t'
  |bl b=>cases rx; exact SeqAt.EqAt.int_bool a t' b
  |int b=>obtain⟨t,rfl⟩:=rx; exact SeqAt.EqAt.int_int a t' b t
  |str b=>obtain⟨t,rfl⟩:=rx; exact NF a t' b t
  |_=>exact absurd (show false=true from fx) jr
 |str a=>
  obtain⟨t',rfl⟩:=ry;cases x with
  |non=>cases rx; exact SeqAt.EqAt.str_none a t'
  |bl b=>cases rx; exact SeqAt.EqAt.str_bool a t' b
  |int b=>obtain⟨t,rfl⟩:=rx; exact NG a t' b t
  |str b=>obtain⟨t,rfl⟩:=rx; exact SeqAt.EqAt.str_str a t' b t
  |_=>exact absurd (show false=true from fx) jr
 |_=>exact absurd (show false=true from fy) jr
def eqU(x:V)(u:j7):Bool:=match u with
 |.none=>eqV .non x
 |.bool b=>eqV (.bl b) x
 |.int i _=>eqV (.int i) x
 |.str z _=>eqV (.str z) x
 |_=>false
theorem zho{x y:V}{u:j7}(r:RelV y u)(f:zbX y=true):eqU x u=eqV y x:=by
 cases y with
 |non=>cases r; rfl
 |bl b=>cases r; rfl
 |int i=>obtain⟨t,rfl⟩:=r; rfl
 |str z=>obtain⟨t,rfl⟩:=r; rfl
 |_=>exact absurd (show false=true from f) jr
theorem zgS{x:V}:∀ {xs:List V} {us:List j7},Vals xs us->xs.all zbX=true->us.any (eqU x)=xs.any fun y=>eqV y x
 |_,_,.nil,_=>rfl
 |y::xs,u::us,.cons r t,f=>by
  rw[gT,jw] at f;rw[Ja,Ja,zho r f.1,zgS t f.2]
theorem zc7{A:Q1}{s:j8}{x:V}{v:j7}(rx:RelV x v)(fx:zbX x=true):∀ {xs:List V} {us:List j7},Vals xs us->xs.all zbX=true->∀ u∈us,SeqAt.EqAt A s u v (eqU x u)
 |_,_,.nil,_=>fun u hu=>by cases hu
 |y::xs,u::us,.cons r t,f=>fun u' hu=>by
  rw[gT,jw] at f;rcases jt.mp hu with rfl |hu
  ·rw[zho r f.1]; exact zot r rx f.1 fx
  ·exact zc7 rx fx t f.2 u' hu
def inV(x:V)(xs:List V):Bool:=xs.any fun y=>eqV y x
def rIn(K:jd)(neg:Bool):R2:=fun x y H Q=>∃ p xs,y=.ref p/\(SqL K H p xs∨SqT K H p xs)/\zbX x=true/\xs.all zbX=true/\Q (.bl (if neg then !inV x xs else inV x xs)) H
theorem zfE:OpR X (ZV .NotIn) (rIn X.K true):=by
 intro pc s σ H x y v u Q I rx ry h;obtain⟨p,xs,rfl,hq,fx,fs,q⟩:=h;cases ry;rcases hq with hq |hq
 ·obtain⟨its,r,pl,hz⟩:=I.list hq;refine SeqAt.notIn_listAt (eqU x) pl.isList (fun w hw=>zc7 rx fx r fs w (by simpa using hw)) ⟨.bl _,H,I,rfl,?_⟩
  rw[show its.toArray.any (eqU x)=its.any (eqU x) by simp,zgS r fs]
  exact q
 ·obtain⟨its,r,pl,hz⟩:=I.tuple hq;refine SeqAt.notIn_tupleAt (eqU x) pl (fun w hw=>zc7 rx fx r fs w (by simpa using hw)) ⟨.bl _,H,I,rfl,?_⟩
  rw[show its.toArray.any (eqU x)=its.any (eqU x) by simp,zgS r fs]
  exact q
theorem zg6:CallR X (.builtin "len") (fun xs H Q=>∃ p ys,xs=[.ref p]/\(SqL X.K H p ys∨SqT X.K H p ys)/\Q (.int ys.length) H):=by
 intro pc s σ H xs us Q I r h;obtain⟨p,ys,rfl,hq,q⟩:=h;obtain⟨u,rfl,rx⟩:=zic r;cases rx;have hn:=zdp;rcases hq with hq |hq
 ·obtain⟨its,r',pl,hz⟩:=I.list hq;have hlen:=r'.length;exact Calls.call_len_list pl.isList (by simp only[ji]<;>lia) ⟨.int ys.length,H,I.tok _,⟨s.toks+1,by rw[ji,hlen]⟩,q⟩
 ·obtain⟨its,r',pl,hz⟩:=I.tuple hq;have hlen:=r'.length;exact len_tuple pl (by simp only[ji]<;>lia) ⟨.int ys.length,H,I.tok _,⟨s.toks+1,by rw[ji,hlen]⟩,q⟩
theorem zg5:CallR X (.builtin "len") (fun xs H Q=>∃ z,xs=[.str z]/\z.length<=jq/\Q (.int z.length) H):=by
 intro pc s σ H xs us Q I r h;obtain⟨z,rfl,hz,q⟩:=h;obtain⟨u,rfl,t,rfl⟩:=zic r;have hn:=zdp;exact len_str (by lia) ⟨.int z.length,H,I.tok _,⟨_,rfl⟩,q⟩
theorem CallR.or{f:j7}{r r':List V->Hp->VK->Prop}(h:CallR X f r)(h':CallR X f r'):CallR X f (fun xs H Q=>r xs H Q∨r' xs H Q):=by
 intro pc s σ H xs us Q I rs q;rcases q with q |q
 ·exact h pc s σ H xs us Q I rs q
 ·exact h' pc s σ H xs us Q I rs q
theorem zg4:CallR X (.type "list") (fun xs H Q=>∃ p ys,xs=[.ref p]/\(SqL X.K H p ys∨SqT X.K H p ys)/\∀ l,H l=none->Q (.ref l) (upd H l (.lst ys))):=by
 intro pc s σ H xs us Q I r h;obtain⟨p,ys,rfl,hq,q⟩:=h;obtain⟨u,rfl,rx⟩:=zic r;cases rx;have fin:∀(its:List j7),Vals ys its->ys.length<=jq->∀(h':Zq) (c':Nat),(∀ b o',s.heap.get? b=some o'->h'.get? b=some o')->
   h'.get? s.heap.objs.size=some { cls:=.type "list",dict:=none,data:=.seq its.toArray c',slots:=#[] }->EP X pc σ Q (.ref s.heap.objs.size) { s with heap:=h' }:=fun its r' hz h' c' kp e=>
  ⟨.ref s.heap.objs.size,_,I.laid (t':=s.toks) kp (jg _) (show ObjOk X.prog X.w _ h' _ (.lst ys) from ⟨hz,its,c',r',e⟩),rfl,q _ (I.hok.fresh (jg _))⟩
 rcases hq with hq |hq
 ·obtain⟨its,r',pl,hz⟩:=I.list hq;have hlen:=r'.length;obtain⟨o,ho,hc,n,hd⟩:=pl.isList;exact call_list_seq p (.inl rfl) ho hc hd (fun h' c' kp e=>fin its r' hz h' c' kp e) (by simp only[ji]<;>lia)
 ·obtain⟨its,r',pl,hz⟩:=I.tuple hq;have hlen:=r'.length;obtain⟨o,ho,hc,n,hd⟩:=pl;exact call_list_seq p (.inr rfl) ho hc hd (fun h' c' kp e=>fin its r' hz h' c' kp e) (by simp only[ji]<;>lia)
def tyV(K:jd)(T:String)(x:V)(H:Hp):Prop:=match x with
 |.str _=>T="str"
 |.int _=>T="int"
 |.ref p=>(T="list"/\∃ xs,SqL K H p xs)∨(T="tuple"/\∃ o,K.lookup p=some o/\o.cls=.type "tuple"/\o.dict=none) ∨
   (T="dict"/\((∃ kvs,H p=some (.dK kvs))∨∃ kvs,H p=some (.dT kvs)))∨(T="set"/\∃ S n,H p=some (.set S n))
 |_=>False
theorem znf{pc:List (jo × Obj)}{σ:St}{H:Hp}{s:j8}{T:String}{x:V}{v:j7}(I:Inv X pc σ H s)(r:RelV x v)(ty:tyV X.K T x H) :
  s.TypeIs v T/\∀ a,v=.ref a->∃ ob,s.heap.get? a=some ob/\ob.dict=none:=by
 cases x with
 |str z=>
  obtain⟨t,rfl⟩:=r;cases (show T="str" from ty);exact⟨J5 s z t,fun _ e=>nomatch e⟩
 |int i=>
  obtain⟨t,rfl⟩:=r;cases (show T="int" from ty);exact⟨typeIs_int s i t,fun _ e=>nomatch e⟩
 |ref p=>
  cases r;rcases ty with ⟨rfl,xs,hq⟩ |⟨rfl,o,hk,hc,hd⟩ |⟨rfl,hk⟩ |⟨rfl,S,n,hk⟩
  ·obtain⟨its,_,pl,_⟩:=I.list hq;refine⟨pl.isList.typeIs,fun a e=>?_⟩;cases e;obtain⟨o,n,e,c,hd,_⟩:=pl;exact⟨o,e,hd⟩
  ·refine⟨⟨o,I.kIn p o hk,hc⟩,fun a e=>?_⟩;cases e;exact⟨o,I.kIn _ o hk,hd⟩
  ·have z:∃ o,s.heap.get? p=some o/\o.ExactDict:=by
    rcases hk with ⟨kvs,hk⟩ |⟨kvs,hk⟩
    ·obtain⟨_,_,_,_,o,_,_,e,ex,_⟩:=I.hok p _ hk;exact⟨o,e,ex⟩
    ·obtain⟨_,_,_,_,o,_,_,e,ex,_⟩:=I.hok p _ hk;exact⟨o,e,ex⟩
   obtain⟨o,e,ex⟩:=z;refine⟨⟨o,e,ex.1⟩,fun a e2=>?_⟩;cases e2;exact⟨o,e,ex.2.1⟩
  ·obtain⟨o,_,_,_,e,ex,_⟩:=I.hok p _ hk;refine⟨⟨o,e,ex.1⟩,fun a e2=>?_⟩;cases e2;exact⟨o,e,ex.2.1⟩
 |_=>exact ZR ty
def tBM(K:jd)(T:String)(r:V->List V->Hp->VK->Prop)(to:TE)(t:TA):TE:=fun σ H Q=>to σ H fun x H1=>tyV K T x H1/\t σ H1 fun xs H2=>r x xs H2 Q
variable {o:Q0}{es:List Q0}{to:TE}{t:TA}{name:Str}{apos cpos:Pos}{T id:String}{r:V->List V->Hp->VK->Prop}
theorem zq2(pa:PlainAttrs T)(slot:Slot T name id)(hty:typeOf (.builtin id)=pure (.type "method_descriptor"))(hm:MtR X id r)(ho:PE X o to)(ha:PA X (e::es) t)
  (hbase:attributeBase o name X.env (eval o X.env)=eval o X.env:=by rfl)
  (hfew:((Zr cpos (jj (e::es) X.env)).all (fun x=>!x.1)&&(backToKw cpos (keywordEach [] X.env)).all (fun x=>x.1.isSome)
   && decide ((e::es).length+([]:List Keyword).length+(if ([]:List Keyword).isEmpty then 0 else 1) < 30))=true:=by rfl)
  (hline:(apos.endLine == cpos.line)=true:=by rfl) (hs:jj (e::es) X.env=(false,eval e X.env)::jj es X.env:=by rfl) (hplain:(Zr cpos (jj es X.env)).any (·.1)=false:=by rfl) :
  PE X (.Call (.Attribute o name apos) (e::es) [] cpos) (tBM X.K T r to t):=by
 intro pc s σ H Q I h;refine wpAny_Call_method_late hbase hfew hline rfl (thn (ho pc s σ H _ I h) fun v s1 h_=>?_); obtain⟨x,H1,I1,r1,ty,q1⟩:=h_;obtain⟨h1,h2⟩:=znf I1 r1 ty;refine⟨T,id,pa,slot,hty,h1,h2,?_⟩;have hA:=ha cpos pc s1 σ H1 _ I1 q1;rw[hs] at hA ⊢;refine Calls.callWith_builtin (by show (false||(Zr cpos (jj es X.env)).any (·.1))=false; rw[hplain]<;>rfl) (Calls.evalArgs_plain ?_)
 exact thn hA fun us s2 ⟨vs,H2,I2,r2,q2⟩=>hm pc s2 σ H2 x vs v us Q I2 r1 r2 q2
end
def MtM(X:Cx)(id:String)(r:V->List V->Hp->VK->Prop):Prop:=
 ∀(pc:List (jo × Obj)) (s:j8) (σ:St) (H:Hp) (x:V) (xs:List V) (v:j7) (us:List j7) (Q:VK),Inv X pc σ H s->RelV x v->Vals xs us->r x xs H Q->
  jD (jF X.prog X.w) X.A (call (.builtin id) (v::us)) (EP X pc σ Q) X.xe s
theorem Vals.one{x:V}{us:List j7}(h:Vals [x] us):∃ u,us=[u]/\RelV x u:=by
 cases h with
 |cons r t=>cases t; exact⟨_,rfl,r⟩
theorem Vals.eraseIdx:∀ {xs:List V} {us:List j7} (i:Nat),Vals xs us->Vals (xs.eraseIdx i) (us.eraseIdx i)
 |_,_,_,.nil=>.nil
 |_,_,0,.cons _ t=>t
 |_,_,i+1,.cons r t=>.cons r (Vals.eraseIdx i t)
theorem zfH{α:Type}:∀(l:List α) (i:Nat),(l.eraseIdx i).length<=l.length
 |[],_=>jg _
 |_::_,0=>Qk _
 |_::r,i+1=>Nat.succ_le_succ (zfH r i)
section
variable {l b:jo}{xs ys zs:List V}
theorem Inv.lset{its its':List j7}{n:Nat}{f:Array j7->Array j7}{t':Nat}(I:Inv X pc σ H s)(hH:H l=some (.lst xs))
  (e:s.heap.get? l=some { cls:=.type "list",data:=.seq its.toArray n }) (hf:f its.toArray=its'.toArray) (hv:Vals ys its') (hz:ys.length<=jq) :
  Inv X pc σ (upd H l (.lst ys)) { s with heap:=s.heap.update l (QK f),toks:=t' }:=by
 have q:=PySem.IsL.update e f;rw[hf] at q;refine I.write (x:=l) (e:=l) (by rw[hH]; exact trivial) (.inl rfl) (fun b' u hb hu=>(QJ s.heap (QK f) (Zu hb)).trans hu) ⟨_,q⟩ ?_
 exact⟨hz,its',_,hv,q⟩
theorem Inv.lnew{its:List j7}{t':Nat}(I:Inv X pc σ H s)(hv:Vals ys its)(hz:ys.length<=jq) :
  Inv X pc σ (upd H s.heap.objs.size (.lst ys)) { s with heap:=s.heap.push { cls:=.type "list",data:=.seq its.toArray },toks:=t' }:=
 I.laid (fun _ _ q=>j6 _ q) (jg _) ⟨hz,its,0,hv,jn _ rfl⟩
theorem Inv.fresh(I:Inv X pc σ H s):H s.heap.objs.size=none:=I.hok.fresh (jg _)
theorem Inv.lstM(I:Inv X pc σ H s)(hH:H l=some (.lst xs)):xs.length<=jq/\∃(its:List j7) (n:Nat),Vals xs its/\xs.length=its.length/\s.heap.get? l=some { cls:=.type "list",data:=.seq its.toArray n }:=by
 obtain⟨z,its,n,r,e⟩:=I.hok l _ hH;exact⟨z,its,n,r,r.length,e⟩
end
section
def zgo:V->List V->Hp->VK->Prop:=fun x vs H Q=>∃ l xs y,x=.ref l/\vs=[y]/\H l=some (.lst xs)/\xs.length < jq/\Q .non (upd H l (.lst (xs++[y])))
theorem zb9:MtM X "list.append" zgo:=by
 intro pc s σ H x vs v us Q I rx rv h;obtain⟨l,xs,y,rfl,rfl,hH,hz,q⟩:=h;cases rx;obtain⟨u,rfl,ru⟩:=rv.one;obtain⟨z,its,n,r,hl,e⟩:=I.lstM hH;refine Nj F.slot_list_append ⟨_,e,rfl⟩ F.entry_list_append (F.args_list_append_2 _ _) (PySem.list_append l its.toArray n u (by rw[ji]; lia)) ⟨e,?_⟩
 refine⟨.non,_,I.lset (its':=its++[u]) hH e (by simp) (r.append (.cons ru .nil)) ?_,rfl,q⟩
 rw[js,Z9];lia
def ziw:V->List V->Hp->VK->Prop:=fun x vs H Q=>∃ l xs i k y,x=.ref l/\vs=[.int i]/\H l=some (.lst xs)/\-(2 ^ 63)<=i/\i < 2 ^ 63/\NN i xs.length=some k/\xs[k]?=some y/\Q y (upd H l (.lst (xs.eraseIdx k)))
theorem zeU:MtM X "list.pop" ziw:=by
 intro pc s σ H x vs v us Q I rx rv h;obtain⟨l,xs,i,k,y,rfl,rfl,hH,h1,h2,hk,hy,q⟩:=h;cases rx;obtain⟨u,rfl,ru⟩:=rv.one;obtain⟨t,rfl⟩:=ru;obtain⟨z,its,n,r,hl,e⟩:=I.lstM hH;obtain⟨w,hw,rw'⟩:=r.get hy;refine Nj F.slot_list_pop ⟨_,e,rfl⟩ F.entry_list_pop (F.args_list_pop_2 _ _)
  (MeetsSeq.list_pop_at l its.toArray n i t k w (fitsIndex_both h1 h2) (by rw[ji,<-hl]; exact hk) (by rw[<-Array.getElem?_toList]; exact hw) (by rw[ji]; lia)) ⟨e,?_⟩
 refine⟨y,_,I.lset (its':=its.eraseIdx k) hH e ?_ (r.eraseIdx k) ?_,rw',q⟩
 ·show its.toArray.eraseIdxIfInBounds k=(its.eraseIdx k).toArray;rw[List.eraseIdxIfInBounds_toArray]
 ·have:=zfH xs k;lia
def zqN:R2:=fun x y H Q=>∃ l b xs zs,x=.ref l/\y=.ref b/\H l=some (.lst xs)/\H b=some (.lst zs)/\xs.length+zs.length<=jq/\∀ p,H p=none->Q (.ref p) (upd H p (.lst (xs++zs)))
theorem zo3:OpR X (gf .Add) zqN:=by
 intro pc s σ H x y v u Q I rx ry h;obtain⟨l,b,xs,zs,rfl,rfl,hH,hB,hz,q⟩:=h;cases rx;cases ry;obtain⟨z,its,n,r,hl,e⟩:=I.lstM hH;obtain⟨z2,its2,n2,r2,hl2,e2⟩:=I.lstM hB;refine PySem.P.add_list e e2 ?_ (by rw[ji,ji]; lia)
 have ea:its.toArray++its2.toArray=(its++its2).toArray:=by simp
 rw[ea];exact⟨.ref _,_,I.lnew (t':=s.toks) (r.append r2) (by rw[js]; lia),rfl,q _ I.fresh⟩
end
section
variable {κ:Type}[DecidableEq κ]
def zgV(kvs:List (κ × V))(k:κ):Option V:=(kvs.find? fun kv=>decide (kv.1=k)).map (·.2)
theorem zeo{p:κ × V}{r:List (κ × V)}{k:κ}(e:p.1=k):zgV (p::r) k=some p.2:=by simp[zgV,Zl,e]
theorem zep{p:κ × V}{r:List (κ × V)}{k:κ}(e:¬ p.1=k):zgV (p::r) k=zgV r k:=by simp[zgV,Zl,e]
theorem RelO.isSome_eq{o:Option V}{u:Option j7}(r:RelO o u):o.isSome=u.isSome:=by
 cases o with
 |none=>cases u with
  |none=>rfl
  |some _=>exact(show False from r).elim
 |some _=>cases u with
  |none=>exact(show False from r).elim
  |some _=>rfl
theorem KV.val{kvs:List (κ × V)}{vs:List (κ × j7)}(r:KV kvs vs)(k:κ):RelO (zgV kvs k) (W7 vs k):=by
 unfold KV at r
 induction r with
 |nil=>exact True.intro
 |@cons p q ps qs h t ih=>
  obtain⟨h1,h2⟩:=h
  by_cases e:p.1=k
  ·have e':q.1=k:=h1.symm.trans e;have b:W7 (q::qs) k=some q.2:=by simp[W7,Zl,e']
   rw[zeo e,b]; exact h2
  ·have e':¬ q.1=k:=fun z=>e (h1.trans z);have b:W7 (q::qs) k=W7 qs k:=by simp[W7,Zl,e']
   rw[zep e,b]; exact ih
theorem KV.length{kvs:List (κ × V)}{vs:List (κ × j7)}(r:KV kvs vs):kvs.length=vs.length:=NH r
end
theorem zmj{P:jG}{w:Q7}{k:Key}{u:j7}(r:RelV (kV k) u):(zaN P w).is k u=true:=by
 cases k with
 |inl i=>obtain⟨t,e⟩:=(show ∃ t,u=Ji i t from r); subst e; exact zgw P w i t
 |inr x=>obtain⟨t,e⟩:=(show ∃ t,u=Yr x t from r); subst e; exact zgv P w x t
theorem zfK{P:jG}{w:Q7}:∀ {ks:List Key} {us:List j7},Vals (ks.map kV) us->ItemsAre (zaN P w) ks us
 |[],_,r=>by rw[Zs] at r; cases r; exact .nil
 |k::ks,_,r=>by
  rw[ju] at r;cases r with
  |cons h t=>exact .cons (zmj h) (zfK t)
abbrev KT(H:Hp):List (List Key × V)->List (List Key × jo × j7)->Prop:=Jj fun p q=>p.1=q.1/\H q.2.1=some (.tup (p.1.map kV))/\RelV p.2 q.2.2
theorem KT.val{H:Hp}{kvs:List (List Key × V)}{xs:List (List Key × jo × j7)}(r:KT H kvs xs)(k:List Key):RelO (zgV kvs k) ((atKey xs k).map (·.2)):=by
 induction r with
 |nil=>exact True.intro
 |@cons p q ps qs h t ih=>
  obtain⟨h1,_,h2⟩:=h
  by_cases e:p.1=k
  ·have e':q.1=k:=h1.symm.trans e;have b:atKey (q::qs) k=some q.2:=by simp[atKey,Zl,e']
   rw[zeo e,b]; exact h2
  ·have e':¬ q.1=k:=fun z=>e (h1.trans z);have b:atKey (q::qs) k=atKey qs k:=by simp[atKey,Zl,e']
   rw[zep e,b]; exact ih
section
variable {P:jG}{w:Q7}{h:Zq}
theorem znw{u:HO}(ok:HOk P w H h)(e:Rd H a u):ObjOk P w H h a u:=e.ok ok
theorem zjt{kvs:List (Key × V)}(ok:HOk P w H h)(e:Rd H a (.dK kvs)):kvs.length<=jq/\(a == Ys)=false/\∃ vs,KV kvs vs/\h.DictOf (zaN P w) a vs:=
 show ObjOk P w H h a (.dK kvs) from znw ok e
theorem zj7{ks:List Key}(ok:HOk P w H h)(e:H a=some (.tup (ks.map kV))):(WE (zaN P w)).is h ks a:=by
 obtain⟨_,its,r,o,h1,h2,n,h3⟩:=(show ObjOk P w H h a (.tup (ks.map kV)) from ok a _ e);exact⟨o,its.toArray,n,h1,h2,h3,by simpa using zfK r⟩
theorem zmB{kvs:List (List Key × V)}(ok:HOk P w H h)(e:Rd H a (.dT kvs)):kvs.length<=jq/\(a == Ys)=false /\
  ∃ xs,KT H kvs xs/\h.DictOfH (WE (zaN P w)) a xs:=by
 obtain⟨z,y,xs,r,o,es,ep,h1,h2,h3,h4,h5⟩:=(show ObjOk P w H h a (.dT kvs) from znw ok e);refine⟨z,y,xs,r,o,es,ep,h1,h2,h3,h4,fun x hx=>?_,h5⟩;have all:∀ {l:List (List Key × V)} {m:List (List Key × jo × j7)},KT H l m->∀ x∈m,(WE (zaN P w)).is h x.1 x.2.1:=by
  intro l m q
  induction q with
  |nil=>intro x hx; exact nomatch hx
  |@cons p q ps qs hq t ih=>
   intro x hx;rcases jt.mp hx with e |hx
   ·subst e;exact zj7 ok (by rw[<-hq.1]; exact hq.2.1)
   ·exact ih x hx
 exact all r x hx
end
def DGet(H:Hp)(a:jo)(y:V)(r:Option V):Prop:=
 (∃ kvs k,Rd H a (.dK kvs)/\y=kV k/\r=zgV kvs k)∨∃ kvs k b,Rd H a (.dT kvs)/\y=.ref b/\H b=some (.tup (k.map kV))/\r=zgV kvs k
theorem DGet.k{H:Hp}{a:jo}{kvs:List (Key × V)}{k:Key}(e:H a=some (.dK kvs)):DGet H a (kV k) (zgV kvs k):=.inl ⟨kvs,k,.inl e,rfl,rfl⟩
section
variable {y v:V}{u r:j7}{o:Option V}{A:Q1}{E:j7->j8->Prop}
theorem zju{Q:j7->j8->Prop}(hu:A.units+1 < gO)(I:Inv X pc σ H s)(g:DGet H a y (some v))(ry:RelV y u)(h:∀ w' s',Inv X pc σ H s'->RelV v w'->Q w' s') :
  jD (jF X.prog X.w) A (WJ (.ref a) u) Q E s:=by
 rcases g with ⟨kvs,k,e,ey,l⟩ |⟨kvs,k,b,e,ey,eb,l⟩
 ·subst ey;obtain⟨z,hd,vs,rel,dd⟩:=zjt I.hok e;obtain⟨w',hw,rw'⟩:=RelO.some_of (v:=v) (o:=W7 vs k) (by rw[l]; exact rel.val k)
  exact wpAny_getItem_of (zmj ry) dd.mapOf hw (h w' _ (I.tok _) rw')
 ·subst ey;cases (show u=ZB b from ry);obtain⟨z,hd,xs,rel,dd⟩:=zmB I.hok e;obtain⟨w',hw,rw'⟩:=RelO.some_of (v:=v) (o:=(atKey xs k).map (·.2)) (by rw[l]; exact rel.val k)
  obtain⟨p,hp,hp2⟩:=Qm hw;refine wpAny_getItem_heap (NO hu) (zj7 I.hok eb) dd hp ?_;rw[hp2];exact h w' _ (I.tok _) rw'
theorem zmD{Q:j7->j8->Prop}(hu:A.units+1 < gO)(I:Inv X pc σ H s)(g:DGet H a y o)(ry:RelV y u)(h:∀ s',Inv X pc σ H s'->Q (.bool (!o.isSome)) s') :
  jD (jF X.prog X.w) A (ZV .NotIn u (.ref a)) Q E s:=by
 rcases g with ⟨kvs,k,e,ey,l⟩ |⟨kvs,k,b,e,ey,eb,l⟩
 ·subst ey;obtain⟨z,hd,vs,rel,dd⟩:=zjt I.hok e;refine wpAny_notIn_of (zmj ry) hd dd.mapOf ?_;rw[<-(rel.val k).isSome_eq,<-l];exact h _ (I.tok _)
 ·subst ey;cases (show u=ZB b from ry);obtain⟨z,hd,xs,rel,dd⟩:=zmB I.hok e;refine wpAny_notIn_heap (NO hu) (zj7 I.hok eb) hd dd ?_;have q:=(rel.val k).isSome_eq;rw[Option.isSome_map] at q;rw[<-q,<-l];exact h _ (I.tok _)
end
section
variable {kvs:List (Key × V)}{k:Key}{u:j7}{A:Q1}{E:j7->j8->Prop}
theorem zqs{Q:j7->j8->Prop}(I:Inv X pc σ H s)(e:Rd H a (.dK kvs))(h:∀ t s',Inv X pc σ H s'->Q (.int kvs.length t) s'):jD (jF X.prog X.w) A (call (.builtin "len") [.ref a]) Q E s:=by
 obtain⟨z,hd,vs,rel,dd⟩:=zjt I.hok e;refine call_len_dict hd dd (by rw[<-rel.length]; rw[Qr] at z; lia) ?_
 rw[<-rel.length];exact h _ _ (I.tok _)
end
def zoY(i:Q0):Prop:=∀ ov iv,NC i false ov iv=operate [ov,iv] (WJ ov iv)
theorem zlv{prog:jG}{w:Q7}{A:Q1}{E:j7->j8->Prop}{s:j8}{env:Env}{value slice:Q0}{pos:Pos}{T id:String}{Q:j7->j8->Prop}
  (hl:typeLookup (.type T) "__getitem__"=pure (some (.builtin id))) (hs:zoY slice)
  (h:jD (jF prog w) A (eval value env) (fun o s₁=>jD (jF prog w) A (eval slice env) (fun i s₂=>s₂.TypeIs o T/\jD (jF prog w) A (WJ o i) Q E s₂) E s₁) E s) :
  jD (jF prog w) A (eval (.Subscript value slice pos) env) Q E s:=by
 refine J4 (Z0 h (fun o s₁ h₁=>Z0 h₁ (fun i s₂ h₂=>?_) fun _ _ x=>x) fun _ _ x=>x);obtain⟨hT,h₂⟩:=h₂;unfold NM;refine j4 ?_;rw[getitemInPython_of_ne hT.not_modules];refine j4 (N8 hT hl ?_);have fin:jD (jF prog w) A (NC slice false o i) (fun r s₃=>jD (jF prog w) A (letTemporaryGo value o r >>= fun _=>pure r) Q E s₃) E s₂:=by
  rw[hs o i];exact wpAny_operating (Z0 h₂ (fun r s₃ h₃=>j4 (wpAny_letTemporaryGo (jb h₃))) fun _ _ x=>x)
 first
  |exact jb (j4 fin)
  |exact j4 (jb (j4 fin))
  |exact j4 fin
theorem zgG{X:Cx}{pc:List (jo × Obj)}{σ:St}{H:Hp}{s:j8}{a:jo}{y:V}{o:Option V}(I:Inv X pc σ H s)(g:DGet H a y o):s.TypeIs (.ref a) "dict":=by
 rcases g with ⟨kvs,k,e,_,_⟩ |⟨kvs,k,b,e,_,_,_⟩
 ·obtain⟨_,_,vs,_,dd⟩:=zjt I.hok e;exact dd.typeIs
 ·obtain⟨_,_,xs,_,dd⟩:=zmB I.hok e;exact dd.typeIs
def zpG(td ty:TE):TE:=fun σ H Q=>td σ H fun x H1=>ty σ H1 fun y H2=>∃ a v,x=.ref a/\DGet H2 a y (some v)/\Q v H2
def zlu(ty td:TE):TE:=fun σ H Q=>ty σ H fun y H1=>td σ H1 fun x H2=>∃ a o,x=.ref a/\DGet H2 a y o/\Q (.bl (!o.isSome)) H2
section
variable {o i value:Q0}{pos' tpos:Pos}{td ty tv:TE}
theorem ziM(hu:X.A.units+1 < gO)(ho:PE X o td)(hi:PE X i ty)(hs:zoY i):PE X (.Subscript o i pos) (zpG td ty):=by
 intro pc s σ H Q I h;refine zlv PySem.F.slot_dict_getitem.lookup hs (thn (ho pc s σ H _ I h) fun u s1 h_=>?_); obtain⟨x,H1,I1,rx,q1⟩:=h_; refine thn (hi pc s1 σ H1 _ I1 q1) fun iv s2 h_=>?_; obtain⟨y,H2,I2,ry,a,v,ex,g,q2⟩:=h_;subst ex;obtain rfl:u=ZB a:=rx;exact⟨zgG I2 g,zju hu I2 g ry fun w' s3 I3 rw'=>⟨v,H2,I3,rw',q2⟩⟩
theorem ziN(hu:X.A.units+1 < gO)(hi:PE X i ty)(ho:PE X o td):PC X .NotIn i o (zlu ty td):=by
 intro pc s σ H Q I h;refine thn (hi pc s σ H _ I h) fun iv s1 h_=>?_; obtain⟨y,H1,I1,ry,q1⟩:=h_; refine thn (ho pc s1 σ H1 _ I1 q1) fun u s2 h_=>?_; obtain⟨x,H2,I2,rx,a,ov,ex,g,q2⟩:=h_;subst ex;obtain rfl:u=ZB a:=rx;exact zmD hu I2 g ry fun s3 I3=>⟨.bl (!ov.isSome),H2,I3,rfl,q2⟩
end
end L2
namespace Att
open PySem PySem.W PySem.Calls PyProof.Rows
theorem zds{P:Params}{h:Zq}:∀(ns:List Int) (vs:List j7),WellAll P h vs (ns.map WData.int)->W8 vs ns:=by
 intro ns
 induction ns with
 |nil=>
  intro vs w;rw[Zs] at w;cases w;exact .nil
 |cons n ns ih=>
  intro vs w;rw[ju] at w;cases w with
  |cons a b=>
   cases a;exact .cons _ _ (ih _ b)
theorem ziq{l:OpenLaw}{n:Nat}(hn:l.most=some n){P:Params}{h:Zq}{args:List WData}{vals:List j7}
  (hpre:l.row.toRowW.claim.pre args=true) (hwl:WellAll P h vals args) :
  ∃ a vs ns,vals=[ZB a]/\args=[WData.list (ns.map WData.int)]/\h.get? a=some { cls:=.type "list",data:=.seq vs.toArray }/\W8 vs ns/\ns.length<=n:=by
 have hsh:WShape.hasAll [] args [.list .int]=true:=(pre_splitW hpre).1;have hc:l.pre.holds [] { args:=args }=true:=(pre_splitW hpre).2;obtain⟨d,r,rfl,h1,h2⟩:=hasAllW_cons hsh;obtain rfl:=hasAllW_nil h2;obtain⟨xs,rfl,h3⟩:=hasW_list h1;obtain⟨ns,rfl⟩:=items_int h3;have hlen:ns.length<=n:=by
  unfold OpenLaw.pre at hc;have h4:(WTm.not (.lt (.lit (.int (n:Int))) (.len (.arg 0)))).holds [] { args:=[.list (ns.map .int)] }=true:=by
   have h4:=(holds_andW hc).1;rw[hn] at h4;exact h4
  have h5:=condW_of h4 (w_not (w_lt w_lit (w_len_list (w_arg rfl))));rw[ja] at h5;refine gP fun q=>?_;have q':(n:Int) < ((ns.length:Nat):Int):=by lia
  first
   |(rw[Dt_ q'] at h5; exact absurd h5 (by decide))
   |(simp at h5; lia)
 cases hwl with
 |cons w1 w2=>
  cases w2;cases w1 with
  |list ho hall=>exact⟨_,_,ns,rfl,rfl,ho,zds ns _ hall,hlen⟩
theorem ziF(l:OpenLaw)(args:List WData):l.row.toRowW.claim.post args (.bool true) args=true:=
 postW_of (r:=l.row.toRowW) (X:=(true == true))
  (show Jx [] (.bool true) .bool=true by first |rfl |decide |simp[Jx,WShape.arms,WShape.armsAll])
  (show (WTm.eq .res (.lit (.bool true))).value [] { args:=args,res:=some (.bool true),after:=args }=some (.bool (true == true)) from w_eq_bool (w_res rfl) w_lit) rfl
theorem attach_call{l:OpenLaw}{n:Nat}{q:jG}{loose:List Str}{XP:(Str->Option j7)->Zq->Prop}{YP:Q7->Zq->Prop}{d:DefRec}
  (hn:l.most=some n) (hdf:d.params.defaults=[])
  (call:∀(w:Q7) (s₀ s₁:j8) (mg mb:Str->Option j7) (fa:jo) (o:Obj) (pm cd doc:j7) (a:jo) (vs:List j7) (ns:List Int),
   Ground q loose [] XP w s₀ mg mb s₁.heap->YP w s₁.heap->
   s₁.heap.get? fa=some o->o.data=.func (docDef d.name d.params d.body d.scope pm cd doc)->s₁.heap.CodeRec cd d.name->mg d.name=some (.ref fa)->
   s₁.heap.get? a=some { cls:=.type "list",data:=.seq vs.toArray }->W8 vs ns->ns.length<=n->s₁.gens=#[]->
   YC (jF l.prog w) W9 (.call (.ref fa) ⟨[.ref a],[]⟩) (fun r s'=>r=.ok (.ret (.bool true))/\OldK s₁.heap s'.heap/\s'.os=s₁.os/\N2 s'.gens) s₁) :
  WalkO q loose XP YP l.row.toRowW d [] (fun f vs=>J6 f vs):=by
 intro w s₀ s₁ mg mb G Y fa o pm cd doc dV kV ho hd hcd hD hmg hg args vals as hpre hlay hrd hwl hlo;obtain rfl:dV=.none:=Dflts.none hD hdf;obtain rfl:kV=.none:=Dflts.noKw hD;obtain⟨a,vs,ns,rfl,rfl,hobj,hints,hlen⟩:=ziq hn hpre hwl;refine enter_call (gb (call w s₀ s₁ mg mb fa o pm cd doc a vs ns G Y ho (fd_plain hd) hcd hmg hobj hints hlen hg) fun r s' hq=>?_);obtain⟨rfl,h2,h3,h4⟩:=hq;exact⟨.inl ⟨.bool true,.bool true,[],rfl,fun _=>rfl,.bool true,ziF l _,fun _=>⟨Jy,fun _ hm=>(nomatch hm)⟩⟩,h2,h3,h4⟩
end Att
namespace L2
open PySem PySem.Spec PyProof.Rows
variable {w:Q7}{X:Cx}{pos:Pos}
theorem zfe:∀ {vs:List j7} {ns:List Int},W8 vs ns->Vals (ns.map V.int) vs
 |_,_,.nil=>.nil
 |_,_,.cons n t h=>.cons ⟨t,rfl⟩ (zfe h)
def zoX(H:Hp):Prop:=∀ b,H b=none∨∃ o xs,H b=some (.frz o (.lst xs))
theorem zkp{P:jG}{w:Q7}{K:jd}{mg mb:Str->Option j7}{CX:CXT}{k:Nat}{fa a:jo}{fd:Zh}{x:Str}{sp:Sp}{s₁:j8}{vs:List j7}{ns:List Int}
  (KX:K.In s₁.heap) (hns:s₁.heap.Ns jS mg) (hb:s₁.heap.Ns J1 mb) (hbb:∀ x:Str,x≠"__name__"->mb x=QZ x) (hlim:s₁.heap.NoLimit) (hg:s₁.gens=#[])
  (ha:s₁.heap.get? a=some { cls:=.type "list",data:=.seq vs.toArray }) (hi:W8 vs ns) (hl:ns.length<=jq) (hr:Room k W9)
  (F:∀ base:Zq,K.In base->base.Ns jS mg->FnOk P w K mg base CX k fa fd [x] sp) (hbind:∀(s:j8) (u:j7),W5 s fd ⟨[u],[]⟩ [(x,u)])
  (hsp:∀ H:Hp,zoX H->SqL K H a (ns.map V.int)->sp [.ref a] H (fun v _=>v=.bl true) fun _ _ _=>False)
  (hCX:∀ H e s',CX [] H s₁ (fun _ _ _=>False) e s'->False) :
  YC (jF P w) W9 (.call (.ref fa) ⟨[.ref a],[]⟩) (fun r s'=>r=.ok (.ret (.bool true))/\OldK s₁.heap s'.heap/\s'.os=s₁.os/\N2 s'.gens) s₁:=by
 have rv:=zfe hi;have lenV:=hi.length
 -- from an abstract heap in which nothing but the script may be tracked
 have core:∀ H:Hp,zoX H->SqL K H a (ns.map V.int)->HOk P w H s₁.heap->(∀ b,H b≠none->b=a)->(H a≠none->K.lookup a=none)->
   YC (jF P w) W9 (.call (.ref fa) ⟨[.ref a],[]⟩) (fun r s'=>r=.ok (.ret (.bool true))/\OldK s₁.heap s'.heap/\s'.os=s₁.os/\N2 s'.gens) s₁:=by
  intro H hO hS hok hA hK;have base_of:∀ {b:jo} {o:Obj},s₁.heap.get? b=some o->H b=none->(zkt s₁.heap H).get? b=some o:=fun e n=>zks e n;have noA:∀ {b:jo} {o:Obj} {es:Array DictEntry} {ep:Nat},s₁.heap.get? b=some o->o.data=.dict es ep->H b=none:=fun {b o es ep} e d=>by
   cases q:H b with
   |none=>rfl
   |some u=>
    have e':b=a:=hA b (by rw[q]; simp)
    subst e';rw[ha] at e; cases e;have d':Data.seq vs.toArray _=Data.dict es ep:=d;cases d'
  have nsK:∀ {b:jo} {m:Str->Option j7},s₁.heap.Ns b m->(zkt s₁.heap H).Ns b m:=fun {b m} ⟨o,es,ep,e,d,r⟩=>⟨o,es,ep,base_of e (noA e d),d,r⟩
  have hKb:K.In (zkt s₁.heap H):=fun b o e=>base_of (KX b o e) (by
   cases q:H b with
   |none=>rfl
   |some u=>
    have e':b=a:=hA b (by rw[q]; simp)
    subst e'
    rw[hK (by rw[q]; simp)] at e; cases e)
  have hM:Mod K mg (zkt s₁.heap H):=⟨hKb,nsK hns,⟨mb,nsK hb,hbb⟩,let ⟨mc,h1,h2⟩:=hlim; ⟨mc,nsK h1,h2⟩⟩
  have e0:Env0 P w K mg (zkt s₁.heap H) W9 [] s₁ H:=⟨rfl,hM,fun b o e=>zmd e,Nat.le_of_eq (zjf _ _),trivial,fun b hb=>absurd (show b∈([]:List jo) from hb) (by simp),hok,.of_eq hg⟩
  refine gb ((F _ hKb (nsK hns)).run W9 [] s₁ H ⟨[.ref a],[]⟩ [.ref a] [.ref a] _ _ hr e0 (hbind s₁ (.ref a)) (.cons rfl .nil) (hsp H hO hS)) fun r s' h=>?_;cases r with
  |error e=>exact(hCX H e s' h).elim
  |ok fl=>
   cases fl with
   |next=>exact ZR h
   |brk=>exact ZR h
   |cont=>exact ZR h
   |ret u=>
    obtain⟨v,H',os,bare,un,hok',r',q⟩:=h;have q':v=.bl true:=q;subst q';obtain rfl:u=Value.bool true:=r';refine⟨rfl,OldK.of_keep fun b o e=>?_,os,bare⟩;cases q:H b with
    |none=>exact un.keep b o e q (by intro z; exact absurd (show b∈([]:List jo) from z) (by simp)) (by simp)
    |some u=>
     rcases hO b with z |⟨ob,xs,z⟩
     ·rw[q] at z; cases z
     ·have z2:=un.frzs b ob _ z;obtain⟨e1,_⟩:=hok b _ z;obtain⟨e2,_⟩:=hok' b _ z2;rw[e] at e1; cases e1;exact e2
 cases hk:K.lookup a with
 |some o=>
  -- the script is one of the module's own objects
  have e:=KX a o hk;rw[ha] at e;cases e;refine core (fun _=>none) (fun _=>.inl rfl) (.inr ⟨_,vs.toArray,_,hk,rfl,rfl,rfl,by rw[ji,lenV]; exact hl,by simpa using rv⟩) (fun b u z=>by have z':(none:Option HO)=some u:=z; cases z') (fun b z=>absurd rfl z) fun z=>absurd rfl z
 |none=>
  refine core (fun b=>if b=a then some (.frz { cls:=.type "list",data:=.seq vs.toArray } (.lst (ns.map V.int))) else none) (fun b=>?_) (.inl (.inr ⟨{ cls:=.type "list",data:=.seq vs.toArray },Ip_ rfl⟩)) (fun b u z=>?_) (fun b z=>?_) fun _=>hk
  ·by_cases hb:b=a
   ·exact .inr ⟨_,_,Ip_ hb⟩
   ·exact .inl (In_ hb)
  ·by_cases hb:b=a
   ·have z':=(Ip_ hb).symm.trans z;cases z';subst hb;exact⟨ha,by rw[ja]; exact hl,vs,_,rv,ha⟩
   ·have z':=(In_ hb).symm.trans z;cases z'
  ·by_cases hb:b=a
   ·exact hb
   ·exact absurd (In_ hb) z
theorem zlh{l:Y1}{n k:Nat}{q:jG}{loose:List Str}{XP:(Str->Option j7)->Zq->Prop}{YP:Q7->Zq->Prop}{d:DefRec}{K:Params->jd}{CX:Q7->CXT}{sp:Q7->Sp}{x:Str}
  (hn:l.most=some n) (hn2:n<=jq) (hdf:d.params.defaults=[]) (hr:Room k W9)
  (hY:∀(w:Q7) (h:Zq),YP w h->(K w.params).In h)
  (F:∀(w:Q7) (mg:Str->Option j7) (fa:jo) (h:Zq),(K w.params).In h->h.Ns jS mg->mg d.name=some (.ref fa)->
   ∃ fd:Zh,(∀(s:j8) (u:j7),W5 s fd ⟨[u],[]⟩ [(x,u)]) /\
    ∀ base:Zq,(K w.params).In base->base.Ns jS mg->FnOk l.prog w (K w.params) mg base (CX w) k fa fd [x] (sp w))
  (hsp:∀(w:Q7) (H:Hp) (a:jo) (ns:List Int),ns.length<=n->zoX H->SqL (K w.params) H a (ns.map V.int)->sp w [.ref a] H (fun v _=>v=.bl true) fun _ _ _=>False)
  (hCX:∀(w:Q7) (H:Hp) (s:j8) (e:j7) (s':j8),CX w [] H s (fun _ _ _=>False) e s'->False) :
  Jb q loose XP YP l.row.toRowW d [] (fun f vs=>J6 f vs):=by
 refine Att.attach_call hn hdf fun w s₀ s₁ mg mb fa o pm cd doc a vs ns G Y ho hd hcd hmg hobj hints hlen hg=>?_;have KX:=hY w _ Y;obtain⟨fd,hb,hF⟩:=F w mg fa _ KX G.T.g hmg;exact zkp KX G.T.g G.T.b G.T.builtins G.T.nolimit hg hobj hints (Qt hlen hn2) hr hF hb (fun H hO hS=>hsp w H a ns hlen hO hS) fun H e s'=>hCX w H s₁ e s'
def zaH(s:ZU):Arguments:=match s with
 |.FunctionDef _ a _ _ _ _ _ _ _ _=>a
 |_=>{ posonlyargs:=[],args:=[],vararg:=none,kwonlyargs:=[],kw_defaults:=[],kwarg:=none,defaults:=[] }
def zax(s:ZU):List ZU:=match s with
 |.FunctionDef _ _ b _ _ _ _ _ _ _=>b
 |_=>[]
def za1(s:ZU):Yz:=match s with
 |.FunctionDef _ _ _ _ _ _ sc _ _ _=>sc
 |_=>{ kind:=.function,names:=[],isGenerator:=false,isCoroutine:=false }
abbrev CX0:CXT:=fun _ _ _ _ _ _=>False
abbrev E0:XK:=fun _ _ _=>False
theorem zm8{X:Cx}:zjL CX0 X E0:=fun _ _ _ _ _ _ _ h=>h.elim
structure Fun (K:jd) (x qual:Str) (st:ZU) (f:jo) (fd:Zh):Prop where
 ex:∃(oc:j7) (od:Option jo) (kV doc pm:j7) (an:Option jo) (cdv ct:j7) (osl:Array (Option j7)),
  fd=Qd x qual (zaH st) (zax st) (za1 st) .none kV doc pm an cdv ct/\K.lookup f=some ⟨oc,od,.func fd,osl⟩/\ZX K cdv qual=true
 kp:Qx K (.ref f)=true
section
variable {P:jG}{K:jd}{mg:Str->Option j7}{base:Zq}
theorem Fun.ok{x qual:Str}{st:ZU}{f:jo}{fd:Zh}{N ps:List Str}{k:Nat}{sp:Sp}(F:Fun K x qual st f fd)(S:FnScope N ps (za1 st))(len:∀ vs H Q E,sp vs H Q E->vs.length=ps.length)
  (hbody:∀(cdv:j7) (A:Q1) (outer:List Env) (s:j8) (H:Hp) (vs:List V) (Q:VK) (E:XK),Room k (A.deeper (N6 qual (za1 st) s.heap.objs.size f cdv))->sp vs H Q E->
   ∃ t,PSs (zkA CX0 P w K mg base N qual (za1 st) f cdv A outer s H E).nox (zax st) t/\t { nx:=fun _ H'=>Q .non H',rt:=Q } (start N vs) H):FnOk P w K mg base CX0 (k+1) f fd ps sp:=by
 obtain⟨oc,od,kV,doc,pm,an,cdv,ct,osl,rfl,lk,hcd⟩:=F.ex;refine zql lk hcd S len fun A outer s H vs Q E hr hsp=>?_;obtain⟨t,h,q⟩:=hbody cdv A outer s H vs Q E hr hsp;exact⟨t,h.nox,q⟩
theorem Fun.binds{x qual:Str}{st:ZU}{f:jo}{fd:Zh}{ps:List Str}(F:Fun K x qual st f fd)
  (h:∀(kV doc pm:j7) (an:Option jo) (cdv ct:j7) (us:List j7),us.length=ps.length->YD (Qd x qual (zaH st) (zax st) (za1 st) .none kV doc pm an cdv ct) ⟨us,[]⟩=pure (ps.zip us)):Binds K fd ps []:=by
 obtain⟨oc,od,kV,doc,pm,an,cdv,ct,osl,rfl,lk,hcd⟩:=F.ex;exact .all (h kV doc pm an cdv ct)
theorem zl5{x qual:Str}{st:ZU}{f:jo}{oc:j7}{od an:Option jo}{osl:Array (Option j7)}{kV doc pm cdv ct:j7}(l:K.lookup f=some ⟨oc,od,.func (Qd x qual (zaH st) (zax st) (za1 st) .none kV doc pm an cdv ct),osl⟩)
  (c:ZX K cdv qual=true) (k:Qx K (.ref f)=true):Fun K x qual st f (Qd x qual (zaH st) (zax st) (za1 st) .none kV doc pm an cdv ct):=⟨⟨oc,od,kV,doc,pm,an,cdv,ct,osl,rfl,l,c⟩,k⟩
end
theorem zi0{A:Q1}{k:Nat}(hr:Room k A):A.units+1 < gO:=Nat.lt_of_le_of_lt (Nat.add_le_add_left (by decide:1<=64) _) hr.units
section
theorem pv(i:Nat){x:Str}{pos:Pos}(hN:X.N[i]?=some x:=by rfl)(hv:Vis X.env.scope x:=by first |exact jT rfl |exact gx (jT rfl) |exact gx (gx rfl))(hd:(x == ("__debug__":Str))=false:=by decide)
  (hcd:(x == ("__classdict__":Str))=false:=by decide):PE X (.Name x pos) (zdM i):=znR hN hv hd hcd
end
theorem Inv.forget{X:Cx}{pc:List (jo × Obj)}{sg sg':St}{H:Hp}{s:j8}(I:Inv X pc sg H s)(hl:sg'.length=sg.length)(h:∀(i:Nat) (v:V),sg'[i]?=some (some v)->sg[i]?=some (some v)):Inv X pc sg' H s:=by
 obtain⟨m,hn,hm⟩:=I.loc;exact⟨I.ok,I.os,I.bare,I.base,⟨m,hn,fun i x v e1 e2 e3=>hm i x v e1 (h i v e2) e3⟩,I.cell,I.free,I.freeC,I.pin,I.hok,by rw[hl]; exact I.len⟩
def zaK(X:Cx)(N:List Str)(scope:Yz)(cl:List (Str × jo))(C:jo)(s0:j8)(H0:Hp)(fp:List jo):Cx where
 prog:=X.prog
 w:=X.w
 K:=X.K
 mg:=X.mg
 base:=X.base
 A:=X.A
 N:=N
 s₀:=s0
 H₀:=H0
 env:=compEnvC scope cl C X.env
 outer:=X.stack
 stack:=X.stack
 ex:=fp
 fn:=fun _=>false
 calm:=X.calm
 pn:=[]
 xe:=fun _ _=>False
def capOk(N:List Str)(XN:List Str)(sc outer:Yz)(caps:List (Option Nat)):Bool:=
 decide (caps.length=N.length)&&((jp caps.length).all fun i=>match caps[i]? with
  | some (some j)=>(match N[i]?,XN[j]? with
   |some x,some y=>x == y&&sc.names.lookup x == some .free&&(outer.names.lookup x == some .cell||outer.names.lookup x == some .free)
   | _,_=>false)
  | _=>true)
def zb2(caps:List (Option Nat))(sg:St):St:=caps.map fun o=>o.bind fun j=>(sg[j]?).join
theorem capOk.len{N XN:List Str}{sc outer:Yz}{caps:List (Option Nat)}(h:capOk N XN sc outer caps=true):caps.length=N.length:=by
 unfold capOk at h;rw[jw] at h;exact of_decide_eq_true h.1
theorem capOk.get{N XN:List Str}{sc outer:Yz}{caps:List (Option Nat)}(h:capOk N XN sc outer caps=true){i j:Nat}(e:caps[i]?=some (some j)) :
  ∃ x,N[i]?=some x/\XN[j]?=some x/\sc.names.lookup x=some .free/\(outer.names.lookup x=some .cell∨outer.names.lookup x=some .free):=by
 unfold capOk at h;rw[jw] at h;have hi:=(j5.mp e).1;have q:=jx.mp h.2 i (jz.mpr hi);rw[e] at q;dsimp only at q;cases h1:N[i]? with
 |none=>rw[h1] at q; cases q
 |some x=>
  cases h2:XN[j]? with
  |none=>rw[h1,h2] at q; cases q
  |some y=>
   rw[h1,h2] at q;dsimp only at q;rw[jw,jw,Q4] at q;obtain⟨⟨q1,q2⟩,q3⟩:=q;have e1:=eq_of_beq q1;subst e1;exact⟨x,rfl,rfl,by simpa using q2,q3.imp (fun z=>by simpa using z) fun z=>by simpa using z⟩
theorem zcy{env:Env}:∀(names:List (Str × YE)) (acc:List (Str × jo)),(∀ x,(x,Qh)∈names->∃ c,env.cells.lookup x=some c)->
  ∃ cl,(forIn (m:=Sem) names acc fun(p:Str × YE) cs=>(if p.2 == Qh then (do let c <-cellOf env p.1; pure (Qz ((p.1,c)::cs))) else pure (Qz cs)))=pure cl /\
   (∀ p∈cl,p∈acc∨env.cells.lookup p.1=some p.2)/\(∀ p∈acc,p∈cl)/\(∀ x,(x,Qh)∈names->∃ c,(x,c)∈cl)
 |[],acc,_=>⟨acc,rfl,fun p hp=>.inl hp,fun p hp=>hp,fun x hx=>nomatch hx⟩
 |(n,k)::r,acc,h=>by
  by_cases hk:k=.free
  ·subst hk;obtain⟨c,hc⟩:=h n jC;obtain⟨cl,e,h1,h2,h3⟩:=zcy r ((n,c)::acc) fun x hx=>h x (jm _ hx);refine⟨cl,?_,fun p hp=>?_,fun p hp=>h2 p (jm _ hp),fun x hx=>?_⟩
   ·rw[WL,Ip_ (by rfl)]
    show (do let c <-cellOf env n; pure (Qz ((n,c)::acc)):Sem _) >>= _=_
    rw[cellOf,hc];exact e
   ·rcases h1 p hp with z |z
    ·rcases jt.mp z with z |z
     ·subst z; exact .inr hc
     ·exact .inl z
    ·exact .inr z
   ·rcases jt.mp hx with z |z
    ·injection z with z1 _;subst z1;exact⟨c,h2 _ jC⟩
    ·exact h3 x z
  ·obtain⟨cl,e,h1,h2,h3⟩:=zcy r acc fun x hx=>h x (jm _ hx);refine⟨cl,?_,h1,h2,fun x hx=>?_⟩
   ·rw[WL,In_ (by simpa using hk)]
    exact e
   ·rcases jt.mp hx with z |z
    ·injection z with _ z2;exact absurd z2.symm hk
    ·exact h3 x z
theorem zch{scope:Yz}{env:Env}(h:∀ x,(x,Qh)∈scope.names->∃ c,env.cells.lookup x=some c) :
  ∃ cl,closureFor scope env=pure cl/\(∀ p∈cl,env.cells.lookup p.1=some p.2)/\(∀ x,(x,Qh)∈scope.names->∃ c,(x,c)∈cl):=by
 obtain⟨cl,e,h1,_,h3⟩:=zcy scope.names [] h;refine⟨cl,?_,fun p hp=>(h1 p hp).resolve_left (by simp),h3⟩
 have e2:closureFor scope env=((forIn (m:=Sem) scope.names ([]:List (Str × jo)) fun(p:Str × YE) cs=>(if p.2 == Qh then (do let c <-cellOf env p.1; pure (Qz ((p.1,c)::cs))) else pure (Qz cs))) >>= fun cs=>pure cs):=rfl
 rw[e2,e];rfl
theorem za8{α β:Type}[BEq α][LawfulBEq α]{x:α}{y:β}:∀ {l:List (α × β)},l.lookup x=some y->(x,y)∈l
 |(a,b)::r,h=>by
  rw[ZC] at h;cases hx:x == a with
  |true=>
   rw[hx] at h;have e:=je h;rw[eq_of_beq hx,e];exact jC
  |false=>rw[hx] at h; exact jm _ (za8 h)
theorem zaz{α β:Type}[BEq α][LawfulBEq α]{x:α}{y:β}:∀ {l:List (α × β)},(x,y)∈l->∃ z,l.lookup x=some z
 |(a,b)::r,h=>by
  rw[ZC];cases hx:x == a with
  |true=>exact⟨b,rfl⟩
  |false=>
   rcases jt.mp h with z |z
   ·injection z with z1 _;rw[z1] at hx;simp at hx
   ·exact zaz z
theorem zfw{scope:Yz}{env:Env}(hcell:∀ y∈scope.names,y.2≠.cell){x:Str}(h:(relabel scope env).names.lookup x=some .cell∨(relabel scope env).names.lookup x=some .free):(x,Qh)∈scope.names:=by
 have key:∀ k,(x,k)∈(relabel scope env).names->k=.cell∨k=.free->(x,Qh)∈scope.names:=fun k hm hk=>by
  obtain⟨⟨n,k'⟩,hn,e⟩:=jH.mp hm;dsimp only at e;split at e
  ·rename_i hc;injection e with e1 e2;subst e1;have:k'=.free:=by
    simp only[jw] at hc;simpa using hc.1.1
   subst this;exact hn
  ·injection e with e1 e2;subst e1; subst e2;rcases hk with z |z
   ·subst z; exact absurd rfl (hcell _ hn)
   ·subst z; exact hn
 rcases h with h |h
 ·exact key _ (za8 h) (.inl rfl)
 ·exact key _ (za8 h) (.inr rfl)
theorem zdg{env:Env}{x:Str}:∀ {names:List (Str × YE)},names.lookup x=some .free->
  (names.map fun(n,k)=>if (k == Qh&&env.scope.kind == .function&&env.kindOf n == some .cell) then (n,Jc) else (n,k)).lookup x=some .cell ∨
  (names.map fun(n,k)=>if (k == Qh&&env.scope.kind == .function&&env.kindOf n == some .cell) then (n,Jc) else (n,k)).lookup x=some .free
 |(n,k)::r,h=>by
  rw[ZC] at h;rw[ju];cases hx:x == n with
  |true=>
   rw[hx] at h;have e:=je h;subst e;dsimp only;split
   ·left; rw[ZC,hx]
   ·right; rw[ZC,hx]
  |false=>
   rw[hx] at h;have ih:=zdg (env:=env) h;dsimp only;split<;>(rw[ZC,hx]; exact ih)
section
variable {N:List Str}{scope:Yz}{cl:List (Str × jo)}{caps:List (Option Nat)}{pc:List (jo × Obj)}{sg:St}{H:Hp}{s:j8}{fp:List jo}{h1:Zq}{tk:Nat}{m0:Str->Option j7}
theorem zdC(hkind:scope.kind=.function)(hcell:∀ y∈scope.names,y.2≠.cell)(I:Inv X pc sg H s)
  (hcl1:∀ p∈cl,X.env.cells.lookup p.1=some p.2) (hcl2:∀ x,(x,Qh)∈scope.names->∃ c,(x,c)∈cl)
  (hf:∀ b∈fp,zia X pc H b) (hlt:∀ b∈fp,b < s.heap.objs.size):(zaK X N scope cl s.heap.objs.size s H fp).Ok where
 mod:=I.ok.mod
 kind:=hkind
 glob:=I.ok.glob
 blt:=I.ok.blt
 above:=jg _
 inj:=fun x y c hx hy=>I.ok.inj x y c (hcl1 (x,c) (za8 hx)) (hcl1 (y,c) (za8 hy))
 has:=fun x hx=>by
  obtain⟨c,hc⟩:=hcl2 x (zfw hcell hx);exact zaz hc
 cab:=fun x c hx=>nomatch hx
 hd:=I.ok.hd
 frames:=I.ok.frames
 stk:=.inl rfl
 exf:=fun b hb=>⟨jB (hlt b hb),fun x c hx=>(hf b hb).2.2.2.2.1 x c (hcl1 (x,c) (za8 hx))⟩
 bs:=I.bs
 bsz:=Qt I.ok.bsz I.sz
 noex:=fun b o e hb=>by
  rcases(hf b hb).2.2.2.1 with z |z
  ·exact I.ok.noex b o e z
  ·exact absurd (jI (jk e) (Qt I.ok.bsz z)) (QL _)
 exfs:=fun b hb z=>by
  rcases jt.mp (I.stkSub b z) with e |e
  ·exact(hf b hb).2.1 e
  ·exact(hf b hb).2.2.1 e
 funs:=I.stack
 frf:=I.stkFree
theorem zi6(hcap:capOk N X.N scope X.env.scope caps=true)(hkind:scope.kind=.function)(hcell:∀ y∈scope.names,y.2≠.cell)(I:Inv X pc sg H s)
  (hcl1:∀ p∈cl,X.env.cells.lookup p.1=some p.2) (hcl2:∀ x,(x,Qh)∈scope.names->∃ c,(x,c)∈cl)
  (hf:∀ b∈fp,zia X pc H b) (hlt:∀ b∈fp,b < s.heap.objs.size) (hk:∀ b u,s.heap.get? b=some u->h1.get? b=some u) (hns:h1.Ns s.heap.objs.size m0) :
  Inv (zaK X N scope cl s.heap.objs.size s H fp) [] (zb2 caps sg) H { s with heap:=h1,toks:=tk } where
 ok:=zdC hkind hcell I hcl1 hcl2 hf hlt
 os:=rfl
 bare:=I.bare
 base:=Un.kept hk
 loc:=by
  refine⟨m0,hns,fun i x v e1 e2 e3=>?_⟩;have e2':∃ j,caps[i]?=some (some j)/\sg[j]?=some (some v):=by
   unfold zb2 at e2;rw[jc] at e2;cases hc:caps[i]? with
   |none=>rw[hc] at e2; simp at e2
   |some o=>
    rw[hc] at e2;cases o with
    |none=>simp at e2
    |some j=>
     refine⟨j,rfl,?_⟩;simp only[jv,j9,Option.some.injEq] at e2;cases hj:sg[j]? with
     |none=>rw[hj] at e2; simp at e2
     |some y=>rw[hj] at e2; simp at e2; rw[e2]
  obtain⟨j,hj1,hj2⟩:=e2';obtain⟨x',n1,n2,f1,f2⟩:=capOk.get hcap hj1;have e1':N[i]?=some x:=e1;rw[e1'] at n1;obtain rfl:x=x':=je n1;obtain⟨m,hn,hm⟩:=I.loc;obtain⟨u,ru,l⟩:=hm j x v n2 hj2 (f2.elim (fun z=>.inr (.inl z)) fun z=>.inr (.inr z));refine⟨u,ru,.inr ⟨zdg f1,?_⟩⟩;rcases l with ⟨k,_⟩ |⟨_,c,hc,hcell⟩
  ·have k':X.env.scope.names.lookup x=some .local:=k;rcases f2 with z |z<;>(rw[k'] at z; cases z)
  ·obtain⟨c',hc'⟩:=hcl2 x (za8 f1);obtain⟨c'',hc''⟩:=zaz hc';have q:=hcl1 (x,c'') (za8 hc'');rw[hc] at q;obtain rfl:c=c'':=je q;obtain⟨o,ho,hd⟩:=hcell;exact⟨c,hc'',o,hk c o ho,hd⟩
 cell:=fun x c hx=>by
  obtain⟨v,o,ho,hd⟩:=I.cell x c (hcl1 (x,c) (za8 hx));exact⟨v,o,hk c o ho,hd⟩
 free:=I.hok.fresh (jg _)
 freeC:=fun x c hx=>I.freeC x c (hcl1 (x,c) (za8 hx))
 pin:=fun p hp=>nomatch hp
 hok:=I.hok.kept hk
 len:=by
  unfold zb2;rw[ja];exact capOk.len hcap
end
def PTs(X:Cx)(ifs:List Q0)(t:TT):Prop:=
 ∀(pc:List (jo × Obj)) (s:j8) (sg:St) (H:Hp) (Q:Bool->Hp->Prop),Inv X pc sg H s->t sg H Q->
  jD (jF X.prog X.w) X.A (forIn ifs true fun c r=>if r=true then do let ok <-isTrue c X.env (eval c X.env); pure (Qz ok) else pure (Qz r)) (TP X pc sg Q) X.xe s
def zpI:TT:=fun _ H Q=>Q true H
theorem zlU{X:Cx}:PTs X [] zpI:=fun _ _ _ H _ I h=>wpAny_tests_nil ⟨H,I,h⟩
theorem zlT{X:Cx}{c:Q0}{t:TT}(h:PT X c t):PTs X [c] t:=fun pc s sg H Q I hq=>wpAny_tests_one (h pc s sg H Q I hq)
section
variable {prog:jG}{A:Q1}{R:Result->j8->Prop}{s:j8}
theorem zfY{elt target iter:Q0}{ifs:List Q0}{scope:Yz}{pos:Pos}{it acc:j7}{env:Env}(I:Nat->j8->Prop)
  (turn:∀ n s,I n s->jD (jF prog w) A (Yc it) (fun r s1=>match r with
   |none=>R (.ok .next) s1
   | some v=>jD (jF prog w) A (gd target it v) (fun _ s1'=>jD (jF prog w) A (Nv target env v) (fun _ s2=>
     jD (jF prog w) A (forIn ifs true fun c r=>if r=true then do let ok <-isTrue c env (eval c env); pure (Qz ok) else pure (Qz r)) (fun ok s3=>
      if ok=true then jD (jF prog w) A (eval elt env) (fun x s4=>
       jD (jF prog w) A (call (.builtin "list.append") [acc,x]) (fun _ s5=>∃ m,m < n/\I m s5) (fun _ _=>False) s4) (fun _ _=>False) s3
      else ∃ m,m < n/\I m s3) (fun _ _=>False) s2) (fun _ _=>False) s1') (fun _ _=>False) s1) (fun _ _=>False) s)
  (n:Nat) (h:I n s) :
  YC (jF prog w) A (.compLoop (.ListComp elt [⟨target,iter,ifs,0⟩] scope pos) 0 it acc env) R s:=by
 refine codeAny_loop rfl I (fun n s hI=>?_) n h;show jD _ A ((compTurn (.ListComp elt [⟨target,iter,ifs,0⟩] scope pos) 0 it acc env).onRaise (fun x=>do noteFrame x env; theTreesLotGoes x)) _ _ s
 refine wpAny_noted ?_;rw[compTurn_list];refine j4 (YB (j4 (Z0 (turn n s hI) (fun r s1 h1=>?_) fun _ _ h'=>h'.elim)));cases r with
 |none=>exact jb h1
 |some v=>
  refine j4 (Z0 h1 (fun _ s1' h1'=>?_) fun _ _ h'=>h'.elim);refine j4 (Z0 h1' (fun _ s2 h2=>j4 (Z0 h2 (fun ok s3 h3=>?_) fun _ _ h'=>h'.elim)) fun _ _ h'=>h'.elim);cases ok with
  |false=>exact jb ⟨rfl,h3⟩
  |true=>
   exact j4 (j4 (Z0 h3 (fun x s4 h4=>j4 (Z0 h4 (fun _ s5 h5=>jb (jb ⟨rfl,h5⟩)) fun _ _ h'=>h'.elim)) fun _ _ h'=>h'.elim))
end
def zfb(caps:List (Option Nat))(g:TG):Prop:=∀(x:V) (sg:St) (H:Hp) (Q:St->Hp->Prop),g x sg H Q->g x sg H fun s2 H2=>Q s2 H2/\∀(j k:Nat),caps[j]?=some (some k)->s2[j]?=sg[j]?
def zhE(caps:List (Option Nat))(g:TGs):Prop:=∀(x:List V) (sg:St) (H:Hp) (Q:St->Hp->Prop),g x sg H Q->g x sg H fun s2 H2=>Q s2 H2/\∀(j k:Nat),caps[j]?=some (some k)->s2[j]?=sg[j]?
theorem zbg{caps:List (Option Nat)}{i:Nat}(h:caps[i]?=some none:=by rfl):zfb caps (zbo i):=fun x sg H Q q=>⟨q,fun j k e=>by
 have:i≠j:=fun z=>by subst z; rw[h] at e; cases e
 exact jf this⟩
theorem zoc{caps:List (Option Nat)}:zhE caps zmt:=fun x sg H Q ⟨e,q⟩=>⟨e,q,fun _ _ _=>rfl⟩
theorem zj6{caps:List (Option Nat)}{t:TG}{u:TGs}(mt:∀ x sg H (Q Q':St->Hp->Prop),(∀ a b,Q a b->Q' a b)->t x sg H Q->t x sg H Q')(mu:∀ x sg H (Q Q':St->Hp->Prop),(∀ a b,Q a b->Q' a b)->u x sg H Q->u x sg H Q')
  (h:zfb caps t) (h2:zhE caps u):zhE caps (zfQ t u):=fun x sg H Q ⟨v,r,e,q⟩=>
 ⟨v,r,e,mt _ _ _ _ _ (fun s2 H2 ⟨q2,k2⟩=>mu _ _ _ _ _ (fun s3 H3 ⟨q3,k3⟩=>⟨q3,fun j k e=>(k3 j k e).trans (k2 j k e)⟩) (h2 _ _ _ _ q2)) (h _ _ _ _ q)⟩
theorem zob{caps:List (Option Nat)}{K:jd}{n:Nat}{t:TGs}(h:zhE caps t):zfb caps (zjl K n t):=fun x sg H Q ⟨a,xs,e,hq,hl,q⟩=>⟨a,xs,e,hq,hl,h _ _ _ _ q⟩
theorem zct{i:Nat}:∀ x sg H (Q Q':St->Hp->Prop),(∀ a b,Q a b->Q' a b)->zbo i x sg H Q->zbo i x sg H Q':=fun _ _ _ _ _ h q=>h _ _ q
theorem zfO:∀ x sg H (Q Q':St->Hp->Prop),(∀ a b,Q a b->Q' a b)->zmt x sg H Q->zmt x sg H Q':=fun _ _ _ _ _ h q=>⟨q.1,h _ _ q.2⟩
theorem zi3{t:TG}{u:TGs}(mt:∀ x sg H (Q Q':St->Hp->Prop),(∀ a b,Q a b->Q' a b)->t x sg H Q->t x sg H Q')(mu:∀ x sg H (Q Q':St->Hp->Prop),(∀ a b,Q a b->Q' a b)->u x sg H Q->u x sg H Q') :
  ∀ x sg H (Q Q':St->Hp->Prop),(∀ a b,Q a b->Q' a b)->zfQ t u x sg H Q->zfQ t u x sg H Q':=fun _ _ _ _ _ h ⟨v,r,e,q⟩=>⟨v,r,e,mt _ _ _ _ _ (fun _ _ z=>mu _ _ _ _ _ h z) q⟩
theorem zmi{caps:List (Option Nat)}{K:jd}{i j:Nat}(h:caps[i]?=some none:=by rfl)(h2:caps[j]?=some none:=by rfl):zfb caps (zjl K 2 (zfQ (zbo i) (zfQ (zbo j) zmt))):=
 zob (zj6 zct (zi3 zct zfO) (zbg h) (zj6 zct zfO (zbg h2) zoc))
def lcW(J:It)(g:TG)(tt:TT)(te:TE)(sg':St)(Q:VK)(H1:Hp):Prop:=
 ∀ D,H1 D=none->∃ W:Nat->Nat->Hp->Prop,(∃ m,W 0 m (upd H1 D (.lst [])))/\∀ i m H,W i m H->
  (J.stop i H/\Q (.ref D) H)∨(J.go i H/\∀ x H',J.yld i H x H'->g x sg' H' fun s2 H2=>tt s2 H2 fun b H3=>if b=true then
   te s2 H3 fun y H4=>∃ xs,H4 D=some (.lst xs)/\xs.length < jq/\∃ m',m' < m/\W (i+1) m' (upd H4 D (.lst (xs++[y])))
   else ∃ m',m' < m/\W (i+1) m' H3)
section
variable {N:List Str}{scope:Yz}{caps:List (Option Nat)}{tg elt iter:Q0}{ifs:List Q0}{wi:TI}{g:TG}{tt:TT}{te:TE}
theorem zhd{pc:List (jo × Obj)}{sg:St}{H:Hp}{s2:j8}{cl:List (Str × jo)}{it:jo}{fp:List jo}{tn:Nat->Zq->Prop}{J:It}{Q:VK}{E:j7->j8->Prop}{RR:j7->jo->Result->j8->Prop}
  (hc:X.calm=true) (hcap:capOk N X.N scope X.env.scope caps=true) (hkind:scope.kind=.function) (hcell:∀ y∈scope.names,y.2≠.cell)
  (hg:∀ cl C s0 H0 fp,PG (zaK X N scope cl C s0 H0 fp) tg g) (hgk:zfb caps g) (ht:∀ cl C s0 H0 fp,PTs (zaK X N scope cl C s0 H0 fp) ifs tt) (he:∀ cl C s0 H0 fp,PE (zaK X N scope cl C s0 H0 fp) elt te)
  (hcl1:∀ p∈cl,X.env.cells.lookup p.1=some p.2) (hcl2:∀ x,(x,Qh)∈scope.names->∃ c,(x,c)∈cl)
  (I2:Inv X pc sg H s2) (T:Turn X.prog X.w X.K tg J fp it tn) (st2:tn 0 s2.heap) (f2:∀ b∈fp,zia X pc H b) (hw:lcW J g tt te (zb2 caps sg) Q H)
  (hRR:∀(D C:jo) (s':j8) (H':Hp) (m':Str->Option j7),Inv X pc sg H' s'->s'.heap.Ns C m'->H' C=none->s2.heap.objs.size<=C->(∀ x c,X.env.cells.lookup x=some c->c≠C)->(∀ p∈X.pn++pc,p.1≠C)->C≠X.env.locals->Q (.ref D) H'->RR (.ref D) C (.ok .next) s') :
  jD (jF X.prog X.w) X.A (newList []) (fun acc s3=>jD (jF X.prog X.w) X.A (newFunctionEnv scope X.env.globals cl [] X.env.qual none .none (some X.env)) (fun cenv s4=>
   YC (jF X.prog X.w) X.A (.compStart (.ListComp elt [⟨tg,iter,ifs,0⟩] scope pos) 0 (.ref it) acc { cenv with scope:=relabel scope X.env }) (RR acc cenv.locals) s4) E s3) E s2:=by
 refine Z1 ?_;have I3:Inv X pc sg (upd H s2.heap.objs.size (.lst [])) { s2 with heap:=s2.heap.push { cls:=.type "list",dict:=none,data:=.seq ([]:List j7).toArray } }:=
  I2.laid (t':=s2.toks) (fun b u e=>j6 _ e) (jg _) ⟨Zx _,[],0,.nil,jn _ rfl⟩
 have hfree:=I2.hok.fresh (jg _);obtain⟨W,⟨mm,w0⟩,turn⟩:=hw s2.heap.objs.size hfree;generalize hD:s2.heap.objs.size=D at *;generalize hs3:({ s2 with heap:=s2.heap.push { cls:=.type "list",dict:=none,data:=.seq ([]:List j7).toArray } }:j8)=s3 at *;have hlt3:∀ b o,s2.heap.get? b=some o->s3.heap.get? b=some o:=fun b o e=>by rw[<-hs3]; exact j6 _ e
 have hsz3:s3.heap.objs.size=D+1:=by rw[<-hs3,<-hD]; exact Qp ..
 have fpD:∀ b∈fp,b < D:=fun b hb=>by
  obtain⟨o,ho,_⟩:=T.obj 0 _ st2 b hb;rw[<-hD]; exact jk ho
 have f3:∀ b∈fp,zia X pc (upd H D (.lst [])) b:=fun b hb=>⟨by rw[za7 (jB (fpD b hb))]; exact(f2 b hb).1,(f2 b hb).2⟩
 have lt3:∀ b∈fp,b < s3.heap.objs.size:=fun b hb=>by rw[hsz3]; exact Qv (fpD b hb)
 have st3:=T.keep 0 _ _ st2 fun b _ o e=>hlt3 b o e;refine wpAny_newFunctionEnv hcell (by intro y hy; simp at hy) (fun h1 hns1 hsb1=>?_) hkind
 try dsimp only at hns1 hsb1 ⊢
 have keep1:∀ b u,s3.heap.get? b=some u->h1.get? b=some u:=fun b u e=>hsb1.extBut b u (jB (jk e)) (j6 _ e);have I4:=zi6 (N:=N) (tk:=s3.toks+([]:List (Str × j7)).length) hcap hkind hcell I3 hcl1 hcl2 f3 lt3 keep1 hns1;have loop:YC (jF X.prog X.w) X.A (.compLoop (.ListComp elt [⟨tg,iter,ifs,0⟩] scope pos) 0 (.ref it) (.ref D) (compEnvC scope cl s3.heap.objs.size X.env)) (RR (.ref D) s3.heap.objs.size) { s3 with heap:=h1,toks:=s3.toks+([]:List (Str × j7)).length }:=by
  generalize hX':zaK X N scope cl s3.heap.objs.size s3 (upd H D (.lst [])) fp=X' at I4;have eP:X'.prog=X.prog:=by rw[<-hX']; rfl
  have ew:X'.w=X.w:=by rw[<-hX']; rfl
  have eK:X'.K=X.K:=by rw[<-hX']; rfl
  have eA:X'.A=X.A:=by rw[<-hX']; rfl
  have eE:X'.env=compEnvC scope cl s3.heap.objs.size X.env:=by rw[<-hX']; rfl
  have ex:X'.xe=fun _ _=>False:=by rw[<-hX']; rfl
  have ecalm:X'.calm=true:=by rw[<-hX']; exact hc
  have hg':PG X' tg g:=by rw[<-hX']; exact hg _ _ _ _ _
  have ht':PTs X' ifs tt:=by rw[<-hX']; exact ht _ _ _ _ _
  have he':PE X' elt te:=by rw[<-hX']; exact he _ _ _ _ _
  have stat:∀ {H':Hp},(∀ b∈fp,H' b=none)->∀ b∈fp,zia X' [] H' b:=fun {H'} hn b hb=>by
   refine⟨hn b hb,?_,?_,?_,?_,fun p hp=>?_⟩
   ·rw[<-hX']; exact jB (lt3 b hb)
   ·rw[<-hX'];exact fun z=>(zdC (N:=N) hkind hcell I3 hcl1 hcl2 f3 lt3).exfs b hb z
   ·rw[<-hX']; exact .inl hb
   ·rw[<-hX'];exact((zdC (N:=N) hkind hcell I3 hcl1 hcl2 f3 lt3).exf b hb).2
   ·rw[<-hX'] at hp; cases hp
  have out:∀ {sg':St} {H':Hp} {s':j8},Inv X' [] sg' H' s'->Inv X pc sg H' s':=fun {sg' H' s'} I'=>by
   have hb:=I'.base;rw[<-hX'] at hb;have ho:=I'.os;rw[<-hX'] at ho;have hk:=I'.hok;rw[eP,ew] at hk;exact I3.call' (ch:=fp) ho hb hk I'.bare fun b hb=>⟨(f3 b hb).2.2.2.1,(f3 b hb).2.1,(f3 b hb).2.2.2.2.1,(f3 b hb).2.2.2.2.2⟩
  rw[<-eE,<-eA,<-eP,<-ew];refine zfY (fun n s'=>∃ i H',Inv X' [] (zb2 caps sg) H' s'/\tn i s'.heap/\(∀ b∈fp,H' b=none)/\W i n H') ?_ mm
   ⟨0,_,I4,T.keep 0 _ _ st3 fun b _ o e=>keep1 b o e,fun b hb=>(f3 b hb).1,w0⟩
  rintro n s5 ⟨i,H5,I5,st5,fr5,w5⟩;rcases turn i n H5 w5 with ⟨stop,q⟩ |⟨go,step⟩
  ·have z:=T.done X' eP ew eK ecalm i [] s5 _ H5 (fun _ _=>False) I5 (stat fr5) st5 stop;rw[<-eP,<-ew] at z;refine thn z fun r s6 h_=>?_; obtain⟨hr,I6⟩:=h_;subst hr;obtain⟨m',hn',_⟩:=I6.loc;have hfr:=I6.free;rw[eE] at hn' hfr;refine hRR D s3.heap.objs.size s6 H5 m' (out I6) hn' hfr (by rw[hsz3]; exact Qk _) (fun x c e z=>?_) (fun p hp z=>?_) (fun z=>?_) q
   ·obtain⟨v,o,ho,_⟩:=I3.cell x c e;rw[z] at ho;exact absurd (jk ho) (QL _)
   ·have:=jk (I3.pin p hp).1;rw[z] at this;exact absurd this (QL _)
   ·have:=I3.lt;rw[<-z] at this;exact absurd this (QL _)
  ·have z:=T.item X' eP ew eK ecalm i [] s5 _ H5 (fun _ _=>False) I5 (stat fr5) st5 go;rw[<-eP,<-ew] at z;refine thn z fun r s6 h_=>?_; obtain⟨u,hr,h6⟩:=h_;subst hr;dsimp only;refine thn h6 fun _ s7 h_=>?_; obtain⟨x,H7,I7,r7,y7,st7,fr7⟩:=h_;have I7':=I7.pinned (stat fr7) (T.obj _ _ st7);have q7:=step x H7 y7;have a7:=hg' _ s7 (zb2 caps sg) H7 x u _ I7' r7 (hgk _ _ _ _ q7);rw[ex] at a7;refine thn a7 fun _ s8 h_=>?_; obtain⟨sg8,H8,I8,q8,k8⟩:=h_;have k8':∀(j:Nat) (v:V),(zb2 caps sg)[j]?=some (some v)->sg8[j]?=some (some v):=fun j v e=>by
    have e':=e;unfold zb2 at e';rw[jc] at e';cases hc:caps[j]? with
    |none=>rw[hc] at e'; simp at e'
    |some o=>
     cases o with
     |none=>rw[hc] at e'; simp at e'
     |some k=>rw[k8 j k hc]; exact e
   have a8:=ht' _ s8 sg8 H8 _ I8 q8;rw[ex] at a8;refine thn a8 fun ok s9 h_=>?_; obtain⟨H9,I9,q9⟩:=h_;have Jl:∀ {sg':St} {H':Hp} {s':j8} {m':Nat},Inv X' ([]++zfA fp s7.heap) sg' H' s'->(∀(j:Nat) (v:V),(zb2 caps sg)[j]?=some (some v)->sg'[j]?=some (some v))->m' < n->W (i+1) m' H'->
     ∃ m,m < n/\∃ i H',Inv X' [] (zb2 caps sg) H' s'/\tn i s'.heap/\(∀ b∈fp,H' b=none)/\W i m H':=fun {sg' H' s' m'} I' hs hm hw=>by
    refine⟨m',hm,i+1,H',I'.unpinned.forget (I4.len.trans I'.len.symm) hs,T.keep _ _ _ st7 fun b hb o e=>(I'.pin (b,o) (jJ _ (jJ _ (zbE hb e)))).1,fun b hb=>?_,hw⟩;obtain⟨o,e,d⟩:=T.obj _ _ st7 b hb;exact(I'.pin (b,o) (jJ _ (jJ _ (zbE hb e)))).2.1
   cases ok with
   |false=>
    obtain⟨m',hm,w9⟩:=q9;exact Jl I9 k8' hm w9
   |true=>
    have a9:=he' _ s9 sg8 H9 _ I9 q9;rw[ex] at a9;refine thn a9 fun v s10 h_=>?_; obtain⟨y,H10,I10,r10,xs,hD',hz,m',hm,w10⟩:=h_;have a10:=zb9 (X:=X') _ s10 sg8 H10 (.ref D) [y] (.ref D) [v] (fun _ H'=>W (i+1) m' H') I10 rfl (.cons r10 .nil) ⟨D,xs,y,rfl,rfl,hD',hz,w10⟩;rw[ex] at a10;exact thn a10 fun _ s11 ⟨_,H11,I11,_,w11⟩=>Jl I11 k8' hm w11
 exact codeAny_compStart_list loop (T.self _ _ _ _ _ (T.keep 0 _ _ st3 fun b _ o e=>keep1 b o e) loop)
def tLC(caps:List (Option Nat))(wi:TI)(g:TG)(tt:TT)(te:TE):TE:=fun sg H Q=>wi sg H fun J H1=>lcW J g tt te (zb2 caps sg) Q H1
theorem zhn{X:Cx}{scope:Yz}(ok:X.Ok)(hfr:scope.names.all (fun p=>p.2 != .free||(X.env.scope.names.lookup p.1 == some .cell||X.env.scope.names.lookup p.1 == some .free))=true) :
  ∀ x,(x,Qh)∈scope.names->∃ c,X.env.cells.lookup x=some c:=fun x hx=>by
 have q:=jx.mp hfr (x,.free) hx;simp only[bne_self_eq_false,Bool.false_or,Q4] at q;exact ok.has x (q.imp (fun z=>eq_of_beq z) fun z=>eq_of_beq z)
theorem zq1(hc:X.calm=true)(hi:PI X tg iter wi)(hg:∀ cl C s0 H0 fp,PG (zaK X N scope cl C s0 H0 fp) tg g)(hgk:zfb caps g)(ht:∀ cl C s0 H0 fp,PTs (zaK X N scope cl C s0 H0 fp) ifs tt)(he:∀ cl C s0 H0 fp,PE (zaK X N scope cl C s0 H0 fp) elt te)
  (hcap:capOk N X.N scope X.env.scope caps=true:=by rfl) (hkind:scope.kind=.function:=by rfl) (hcell:scope.names.all (fun p=>p.2 != .cell)=true:=by rfl)
  (hnames:scope.names.all (fun p=>p.2 != .local||scope.names.lookup p.1 == some .local)=true:=by rfl)
  (hfr:scope.names.all (fun p=>p.2 != .free||(X.env.scope.names.lookup p.1 == some .cell||X.env.scope.names.lookup p.1 == some .free))=true:=by rfl)
  (hs:∀ x,Zk iter X.env x=pure x:=by intro _; rfl):PE X (.ListComp elt [⟨tg,iter,ifs,0⟩] scope pos) (tLC caps wi g tt te):=by
 intro pc s sg H Q I h;have hcell':∀ y∈scope.names,y.2≠.cell:=fun y hy=>by simpa using jx.mp hcell y hy
 have hnames':∀ x∈scope.names,x.2=.local->scope.names.lookup x.1=some .local:=fun x hx e=>by
  have q:=jx.mp hnames x hx;rw[e] at q;simpa using q
 obtain⟨cl,hclos,hcl1,hcl2⟩:=zch (scope:=scope) (env:=X.env) (zhn I.ok hfr);rw[eval_ListComp];refine Yu (use:=none) rfl hs hclos hkind hnames' (thn (hi pc s sg H _ I h) fun v s1 h1=>thn h1 fun itv s2 h2=>?_);obtain⟨it,fp,tn,J,H2,e,I2,T,st2,f2,hw⟩:=h2;subst e;refine zhd (RR:=fun acc C=>compPost (jF X.prog X.w) X.A X.xe none (EP X pc sg Q) acc C) hc hcap hkind hcell' hg hgk ht he hcl1 hcl2 I2 T st2 f2 hw ?_;intro D C s' H' m' I' hn hfree hCs hCc hCp hCl q;refine⟨m',hn,fun h' hs'=>⟨.ref D,H',?_,rfl,q⟩⟩;exact I'.turned (t':=s'.toks) (it:=C) (fun b o hb e=>(hs'.2 b hb).trans e) hfree hCl (.inr (Qt I2.sz hCs)) hCc hCp
theorem zkl{i:Nat}{y:Str}{py spos:Pos}(hN:X.N.Nodup)(hiy:X.N[i]?=some y)(hy:X.env.scope.names.lookup y=some .local)(hc:X.calm=true)(hi:PI X tg iter wi)(hg:∀ cl C s0 H0 fp,PG (zaK X N scope cl C s0 H0 fp) tg g)(hgk:zfb caps g)(ht:∀ cl C s0 H0 fp,PTs (zaK X N scope cl C s0 H0 fp) ifs tt)(he:∀ cl C s0 H0 fp,PE (zaK X N scope cl C s0 H0 fp) elt te)
  (hsw:N4 (.ListComp elt [⟨tg,iter,ifs,0⟩] scope pos) (some (.Name y py)) spos.line X.env=pure true:=by rfl)
  (hcap:capOk N X.N scope X.env.scope caps=true:=by rfl) (hkind:scope.kind=.function:=by rfl) (hcell:scope.names.all (fun p=>p.2 != .cell)=true:=by rfl)
  (hnames:scope.names.all (fun p=>p.2 != .local||scope.names.lookup p.1 == some .local)=true:=by rfl)
  (hfr:scope.names.all (fun p=>p.2 != .free||(X.env.scope.names.lookup p.1 == some .cell||X.env.scope.names.lookup p.1 == some .free))=true:=by rfl)
  (hs:∀ x,Zk iter X.env x=pure x:=by intro _; rfl):PS X (.Assign [.Name y py] (.ListComp elt [⟨tg,iter,ifs,0⟩] scope pos) spos) (zgd (tLC caps wi g tt te) (zbo i)):=by
 intro pc s sg H D0 I h;have hcell':∀ y∈scope.names,y.2≠.cell:=fun y hy=>by simpa using jx.mp hcell y hy
 have hnames':∀ x∈scope.names,x.2=.local->scope.names.lookup x.1=some .local:=fun x hx e=>by
  have q:=jx.mp hnames x hx;rw[e] at q;simpa using q
 obtain⟨cl,hclos,hcl1,hcl2⟩:=zch (scope:=scope) (env:=X.env) (zhn I.ok hfr);rw[exec_Assign_Name_used _ _ _ _ hsw];refine j4 (YB (j4 ?_))
 refine j4 (Z0 (Yu (use:=some (Nv (.Name y py) X.env)) (Q:=fun _ s'=>SP X pc D0 .next s') rfl hs hclos hkind hnames'
  (thn (hi pc s sg H _ I h) fun v s1 h1=>thn h1 fun itv s2 h2=>?_)) (fun _ s' hq=>jb (jb hq)) fun _ _ e=>e)
 obtain⟨it,fp,tn,J,H2,e,I2,T,st2,f2,hw⟩:=h2;subst e;refine zhd (Q:=fun x H1=>zbo i x sg H1 D0.nx) (RR:=fun acc C=>compPost (jF X.prog X.w) X.A X.xe (some (Nv (.Name y py) X.env)) (fun _ s'=>SP X pc D0 .next s') acc C) hc hcap hkind hcell' hg hgk ht he hcl1 hcl2 I2 T st2 f2 hw ?_
 intro D C s' H' m' I' hn hfree hCs hCc hCp hCl q;refine W2 (zfj I' hN hiy (.inl hy) (v:=.ref D) rfl (fun s3 I3 ⟨a,hs3,ha⟩=>?_) (.inr hy));have hCa:C≠a:=by
  rcases ha with z |z
  ·rw[z]; exact hCl
  ·exact fun z'=>hCc y a z z'.symm
 refine⟨m',hn.sameBut hs3 hCa,fun h' hs'=>?_⟩;exact⟨_,H',I3.turned (t':=s3.toks) (it:=C) (fun b o hb e=>(hs'.2 b hb).trans e) hfree hCl (.inr (Qt I2.sz hCs)) hCc hCp,q⟩
end
section
def zrB:V->Option Int->Option Int->Hp->VK->Prop:=fun x lo hi H Q=>∃ z,x=.str z/\z.length<=jq/\Q (.str (NP z lo hi)) H
theorem znl:SlR X zrB:=by
 intro pc s sg H x v vl vu lo hi sl Q I rx hs pl pu h;obtain⟨z,rfl,hz,q⟩:=h;obtain⟨t,rfl⟩:=rx;refine⟨"str",_,F.slot_str_getitem.lookup,J5 _ _ _,?_⟩;have fin:∀ t' k,EP X pc sg Q (.str (NP z lo hi) t') { s with toks:=k }:=fun t' k=>⟨.str _,H,I.tok _,⟨_,rfl⟩,q⟩;have le:=Qt (Txt.slice_le z lo hi) hz;cases pl with
 |none=>
  cases pu with
  |none=>exact Zy (l:=none) (u:=none) (st:=none) hs rfl (Y2 ⟨le,fin⟩)
  |int j uj=>exact Zy (l:=none) (u:=some (j,uj)) (st:=none) hs rfl (Y2 ⟨le,fin⟩)
 |int i ui=>
  cases pu with
  |none=>exact Zy (l:=some (i,ui)) (u:=none) (st:=none) hs rfl (Y2 ⟨le,fin⟩)
  |int j uj=>exact Zy (l:=some (i,ui)) (u:=some (j,uj)) (st:=none) hs rfl (Y2 ⟨le,fin⟩)
end
section
variable {K:jd}
theorem zm5{es:List Q0}{k:Nat}{t:TGs}{n:Nat}{pos:Pos}(hK:X.K=K)(hc:X.calm=true)(h:PGs X es t)
  (hn:(Q5 es X.env).length=n:=by rfl) (hst:(Q5 es X.env).findIdx? (·.1)=none:=by rfl):PG X (.Tuple es k pos) (zjl K n t):=by subst hK; exact zkT hc h hn hst
end
theorem zmJ:QZ "list"=some (.type "list"):=by decide +kernel
theorem zg7:QZ "enumerate"=some (.type "enumerate"):=by decide +kernel
section
variable {prog:jG}{A:Q1}{E:j7->j8->Prop}
theorem zfT{it t:jo}{items:Array j7}(hne:t≠it):∀(n i:Nat) (s:j8) (Q:List j7->j8->Prop),s.heap.IsListIter it t i->s.heap.IsList t items->i+n<=items.size->
  (∀ h':Zq,h'.IsListIter it t (i+n)->Z7 it s.heap h'->Q ((items.toList.drop i).take n) { s with heap:=h' })->jD (jF prog w) A (draw (.ref it) n) Q E s
 |0,i,s,Q,hit,_,_,hQ=>by
  exact jb (by simpa using hQ s.heap hit (Wa ..))
 |n+1,i,s,Q,hit,ht,hle,hQ=>by
  have hlt:i < items.size:=by lia
  refine j4 (YU hit ht (x:=items[i]) (by simp[hlt]) fun h1 hit1 hs1=>?_)
  refine j4 (jW (zfT hne n (i+1) _ _ hit1 (ht.extBut hs1.extBut hne) (by lia) fun h2 hit2 hs2=>jb ?_))
  have hd:items.toList.drop i=items[i]::items.toList.drop (i+1):=by simp[Ze,hlt]
  have:=hQ h2 (by rw[show i+(n+1)=i+1+n by lia]; exact hit2) (hs1.trans hs2)
  rwa [hd,List.take_succ_cons] at this
theorem zcI{s:j8}{t:jo}{items:Array j7}{Q:List j7->j8->Prop}(hh:A.handled=none)(ht:s.heap.IsList t items)
  (hQ:∀ h',YG s.heap.objs.size s.heap h'->Q items.toList { s with heap:=h' }):jD (jF prog w) A (unpackItems (.ref t) items.size none) Q E s:=by
 have hlt:t≠s.heap.objs.size:=by obtain⟨o,ho,_⟩:=ht; exact jB (jk ho)
 unfold unpackItems;refine j4 ?_
 ·unfold notIterableAtAll;refine j4 (N8 ht.typeIs slot_list_iter.lookup ?_);refine jb ?_;simp only[Za,if_false];refine j4 (jW (gA ht ?_));refine j4 (jW (zfT hlt items.size 0 _ _ ⟨_,jn _ rfl,rfl,rfl⟩ (ht.push _) (by lia) fun h1 hit1 hs1=>?_))
  have hall:List.take items.size (List.drop 0 items.toList)=items.toList:=by
   rw[Yk]; exact Qn (by simp)
  rw[hall];rw[In_ (by simp)]
  have ht1:=(ht.push _).extBut hs1.extBut hlt;refine j4 (jW (N5 hh hit1 ht1 (by simp) fun h2 he2=>?_))
  simp only[Option.isSome_none,Za,if_false];refine jb (hQ h2 fun b o hb e=>he2 b o hb (hs1.extBut b o hb (j6 _ e)))
theorem zcz{s:j8}{env:Env}{elts:List Q0}{x1}{pos:Pos}{t:jo}{items:Array j7}{Q:Unit->j8->Prop}(hh:A.handled=none)(ht:s.heap.IsList t items)
  (hn:(Q5 elts env).length=items.size) (hstar:(Q5 elts env).findIdx? (·.1)=none)
  (h:∀ h',YG s.heap.objs.size s.heap h'->jD (jF prog w) A (assignInOrder ((Q5 elts env).map (·.2)) items.toList) Q E { s with heap:=h' }) :
  jD (jF prog w) A (Nv (.Tuple elts x1 pos) env (.ref t)) Q E s:=by
 rw[PyProof.Rows.assign_Tuple];refine j4 (YB ?_);unfold unpack;rw[hn,hstar];exact j4 (jW (zcI hh ht fun h' hx=>h h' hx))
end
section
def zqi(K:jd)(n:Nat)(t:TGs):TG:=fun v sg H Q=>∃ a xs,v=.ref a/\SqL K H a xs/\xs.length=n/\t xs sg H Q
theorem znP{es:List Q0}{k:Nat}{t:TGs}{n:Nat}(hc:X.calm=true)(h:PGs X es t)
  (hn:(Q5 es X.env).length=n:=by rfl) (hst:(Q5 es X.env).findIdx? (·.1)=none:=by rfl):PG X (.Tuple es k pos) (zqi X.K n t):=by
 intro pc s sg H v u Q I r hw;obtain⟨a,xs,e1,hq,hl,hw⟩:=hw;subst e1;cases r;obtain⟨its,rv,ht,hz⟩:=I.list hq;refine zcz (I.ok.hd hc) ht.isList (by simp[hn,<-hl,rv.length]) hst fun h' hx=>?_
 have I1:Inv X pc sg H { s with heap:=h' }:=I.kept (t':=s.toks) fun b o e=>hx b o (jB (jk e)) e;exact h pc _ sg H xs _ Q I1 (by simpa using rv) hw
def Ite(K:jd)(a:jo):It:=
 ⟨fun i H=>∃ xs x,SqL K H a xs/\xs[i]?=some x,fun i H v H'=>∃ p x,v=.ref p/\H p=none/\H'=upd H p (.tup [.int i,x])/\∀ xs,SqL K H a xs->xs[i]?=some x,fun i H=>∃ xs,SqL K H a xs/\xs.length<=i⟩
theorem zij{P:jG}{w:Q7}{K:jd}{elts:List Q0}{x1:Nat}{tp:Pos}(a it e:jo)(hne:e≠it) :
  Turn P w K (.Tuple elts x1 tp) (Ite K a) [e,it] e (fun i h=>(∃ old,IsEnum h e it i old)/\h.IsListIter it a i) where
 mem:=by simp
 obj:=fun i h st b hb=>by
  obtain⟨⟨old,he⟩,o,ho,hc,hd⟩:=st;rcases jt.mp hb with z |z
  ·subst z
   exact⟨_,he,fun v z=>by
    have z':=z
    cases z'⟩
  ·have z':b=it:=by simpa using z
   subst z';exact⟨o,ho,fun v z=>by rw[hd] at z; cases z⟩
 keep:=fun i h h' st k=>by
  obtain⟨⟨old,he⟩,hi⟩:=st;exact⟨⟨old,k e (by simp) _ he⟩,hi.at fun o q=>k it (by simp) o q⟩
 item:=by
  intro X hP hw hK hc i pc s sg H E I hf st hg;subst hP hw hK;obtain⟨⟨old,he⟩,hit⟩:=st;obtain⟨xs,x,hq,hx⟩:=hg;obtain⟨its,rv,p,hz⟩:=I.list hq;obtain⟨u,hu,ru⟩:=rv.get hx;obtain⟨f0,f1,f2,f3,f4,f5⟩:=hf e (by simp)
  obtain⟨g0,g1,g2,g3,g4,g5⟩:=hf it (by simp)
  refine wpAny_pyNext_enum_item he hit p.isList (x:=u) (by simpa using hu) hne fun h1 eo hit1 htup hsz keep1=>?_
  refine⟨_,rfl,wpAny_letOwnedTupleGo_enum eo fun h2 en sb=>?_⟩;have hn:=I.hok.fresh (jg _);have elt:=jk he;have keep2:∀ b o,b≠e->b≠it->s.heap.get? b=some o->h2.get? b=some o:=fun b o n1 n2 q=>(sb.2 b n1).trans (keep1 b o n1 n2 q);have tup2:h2.get? s.heap.objs.size=some { cls:=.type "tuple",data:=.seq #[.int i s.toks,u] }:=(sb.2 _ (Z8 elt)).trans htup;have nH:∀ b v,H b=some v->b≠e/\b≠it/\b≠s.heap.objs.size:=fun b v q=>⟨(fun z=>by rw[z,f0] at q; cases q),(fun z=>by rw[z,g0] at q; cases q),za3 q hn⟩
  have I2:Inv X pc sg (upd H s.heap.objs.size (.tup [.int i,x])) { s with heap:=h2,toks:=s.toks+1 }:=by
   refine I.step (g':=s.gens) (d':=s.drawn) (ch:=[e,it]) (fun b hb=>?_) (fun b o _ _ hc q _=>keep2 b o (fun z=>hc (by simp[z])) (fun z=>hc (by simp[z])) q)
    (fun b o _ _ hc q _=>⟨o.slots,keep2 b o (fun z=>hc (by simp[z])) (fun z=>hc (by simp[z])) q⟩) (fun b o hc q n=>by rw[za7 (jB (jk q))]; exact n)
    (fun b o hc q=>⟨o,keep2 b o (fun z=>hc (by simp[z])) (fun z=>hc (by simp[z])) q⟩) (fun b ys q=>by rw[za7 (nH b _ q).2.2]; exact q) (fun b o v q=>by rw[za7 (nH b _ q).2.2]; exact q)
    (fun b ps q=>⟨#[],by rw[za7 (nH b _ q).2.2,q]; simp⟩) (fun m hm=>?_) (fun b v q=>?_) I.bare
   ·rcases jt.mp hb with z |z
    ·subst z; exact⟨f3,f1,f4,f5⟩
    ·have z':b=it:=by simpa using z
     subst z'; exact⟨g3,g1,g4,g5⟩
   ·obtain⟨o,es,ep,ho,r⟩:=hm;exact⟨o,es,ep,keep2 _ o (Zu f1) (Zu g1) ho,r⟩
   ·by_cases hb:b=s.heap.objs.size
    ·subst hb;rw[zab] at q;cases q;exact⟨by show 2<=jq; decide,[.int i s.toks,u],.cons ⟨_,rfl⟩ (.cons ru .nil),_,tup2,rfl,_,rfl⟩
    ·rw[za7 hb] at q;refine(I.hok b v q).stay (fun c v' hc q'=>?_) (fun c q'=>by rw[za7 (nH c _ q').2.2]; exact q') fun c ys q'=>by rw[za7 (nH c _ q').2.2]; exact q'
     rcases hc with z |z
     ·exact keep2 c v' (by rw[z]; exact(nH b v q).1) (by rw[z]; exact(nH b v q).2.1) q'
     ·exact keep2 c v' (nH c _ z).1 (nH c _ z).2.1 q'
  refine⟨.ref s.heap.objs.size,_,I2,rfl,⟨s.heap.objs.size,x,rfl,hn,rfl,fun ys hy=>by rw[I.list_inj hy hq]; exact hx⟩,⟨⟨_,en⟩,?_⟩,fun b hb=>?_⟩
  ·obtain⟨o,ho,r⟩:=hit1;exact⟨o,(sb.2 it (Zu hne)).trans ho,r⟩
  ·rcases jt.mp hb with z |z
   ·subst z; rw[za7 (jB elt)]; exact f0
   ·have z':b=it:=by simpa using z
    subst z';obtain⟨o,ho,_⟩:=hit;rw[za7 (jB (jk ho))]; exact g0
 done:=by
  intro X hP hw hK hc i pc s sg H E I hf st hg;subst hP hw hK;obtain⟨⟨old,he⟩,hit⟩:=st;obtain⟨xs,hq,hx⟩:=hg;obtain⟨its,rv,p,hz⟩:=I.list hq;obtain⟨g0,g1,g2,g3,g4,g5⟩:=hf it (by simp)
  have hl:=rv.length;exact wpAny_pyNext_enum_end (I.ok.hd hc) he hit p.isList (by simp; lia) fun h' eb=>⟨rfl,I.turned (t':=s.toks) (fun b o hb q=>eb b o hb q) g0 g1 g3 g4 g5⟩
 self:=fun _ _ _ _ _ st h=>by
  obtain⟨⟨old,he⟩,_⟩:=st;exact Wb he h
def zqg(K:jd)(ta:TA):TI:=fun sg H R=>ta sg H fun vs H1=>∃ a,vs=[.ref a]/\(∃ xs,SqL K H1 a xs)/\R (Ite K a) H1
theorem zm2{elts:List Q0}{x1:Nat}{tp:Pos}{a:Q0}{ta:TA}{p pos:Pos}(hg:Gl X "enumerate")(hm:X.mg "enumerate"=none)(ha:PA X [a] ta)(hs:jj [a] X.env=[(false,eval a X.env)]:=by rfl) :
  PI X (.Tuple elts x1 tp) (.Call (.Name "enumerate" p) [a] [] pos) (zqg X.K ta):=by
 intro pc s sg H R I h;refine Call_ (zcG I hg hm zg7 (jY (thn (ha pos pc s sg H _ I h) fun us s1 ⟨vs,H1,I1,r1,q1⟩=>?_) hs rfl));obtain⟨a',rfl,⟨xs,hq⟩,q⟩:=q1;obtain⟨u,rfl,ru⟩:=zic r1;cases ru;obtain⟨its,rv,pl,hz⟩:=I1.list hq;refine call_enumerate_list pl.isList fun h' en il hsz kp=>?_;refine Wb en ?_;have I2:Inv X pc sg H1 { s1 with heap:=h' }:=I1.kept (t':=s1.toks) kp;refine⟨s1.heap.objs.size+1,[s1.heap.objs.size+1,s1.heap.objs.size],_,_,H1,rfl,I2,zij a' s1.heap.objs.size (s1.heap.objs.size+1) (Nat.succ_ne_self _),⟨⟨_,en⟩,il⟩,fun b hb=>?_,q⟩;rcases jt.mp hb with z |z
 ·subst z; exact I1.fpOk (Qk _) (I1.hok.fresh (Qk _))
 ·have z':b=s1.heap.objs.size:=by simpa using z
  subst z'; exact I1.fpOk (jg _) (I1.hok.fresh (jg _))
end
section
theorem ziv{k:Key}{v:j7}(h:zgz k v=true):RelV (kV k) v:=by
 rcases zam h with ⟨i,t,rfl,rfl⟩ |⟨x,t,rfl,rfl⟩
 ·exact⟨t,rfl⟩
 ·exact⟨t,rfl⟩
theorem zd2:∀ {xs:List V} {us:List j7},xs.length=us.length->(∀(j:Nat) x u,xs[j]?=some x->us[j]?=some u->RelV x u)->Vals xs us:=by
 intro xs
 induction xs with
 |nil=>
  intro us hl _;cases us with
  |nil=>exact .nil
  |cons _ _=>cases hl
 |cons x xs ih=>
  intro us hl h;cases us with
  |nil=>cases hl
  |cons u us=>exact .cons (h 0 x u rfl rfl) (ih (Jm hl) fun j y v e1 e2=>h (j+1) y v e1 e2)
theorem zkZ{κ:Type}{kvs:List (κ × V)}{vs:List (κ × j7)}{j:Nat}{p:κ × V}(h:KV kvs vs):kvs[j]?=some p->∃ q,vs[j]?=some q/\p.1=q.1/\RelV p.2 q.2:=by
 induction h generalizing j with
 |nil=>intro e; cases e
 |cons r t ih=>
  intro e;cases j with
  |zero=>obtain rfl:=je e; exact⟨_,rfl,r⟩
  |succ j=>exact ih (j:=j) e
theorem zdV(hc:X.calm=true):CallR X (.type "list") (fun xs H Q=>∃ a kvs,xs=[V.ref a]/\Rd H a (.dK kvs)/\∀ l,H l=none->Q (.ref l) (upd H l (.lst (kvs.map fun kv=>kV kv.1)))):=by
 intro pc s σ H xs us Q I rv h;obtain⟨a,kvs,rfl,e,q⟩:=h;obtain⟨u,rfl,ru⟩:=rv.one;cases ru;obtain⟨z,hd,vs,rel,dd⟩:=zjt I.hok e;have hl:vs.length<=jq:=by rw[<-rel.length]; exact z
 obtain⟨ep,da⟩:=dd.dictAt;refine PySem.W.kdl_call (PySem.W.kdl_dict (knd:=zaN X.prog X.w) (kvs:=vs) (ep:=ep) hd) (I.ok.hd hc) da hl fun h' tk acc c hk hnew hit=>?_;have hv:Vals (kvs.map fun kv=>kV kv.1) acc.toList:=by
  refine zd2 (by have h1:=hit.1; have h2:=rel.length; simp only[ja,jA]; lia) fun j x u e1 e2=>?_
  rw[jc] at e1;obtain⟨p,h1,h2⟩:=Qm e1;obtain⟨k,y,h3,h4⟩:=hit.2 j u (by simpa using e2)
  obtain⟨w,h5,h6⟩:=zkZ rel h1;rw[h3] at h5;injection h5 with h5;subst h5 h2;rw[h6.1];exact ziv h4
 exact⟨.ref _,_,I.laid (a:=s.heap.objs.size) (o:=.lst (kvs.map fun kv=>kV kv.1)) (t':=tk) hk (jg _) ⟨by rw[ja]; exact z,acc.toList,c,hv,by rw[hnew]⟩,rfl,q _ (I.hok.fresh (jg _))⟩
end
section
variable {a:Q0}{ta:TA}{p p' pos':Pos}
def tLR(ta:TA):TE:=fun σ H Q=>ta σ H fun vs H1=>∃ j:Int,vs=[.int j]/\-(2 ^ 62)<=j/\j<=16777216/\∀ l,H1 l=none->Q (.ref l) (upd H1 l (.lst ((jp j.toNat).map fun(k:Nat)=>V.int k)))
theorem zfB(hc:X.calm=true)(hg:Gl X "list")(hm:X.mg "list"=none)(hg':Gl X "range")(hm':X.mg "range"=none)(ha:PA X [a] ta)(hs:jj [a] X.env=[(false,eval a X.env)]:=by rfl)
  (hs':jj [.Call (.Name "range" p') [a] [] pos'] X.env=[(false,eval (.Call (.Name "range" p') [a] [] pos') X.env)]:=by rfl) :
  PE X (.Call (.Name "list" p) [.Call (.Name "range" p') [a] [] pos'] [] pos) (tLR ta):=by
 intro pc s σ H Q I h;refine Call_ (zcG I hg hm boot_list (jY ?_ hs' rfl));rw[hs'];refine NL (Call_ (zcG I hg' hm' W3 (jY (thn (ha pos' pc s σ H _ I h) fun us s1 ⟨vs,H1,I1,r1,q1⟩=>?_) hs rfl)));obtain⟨j,e,q1,q2,q⟩:=q1;subst e;cases r1 with
 |cons r rr=>
  cases rr;obtain⟨t,rfl⟩:=r;refine call_range_1 (W4 ?_);have I2:Inv X pc σ H1 { s1 with heap:=s1.heap.push { cls:=.type "range",data:=.fields #[.int 0 s1.toks,.int j t,.int 1 (s1.toks+1)] },toks:=s1.toks+1+1 }:=I1.kept fun b o e=>j6 _ e;have hn:jE 0 j 1=(j.toNat:Int):=by rw[rangeSize_one]; split<;>lia
  refine call_list_range (I2.ok.hd hc) (WI ..) (small_one (by lia) (by lia) q1 (by lia)) hn (by lia) fun h' tk acc c hk hnew hit=>?_
  have hv:Vals ((jp j.toNat).map fun(k:Nat)=>V.int k) acc.toList:=by
   refine zd2 (by have h1:=hit.1; simp only[ja,ZS,jA]; lia) fun i x u e1 e2=>?_
   rw[jc] at e1;obtain⟨k,h1,h2⟩:=Qm e1;obtain⟨tk',h3⟩:=hit.2 i u (by simpa using e2)
   obtain⟨h4,rfl⟩:=j5.mp h1;subst h2 h3;rw[Yf];exact⟨tk',by rw[Yg,Int.mul_one]⟩
  exact⟨.ref _,_,I2.laid (o:=.lst ((jp j.toNat).map fun(k:Nat)=>V.int k)) (t':=tk) hk (jg _) ⟨by rw[ja,ZS,Qr]; lia,acc.toList,c,hv,by rw[hnew]⟩,rfl,q _ (I2.hok.fresh (jg _))⟩
end
end L2
namespace Dw
open PySem PySem.Spec PyProof.Rows L2
def Sx(l:List Nat):Str:=⟨l.toArray⟩
theorem zgc(l:List Nat):(Sx l).cps.toList=l:=by simp[Sx]
theorem zdK(l:List Nat):(Sx l).length=l.length:=by simp[Sx,Str.length]
theorem zlg{l m:List Nat}(h:Sx l=Sx m):l=m:=by
 have:=congrArg (fun x=>x.cps.toList) h;simpa[Sx] using this
theorem zoJ(l m:List Nat):Sx l++Sx m=Sx (l++m):=by
 show Str.mk _=_;simp[Sx]
theorem zqB(l:List Nat){j:Int}(h0:0<=j)(h:j<=l.length):NP (Sx l) none (some j)=Sx (l.take j.toNat):=by
 have:=slice_closes_to (x:=Sx l) (j:=j) ⟨h0,by rw[zgc]; exact h⟩
 rw[eq_of_beq this,zgc];simp[Sx]
theorem zmN(l:List Nat){j:Int}(h0:0<=j)(h:j<=l.length):NP (Sx l) (some j) none=Sx (l.drop j.toNat):=by
 have:=slice_closes_from (x:=Sx l) (i:=j) ⟨h0,by rw[zgc]; exact h⟩
 rw[eq_of_beq this,zgc,Qn (by rw[jX]; lia)]
 rfl
def zck(x:Str):Prop:=1<=x.length/\x.length<=8/\∀ c∈x.cps.toList,97<=c/\c<=122
abbrev letters:Str:="abcdefghijklmnopqrstuvwxyz"
theorem zhW{i:Int}(h0:0<=i)(h:i < 26):atI letters.cps.toList i=some (97+i.toNat):=by
 have key:∀ j:Nat,j < 26->letters.cps.toList[j]?=some (97+j):=by decide +kernel
 have ek:i=((i.toNat:Nat):Int):=by lia
 have q:=zmL (key i.toNat (by lia))
 rw[<-ek] at q;exact q
theorem zgy:letters.length<=jq:=by decide +kernel
structure Pairing (ps:List Nat) (n:Nat):Prop where
 len:ps.length=2*n
 lt:∀ k∈ps,k < n
 two:∀ k,k < n->ps.count k=2
structure Half (pl:List (Option Nat)) (n i:Nat):Prop where
 len:pl.length=2*n
 lt:∀ k,some k∈pl->k < i
 two:∀ k,k < i->pl.count (some k)=2
 free:pl.count none+2*i=2*n
theorem Half.start(n:Nat):Half (Yj (2*n) none) n 0:=by
 refine⟨N7 ..,fun k hk=>?_,fun k hk=>absurd hk (Z2 k),?_⟩
 ·have:=Yv hk;cases this
 ·rw[List.count_replicate_self]; lia
theorem zcg{α β:Type}[BEq α][LawfulBEq α][BEq β][LawfulBEq β]{f:α->β}(hf:∀ a b,f a=f b->a=b)(x:α):∀ l:List α,(l.map f).count (f x)=l.count x
 |[]=>rfl
 |a::r=>by
  rw[ju,Zm,Zm,zcg hf x r]
  by_cases e:a=x
  ·subst e; simp
  ·have e1:(a == x)=false:=by simpa using e
   have e2:(f a == f x)=false:=by simpa using fun z=>e (hf _ _ z)
   rw[e1,e2]
theorem zby{l:List Str}{k:Nat}(h:k < l.length):l.getD k Qi=l[k]:=by
 simp[List.getD,j3 h]
theorem Half.next{pl:List (Option Nat)}{n i f0 f1:Nat}(h:Half pl n i)(hi:i < n)(h0:pl[f0]?=some none)(h1:pl[f1]?=some none)(hne:f0≠f1):Half ((pl.set f1 (some i)).set f0 (some i)) n (i+1):=by
 obtain⟨l1,e1⟩:=j5.mp h1;have h0':(pl.set f1 (some i))[f0]?=some none:=by rw[jf (Zu hne)]; exact h0
 obtain⟨l0,e0⟩:=j5.mp h0';have ci:pl.count (some i)=0:=by
  refine jM.mpr fun hm=>?_;exact absurd (h.lt i hm) (QL _)
 have cn:=h.free;have key:∀ x,((pl.set f1 (some i)).set f0 (some i)).count x=pl.count x - (if (none:Option Nat) == x then 1 else 0)+(if some i == x then 1 else 0) - (if (none:Option Nat) == x then 1 else 0)+(if some i == x then 1 else 0):=fun x=>by
  rw[WU l0,e0,WU l1,e1]
 refine⟨by rw[jZ,jZ]; exact h.len,fun k hk=>?_,fun k hk=>?_,?_⟩
 ·rcases Yl hk with z |z
  ·rcases Yl z with z |z
   ·exact Qv (h.lt k z)
   ·cases z; exact ZD _
  ·cases z; exact ZD _
 ·rw[key]
  by_cases e:k=i
  ·subst e;rw[ci];simp
  ·have:(some i == some k)=false:=by simpa using fun z=>e z.symm
   rw[this];simpa using h.two k (by lia)
 ·rw[key];have:(some i == (none:Option Nat))=false:=rfl;rw[this];have:((none:Option Nat) == none)=true:=rfl;rw[this];simp only[if_true,Za,if_false];lia
theorem Half.done{pl:List (Option Nat)}{n:Nat}(h:Half pl n n):∃ ps:List Nat,Pairing ps n/\pl=ps.map some:=by
 have hz:pl.count none=0:=by have:=h.free; lia
 have hn:none∉pl:=jM.mp hz;obtain⟨ps,rfl⟩:∃ ps:List Nat,pl=ps.map some:=by
  clear h hz
  induction pl with
  |nil=>exact⟨[],rfl⟩
  |cons o r ih=>
   obtain⟨ps,rfl⟩:=ih fun z=>hn (jm _ z);cases o with
   |none=>exact absurd jC hn
   |some j=>exact⟨j::ps,rfl⟩
 refine⟨ps,⟨by have:=h.len; rwa [ja] at this,fun k hk=>h.lt k (List.mem_map_of_mem hk),fun k hk=>?_⟩,rfl⟩
 have:=h.two k hk
 rwa [zcg (fun a b z=>je z)] at this
structure GoodWord (wd:List Str):Prop where
 name:∀ x∈wd,zck x
 two:∀ x∈wd,wd.count x=2
 len:wd.length<=60
theorem zgB{names:List Str}{ps:List Nat}{n:Nat}(hn:n<=30)(hl:names.length=n)(hd:names.Nodup)(hN:∀ x∈names,zck x)(hp:Pairing ps n):GoodWord (ps.map fun k=>names.getD k Qi):=by
 have inj:∀ j k,j < n->k < n->names.getD j Qi=names.getD k Qi->j=k:=fun j k hj hk e=>by
  rw[zby (by lia),zby (by lia)] at e
  exact(g8 hd).mp e
 have memn:∀ k,k < n->names.getD k Qi∈names:=fun k hk=>by
  rw[zby (by lia)]
  exact QU _
 have cnt:∀(l:List Nat),(∀ k∈l,k < n)->∀ k,k < n->(l.map fun k=>names.getD k Qi).count (names.getD k Qi)=l.count k:=by
  intro l
  induction l with
  |nil=>intro _ _ _; rfl
  |cons j r ih=>
   intro hl' k hk;rw[ju,Zm,Zm,ih (fun k hk=>hl' k (jm _ hk)) k hk]
   by_cases e:j=k
   ·subst e; simp
   ·have e1:(j == k)=false:=by simpa using e
    have e2:(names.getD j Qi == names.getD k Qi)=false:=by
     simp only[beq_eq_false_iff_ne,ne_eq];exact fun z=>e (inj j k (hl' j jC) hk z)
    rw[e1,e2]
 refine⟨fun x hx=>?_,fun x hx=>?_,?_⟩
 ·obtain⟨k,hk,rfl⟩:=jH.mp hx;exact hN _ (memn k (hp.lt k hk))
 ·obtain⟨k,hk,rfl⟩:=jH.mp hx;rw[cnt ps hp.lt k (hp.lt k hk),hp.two k (hp.lt k hk)]
 ·rw[ja,hp.len]; lia
def za4(wd:List Str)(x:Str):List Nat:=(jp wd.length).filter fun j=>decide (wd[j]?=some x)
theorem zbw(wd:List Str)(x:Str):(za4 wd x).length=wd.count x:=by
 unfold za4
 induction wd with
 |nil=>rfl
 |cons o r ih=>
  rw[jl,YZ,QV,gh,Zm];have e:((jp r.length).filter ((fun j=>decide ((o::r)[j]?=some x))∘Nat.succ))=(jp r.length).filter fun j=>decide (r[j]?=some x):=rfl;rw[e]
  by_cases h:o=x
  ·subst h;rw[Ip_ (by simp),jl,ja,ih]
   simp
  ·rw[In_ (by simpa using h),ja,ih]
   simp[h]
theorem zb3{wd:List Str}{x:Str}{i j:Nat}(h:za4 wd x=[i,j]):i < j/\j < wd.length:=by
 have hs:(za4 wd x).Pairwise (· < ·):=Jn List.filter_sublist List.pairwise_lt_range
 rw[h] at hs;have hm:j∈za4 wd x:=by rw[h]; simp
 refine⟨?_,jz.mp (Qc.mp hm).1⟩;simpa using hs
def zle(wd:List Str)(i j:Nat):List Str:=(wd.drop (i+1)).take (j - (i+1))
def stp(acc:List Str)(x:Str):List Str:=if x∈acc then acc else acc++[x]
def za0(wd:List Str):List Str:=wd.foldl stp []
theorem zbY{wd:List Str}{i:Nat}{x:Str}(h:wd[i]?=some x):za0 (wd.take (i+1))=stp (za0 (wd.take i)) x:=by
 unfold za0;rw[List.take_succ,h,Option.toList_some,List.foldl_append];rfl
theorem zel:∀(wd acc:List Str),(wd.foldl stp acc).length<=acc.length+wd.length
 |[],acc=>by simp
 |x::wd,acc=>by
  rw[gj];have:=zel wd (stp acc x);have h:(stp acc x).length<=acc.length+1:=by unfold stp; split<;>simp
  rw[jl];lia
end Dw
namespace L3
open PySem PySem.Spec PyProof.Rows L2
class TheK where
 K:jd
variable [TheK]
inductive T where
 |non |bl (b:Bool) |int (i:Int) |str (x:Str)
 |lst (xs:List T) |tup (xs:List T) |dct (kvs:List (Key × T)) |set (S:Int->Bool) (n:Nat)
 /-- a dict that will not be changed any more: it may be walked -/
 |fd (kvs:List (Key × T))
 /-- the script -/
 |scr (ns:List Int)
 /-- nothing is known -/
 |any
abbrev Sg:=List (Option T)
inductive Rep (C:jo->Prop) (H:Hp):V->T->Prop
 |non:Rep C H .non .non
 |bl (b:Bool):Rep C H (.bl b) (.bl b)
 |int (i:Int):Rep C H (.int i) (.int i)
 |str (x:Str):Rep C H (.str x) (.str x)
 |lst {a:jo} {vs:List V} {ts:List T} (c:C a) (r:H a=some (.lst vs)) (l:vs.length=ts.length) (h:∀(i:Nat) v t,vs[i]?=some v->ts[i]?=some t->Rep C H v t):Rep C H (.ref a) (.lst ts)
 |tup {a:jo} {vs:List V} {ts:List T} (c:C a) (r:H a=some (.tup vs)) (l:vs.length=ts.length) (h:∀(i:Nat) v t,vs[i]?=some v->ts[i]?=some t->Rep C H v t):Rep C H (.ref a) (.tup ts)
 |dct {a:jo} {kvs:List (Key × V)} {ts:List (Key × T)} (c:C a) (r:H a=some (.dK kvs)) (l:kvs.map (·.1)=ts.map (·.1)) (h:∀(i:Nat) v t,kvs[i]?=some v->ts[i]?=some t->Rep C H v.2 t.2):Rep C H (.ref a) (.dct ts)
 |set {a:jo} {S:Int->Bool} {n:Nat} (c:C a) (r:H a=some (.set S n)):Rep C H (.ref a) (.set S n)
 |fd {a:jo} {o:Obj} {kvs:List (Key × V)} {ts:List (Key × T)} (c:C a) (r:H a=some (.frz o (.dK kvs))) (l:kvs.map (·.1)=ts.map (·.1)) (h:∀(i:Nat) v t,kvs[i]?=some v->ts[i]?=some t->Rep C H v.2 t.2):Rep C H (.ref a) (.fd ts)
 |scr {a:jo} {ns:List Int} {o:Obj} (c:C a) (r:H a=some (.frz o (.lst (ns.map V.int)))):Rep C H (.ref a) (.scr ns)
 /-- the script,as an object of the module -/
 |scrK {a:jo} {ns:List Int} (r:∀ H',SqL TheK.K H' a (ns.map V.int)):Rep C H (.ref a) (.scr ns)
 |any {v:V}:Rep C H v .any
def Reps(C:jo->Prop)(H:Hp)(vs:List V)(ts:List T):Prop:=vs.length=ts.length/\∀(i:Nat) v t,vs[i]?=some v->ts[i]?=some t->Rep C H v t
def RepK(C:jo->Prop)(H:Hp)(vs:List (Key × V))(ts:List (Key × T)):Prop:=vs.map (·.1)=ts.map (·.1)/\∀(i:Nat) v t,vs[i]?=some v->ts[i]?=some t->Rep C H v.2 t.2
section
variable {C C':jo->Prop}{H H':Hp}{v:V}{t:T}{vs:List V}{ts:List T}
theorem Rep.mono(h:Rep C H v t)(hc:∀ a,C a->C' a)(hh:∀ a o,C a->H a=some o->H' a=some o):Rep C' H' v t:=by
 induction h with
 |non=>exact .non
 |bl b=>exact .bl b
 |int i=>exact .int i
 |str x=>exact .str x
 |lst c r l h ih=>exact .lst (hc _ c) (hh _ _ c r) l ih
 |tup c r l h ih=>exact .tup (hc _ c) (hh _ _ c r) l ih
 |dct c r l h ih=>exact .dct (hc _ c) (hh _ _ c r) l ih
 |set c r=>exact .set (hc _ c) (hh _ _ c r)
 |fd c r l h ih=>exact .fd (hc _ c) (hh _ _ c r) l ih
 |scr c r=>exact .scr (hc _ c) (hh _ _ c r)
 |scrK r=>exact .scrK r
 |any=>exact .any
theorem Rep.there(h:Rep C H v t):Rep (fun a=>C a/\H a≠none) H v t:=by
 induction h with
 |non=>exact .non
 |bl b=>exact .bl b
 |int i=>exact .int i
 |str x=>exact .str x
 |lst c r l h ih=>exact .lst ⟨c,by rw[r]; simp⟩ r l ih
 |tup c r l h ih=>exact .tup ⟨c,by rw[r]; simp⟩ r l ih
 |dct c r l h ih=>exact .dct ⟨c,by rw[r]; simp⟩ r l ih
 |set c r=>exact .set ⟨c,by rw[r]; simp⟩ r
 |fd c r l h ih=>exact .fd ⟨c,by rw[r]; simp⟩ r l ih
 |scr c r=>exact .scr ⟨c,by rw[r]; simp⟩ r
 |scrK r=>exact .scrK r
 |any=>exact .any
theorem Reps.mono(h:Reps C H vs ts)(hc:∀ a,C a->C' a)(hh:∀ a o,C a->H a=some o->H' a=some o):Reps C' H' vs ts:=⟨h.1,fun i v t e1 e2=>(h.2 i v t e1 e2).mono hc hh⟩
theorem RepK.mono{ks:List (Key × V)}{kt:List (Key × T)}(h:RepK C H ks kt)(hc:∀ a,C a->C' a)(hh:∀ a o,C a->H a=some o->H' a=some o):RepK C' H' ks kt:=⟨h.1,fun i v t e1 e2=>(h.2 i v t e1 e2).mono hc hh⟩
theorem Reps.there(h:Reps C H vs ts):Reps (fun a=>C a/\H a≠none) H vs ts:=⟨h.1,fun i v t e1 e2=>(h.2 i v t e1 e2).there⟩
theorem RepK.there{ks:List (Key × V)}{kt:List (Key × T)}(h:RepK C H ks kt):RepK (fun a=>C a/\H a≠none) H ks kt:=⟨h.1,fun i v t e1 e2=>(h.2 i v t e1 e2).there⟩
theorem Reps.nil:Reps C H [] []:=⟨rfl,fun i v t e=>by simp at e⟩
theorem Reps.cons(h:Rep C H v t)(hs:Reps C H vs ts):Reps C H (v::vs) (t::ts):=by
 refine⟨by simp[hs.1],fun i v' t' e1 e2=>?_⟩
 cases i with
 |zero=>simp at e1 e2; subst e1 e2; exact h
 |succ i=>exact hs.2 i v' t' (by simpa using e1) (by simpa using e2)
theorem Reps.head(hs:Reps C H (v::vs) (t::ts)):Rep C H v t:=hs.2 0 v t rfl rfl
theorem Reps.tail(hs:Reps C H (v::vs) (t::ts)):Reps C H vs ts:=⟨by simpa using hs.1,fun i v' t' e1 e2=>hs.2 (i+1) v' t' (by simpa using e1) (by simpa using e2)⟩
theorem Reps.get{i:Nat}(hs:Reps C H vs ts)(e:ts[i]?=some t):∃ v,vs[i]?=some v/\Rep C H v t:=by
 have hi:=(j5.mp e).1;have hv:i < vs.length:=by rw[hs.1]; exact hi
 exact⟨vs[i],j3 hv,hs.2 i _ t (j3 hv) e⟩
theorem Reps.append{vs':List V}{ts':List T}(h:Reps C H vs ts)(h':Reps C H vs' ts'):Reps C H (vs++vs') (ts++ts'):=by
 refine⟨by simp[h.1,h'.1],fun i v t e1 e2=>?_⟩
 by_cases hi:i < vs.length
 ·rw[jR hi] at e1;rw[jR (by rw[<-h.1]; exact hi)] at e2
  exact h.2 i v t e1 e2
 ·rw[Q2 (by lia)] at e1
  rw[Q2 (by rw[<-h.1]; lia),<-h.1] at e2
  exact h'.2 _ v t e1 e2
theorem Reps.drop(n:Nat)(h:Reps C H vs ts):Reps C H (vs.drop n) (ts.drop n):=⟨by simp[h.1],fun i v t e1 e2=>h.2 (n+i) v t (by simpa using e1) (by simpa using e2)⟩
theorem Reps.take(n:Nat)(h:Reps C H vs ts):Reps C H (vs.take n) (ts.take n):=⟨by simp[h.1],fun i v t e1 e2=>by
 rw[ZH] at e1 e2;split at e1
 ·rename_i hi;rw[Ip_ hi] at e2;exact h.2 i v t e1 e2
 ·cases e1⟩
theorem Reps.set(n:Nat)(h:Reps C H vs ts)(r:Rep C H v t):Reps C H (vs.set n v) (ts.set n t):=⟨by simp[h.1],fun i v' t' e1 e2=>by
 rw[List.getElem?_set] at e1 e2
 by_cases hi:n=i
 ·rw[Ip_ hi] at e1 e2;split at e1
  ·split at e2
   ·cases e1; cases e2; exact r
   ·cases e2
  ·cases e1
 ·rw[In_ hi] at e1 e2
  exact h.2 i v' t' e1 e2⟩
inductive Live (C:jo->Prop) (H:Hp):jo->T->Prop
 |lst {a:jo} {vs:List V} {ts:List T} (r:H a=some (.lst vs)) (h:Reps C H vs ts):Live C H a (.lst ts)
 |dct {a:jo} {kvs:List (Key × V)} {ts:List (Key × T)} (r:H a=some (.dK kvs)) (h:RepK C H kvs ts):Live C H a (.dct ts)
 |set {a:jo} {S:Int->Bool} {n:Nat} (r:H a=some (.set S n)):Live C H a (.set S n)
 |any {a:jo} {o:HO} (r:H a=some o):Live C H a .any
variable {a:jo}
theorem Live.mono(h:Live C H a t)(hc:∀ a,C a->C' a)(hh:∀ a o,C a->H a=some o->H' a=some o)(ha:∀ o,H a=some o->H' a=some o):Live C' H' a t:=by
 cases h with
 |lst r h=>exact .lst (ha _ r) (h.mono hc hh)
 |dct r h=>exact .dct (ha _ r) (h.mono hc hh)
 |set r=>exact .set (ha _ r)
 |any r=>exact .any (ha _ r)
theorem Live.there(h:Live C H a t):Live (fun a=>C a/\H a≠none) H a t:=by
 cases h with
 |lst r h=>exact .lst r h.there
 |dct r h=>exact .dct r h.there
 |set r=>exact .set r
 |any r=>exact .any r
theorem Live.ne(h:Live C H a t):H a≠none:=by
 cases h with
 |lst r h=>rw[r]; simp
 |dct r h=>rw[r]; simp
 |set r=>rw[r]; simp
 |any r=>rw[r]; simp
theorem Live.rep(h:Live C H a t)(hc:∀ b,C b->C' b)(ha:C' a):Rep C' H (.ref a) t:=by
 cases h with
 |lst r h=>exact .lst ha r h.1 fun i v t e1 e2=>(h.2 i v t e1 e2).mono hc fun _ _ _ e=>e
 |dct r h=>exact .dct ha r h.1 fun i v t e1 e2=>(h.2 i v t e1 e2).mono hc fun _ _ _ e=>e
 |set r=>exact .set ha r
 |any r=>exact .any
end
structure Fr where
 H0:Hp
 C0:jo->Prop
 D:jo->Prop
 adr:Nat->jo
def Free(F:Fr)(O:jo->Prop):jo->Prop:=fun a=>¬ O a/\(F.C0 a∨F.H0 a=none)
theorem Free.weak{F:Fr}{O O':jo->Prop}{a:jo}(h:∀ b,O' b->O b)(x:Free F O a):Free F O' a:=⟨fun z=>x.1 (h _ z),x.2⟩
structure Rel (F:Fr) (O:jo->Prop) (M:List Nat) (s:Sg) (σ:L2.St) (H:Hp):Prop where
 len:s.length=σ.length
 val:∀(i:Nat) t,s[i]?=some (some t)->i∉M->∃ v,σ[i]?=some (some v)/\Rep (Free F O) H v t
 own:∀(i:Nat) t,s[i]?=some (some t)->i∈M->∃ a,σ[i]?=some (some (.ref a))/\Live (Free F O) H a t
 ow:∀(i:Nat) a,i∈M->σ[i]?=some (some (.ref a))->O a
 dis:∀(i j:Nat) a,i∈M->j∈M->σ[i]?=some (some (.ref a))->σ[j]?=some (some (.ref a))->i=j
 keep:∀ b o,¬ F.D b->F.H0 b=some o->H b=some o
 dom:∀ b,H b=none->F.H0 b=none
 fresh:∀ a,O a->F.D a∨F.H0 a=none
 inD:∀ a,F.D a->O a
 al:∀ a,O a->H a≠none
structure Step (σ:L2.St) (M:List Nat) (H H':Hp):Prop where
 keep:∀ b o,(∀(i:Nat),i∈M->σ[i]?≠some (some (.ref b)))->H b=some o->H' b=some o
 dom:∀ b,H' b=none->H b=none
section
variable {F:Fr}{O:jo->Prop}{M:List Nat}{s s':Sg}{σ:L2.St}{H H' H'':Hp}{v:V}{t:T}{a:jo}
theorem Step.refl:Step σ M H H:=⟨fun _ _ _ h=>h,fun _ h=>h⟩
theorem Step.trans(x:Step σ M H H')(y:Step σ M H' H''):Step σ M H H'':=⟨fun b o n h=>y.keep b o n (x.keep b o n h),fun b h=>x.dom b (y.dom b h)⟩
theorem Step.new(h:H a=none)(o:HO):Step σ M H (upd H a o):=⟨fun b u _ q=>by rw[za7 (za3 q h)]; exact q,fun b h'=>by
 unfold upd at h';split at h'
 ·cases h'
 ·exact h'⟩
theorem Rel.notOwned(R:Rel F O M s σ H)(h:¬ O a):∀(i:Nat),i∈M->σ[i]?≠some (some (.ref a)):=fun i hi e=>h (R.ow i a hi e)
theorem Rel.stay(R:Rel F O M s σ H)(S:Step σ M H H')(h:Rep (Free F O) H v t):Rep (Free F O) H' v t:=
 h.mono (fun _ c=>c) fun a o c e=>S.keep a o (R.notOwned c.1) e
theorem Rel.less{O':jo->Prop}(R:Rel F O M s σ H)(h:∀ b,O' b->O b)(hw:∀(i:Nat) a,i∈M->σ[i]?=some (some (.ref a))->O' a)(hD:∀ a,F.D a->O' a):Rel F O' M s σ H where
 len:=R.len
 val:=fun i t e n=>by
  obtain⟨v,h1,h2⟩:=R.val i t e n;exact⟨v,h1,h2.mono (fun _ c=>c.weak h) fun _ _ _ e=>e⟩
 own:=fun i t e n=>by
  obtain⟨a,h1,h2⟩:=R.own i t e n;exact⟨a,h1,h2.mono (fun _ c=>c.weak h) (fun _ _ _ e=>e) fun _ e=>e⟩
 ow:=hw
 dis:=R.dis
 keep:=R.keep
 dom:=R.dom
 fresh:=fun a z=>R.fresh a (h a z)
 inD:=hD
 al:=fun a z=>R.al a (h a z)
theorem Rel.new(R:Rel F O M s σ H)(h:H a=none)(o:HO):Rel F (fun b=>O b∨b=a) M s σ (upd H a o):=by
 have k:∀ b u,H b=some u->upd H a o b=some u:=fun b u q=>by rw[za7 (za3 q h)]; exact q
 have fr:∀ b,Free F O b/\H b≠none->Free F (fun b=>O b∨b=a) b:=fun b c=>⟨fun z=>z.elim c.1.1 fun z=>c.2 (z▸h),c.1.2⟩;refine⟨R.len,fun i t e n=>?_,fun i t e n=>?_,fun i b hi e=>.inl (R.ow i b hi e),R.dis,fun b u n e=>k _ _ (R.keep b u n e),fun b e=>?_,fun b z=>?_,fun b z=>.inl (R.inD b z),fun b z=>?_⟩
 ·obtain⟨v,h1,h2⟩:=R.val i t e n;exact⟨v,h1,h2.there.mono fr fun b u _ e=>k b u e⟩
 ·obtain⟨b,h1,h2⟩:=R.own i t e n;exact⟨b,h1,h2.there.mono fr (fun b u _ e=>k b u e) fun u e=>k b u e⟩
 ·refine R.dom b ?_;unfold upd at e;split at e
  ·cases e
  ·exact e
 ·rcases z with z |z
  ·exact R.fresh b z
  ·subst z; exact .inr (R.dom _ h)
 ·rcases z with z |z
  ·intro e;refine R.al b z ?_;unfold upd at e;split at e
   ·cases e
   ·exact e
  ·subst z; rw[zab]; simp
end
end L3
namespace L3
open PySem PySem.Spec PyProof.Rows L2
variable [TheK]
variable {M:List Nat}{H:Hp}{X:Cx}
inductive Kd where
 |e |b |n
def BRep(C:jo->Prop)(H:Hp)(v:V)(t:T):Prop:=Rep C H v t∨∃ a,v=.ref a/\Live C H a t
def Post(k:Kd)(F:Fr)(O:jo->Prop)(M:List Nat)(σ:L2.St)(H:Hp)(s':Sg)(t:T)(v:V)(H':Hp):Prop:=match k with
 |.e=>Rel F O M s' σ H'/\Rep (Free F O) H' v t
 |.b=>Rel F O M s' σ H'/\(Rep (Free F O) H' v t∨∃ i:Nat,i∈M/\σ[i]?=some (some v)/\s'[i]?=some (some t))
 |.n=>∃ a,v=.ref a/\H a=none/\Rel F (fun b=>O b∨b=a) M s' σ H'/\Live (Free F (fun b=>O b∨b=a)) H' a t
abbrev DE:=Sg->Option (T × Sg)
abbrev DT:=Sg->Option (Bool × Sg)
abbrev DA:=Sg->Option (List T × Sg)
def cE(k:Kd)(M:List Nat)(f:DE):TE:=fun σ H Q=>∃ F O s t s',Rel F O M s σ H/\f s=some (t,s')/\∀ v H',Step σ M H H'->Post k F O M σ H s' t v H'->Q v H'
theorem cE_{k:Kd}{M:List Nat}{f:DE}{σ:L2.St}{H:Hp}{Q:VK}(h:cE k M f σ H Q){G:Prop}(g:∀ F O s t s',Rel F O M s σ H->f s=some (t,s')->(∀ v H',Step σ M H H'->Post k F O M σ H s' t v H'->Q v H')->G):G:=by
 obtain⟨F,O,s,t,s',R,hf,q⟩:=h;exact g F O s t s' R hf q
def cT(M:List Nat)(f:DT):TT:=fun σ H Q=>∃ F O s b s',Rel F O M s σ H/\f s=some (b,s')/\∀ H',Step σ M H H'->Rel F O M s' σ H'->Q b H'
theorem cT_{M:List Nat}{f:DT}{σ:L2.St}{H:Hp}{Q:Bool->Hp->Prop}(h:cT M f σ H Q){G:Prop}(g:∀ F O s b s',Rel F O M s σ H->f s=some (b,s')->(∀ H',Step σ M H H'->Rel F O M s' σ H'->Q b H')->G):G:=by
 obtain⟨F,O,s,b,s',R,hf,q⟩:=h;exact g F O s b s' R hf q
def cA(M:List Nat)(f:DA):TA:=fun σ H Q=>∃ F O s ts s',Rel F O M s σ H/\f s=some (ts,s')/\∀ vs H',Step σ M H H'->Rel F O M s' σ H'->Reps (Free F O) H' vs ts->Q vs H'
theorem weak{X:Cx}{e:Q0}{t t':TE}(h:PE X e t)(hw:∀ σ H Q,t' σ H Q->t σ H Q):PE X e t':=fun pc s σ H Q I q=>h pc s σ H Q I (hw _ _ _ q)
theorem zdO{X:Cx}{e:Q0}{t t':TT}(h:PT X e t)(hw:∀ σ H Q,t' σ H Q->t σ H Q):PT X e t':=fun pc s σ H Q I q=>h pc s σ H Q I (hw _ _ _ q)
theorem zmW{X:Cx}{es:List Q0}{t t':TA}(h:PA X es t)(hw:∀ σ H Q,t' σ H Q->t σ H Q):PA X es t':=fun pos pc s σ H Q I q=>h pos pc s σ H Q I (hw _ _ _ q)
theorem zcm{X:Cx}{e:ZU}{t t':TS}(h:PS X e t)(hw:∀ D σ H,t' D σ H->t D σ H):PS X e t':=fun pc s σ H D I q=>h pc s σ H D I (hw _ _ _ q)
theorem zkE{X:Cx}{e:List ZU}{t t':TS}(h:PSs X e t)(hw:∀ D σ H,t' D σ H->t D σ H):PSs X e t':=fun pc s σ H D I q=>h pc s σ H D I (hw _ _ _ q)
section
variable {F:Fr}{O:jo->Prop}{s s':Sg}{σ:L2.St}{H':Hp}{v:V}{t:T}{a:jo}
theorem Post.ne(R:Rel F O M s σ H)(h:Post .n F O M σ H s' t v H'):Post .e F O M σ H s' t v H':=by
 obtain⟨a,rfl,h0,R',L⟩:=h;have w:∀ b,O b->(O b∨b=a):=fun b z=>.inl z;refine⟨R'.less w R.ow R.inD,L.rep (fun b c=>c.weak w) ⟨fun z=>R.al a z h0,.inr (R.dom a h0)⟩⟩
theorem Post.eb(h:Post .e F O M σ H s' t v H'):Post .b F O M σ H s' t v H':=⟨h.1,.inl h.2⟩
theorem Post.view(h:Post .b F O M σ H s' t v H'):BRep (Free F O) H' v t:=by
 rcases h.2 with h2 |⟨i,hi,e1,e2⟩
 ·exact .inl h2
 ·obtain⟨a,e3,L⟩:=h.1.own i t e2 hi;rw[e1] at e3;exact .inr ⟨a,by injection e3 with e3; injection e3,L⟩
theorem Post.mkN(R:Rel F O M s σ H)(R1:Rel F O M s' σ H')(S:Step σ M H H'){p:jo}{o:HO}(hp:H' p=none)(L:∀ C:jo->Prop,(∀ b,Free F O b/\H' b≠none->C b)->Live C (upd H' p o) p t):Post .n F O M σ H s' t (.ref p) (upd H' p o):=
 ⟨p,rfl,S.dom p hp,R1.new hp o,L _ fun b c=>⟨fun z=>z.elim c.1.1 fun z=>c.2 (z▸hp),c.1.2⟩⟩
theorem Post.mkE(R1:Rel F O M s' σ H'){p:jo}{o:HO}(hp:H' p=none)(L:∀ C:jo->Prop,(∀ b,Free F O b/\H' b≠none->C b)->C p->Rep C (upd H' p o) (.ref p) t):Post .e F O M σ H s' t (.ref p) (upd H' p o):=by
 have w:∀ b,O b->(O b∨b=p):=fun b z=>.inl z;exact⟨(R1.new hp o).less w R1.ow R1.inD,L _ (fun b c=>c.1) ⟨fun z=>R1.al p z hp,.inr (R1.dom p hp)⟩⟩
end
section
variable {e a b:Q0}{fa fb:DE}
theorem ne(h:PE X e (cE .n M fa)):PE X e (cE .e M fa):=weak h fun σ H Q h_=>cE_ h_ fun F O s t s' R hf q=>⟨F,O,s,t,s',R,hf,fun v H' S p=>q v H' S (p.ne R)⟩
theorem eb(h:PE X e (cE .e M fa)):PE X e (cE .b M fa):=weak h fun σ H Q h_=>cE_ h_ fun F O s t s' R hf q=>⟨F,O,s,t,s',R,hf,fun v H' S p=>q v H' S p.eb⟩
theorem nb(h:PE X e (cE .n M fa)):PE X e (cE .b M fa):=eb (ne h)
def dV(i:Nat):DE:=fun s=>(s[i]?).join.map fun t=>(t,s)
def dC(t:T):DE:=fun s=>some (t,s)
theorem zad{α:Type}{o:Option (Option α)}{x:α}(h:o.join=some x):o=some (some x):=by
 cases o with
 |none=>cases h
 |some o=>cases o with
  |none=>cases h
  |some y=>injection h with h; rw[h]
theorem zjw{i:Nat}{s s':Sg}{t:T}(h:dV i s=some (t,s')):s[i]?=some (some t)/\s'=s:=by
 unfold dV at h;cases e:(s[i]?).join with
 |none=>rw[e] at h; cases h
 |some x=>
  rw[e] at h;cases h;exact⟨zad e,rfl⟩
theorem zmA{v:V}{t:T}(hr:∀ C H,Rep C H v t)(h:PE X e (tC v)):PE X e (cE .e M (dC t)):=weak h fun σ H Q h_=>cE_ h_ fun F O s t' s' R hf q=>by
 cases hf;exact q v H .refl ⟨R,hr _ _⟩
def d2(g:T->T->Option T)(fa fb:DE):DE:=fun s=>(fa s).bind fun p=>(fb p.2).bind fun q=>(g p.1 q.1).map fun t=>(t,q.2)
def d2v(g:T->T->Option T)(i:Nat)(fb:DE):DE:=fun s=>(s[i]?).join.bind fun _=>(fb s).bind fun q=>(q.2[i]?).join.bind fun x=>(g x q.1).map fun t=>(t,q.2)
theorem zgJ{g:T->T->Option T}{s s':Sg}{t:T}(h:d2 g fa fb s=some (t,s')):∃ x s1 y,fa s=some (x,s1)/\fb s1=some (y,s')/\g x y=some t:=by
 unfold d2 at h;cases e:fa s with
 |none=>rw[e] at h; cases h
 |some p=>
  rw[e] at h;cases e2:fb p.2 with
  |none=>simp[e2] at h
  |some q=>
   simp only[j9,e2] at h;cases e3:g p.1 q.1 with
   |none=>rw[e3] at h; cases h
   |some u=>
    rw[e3] at h;cases h;exact⟨p.1,p.2,q.1,rfl,by rw[e2],e3⟩
theorem zht{g:T->T->Option T}{i:Nat}{s s':Sg}{t:T}(h:d2v g i fb s=some (t,s')):∃ x0 x y,s[i]?=some (some x0)/\fb s=some (y,s')/\s'[i]?=some (some x)/\g x y=some t:=by
 unfold d2v at h;cases e0:(s[i]?).join with
 |none=>rw[e0] at h; cases h
 |some x0=>
 rw[e0] at h;simp only[j9] at h;cases e:fb s with
 |none=>rw[e] at h; cases h
 |some q=>
  simp only[e,j9] at h;cases e2:(q.2[i]?).join with
  |none=>rw[e2] at h; cases h
  |some x=>
   simp only[e2,j9] at h;cases e3:g x q.1 with
   |none=>rw[e3] at h; cases h
   |some u=>
    rw[e3] at h;cases h;exact⟨x0,x,q.1,zad e0,rfl,zad e2,e3⟩
def S2E(r:R2)(g:T->T->Option T):Prop:=∀(C:jo->Prop) (H:Hp) x y tx ty t (Q:VK),BRep C H x tx->BRep C H y ty->g tx ty=some t->(∀ v,Rep C H v t->Q v H)->r x y H Q
def S2N(r:R2)(g:T->T->Option T):Prop:=∀(C:jo->Prop) (H:Hp) x y tx ty t (Q:VK),BRep C H x tx->BRep C H y ty->g tx ty=some t->
 (∀ p o,H p=none->(∀ C':jo->Prop,(∀ b,C b/\H b≠none->C' b)->Live C' (upd H p o) p t)->Q (.ref p) (upd H p o))->r x y H Q
theorem zbm{r:R2}{g:T->T->Option T}(h:S2E r g):∀ σ H Q,cE .e M (d2 g fa fb) σ H Q->tOp r (cE .e M fa) (cE .b M fb) σ H Q:=by
 intro σ H Q h_;refine cE_ h_ fun F O s t s' R hf q=>?_;obtain⟨x,s1,y,h1,h2,h3⟩:=zgJ hf;refine⟨F,O,s,x,s1,R,h1,fun v H1 S1 p1=>?_⟩;refine⟨F,O,s1,y,s',p1.1,h2,fun u H2 S2 p2=>?_⟩;exact h (Free F O) H2 v u x y t Q (.inl (p1.1.stay S2 p1.2)) p2.view h3 fun w rw=>q w H2 (S1.trans S2) ⟨p2.1,rw⟩
theorem zpC{r:R2}{g:T->T->Option T}(h:S2N r g):∀ σ H Q,cE .n M (d2 g fa fb) σ H Q->tOp r (cE .e M fa) (cE .b M fb) σ H Q:=by
 intro σ H Q h_;refine cE_ h_ fun F O s t s' R hf q=>?_;obtain⟨x,s1,y,h1,h2,h3⟩:=zgJ hf;refine⟨F,O,s,x,s1,R,h1,fun v H1 S1 p1=>?_⟩;refine⟨F,O,s1,y,s',p1.1,h2,fun u H2 S2 p2=>?_⟩;exact h (Free F O) H2 v u x y t Q (.inl (p1.1.stay S2 p1.2)) p2.view h3 fun p o hp L=>q _ _ ((S1.trans S2).trans (.new hp o)) (.mkN R p2.1 (S1.trans S2) hp L)
theorem zh1{F:Fr}{O:jo->Prop}{s s':Sg}{σ:L2.St}{H H':Hp}{i:Nat}{t0 t:T}(hi:i∈M)(R:Rel F O M s σ H)(R':Rel F O M s' σ H')(e0:s[i]?=some (some t0))(e:s'[i]?=some (some t)):∃ v,σ[i]?=some (some v)/\BRep (Free F O) H' v t:=by
 obtain⟨a,h1,_⟩:=R.own i t0 e0 hi;obtain⟨b,h2,L⟩:=R'.own i t e hi;rw[h1] at h2;injection h2 with h2;cases h2;exact⟨_,h1,.inr ⟨a,rfl,L⟩⟩
theorem zig{r:R2}{g:T->T->Option T}{i:Nat}(hi:M.contains i=true)(h:S2E r g):∀ σ H Q,cE .e M (d2v g i fb) σ H Q->tOp r (zdM i) (cE .b M fb) σ H Q:=by
 intro σ H Q h_;refine cE_ h_ fun F O s t s' R hf q=>?_;obtain⟨x0,x,y,h0,h1,h2,h3⟩:=zht hf;have hi':i∈M:=by simpa using hi
 obtain⟨a,e1,_⟩:=R.own i x0 h0 hi';refine⟨_,e1,F,O,s,y,s',R,h1,fun u H2 S2 p2=>?_⟩;obtain⟨v,e2,B⟩:=zh1 hi' R p2.1 h0 h2;rw[e1] at e2;cases e2;exact h (Free F O) H2 _ u x y t Q B p2.view h3 fun w rw=>q w H2 S2 ⟨p2.1,rw⟩
end
section
variable {C:jo->Prop}{v:V}
theorem BRep.non(h:BRep C H v .non):v=.non:=by
 rcases h with h |⟨a,rfl,h⟩<;>cases h
 rfl
theorem BRep.bl{b:Bool}(h:BRep C H v (.bl b)):v=.bl b:=by
 rcases h with h |⟨a,rfl,h⟩<;>cases h
 rfl
theorem BRep.int{i:Int}(h:BRep C H v (.int i)):v=.int i:=by
 rcases h with h |⟨a,rfl,h⟩<;>cases h
 rfl
theorem BRep.str{x:Str}(h:BRep C H v (.str x)):v=.str x:=by
 rcases h with h |⟨a,rfl,h⟩<;>cases h
 rfl
theorem BRep.lst{ts:List T}(h:BRep C H v (.lst ts)):∃ a vs,v=.ref a/\H a=some (.lst vs)/\Reps C H vs ts:=by
 rcases h with h |⟨a,rfl,h⟩
 ·cases h with |lst c r l h=>exact⟨_,_,rfl,r,l,h⟩
 ·cases h with |lst r h=>exact⟨_,_,rfl,r,h⟩
theorem BRep.tup{ts:List T}(h:BRep C H v (.tup ts)):∃ a vs,v=.ref a/\H a=some (.tup vs)/\Reps C H vs ts:=by
 rcases h with h |⟨a,rfl,h⟩
 ·cases h with |tup c r l h=>exact⟨_,_,rfl,r,l,h⟩
 ·cases h
theorem BRep.dct{ts:List (Key × T)}(h:BRep C H v (.dct ts)):∃ a kvs,v=.ref a/\H a=some (.dK kvs)/\RepK C H kvs ts:=by
 rcases h with h |⟨a,rfl,h⟩
 ·cases h with |dct c r l h=>exact⟨_,_,rfl,r,l,h⟩
 ·cases h with |dct r h=>exact⟨_,_,rfl,r,h⟩
theorem BRep.fd{ts:List (Key × T)}(h:BRep C H v (.fd ts)):∃ a o kvs,v=.ref a/\H a=some (.frz o (.dK kvs))/\RepK C H kvs ts/\C a:=by
 rcases h with h |⟨a,rfl,h⟩
 ·cases h with |fd c r l h=>exact⟨_,_,_,rfl,r,⟨l,h⟩,c⟩
 ·cases h
theorem BRep.scr{ns:List Int}(h:BRep C H v (.scr ns)):∃ a,v=.ref a/\SqL TheK.K H a (ns.map V.int):=by
 rcases h with h |⟨a,rfl,h⟩
 ·cases h with
  |scr c r=>exact⟨_,rfl,.inl (.inr ⟨_,r⟩)⟩
  |scrK r=>exact⟨_,rfl,r H⟩
 ·cases h
end
def zjO:T->T->Option T
 |.int i,.int j=>some (.int (i+j))
 |.str x,.str y=>if x.length+y.length<=jq then some (.str (x++y)) else none
 |_,_=>none
def zmx:T->T->Option T
 |.lst a,.lst b=>if a.length+b.length<=jq then some (.lst (a++b)) else none
 |_,_=>none
def gI(C:Int->Int->Bool)(g:Int->Int->Int):T->T->Option T
 |.int i,.int j=>if C i j=true then some (.int (g i j)) else none
 |_,_=>none
def zge(i j:Int):Bool:=decide (-(2 ^ 64) < i/\i < 2 ^ 64)||decide (-(2 ^ 64) < j/\j < 2 ^ 64)
def zmT(i j:Int):Bool:=decide (0 < j/\j < 1073741824)
def zmS(i j:Int):Bool:=decide (0 < j)
def zqX(i j:Int):Bool:=decide (0<=j/\j<=1000000/\i.natAbs < 2 ^ 64)
def zqW(i j:Int):Bool:=decide (0<=j)
def gSb:=gI (fun _ _=>true) fun i j=>i - j
def zgC:=gI zge fun i j=>i*j
def zhm:=gI zmT fun i j=>i / j
def zcT:=gI zmS fun i j=>i%j
def zoT:=gI zqX fun i j=>i*2 ^ j.toNat
def zom:=gI zqW fun i j=>i / 2 ^ j.toNat
def zoo(p:Int->Int->Bool)(ps:Str->Str->Bool):T->T->Option T
 |.int i,.int j=>some (.bl (p i j))
 |.str i,.str j=>some (.bl (ps i j))
 |_,_=>none
section
theorem zpP:S2E (fun x y H Q=>rI0 (fun i j=>.int (i+j)) x y H Q∨∃ i j,x=.str i/\y=.str j/\i.length+j.length<=jq/\Q (.str (i++j)) H) zjO:=by
 intro C H x y tx ty t Q bx by' hg q;unfold zjO at hg;split at hg
 ·injection hg with hg; subst hg;exact .inl ⟨_,_,bx.int,by'.int,q _ (.int _)⟩
 ·split at hg
  ·rename_i h;injection hg with hg; subst hg;exact .inr ⟨_,_,bx.str,by'.str,h,q _ (.str _)⟩
  ·cases hg
 ·cases hg
theorem zpO:S2N zqN zmx:=by
 intro C H x y tx ty t Q bx by' hg q;unfold zmx at hg;split at hg
 ·split at hg
  ·rename_i h;injection hg with hg; subst hg;obtain⟨a,vs,rfl,ha,ra⟩:=bx.lst;obtain⟨b,us,rfl,hb,rb⟩:=by'.lst;refine⟨a,b,vs,us,rfl,rfl,ha,hb,by rw[ra.1,rb.1]; exact h,fun p hp=>q p _ hp fun C' hC=>?_⟩
   exact .lst zab ((ra.append rb).there.mono hC fun c o hc e=>by rw[za7 (za3 e hp)]; exact e)
  ·cases hg
 ·cases hg
theorem s_I{P:Int->Int->Prop}{C:Int->Int->Bool}{g:Int->Int->Int}(hC:∀ i j,C i j=true->P i j):S2E (rI P fun i j=>.int (g i j)) (gI C g):=by
 intro C' H x y tx ty t Q bx by' hg q;unfold gI at hg;split at hg
 ·split at hg
  ·rename_i h;injection hg with hg; subst hg;exact⟨_,_,bx.int,by'.int,hC _ _ h,q _ (.int _)⟩
  ·cases hg
 ·cases hg
theorem zrA{g:Int->Int->Int}:S2E (rI0 fun i j=>.int (g i j)) (gI (fun _ _=>true) g):=by
 intro C' H x y tx ty t Q bx by' hg q;unfold gI at hg;split at hg
 ·split at hg
  ·injection hg with hg; subst hg;exact⟨_,_,bx.int,by'.int,q _ (.int _)⟩
  ·cases hg
 ·cases hg
theorem zpN{p:Int->Int->Bool}{ps:Str->Str->Bool}:S2E (fun x y H Q=>rI0 (fun i j=>.bl (p i j)) x y H Q∨∃ i j,x=.str i/\y=.str j/\Q (.bl (ps i j)) H) (zoo p ps):=by
 intro C H x y tx ty t Q bx by' hg q;unfold zoo at hg;split at hg
 ·injection hg with hg; subst hg;exact .inl ⟨_,_,bx.int,by'.int,q _ (.bl _)⟩
 ·injection hg with hg; subst hg;exact .inr ⟨_,_,bx.str,by'.str,q _ (.bl _)⟩
 ·cases hg
variable {a b:Q0}{fa fb:DE}{pos:Pos}
theorem zqq(ha:PE X a (cE .e M fa))(hb:PE X b (cE .b M fb)):PE X (.BinOp a .Add b pos) (cE .e M (d2 zjO fa fb)):=weak (zdS (op_add.or zhO) ha hb) (zbm zpP)
theorem zqp(ha:PE X a (cE .e M fa))(hb:PE X b (cE .b M fb)):PE X (.BinOp a .Add b pos) (cE .n M (d2 zmx fa fb)):=weak (zdS zo3 ha hb) (zpC zpO)
end
def scE:T->T->Option Bool
 |.non,.non=>some true |.non,.bl _=>some false |.non,.int _=>some false |.non,.str _=>some false
 |.bl a,.bl b=>some (a == b) |.bl _,.non=>some false |.bl a,.int b=>some ((if a then 1 else 0) == b) |.bl _,.str _=>some false
 |.int a,.int b=>some (a == b) |.int _,.non=>some false |.int a,.bl b=>some (a == (if b then 1 else 0)) |.int _,.str _=>some false
 |.str a,.str b=>some (a == b) |.str _,.non=>some false |.str _,.bl _=>some false |.str _,.int _=>some false
 |_,_=>none
def zgf(f:T->T->Option Bool):List T->List T->Option Bool
 |x::xs,y::ys=>(f x y).bind fun b=>(zgf f xs ys).map fun c=>b&&c
 |_,_=>some true
def eqD:Nat->T->T->Option Bool
 |n+1,.lst xs,.lst ys=>if xs.length=ys.length then zgf (eqD n) xs ys else some false
 |n+1,.tup xs,.tup ys=>(zgf (eqD n) xs ys).map fun b=>b&&xs.length == ys.length
 |_+1,.lst _,.tup _=>some false
 |_+1,.tup _,.lst _=>some false
 |_,x,y=>scE x y
def eqS(n:Nat)(x y:T):Option Bool:=match x,y with
 |.lst xs,.lst ys=>if xs.length=ys.length then zgf (eqD n) xs ys else some false
 |.tup xs,.tup ys=>(zgf (eqD n) xs ys).map fun b=>b&&xs.length == ys.length
 |.lst _,.tup _=>some false
 |.tup _,.lst _=>some false
 |x,y=>scE x y
theorem zhp(n:Nat)(x y:T):eqD (n+1) x y=eqS n x y:=by cases x<;>cases y<;>rfl
theorem zd0{f:T->T->Option Bool}:∀ {xs ys:List T} {b:Bool},zgf f xs ys=some b->∃ e:Nat->Bool,(∀ j x y,xs[j]?=some x->ys[j]?=some y->f x y=some (e j))/\b=(jp (min xs.length ys.length)).all e
 |[],_,b,h=>⟨fun _=>true,fun j x y e=>by simp at e,by unfold zgf at h; simp at h; simp[h]⟩
 |x::xs,[],b,h=>⟨fun _=>true,fun j x y _ e=>by simp at e,by unfold zgf at h; simp at h; simp[h]⟩
 |x::xs,y::ys,b,h=>by
  unfold zgf at h;cases h1:f x y with
  |none=>rw[h1] at h; cases h
  |some c=>
   rw[h1,j9] at h;cases h2:zgf f xs ys with
   |none=>rw[h2] at h; cases h
   |some d=>
    rw[h2] at h;injection h with h;obtain⟨e,he,hd⟩:=zd0 h2;refine⟨fun j=>match j with |0=>c |j+1=>e j,fun j x' y' e1 e2=>?_,?_⟩
    ·cases j with
     |zero=>simp at e1 e2; subst e1 e2; exact h1
     |succ j=>exact he j x' y' (by simpa using e1) (by simpa using e2)
    ·rw[<-h,hd,jl,jl,Nat.succ_min_succ,YZ,gT,Jo];rfl
def scl:T->Option V
 |.non=>some .non |.bl b=>some (.bl b) |.int i=>some (.int i) |.str x=>some (.str x)
 |_=>none
theorem zaj{C:jo->Prop}{H:Hp}{v u:V}{t:T}(h:Rep C H v t)(e:scl t=some u):v=u:=by
 cases h<;>first |exact je e |cases e
theorem zlD{t t':T}{b:Bool}(e:scE t t'=some b):∃ u u',scl t=some u/\scl t'=some u'/\(u=u'->b=true):=by
 cases t with
 |non=>cases t'<;>first |(cases e; done) |exact⟨_,_,rfl,rfl,fun z=>by cases z<;>exact(je e).symm⟩
 |bl x=>cases t'<;>first |(cases e; done) |exact⟨_,_,rfl,rfl,fun z=>by cases z<;>exact(je e).symm.trans (beq_self_eq_true _)⟩
 |int x=>cases t'<;>first |(cases e; done) |exact⟨_,_,rfl,rfl,fun z=>by cases z<;>exact(je e).symm.trans (beq_self_eq_true _)⟩
 |str x=>cases t'<;>first |(cases e; done) |exact⟨_,_,rfl,rfl,fun z=>by cases z<;>exact(je e).symm.trans (beq_self_eq_true _)⟩
 |_=>cases e
theorem zk6{C:jo->Prop}{H:Hp}:∀(n:Nat) {v:V} {t t':T} {b:Bool},Rep C H v t->Rep C H v t'->eqD n t t'=some b->b=true:=by
 have sc:∀ {v:V} {t t':T} {b:Bool},Rep C H v t->Rep C H v t'->scE t t'=some b->b=true:=by
  intro v t t' b h h' e;obtain⟨u,u',e1,e2,k⟩:=zlD e;exact k ((zaj h e1).symm.trans (zaj h' e2))
 intro n
 induction n with
 |zero=>intro v t t' b h h' e; exact sc h h' e
 |succ n ih=>
  intro v t t' b h h' e;rw[zhp] at e;have lists:∀ {vs:List V} {xs ys:List T} {b:Bool},Reps C H vs xs->Reps C H vs ys->zgf (eqD n) xs ys=some b->b=true:=by
   intro vs xs ys b hx hy h;obtain⟨e,he,rfl⟩:=zd0 h;refine jx.mpr fun j hj=>?_;have hj':=jz.mp hj;have h1:j < xs.length:=by lia
   have h2:j < ys.length:=by lia
   have h3:j < vs.length:=by rw[hx.1]; exact h1
   have q1:=hx.2 j _ _ (j3 h3) (j3 h1);have q2:=hy.2 j _ _ (j3 h3) (j3 h2);exact ih q1 q2 (he j _ _ (j3 h1) (j3 h2))
  cases t with
  |lst xs=>
   obtain⟨p,vs,rfl,hp,rp⟩:=BRep.lst (.inl h);cases t' with
   |lst ys=>
    obtain⟨q,us,z,hq,rq⟩:=BRep.lst (.inl h');cases z;cases hp.symm.trans hq;have e:(if xs.length=ys.length then zgf (eqD n) xs ys else some false)=some b:=e
    rw[Ip_ (rp.1.symm.trans rq.1)] at e;exact lists rp rq e
   |tup ys=>
    obtain⟨q,us,z,hq,rq⟩:=BRep.tup (.inl h');cases z;cases hp.symm.trans hq
   |_=>cases e
  |tup xs=>
   obtain⟨p,vs,rfl,hp,rp⟩:=BRep.tup (.inl h);cases t' with
   |tup ys=>
    obtain⟨q,us,z,hq,rq⟩:=BRep.tup (.inl h');cases z;cases hp.symm.trans hq;obtain⟨d,h2,rfl⟩:=Qm (show (zgf (eqD n) xs ys).map _=some b from e);rw[lists rp rq h2,<-rp.1,<-rq.1,beq_self_eq_true];rfl
   |lst ys=>
    obtain⟨q,us,z,hq,rq⟩:=BRep.lst (.inl h');cases z;cases hp.symm.trans hq
   |_=>cases e
  |_=>exact sc h h' e
open PySem.SeqAt
section
variable {pc:List (jo × Obj)}{σ:L2.St}{s:j8}{C:jo->Prop}
theorem znq{A:Q1}{x0 y0:V}{tx ty:T}{b:Bool}{u w:j7}(hx:Rep C H x0 tx)(hy:Rep C H y0 ty)(rx:RelV x0 u)(ry:RelV y0 w)(h:scE tx ty=some b):EqAt A s u w b/\RcAt A s u w b/\RcNeAt A s u w (!b):=by
 cases tx with
 |non=>
  obtain rfl:x0=.non:=zaj hx rfl;cases rx;cases ty with
  |non=>obtain rfl:y0=.non:=zaj hy rfl; cases ry; cases h; exact⟨.same _,.none_none,.none_none⟩
  |bl y=>obtain rfl:y0=.bl y:=zaj hy rfl; cases ry; cases h; exact⟨.none_bool _,.none_bool _,.none_bool _⟩
  |int y=>obtain rfl:y0=.int y:=zaj hy rfl; obtain⟨t,rfl⟩:=ry; cases h; exact⟨.none_int _ _,.none_int _ _,.none_int _ _⟩
  |str y=>obtain rfl:y0=.str y:=zaj hy rfl; obtain⟨t,rfl⟩:=ry; cases h; exact⟨.none_str _ _,.none_str _ _,.none_str _ _⟩
  |_=>cases h
 |bl x=>
  obtain rfl:x0=.bl x:=zaj hx rfl;cases rx;cases ty with
  |non=>obtain rfl:y0=.non:=zaj hy rfl; cases ry; cases h; exact⟨.bool_none _,.bool_none _,.bool_none _⟩
  |bl y=>obtain rfl:y0=.bl y:=zaj hy rfl; cases ry; cases h; exact⟨.bool_bool _ _,.bool_bool _ _,.bool_bool _ _⟩
  |int y=>obtain rfl:y0=.int y:=zaj hy rfl; obtain⟨t,rfl⟩:=ry; cases h; exact⟨.bool_int _ _ _,.bool_int _ _ _,.bool_int _ _ _⟩
  |str y=>obtain rfl:y0=.str y:=zaj hy rfl; obtain⟨t,rfl⟩:=ry; cases h; exact⟨.bool_str _ _ _,.bool_str _ _ _,.bool_str _ _ _⟩
  |_=>cases h
 |int x=>
  obtain rfl:x0=.int x:=zaj hx rfl;obtain⟨t0,rfl⟩:=rx;cases ty with
  |non=>obtain rfl:y0=.non:=zaj hy rfl; cases ry; cases h; exact⟨.int_none _ _,.int_none _ _,.int_none _ _⟩
  |bl y=>obtain rfl:y0=.bl y:=zaj hy rfl; cases ry; cases h; exact⟨.int_bool _ _ _,.int_bool _ _ _,.int_bool _ _ _⟩
  |int y=>obtain rfl:y0=.int y:=zaj hy rfl; obtain⟨t,rfl⟩:=ry; cases h; exact⟨.int_int _ _ _ _,.int_int _ _ _ _,.int_int _ _ _ _⟩
  |str y=>obtain rfl:y0=.str y:=zaj hy rfl; obtain⟨t,rfl⟩:=ry; cases h; exact⟨.int_str _ _ _ _,.int_str _ _ _ _,.int_str _ _ _ _⟩
  |_=>cases h
 |str x=>
  obtain rfl:x0=.str x:=zaj hx rfl;obtain⟨t0,rfl⟩:=rx;cases ty with
  |non=>obtain rfl:y0=.non:=zaj hy rfl; cases ry; cases h; exact⟨.str_none _ _,.str_none _ _,.str_none _ _⟩
  |bl y=>obtain rfl:y0=.bl y:=zaj hy rfl; cases ry; cases h; exact⟨.str_bool _ _ _,.str_bool _ _ _,.str_bool _ _ _⟩
  |int y=>obtain rfl:y0=.int y:=zaj hy rfl; obtain⟨t,rfl⟩:=ry; cases h; exact⟨.str_int _ _ _ _,.str_int _ _ _ _,.str_int _ _ _ _⟩
  |str y=>obtain rfl:y0=.str y:=zaj hy rfl; obtain⟨t,rfl⟩:=ry; cases h; exact⟨.str_str _ _ _ _,.str_str _ _ _ _,.str_str _ _ _ _⟩
  |_=>cases h
 |_=>cases h
theorem zos(I:Inv X pc σ H s):∀(n:Nat) (A:Q1) {x y:V} {tx ty:T} {b:Bool} {u w:j7},A.units+n < gO->Rep C H x tx->Rep C H y ty->RelV x u->RelV y w->eqD n tx ty=some b->EqAt A s u w b/\RcAt A s u w b/\RcNeAt A s u w (!b):=by
 intro n
 induction n with
 |zero=>intro A x y tx ty b u w hu hx hy rx ry h; unfold eqD at h; exact znq hx hy rx ry h
 |succ n ih=>
  intro A x y tx ty b u w hu hx hy rx ry h;have hu':A.units < gO:=by lia
  have hin:A.in1.units+n < gO:=by
   have:A.in1.units=A.units+1:=rfl;lia
  have parts:∀ {vs us:List V} {xs ys:List T} {its its2:List j7} {e:Nat->Bool},Reps C H vs xs->Reps C H us ys->Vals vs its->Vals us its2->(∀ j x y,xs[j]?=some x->ys[j]?=some y->eqD n x y=some (e j))->
    ∀ j (h1:j < its.toArray.size) (h2:j < its2.toArray.size),EqAt A.in1 s its.toArray[j] its2.toArray[j] (e j):=by
   intro vs us xs ys its its2 e hvs hus r r2 he j h1 h2;rw[ji] at h1 h2;have v1:j < vs.length:=by rw[r.length]; exact h1
   have v2:j < us.length:=by rw[r2.length]; exact h2
   have x1:j < xs.length:=by rw[<-hvs.1]; exact v1
   have y1:j < ys.length:=by rw[<-hus.1]; exact v2
   obtain⟨w1,e1,q1⟩:=r.get (j3 v1);obtain⟨w2,e2,q2⟩:=r2.get (j3 v2);rw[j3 h1] at e1;rw[j3 h2] at e2;injection e1 with e1;injection e2 with e2;simp only[gR,e1,e2];exact(ih A.in1 hin (hvs.2 j _ _ (j3 v1) (j3 x1)) (hus.2 j _ _ (j3 v2) (j3 y1)) q1 q2 (he j _ _ (j3 x1) (j3 y1))).1
  have refs:∀ {p q:jo},x=.ref p->y=.ref q->RcAt A s (.ref p) (.ref q) b->EqAt A s (.ref p) (.ref q) b:=by
   intro p q ep eq hr
   by_cases hpq:p=q
   ·subst hpq;have:b=true:=zk6 (n+1) (v:=.ref p) (ep▸hx) (eq▸hy) h;rw[this];exact .same _
   ·exact .of_refs hpq hr
  have scs:scE tx ty=some b->EqAt A s u w b/\RcAt A s u w b/\RcNeAt A s u w (!b):=znq hx hy rx ry;rw[zhp] at h;unfold eqS at h;split at h
  ·rename_i xs ys;obtain⟨p,vs,rfl,hp,rp⟩:=BRep.lst (.inl hx);obtain⟨q,us,rfl,hq,rq⟩:=BRep.lst (.inl hy);cases rx; cases ry;obtain⟨its,r,pl,_⟩:=I.list (SqL.of hp);obtain⟨its2,r2,pl2,_⟩:=I.list (SqL.of hq);have l1:=r.length;have l2:=r2.length;have l3:=rp.1;have l4:=rq.1;split at h
   ·rename_i hl;obtain⟨e,he,hb⟩:=zd0 h;have sz:its.toArray.size=its2.toArray.size:=by rw[ji,ji]; lia
    have rc:=RcAt.lists pl.isList pl2.isList sz hu' (parts rp rq r r2 he);have rn:=RcNeAt.lists pl.isList pl2.isList sz hu' (parts rp rq r r2 he);have hb':b=(jp its.toArray.size).all e:=by rw[hb,ji,hl,Nat.min_self,show its.length=ys.length by lia]
    rw[<-hb'] at rc rn;exact⟨refs rfl rfl rc,rc,rn⟩
   ·rename_i hl;cases h;have sz:(its.toArray.size != its2.toArray.size)=true:=by simp; lia
    have rc:=RcAt.lists_lengths pl.isList pl2.isList sz hu';exact⟨refs rfl rfl rc,rc,RcNeAt.lists_lengths pl.isList pl2.isList sz hu'⟩
  ·rename_i xs ys;obtain⟨p,vs,rfl,hp,rp⟩:=BRep.tup (.inl hx);obtain⟨q,us,rfl,hq,rq⟩:=BRep.tup (.inl hy);cases rx; cases ry;obtain⟨its,r,pl,_⟩:=I.tuple (SqT.of hp);obtain⟨its2,r2,pl2,_⟩:=I.tuple (SqT.of hq);have l1:=r.length;have l2:=r2.length;have l3:=rp.1;have l4:=rq.1;cases h2:zgf (eqD n) xs ys with
   |none=>rw[h2] at h; cases h
   |some d=>
    rw[h2] at h;injection h with h;obtain⟨e,he,hb⟩:=zd0 h2;have rc:=RcAt.tuples pl pl2 hu' (parts rp rq r r2 he);have rn:=RcNeAt.tuples pl pl2 hu' (parts rp rq r r2 he);have hb':b=((jp (min its.toArray.size its2.toArray.size)).all e&&its.toArray.size == its2.toArray.size):=by
     rw[<-h,hb,ji,ji,show its.length=xs.length by lia,show its2.length=ys.length by lia]
    rw[<-hb'] at rc rn;exact⟨refs rfl rfl rc,rc,rn⟩
  ·obtain⟨p,vs,rfl,hp,rp⟩:=BRep.lst (.inl hx);obtain⟨q,us,rfl,hq,rq⟩:=BRep.tup (.inl hy);cases rx; cases ry;obtain⟨its,r,pl,_⟩:=I.list (SqL.of hp);obtain⟨its2,r2,pl2,_⟩:=I.tuple (SqT.of hq);cases h;exact⟨.list_tuple pl.isList pl2 hu',.list_tuple pl.isList pl2 hu',.list_tuple pl.isList pl2 hu'⟩
  ·obtain⟨p,vs,rfl,hp,rp⟩:=BRep.tup (.inl hx);obtain⟨q,us,rfl,hq,rq⟩:=BRep.lst (.inl hy);cases rx; cases ry;obtain⟨its,r,pl,_⟩:=I.tuple (SqT.of hp);obtain⟨its2,r2,pl2,_⟩:=I.list (SqL.of hq);cases h;exact⟨.tuple_list pl pl2.isList hu',.tuple_list pl pl2.isList hu',.tuple_list pl pl2.isList hu'⟩
  ·exact scs h
end
end L3
namespace L3
open PySem PySem.Spec PyProof.Rows L2
variable [TheK]
variable {X:Cx}{M M' Mb io:List Nat}{pos:Pos}{e:Q0}{fe:DE}{rk:Kd}{fa:DA}
theorem BRep.all{C:jo->Prop}{H:Hp}{v:V}{t:T}(h:BRep C H v t):Rep (fun _=>True) H v t:=by
 rcases h with h |⟨a,rfl,h⟩
 ·exact h.mono (fun _ _=>trivial) fun _ _ _ e=>e
 ·exact h.rep (fun _ _=>trivial) trivial
def gEq(x y:T):Option T:=(eqD 8 x y).map .bl
def gNe(x y:T):Option T:=(eqD 8 x y).map fun b=>.bl (!b)
def zoO(neg:Bool):R2:=fun x y H Q=>∃ tx ty b,Rep (fun _=>True) H x tx/\Rep (fun _=>True) H y ty/\eqD 8 tx ty=some b/\Q (.bl (if neg then !b else b)) H
theorem zkW{X:Cx}(hu:X.A.units+8 < gO):OpR X (ZV .Eq) (zoO false):=by
 intro pc s sg H x y v u Q I rx ry h;obtain⟨tx,ty,b,hx,hy,e,q⟩:=h;exact(zos I 8 X.A hu hx hy rx ry e).2.1 _ _ _ _ ⟨.bl b,H,I,rfl,q⟩
theorem zkV{X:Cx}(hu:X.A.units+8 < gO):OpR X (ZV .NotEq) (zoO true):=by
 intro pc s sg H x y v u Q I rx ry h;obtain⟨tx,ty,b,hx,hy,e,q⟩:=h;exact(zos I 8 X.A hu hx hy rx ry e).2.2 _ _ _ _ ⟨.bl (!b),H,I,rfl,q⟩
theorem zqI:S2E (zoO false) gEq:=by
 intro C H x y tx ty t Q bx by' hg q;unfold gEq at hg;cases e:eqD 8 tx ty with
 |none=>rw[e] at hg; cases hg
 |some b=>
  rw[e] at hg;injection hg with hg; subst hg;exact⟨tx,ty,b,bx.all,by'.all,e,q _ (.bl b)⟩
theorem zqG:S2E (zoO true) gNe:=by
 intro C H x y tx ty t Q bx by' hg q;unfold gNe at hg;cases e:eqD 8 tx ty with
 |none=>rw[e] at hg; cases hg
 |some b=>
  rw[e] at hg;injection hg with hg; subst hg;exact⟨tx,ty,b,bx.all,by'.all,e,q _ (.bl (!b))⟩
def gLt:=zoo (fun i j=>decide (i < j)) fun i j=>decide (i.cps.toList < j.cps.toList)
def gI1(p:Int->Int->Bool):T->T->Option T
 |.int i,.int j=>some (.bl (p i j))
 |_,_=>none
def gLe:=gI1 fun i j=>decide (i<=j)
def gGt:=gI1 fun i j=>decide (j < i)
def gGe:=gI1 fun i j=>decide (j<=i)
theorem zrz{p:Int->Int->Bool}:S2E (rI0 (fun i j=>.bl (p i j))) (gI1 p):=by
 intro C H x y tx ty t Q bx by' hg q;unfold gI1 at hg;split at hg
 ·injection hg with hg; subst hg;exact⟨_,_,bx.int,by'.int,q _ (.bl _)⟩
 ·cases hg
def toV:T->Option V
 |.non=>some .non |.bl b=>some (.bl b) |.int i=>some (.int i) |.str x=>some (.str x) |_=>none
def zgW:List T->Option (List V)
 |[]=>some []
 |t::ts=>(toV t).bind fun v=>(zgW ts).map fun vs=>v::vs
theorem zgX{C:jo->Prop}{H:Hp}{v u:V}{t:T}(h:BRep C H v t)(e:toV t=some u):u=v/\zbX v=true:=by
 cases t<;>simp[toV] at e
 ·exact⟨by rw[h.non,<-e],by rw[h.non]; rfl⟩
 ·exact⟨by rw[h.bl,<-e],by rw[h.bl]; rfl⟩
 ·exact⟨by rw[h.int,<-e],by rw[h.int]; rfl⟩
 ·exact⟨by rw[h.str,<-e],by rw[h.str]; rfl⟩
theorem zes{C:jo->Prop}{H:Hp}:∀ {vs us:List V} {ts:List T},Reps C H vs ts->zgW ts=some us->us=vs/\vs.all zbX=true
 |[],us,[],_,e=>by unfold zgW at e; injection e with e; exact⟨e.symm,rfl⟩
 |v::vs,us,[],h,_=>by have:=h.1; simp at this
 |[],us,t::ts,h,_=>by have:=h.1; simp at this
 |v::vs,us,t::ts,h,e=>by
  unfold zgW at e;cases e1:toV t with
  |none=>rw[e1] at e; cases e
  |some a=>
   rw[e1,j9] at e;cases e2:zgW ts with
   |none=>rw[e2] at e; cases e
   |some as=>
    rw[e2] at e;injection e with e;obtain⟨q1,q2⟩:=zgX (.inl h.head) e1;obtain⟨q3,q4⟩:=zes h.tail e2;exact⟨by rw[<-e,q1,q3],by rw[gT,q2,q4]; rfl⟩
def zbV(kvs:List (Key × T))(k:Key):Option T:=(kvs.find? fun kv=>decide (kv.1=k)).map (·.2)
theorem zhV(p:Key × T)(r:List (Key × T))(k:Key):zbV (p::r) k=if p.1=k then some p.2 else zbV r k:=by
 unfold zbV;rw[Zl]
 by_cases h:p.1=k
 ·rw[Ip_ h,Dt_ h]; rfl
 ·rw[In_ h,Df_ h]
theorem RepK.tail{C:jo->Prop}{H:Hp}{p:Key × V}{q:Key × T}{vs:List (Key × V)}{ts:List (Key × T)}(h:RepK C H (p::vs) (q::ts)):p.1=q.1/\Rep C H p.2 q.2/\RepK C H vs ts:=by
 have h1:=h.1;rw[ju,ju] at h1;injection h1 with a b;exact⟨a,h.2 0 p q rfl rfl,b,fun i v t e1 e2=>h.2 (i+1) v t (by simpa using e1) (by simpa using e2)⟩
theorem RepK.look{C:jo->Prop}{H:Hp}(k:Key):∀ {vs:List (Key × V)} {ts:List (Key × T)},RepK C H vs ts->(zgV vs k=none/\zbV ts k=none)∨∃ v t,zgV vs k=some v/\zbV ts k=some t/\Rep C H v t
 |[],[],_=>.inl ⟨rfl,rfl⟩
 |p::vs,[],h=>by have:=h.1; simp at this
 |[],q::ts,h=>by have:=h.1; simp at this
 |p::vs,q::ts,h=>by
  obtain⟨e,r,h'⟩:=h.tail;rw[zhV]
  by_cases hk:q.1=k
  ·rw[Ip_ hk,zeo (e.trans hk)];exact .inr ⟨_,_,rfl,rfl,r⟩
  ·rw[In_ hk,zep (fun z=>hk (e.symm.trans z))];exact RepK.look k h'
def zl0:T->Option Key
 |.int i=>some (.inl i)
 |.str x=>some (.inr x)
 |_=>none
theorem zeX{C:jo->Prop}{H:Hp}{v:V}{t:T}{k:Key}(h:BRep C H v t)(e:zl0 t=some k):v=kV k:=by
 cases t<;>simp[zl0] at e
 ·rw[h.int,<-e]; rfl
 ·rw[h.str,<-e]; rfl
def zmu(x y:T):Option Bool:=match y with
 |.lst ys=>(toV x).bind fun v=>(zgW ys).map fun vs=>inV v vs
 |.tup ys=>(toV x).bind fun v=>(zgW ys).map fun vs=>inV v vs
 |_=>none
def gIn(x y:T):Option T:=(zmu x y).map .bl
def zhl(x y:T):Option T:=(zmu x y).map fun b=>.bl (!b)
def zmw(x y:T):Option Bool:=match y with
 |.dct kvs=>(zl0 x).map fun k=>(zbV kvs k).isSome
 |.fd kvs=>(zl0 x).map fun k=>(zbV kvs k).isSome
 |_=>none
def zrK(x y:T):Option T:=(zmw x y).map .bl
def zjm(x y:T):Option T:=(zmw x y).map fun b=>.bl (!b)
theorem zpL{K:jd}{neg:Bool}:S2E (rIn K neg) fun x y=>(zmu x y).map fun b=>.bl (if neg then !b else b):=by
 intro C H x y tx ty t Q bx by' hg q;obtain⟨b,e,rfl⟩:=Qm hg;have fin:∀ {p vs ys},y=.ref p->(SqL K H p vs∨SqT K H p vs)->Reps C H vs ys->((toV tx).bind fun v=>(zgW ys).map fun vs=>inV v vs)=some b->rIn K neg x y H Q:=by
  intro p vs ys e1 e2 r e5;obtain⟨v,e3,e5⟩:=Qb e5;obtain⟨us,e4,rfl⟩:=Qm e5;obtain⟨q1,q2⟩:=zgX bx e3;obtain⟨q3,q4⟩:=zes r e4;subst q1 q3;exact⟨p,_,e1,e2,q2,q4,q _ (.bl _)⟩
 cases ty with
 |lst ys=>
  obtain⟨p,vs,e1,e2,r⟩:=by'.lst;exact fin e1 (.inl (SqL.of e2)) r e
 |tup ys=>
  obtain⟨p,vs,e1,e2,r⟩:=by'.tup;exact fin e1 (.inr (SqT.of e2)) r e
 |_=>cases e
theorem zpM{neg:Bool}:S2E (fun y x H Q=>∃ a o,x=.ref a/\DGet H a y o/\Q (.bl (if neg then !o.isSome else o.isSome)) H) fun x y=>(zmw x y).map fun b=>.bl (if neg then !b else b):=by
 intro C H x y tx ty t Q bx by' hg q;obtain⟨b,e,rfl⟩:=Qm hg;cases ty with
 |dct kts=>
  obtain⟨p,kvs,rfl,e2,r⟩:=by'.dct;obtain⟨k,e3,rfl⟩:=Qm e;cases zeX bx e3;refine⟨p,_,rfl,DGet.k e2,?_⟩;have:(zbV kts k).isSome=(zgV kvs k).isSome:=by
   rcases r.look k with ⟨h1,h2⟩ |⟨_,_,h1,h2,_⟩<;>rw[h1,h2]<;>rfl
  rw[<-this];exact q _ (.bl _)
 |fd kts=>
  obtain⟨p,ob,kvs,rfl,e2,r,_⟩:=by'.fd;obtain⟨k,e3,rfl⟩:=Qm e;cases zeX bx e3;refine⟨p,_,rfl,.inl ⟨kvs,k,.inr ⟨ob,e2⟩,rfl,rfl⟩,?_⟩;have:(zbV kts k).isSome=(zgV kvs k).isSome:=by
   rcases r.look k with ⟨h1,h2⟩ |⟨_,_,h1,h2,_⟩<;>rw[h1,h2]<;>rfl
  rw[<-this];exact q _ (.bl _)
 |_=>cases e
def gIx:T->T->Option T
 |.lst xs,.int i=>atI xs i
 |.tup xs,.int i=>atI xs i
 |.str x,.int i=>if x.length<=jq then (atI x.cps.toList i).map fun c=>.str ⟨#[c]⟩ else none
 |.scr ns,.int i=>(atI ns i).map .int
 |_,_=>none
def zmv(x y:T):Option T:=match x with
 |.dct kvs=>(zl0 y).bind fun k=>zbV kvs k
 |.fd kvs=>(zl0 y).bind fun k=>zbV kvs k
 |_=>none
theorem Reps.at{C:jo->Prop}{H:Hp}{vs:List V}{ts:List T}{i:Int}{t:T}(h:Reps C H vs ts)(e:atI ts i=some t):∃ v,atI vs i=some v/\Rep C H v t:=by
 unfold atI at e ⊢;rw[h.1];cases e1:ixN ts.length i with
 |none=>rw[e1] at e; cases e
 |some j=>
  rw[e1] at e;exact h.get e
theorem zqH:S2E (rIx TheK.K) gIx:=by
 intro C H x y tx ty t Q bx by' hg q;unfold gIx at hg;split at hg
 ·obtain⟨p,vs,rfl,e2,r⟩:=bx.lst;obtain⟨v,h1,h2⟩:=r.at hg;exact .inl ⟨p,vs,_,v,rfl,by'.int,SqL.of e2,h1,q v h2⟩
 ·obtain⟨p,vs,rfl,e2,r⟩:=bx.tup;obtain⟨v,h1,h2⟩:=r.at hg;exact .inr (.inl ⟨p,vs,_,v,rfl,by'.int,SqT.of e2,h1,q v h2⟩)
 ·split at hg
  ·rename_i hl;obtain⟨c,h1,h2⟩:=Qm hg;subst h2;exact .inr (.inr ⟨_,_,c,bx.str,by'.int,hl,h1,q _ (.str _)⟩)
  ·cases hg
 ·obtain⟨p,rfl,e2⟩:=bx.scr;obtain⟨c,h1,h2⟩:=Qm hg;subst h2;refine .inl ⟨p,_,_,.int c,rfl,by'.int,e2,?_,q _ (.int c)⟩;unfold atI at h1 ⊢;rw[ja];cases e1:ixN _ _ with
  |none=>rw[e1] at h1; cases h1
  |some j=>
   rw[e1,j9] at h1;rw[j9,jc,h1];rfl
 ·cases hg
theorem znr:S2E (fun x y H Q=>∃ a v,x=.ref a/\DGet H a y (some v)/\Q v H) zmv:=by
 intro C H x y tx ty t Q bx by' hg q;unfold zmv at hg;split at hg
 ·obtain⟨p,kvs,rfl,e2,r⟩:=bx.dct;cases e3:zl0 ty with
  |none=>rw[e3] at hg; cases hg
  |some k=>
   rw[e3,j9] at hg;cases zeX by' e3;rcases r.look k with ⟨h1,h2⟩ |⟨v,t',h1,h2,h3⟩
   ·rw[h2] at hg; cases hg
   ·rw[h2] at hg;injection hg with hg; subst hg;exact⟨p,v,rfl,h1▸DGet.k e2,q v h3⟩
 ·obtain⟨p,ob,kvs,rfl,e2,r,_⟩:=bx.fd;cases e3:zl0 ty with
  |none=>rw[e3] at hg; cases hg
  |some k=>
   rw[e3,j9] at hg;cases zeX by' e3;rcases r.look k with ⟨h1,h2⟩ |⟨v,t',h1,h2,h3⟩
   ·rw[h2] at hg; cases hg
   ·rw[h2] at hg;injection hg with hg; subst hg;exact⟨p,v,rfl,.inl ⟨kvs,k,.inr ⟨ob,e2⟩,rfl,h1.symm⟩,q v h3⟩
 ·cases hg
section
variable {a b:Q0}{fa fb:DE}
theorem zrM(hK:X.K=TheK.K)(ha:PE X a (cE .e M fa))(hb:PE X b (cE .b M fb))(hs:zdL b):PE X (.Subscript a b pos) (cE .e M (d2 gIx fa fb)):=weak (znW (hK▸zl1) ha hb hs) (zbm zqH)
theorem zqn{i:Nat}(hK:X.K=TheK.K)(hi:M.contains i=true)(ha:PE X a (zdM i))(hb:PE X b (cE .b M fb))(hs:zdL b):PE X (.Subscript a b pos) (cE .e M (d2v gIx i fb)):=weak (znW (hK▸zl1) ha hb hs) (zig hi zqH)
theorem zqo(hu:X.A.units+1 < gO)(ha:PE X a (cE .e M fa))(hb:PE X b (cE .b M fb))(hs:zoY b):PE X (.Subscript a b pos) (cE .e M (d2 zmv fa fb)):=weak (ziM hu ha hb hs) fun σ H Q h=>zbm znr σ H Q h
theorem zou{i:Nat}(hi:M.contains i=true)(hu:X.A.units+1 < gO)(ha:PE X a (zdM i))(hb:PE X b (cE .b M fb))(hs:zoY b):PE X (.Subscript a b pos) (cE .e M (d2v zmv i fb)):=weak (ziM hu ha hb hs) fun σ H Q h=>zig hi znr σ H Q h
end
def dB(f:DE):DT:=fun s=>(f s).bind fun p=>match p.1 with
 |.bl b=>some (b,p.2)
 |_=>none
theorem zgI{f:DE}{s s':Sg}{b:Bool}(h:dB f s=some (b,s')):f s=some (.bl b,s'):=by
 obtain⟨p,h1,h2⟩:=Qb h;obtain⟨t,s1⟩:=p;cases t<;>simp at h2
 rw[h1,h2.1,h2.2]
theorem tst{M:List Nat}{f:DE}{t:TE}(h:∀ σ H Q,cE .e M f σ H Q->t σ H Q):∀ σ H Q,cT M (dB f) σ H Q->zni t σ H Q:=by
 intro σ H Q h_;refine cT_ h_ fun F O s b s' R hf q=>?_;exact h σ H _ ⟨F,O,s,.bl b,s',R,zgI hf,fun v H' S p=>⟨b,BRep.bl (.inl p.2),q H' S p.1⟩⟩
def tru:T->Option Bool
 |.non=>some false |.bl b=>some b |.int i=>some (i != 0)
 |.str x=>if x.length<=jq then some ((x.length:Int) != 0) else none
 |.lst xs=>some (!xs.isEmpty) |.tup xs=>some (!xs.isEmpty) |.dct xs=>some (!xs.isEmpty)
 |_=>none
theorem zdq{α β:Type}{xs:List α}{ys:List β}(h:xs.length=ys.length):(!ys.isEmpty)=!xs.isEmpty:=by
 cases xs<;>cases ys<;>simp at h<;>rfl
theorem zlq{K:jd}{C:jo->Prop}{H:Hp}{v:V}{t:T}{b:Bool}(h:BRep C H v t)(e:tru t=some b):zqA K v H b:=by
 cases t with
 |non=>rw[h.non]; injection e with e; exact e.symm
 |bl x=>rw[h.bl]; injection e with e; exact e.symm
 |int x=>rw[h.int]; injection e with e; exact e.symm
 |str x=>
  rw[h.str]
  by_cases hl:x.length<=jq
  ·have e':(if x.length<=jq then some ((x.length:Int) != 0) else none)=some b:=e
   rw[Ip_ hl] at e';injection e' with e';exact⟨hl,e'.symm⟩
  ·have e':(if x.length<=jq then some ((x.length:Int) != 0) else none)=some b:=e
   rw[In_ hl] at e';cases e'
 |lst xs=>
  obtain⟨p,vs,rfl,e2,r⟩:=h.lst;injection e with e;exact .inl ⟨vs,SqL.of e2,by rw[<-e]; exact zdq r.1⟩
 |tup xs=>
  obtain⟨p,vs,rfl,e2,r⟩:=h.tup;injection e with e;exact .inr (.inl ⟨vs,SqT.of e2,by rw[<-e]; exact zdq r.1⟩)
 |dct xs=>
  obtain⟨p,vs,rfl,e2,r⟩:=h.dct;injection e with e;have l:vs.length=xs.length:=by simpa using congrArg Y0 r.1
  exact .inr (.inr ⟨vs,e2,by rw[<-e]; exact zdq l⟩)
 |_=>cases e
def zla(f:DE):DT:=fun s=>(f s).bind fun p=>(tru p.1).map fun b=>(b,p.2)
def zoV(f:DT):DT:=fun s=>(f s).map fun p=>(!p.1,p.2)
def zqu(f g:DE):DE:=fun s=>(dB f s).bind fun p=>if p.1 then some (.bl true,p.2) else g p.2
section
variable {a b c:Q0}{fa fb:DE}{ft fu:DT}{k:Kd}
theorem zlr(ha:PE X a (cE .e M fa))(hb:PE X b (cE .b M fb))(hm:Zv .NotIn b=false):PT X (.Compare a [.NotIn] [b] pos) (cT M (dB (d2 zhl fa fb))):=zdO (zcr zfE ha hb hm) (tst (zbm (zpL (neg:=true))))
theorem zjV(hu:X.A.units+1 < gO)(ha:PE X a (cE .e M fa))(hb:PE X b (cE .b M fb))(hm:Zv .NotIn b=false):PT X (.Compare a [.NotIn] [b] pos) (cT M (dB (d2 zjm fa fb))):=zdO (znJ (ziN hu ha hb) hm) fun σ H Q h=>tst (zbm (zpM (neg:=true))) σ H Q h
end
def dAn:DA:=fun s=>some ([],s)
def dAc(f:DE)(g:DA):DA:=fun s=>(f s).bind fun p=>(g p.2).map fun q=>(p.1::q.1,q.2)
def zhs(f:DA):DE:=fun s=>(f s).bind fun p=>if p.1.length<=jq then some (.lst p.1,p.2) else none
def zmE(f:DA):DE:=fun s=>(f s).bind fun p=>if p.1.length<=jq then some (.tup p.1,p.2) else none
abbrev DO:=Sg->Option (Option Int × Sg)
def cO(M:List Nat)(f:DO):TO:=fun σ H Q=>∃ F O s t s',Rel F O M s σ H/\f s=some (t,s')/\∀ H',Step σ M H H'->Rel F O M s' σ H'->Q t H'
def dOn:DO:=fun s=>some (none,s)
def dOs(f:DE):DO:=fun s=>(f s).bind fun p=>match p.1 with
 |.int i=>some (some i,p.2)
 |_=>none
def zcl{α:Type}(xs:List α)(lo hi:Option Int):List α:=(xs.drop (HT.sIx xs.length 0 lo)).take (HT.sIx xs.length xs.length hi - HT.sIx xs.length 0 lo)
def gSl(t:T)(lo hi:Option Int):Option T:=match t with
 |.lst xs=>some (.lst (zcl xs lo hi))
 |.scr ns=>some (.lst ((zcl ns lo hi).map .int))
 |_=>none
def zmr(t:T)(lo hi:Option Int):Option T:=match t with
 |.str x=>if x.length<=jq then some (.str (NP x lo hi)) else none
 |_=>none
def dSl(g:T->Option Int->Option Int->Option T)(f:DE)(l h:DO):DE:=fun s=>(f s).bind fun p=>(l p.2).bind fun q=>(h q.2).bind fun r=>(g p.1 q.1 r.1).map fun t=>(t,r.2)
def zow(g:T->Option Int->Option Int->Option T)(i:Nat)(l h:DO):DE:=fun s=>(s[i]?).join.bind fun _=>(l s).bind fun q=>(h q.2).bind fun r=>(r.2[i]?).join.bind fun x=>(g x q.1 r.1).map fun t=>(t,r.2)
theorem Reps.cut{C:jo->Prop}{H:Hp}{vs:List V}{ts:List T}(h:Reps C H vs ts)(lo hi:Option Int):Reps C H (zlb vs lo hi) (zcl ts lo hi):=by
 unfold zlb zcl;rw[h.1];exact(h.drop _).take _
theorem zb8{C:jo->Prop}{H:Hp}:∀(ns:List Int),Reps C H (ns.map V.int) (ns.map T.int)
 |[]=>.nil
 |n::ns=>.cons (.int n) (zb8 ns)
def S3N(r:V->Option Int->Option Int->Hp->VK->Prop)(g:T->Option Int->Option Int->Option T):Prop:=∀(C:jo->Prop) (H:Hp) x lo hi tx t (Q:VK),BRep C H x tx->g tx lo hi=some t->
 (∀ p o,H p=none->(∀ C':jo->Prop,(∀ b,C b/\H b≠none->C' b)->Live C' (upd H p o) p t)->Q (.ref p) (upd H p o))->r x lo hi H Q
theorem zqF:S3N (zqJ TheK.K) gSl:=by
 intro C H x lo hi tx t Q bx hg q;cases tx<;>simp[gSl] at hg
 ·subst hg;obtain⟨a,vs,rfl,ha,ra⟩:=bx.lst;refine⟨a,vs,rfl,SqL.of ha,fun p hp=>q p _ hp fun C' hC=>?_⟩;exact .lst zab ((ra.cut lo hi).there.mono hC fun c o _ e=>by rw[za7 (za3 e hp)]; exact e)
 ·rename_i ns;subst hg;obtain⟨a,rfl,ha⟩:=bx.scr;refine⟨a,_,rfl,ha,fun p hp=>q p _ hp fun C' hC=>.lst zab ?_⟩;have:zlb (ns.map V.int) lo hi=(zcl ns lo hi).map V.int:=by
   unfold zlb zcl;rw[ja,<-Jd,<-Je]
  rw[this];exact zb8 _
section
variable {lo hi:Option Q0}{fl fh:DO}{p2:Pos}
theorem zry{g:T->Option Int->Option Int->Option T}{r:V->Option Int->Option Int->Hp->VK->Prop}(hs:S3N r g):∀ σ H Q,cE .n M (dSl g fe fl fh) σ H Q->tSl r (cE .e M fe) (cO M fl) (cO M fh) σ H Q:=by
 intro σ H Q h_;refine cE_ h_ fun F O s t s' R hf q=>?_;obtain⟨p,h1,h2⟩:=Qb hf;obtain⟨l,h3,h4⟩:=Qb h2;obtain⟨u,h5,h6⟩:=Qb h4;obtain⟨t',h7,h8⟩:=Qm h6;injection h8 with h8 h9;subst h8 h9;refine⟨F,O,s,p.1,p.2,R,h1,fun v H1 S1 p1=>⟨F,O,p.2,l.1,l.2,p1.1,h3,fun H2 S2 R2=>⟨F,O,l.2,u.1,u.2,R2,h5,fun H3 S3 R3=>?_⟩⟩⟩;have S:=(S1.trans S2).trans S3;exact hs (Free F O) H3 v l.1 u.1 p.1 t' Q (.inl (R2.stay S3 (p1.1.stay S2 p1.2))) h7 fun a o ha L=>q _ _ (S.trans (.new ha o)) (.mkN R R3 S ha L)
theorem zpJ{g:T->Option Int->Option Int->Option T}{r:V->Option Int->Option Int->Hp->VK->Prop}{i:Nat}(hi:M.contains i=true)(hs:S3N r g):∀ σ H Q,cE .n M (zow g i fl fh) σ H Q->tSl r (zdM i) (cO M fl) (cO M fh) σ H Q:=by
 intro σ H Q h_;refine cE_ h_ fun F O s t s' R hf q=>?_;obtain⟨x0,h0,hf⟩:=Qb hf;obtain⟨l,h3,h4⟩:=Qb hf;obtain⟨u,h5,h6⟩:=Qb h4;obtain⟨x,h6',h6⟩:=Qb h6;obtain⟨t',h7,h8⟩:=Qm h6;injection h8 with h8 h9;subst h8 h9;have hi':i∈M:=by simpa using hi
 obtain⟨a,e1,_⟩:=R.own i x0 (zad h0) hi';refine⟨_,e1,F,O,s,l.1,l.2,R,h3,fun H2 S2 R2=>⟨F,O,l.2,u.1,u.2,R2,h5,fun H3 S3 R3=>?_⟩⟩;have S:=S2.trans S3;obtain⟨v,e2,B⟩:=zh1 hi' R R3 (zad h0) (zad h6');rw[e1] at e2;cases e2;exact hs (Free F O) H3 _ l.1 u.1 x t' Q B h7 fun a o ha L=>q _ _ (S.trans (.new ha o)) (.mkN R R3 S ha L)
theorem zrL(hK:X.K=TheK.K)(he:PE X e (cE .e M fe))(hl:PO X lo (cO M fl))(hu:PO X hi (cO M fh)):PE X (.Subscript e (.Slice lo hi none p2) pos) (cE .n M (dSl gSl fe fl fh)):=weak (zeT (hK▸zin) he hl hu) (zry zqF)
theorem zqm(he:PE X e (cE .e M fe))(hl:PO X lo (cO M fl))(hu:PO X hi (cO M fh)):PE X (.Subscript e (.Slice lo hi none p2) pos) (cE .e M (dSl zmr fe fl fh)):=weak (zeT znl he hl hu) (by
 intro σ H Q h_;refine cE_ h_ fun F O s t s' R hf q=>?_;obtain⟨p,h1,h2⟩:=Qb hf;obtain⟨l,h3,h4⟩:=Qb h2;obtain⟨u,h5,h6⟩:=Qb h4;obtain⟨t',h7,h8⟩:=Qm h6;cases h8;refine⟨F,O,s,p.1,p.2,R,h1,fun v H1 S1 p1=>⟨F,O,p.2,l.1,l.2,p1.1,h3,fun H2 S2 R2=>⟨F,O,l.2,u.1,u.2,R2,h5,fun H3 S3 R3=>?_⟩⟩⟩;have S:=(S1.trans S2).trans S3;obtain⟨pt,ps⟩:=p;cases pt<;>simp[zmr] at h7
 rename_i x;obtain⟨h7,h8⟩:=h7
 exact⟨x,BRep.str (.inl p1.2),h7,q _ _ S ⟨R3,by rw[<-h8]; exact .str _⟩⟩)
end
inductive Fl where
 |nx (s:Sg) |rt (t:T) (s:Sg) |bk (s:Sg) |ct (s:Sg)
abbrev DS:=Sg->Option Fl
structure Ios (F:Fr) (io M:List Nat) (σ:L2.St):Prop where
 at_:∀(i:Nat),i∈io->i∈M/\σ[i]?=some (some (.ref (F.adr i)))
 D:∀ a,F.D a->∃ j,j∈io/\a=F.adr j
def KeepO(O:jo->Prop)(H:Hp)(O':jo->Prop)(H':Hp):Prop:=(∀ b o,¬ O b->H b=some o->H' b=some o/\¬ O' b)/\∀ b,H' b=none->H b=none
def C1(F:Fr):jo->Prop:=fun b=>¬ F.D b/\(F.C0 b∨F.H0 b=none)
structure RetOk (F:Fr) (rk:Kd) (io:List Nat) (s':Sg) (t:T) (v:V) (H':Hp):Prop where
 keep:∀ b o,¬ F.D b->F.H0 b=some o->H' b=some o
 dom:∀ b,H' b=none->F.H0 b=none
 res:match rk with
  |.n=>∃ r,v=.ref r/\F.H0 r=none/\¬ F.D r/\Live (fun b=>C1 F b/\b≠r) H' r t/\∀(i:Nat),i∈io->∃ t',s'[i]?=some (some t')/\Live (fun b=>C1 F b/\b≠r) H' (F.adr i) t'
  |.b=>Rep (fun b=>F.H0 b=none) H' v t
  |.e=>Rep (C1 F) H' v t/\∀(i:Nat),i∈io->∃ t',s'[i]?=some (some t')/\Live (C1 F) H' (F.adr i) t'
def EndOk(F:Fr)(rk:Kd)(io M' Mb:List Nat)(O:jo->Prop)(H:Hp)(D:Ends):Fl->Prop
 |.nx s'=>∀ O' σ' H',KeepO O H O' H'->Rel F O' M' s' σ' H'->Ios F io M' σ'->D.nx σ' H'
 |.bk s'=>∀ O' σ' H',KeepO O H O' H'->Rel F O' Mb s' σ' H'->Ios F io Mb σ'->D.bk σ' H'
 |.ct s'=>∀ O' σ' H',KeepO O H O' H'->Rel F O' Mb s' σ' H'->Ios F io Mb σ'->D.ct σ' H'
 |.rt t s'=>∀ v H',RetOk F rk io s' t v H'->D.rt v H'
def cS(rk:Kd)(io M M' Mb:List Nat)(d:DS):TS:=fun D σ H=>∃ F O s r,Rel F O M s σ H/\Ios F io M σ/\d s=some r/\EndOk F rk io M' Mb O H D r
theorem cS_{rk:Kd}{io M M' Mb:List Nat}{d:DS}{D:_}{σ:L2.St}{H:Hp}(h:cS rk io M M' Mb d D σ H){G:Prop}(g:∀ F O s r,Rel F O M s σ H->Ios F io M σ->d s=some r->EndOk F rk io M' Mb O H D r->G):G:=by
 obtain⟨F,O,s,r,R,I,hd,q⟩:=h;exact g F O s r R I hd q
section
variable {F:Fr}{O O' O'':jo->Prop}{s s':Sg}{σ:L2.St}{H H' H'':Hp}{v:V}{t:T}{a:jo}
theorem KeepO.refl:KeepO O H O H:=⟨fun _ _ n h=>⟨h,n⟩,fun _ h=>h⟩
theorem KeepO.trans(x:KeepO O H O' H')(y:KeepO O' H' O'' H''):KeepO O H O'' H'':=⟨fun b o n h=>by
 obtain⟨h1,n1⟩:=x.1 b o n h
 exact y.1 b o n1 h1,fun b h=>x.2 b (y.2 b h)⟩
theorem Step.keepO(S:Step σ M H H')(R:Rel F O M s σ H):KeepO O H O H':=⟨fun b o n h=>⟨S.keep b o (R.notOwned n) h,n⟩,S.dom⟩
theorem EndOk.more{D:Ends}{r:Fl}(h:EndOk F rk io M' Mb O H D r)(k:KeepO O H O' H'):EndOk F rk io M' Mb O' H' D r:=by
 cases r with
 |nx s'=>exact fun O2 σ2 H2 k2=>h O2 σ2 H2 (k.trans k2)
 |bk s'=>exact fun O2 σ2 H2 k2=>h O2 σ2 H2 (k.trans k2)
 |ct s'=>exact fun O2 σ2 H2 k2=>h O2 σ2 H2 (k.trans k2)
 |rt t s'=>exact h
theorem Rel.freeze(R:Rel F O M s σ H)(I:Ios F io M σ)(hM:∀ i,i∈M'->i∈M)(hio:∀ i,i∈io->i∈M'):∃ O',(∀ b,O' b->O b)/\Rel F O' M' s σ H/\Ios F io M' σ:=by
 refine⟨fun b=>O b/\¬ ∃ j:Nat,j∈M/\j∉M'/\σ[j]?=some (some (.ref b)),fun b z=>z.1,?_,⟨fun i hi=>⟨hio i hi,(I.at_ i hi).2⟩,I.D⟩⟩;have w:∀ b,(O b/\¬ ∃ j:Nat,j∈M/\j∉M'/\σ[j]?=some (some (.ref b)))->O b:=fun b z=>z.1;have notD:∀(i:Nat) b,i∈M->i∉M'->σ[i]?=some (some (.ref b))->¬ F.D b:=fun i b hi hi' e z=>by
  obtain⟨j,hj,rfl⟩:=I.D b z;obtain⟨h1,h2⟩:=I.at_ j hj;have:=R.dis i j _ hi h1 e h2;subst this;exact hi' (hio i hj)
 refine⟨R.len,fun i t e n=>?_,fun i t e n=>?_,fun i b hi e=>⟨R.ow i b (hM i hi) e,fun⟨j,h1,h2,h3⟩=>?_⟩,fun i j b hi hj=>R.dis i j b (hM i hi) (hM j hj),R.keep,R.dom,fun b z=>R.fresh b z.1,fun b z=>⟨R.inD b z,fun⟨j,h1,h2,h3⟩=>notD j b h1 h2 h3 z⟩,fun b z=>R.al b z.1⟩
 ·by_cases hi:i∈M
  ·obtain⟨b,h1,L⟩:=R.own i t e hi;refine⟨_,h1,L.rep (fun c z=>z.weak w) ⟨fun z=>z.2 ⟨i,hi,n,h1⟩,?_⟩⟩;rcases R.fresh b (R.ow i b hi h1) with z |z
   ·exact absurd z (notD i b hi n h1)
   ·exact .inr z
  ·obtain⟨v,h1,h2⟩:=R.val i t e hi;exact⟨v,h1,h2.mono (fun _ c=>c.weak w) fun _ _ _ e=>e⟩
 ·obtain⟨b,h1,h2⟩:=R.own i t e (hM i n);exact⟨b,h1,h2.mono (fun _ c=>c.weak w) (fun _ _ _ e=>e) fun _ e=>e⟩
 ·have:=R.dis j i b h1 (hM i hi) h3 e;subst this;exact h2 hi
theorem zbq{A B:List Nat}(h:A.all (B.contains ·)=true):∀ i,i∈A->i∈B:=fun i hi=>by simpa using jx.mp h i hi
theorem Rel.write{i:Nat}{t0 t':T}{o:HO}(R:Rel F O M s σ H)(hi:i∈M)(e:σ[i]?=some (some (.ref a)))(hs:s[i]?=some (some t0))(L:∀ H1,(∀ b u,Free F O b->H b=some u->H1 b=some u)->H1 a=some o->Live (Free F O) H1 a t'):Rel F O M (s.set i (some t')) σ (upd H a o):=by
 have oa:=R.ow i a hi e;have k:∀ b u,Free F O b->H b=some u->upd H a o b=some u:=fun b u c q=>(za7 (fun z:b=a=>c.1 (z▸oa))).trans q;have hl:=(j5.mp hs).1;refine⟨by rw[jZ]; exact R.len,fun j t e' n=>?_,fun j t e' n=>?_,R.ow,R.dis,fun b u n q=>?_,fun b q=>?_,R.fresh,R.inD,fun b z=>?_⟩
 ·have hij:i≠j:=fun z=>n (z▸hi);rw[jf hij] at e';obtain⟨v,h1,h2⟩:=R.val j t e' n;exact⟨v,h1,h2.mono (fun _ c=>c) k⟩
 ·by_cases hij:i=j
  ·subst hij;rw[jL hl] at e';cases e';exact⟨a,e,L _ k zab⟩
  ·rw[jf hij] at e';obtain⟨b,h1,h2⟩:=R.own j t e' n;have hne:b≠a:=fun z=>hij (R.dis i j a hi n e (z▸h1));exact⟨b,h1,h2.mono (fun _ c=>c) k fun u q=>by rw[za7 hne]; exact q⟩
 ·refine(za7 (fun z=>?_)).trans (R.keep b u n q);subst z;rcases R.fresh b oa with z |z
  ·exact n z
  ·rw[z] at q; cases q
 ·refine R.dom b ?_;unfold upd at q;split at q
  ·cases q
  ·exact q
 ·intro q;refine R.al b z ?_;unfold upd at q;split at q
  ·cases q
  ·exact q
theorem Step.write{i:Nat}{o:HO}(hi:i∈M)(e:σ[i]?=some (some (.ref a)))(_:H a≠none):Step σ M H (upd H a o):=⟨fun b u n q=>by
 exact(za7 (fun z:b=a=>n i hi (z▸e))).trans q,fun b q=>by
 unfold upd at q;split at q
 ·cases q
 ·exact q⟩
theorem Rel.setE{i:Nat}(R:Rel F O M s σ H)(hM:∀ j,j∈M'->j∈M/\j≠i)(hk:∀ j,j∈M->j∈M'∨j=i)(hi:i < s.length)(r:Rep (Free F O) H v t):Rel F O M' (s.set i (some t)) (σ.set i (some v)) H:=by
 have hi2:i < σ.length:=by rw[<-R.len]; exact hi
 refine⟨by rw[jZ,jZ]; exact R.len,fun j t' e n=>?_,fun j t' e n=>?_,fun j b hj e=>?_,fun j k b hj hk e1 e2=>?_,R.keep,R.dom,R.fresh,R.inD,R.al⟩
 ·by_cases hij:i=j
  ·subst hij;rw[jL hi] at e;cases e;exact⟨v,jL hi2,r⟩
  ·rw[jf hij] at e;rw[jf hij];exact R.val j t' e fun z=>(hk j z).elim n fun z=>hij z.symm
 ·obtain⟨h1,h2⟩:=hM j n;rw[jf (Zu h2)] at e;rw[jf (Zu h2)];exact R.own j t' e h1
 ·obtain⟨h1,h2⟩:=hM j hj;rw[jf (Zu h2)] at e;exact R.ow j b h1 e
 ·obtain⟨h1,h2⟩:=hM j hj;obtain⟨h3,h4⟩:=hM k hk;rw[jf (Zu h2)] at e1;rw[jf (Zu h4)] at e2;exact R.dis j k b h1 h3 e1 e2
theorem Rel.setN{i:Nat}(R:Rel F O M s σ H)(hM:∀ j,j∈M'->j=i∨j∈M)(hk:∀ j,j∈M->j∈M')(hi:i < s.length)(him:i∈M')(oa:O a)(nw:∀ j,j∈M->j≠i->σ[j]?≠some (some (.ref a)))(L:Live (Free F O) H a t):Rel F O M' (s.set i (some t)) (σ.set i (some (.ref a))) H:=by
 have hi2:i < σ.length:=by rw[<-R.len]; exact hi
 refine⟨by rw[jZ,jZ]; exact R.len,fun j t' e n=>?_,fun j t' e n=>?_,fun j b hj e=>?_,fun j k b hj hk' e1 e2=>?_,R.keep,R.dom,R.fresh,R.inD,R.al⟩
 ·have hij:i≠j:=fun z=>n (z▸him);rw[jf hij] at e;rw[jf hij];exact R.val j t' e fun z=>n (hk j z)
 ·by_cases hij:i=j
  ·subst hij;rw[jL hi] at e;cases e;exact⟨a,jL hi2,L⟩
  ·rw[jf hij] at e;rw[jf hij];exact R.own j t' e ((hM j n).resolve_left fun z=>hij z.symm)
 ·by_cases hij:i=j
  ·subst hij;rw[jL hi2] at e;injection e with e;injection e with e;injection e with e;exact e▸oa
  ·rw[jf hij] at e;exact R.ow j b ((hM j hj).resolve_left fun z=>hij z.symm) e
 ·by_cases hij:i=j
  ·by_cases hik:i=k
   ·exact hij.symm.trans hik
   ·subst hij;rw[jL hi2] at e1;rw[jf hik] at e2;injection e1 with e1;cases e1;exact absurd e2 (nw k ((hM k hk').resolve_left fun z=>hik z.symm) (Zu hik))
  ·rw[jf hij] at e1
   by_cases hik:i=k
   ·subst hik;rw[jL hi2] at e2;injection e2 with e2;cases e2;exact absurd e1 (nw j ((hM j hj).resolve_left fun z=>hij z.symm) (Zu hij))
   ·rw[jf hik] at e2;exact R.dis j k b ((hM j hj).resolve_left fun z=>hij z.symm) ((hM k hk').resolve_left fun z=>hik z.symm) e1 e2
theorem Ios.set{i:Nat}{x:Option V}(I:Ios F io M σ)(hio:i∉io)(hM:∀ j,j∈io->j∈M'):Ios F io M' (σ.set i x):=⟨fun j hj=>by
 refine⟨hM j hj,?_⟩;rw[jf (fun z:i=j=>hio (z▸hj))]
 exact(I.at_ j hj).2,I.D⟩
end
def zao(f g:DS):DS:=fun s=>(f s).bind fun r=>match r with
 |.nx s'=>g s'
 |r=>some r
def zb1:DS:=fun s=>some (.nx s)
def zaT(i:Nat)(f:DE):DS:=fun s=>(f s).bind fun p=>if i < p.2.length then some (.nx (p.2.set i (some p.1))) else none
def zdN(c:DT)(f g:DS):DS:=fun s=>(c s).bind fun p=>if p.1 then f p.2 else g p.2
def dDo(f:DE):DS:=fun s=>(f s).map fun p=>.nx p.2
section
variable {M'':List Nat}{st:ZU}{sts:List ZU}{c:Q0}{a b:List ZU}{d d':DS}{ft:DT}{pos':Pos}
def znn(M M' io:List Nat)(i:Nat):Bool:=M'.all (fun j=>M.contains j&&j != i)&&M.all (fun j=>M'.contains j||j == i)&&!io.contains i&&io.all (M'.contains ·)
def znm(M M' io:List Nat)(i:Nat):Bool:=M'.all (fun j=>j == i||M.contains j)&&M.all (M'.contains ·)&&M'.contains i&&!io.contains i&&io.all (M'.contains ·)
theorem Free.c1{F:Fr}{O:jo->Prop}{M:List Nat}{s:Sg}{σ:L2.St}{H:Hp}(R:Rel F O M s σ H){b:jo}(c:Free F O b):C1 F b:=⟨fun z=>c.1 (R.inD b z),c.2⟩
theorem zpS{F:Fr}{O:jo->Prop}{s:Sg}{σ:L2.St}{H:Hp}{v:V}{t:T}(R:Rel F O M s σ H)(I:Ios F io M σ)(hio:∀ i,i∈io->∃ t,s[i]?=some (some t))(r:Rep (Free F O) H v t):RetOk F .e io s t v H:=by
 refine⟨R.keep,R.dom,r.mono (fun _ c=>c.c1 R) (fun _ _ _ e=>e),fun i hi=>?_⟩;obtain⟨t',ht⟩:=hio i hi;obtain⟨h1,h2⟩:=I.at_ i hi;obtain⟨a,h3,L⟩:=R.own i t' ht h1;rw[h2] at h3;injection h3 with h3;cases h3;exact⟨t',ht,L.mono (fun _ c=>c.c1 R) (fun _ _ _ e=>e) fun _ e=>e⟩
theorem zpR{F:Fr}{O:jo->Prop}{s:Sg}{σ:L2.St}{H:Hp}{t:T}{a:jo}(R:Rel F O M s σ H)(I:Ios F io M σ)(hio:∀ i,i∈io->∃ t,s[i]?=some (some t))(oa:O a)(h0:F.H0 a=none)(nd:¬ F.D a)(L:Live (Free F O) H a t):RetOk F .n io s t (.ref a) H:=by
 have w:∀ b,Free F O b->C1 F b/\b≠a:=fun b c=>⟨c.c1 R,fun z=>c.1 (z▸oa)⟩;refine⟨R.keep,R.dom,a,rfl,h0,nd,L.mono w (fun _ _ _ e=>e) fun _ e=>e,fun i hi=>?_⟩;obtain⟨t',ht⟩:=hio i hi;obtain⟨h1,h2⟩:=I.at_ i hi;obtain⟨b,h3,L⟩:=R.own i t' ht h1;rw[h2] at h3;injection h3 with h3;cases h3;exact⟨t',ht,L.mono w (fun _ _ _ e=>e) fun _ e=>e⟩
def hasAll(io:List Nat)(s:Sg):Bool:=io.all fun i=>(s[i]?).join.isSome
theorem hasAll.get{io:List Nat}{s:Sg}(h:hasAll io s=true):∀ i,i∈io->∃ t,s[i]?=some (some t):=fun i hi=>by
 have:=jx.mp h i hi;cases e:(s[i]?).join with
 |none=>rw[e] at this; cases this
 |some t=>exact⟨t,zad e⟩
def zap(io:List Nat)(f:DE):DS:=fun s=>(f s).bind fun p=>if hasAll io p.2 then some (.rt p.1 p.2) else none
end
def zjd:T->Bool
 |.lst _=>true
 |_=>false
def SM(r:V->List V->Hp->VK->Prop)(g:T->List T->Option (T × T)):Prop:=∀(C:jo->Prop) (H:Hp) a tx vs ts t' tr (Q:VK),¬ C a->Live C H a tx->Reps C H vs ts->g tx ts=some (t',tr)->
 (∀ o v,(∀ H1,(∀ b u,C b->H b=some u->H1 b=some u)->H1 a=some o->Live C H1 a t')->Rep C H v tr->Q v (upd H a o))->r (.ref a) vs H Q
def zi8(g:T->List T->Option (T × T))(i:Nat)(fa:DA):DE:=fun s=>(s[i]?).join.bind fun t0=>if zjd t0 then (fa s).bind fun p=>(p.2[i]?).join.bind fun t=>(g t p.1).map fun q=>(q.2,p.2.set i (some q.1)) else none
def zhc:T->List T->Option (T × T)
 |.lst xs,[t]=>if xs.length < jq then some (.lst (xs++[t]),.non) else none
 |_,_=>none
def zbx:T->List T->Option (T × T)
 |.lst xs,[.int i]=>if 0<=i/\i<=1000000 then (xs[i.toNat]?).map fun y=>(.lst (xs.eraseIdx i.toNat),y) else none
 |_,_=>none
theorem Live.lst'{C:jo->Prop}{H:Hp}{a:jo}{ts:List T}(h:Live C H a (.lst ts)):∃ vs,H a=some (.lst vs)/\Reps C H vs ts:=by
 cases h with |lst r h=>exact⟨_,r,h⟩
theorem Reps.one{C:jo->Prop}{H:Hp}{vs:List V}{t:T}(h:Reps C H vs [t]):∃ v,vs=[v]/\Rep C H v t:=by
 obtain⟨v,rfl⟩:=N0.mp h.1;exact⟨v,rfl,h.head⟩
theorem Reps.none{C:jo->Prop}{H:Hp}{vs:List V}(h:Reps C H vs []):vs=[]:=QX.mp h.1
theorem Reps.snoc{C:jo->Prop}{H:Hp}{vs:List V}{ts:List T}{v:V}{t:T}(h:Reps C H vs ts)(r:Rep C H v t):Reps C H (vs++[v]) (ts++[t]):=h.append (.cons r .nil)
theorem zq7:SM zgo zhc:=by
 intro C H a tx vs ts t' tr Q hn L R hg q;unfold zhc at hg;split at hg
 ·split at hg
  ·rename_i hl;cases hg;obtain⟨us,h1,h2⟩:=L.lst';obtain⟨v,rfl,rv⟩:=R.one;refine⟨a,us,v,rfl,rfl,h1,by rw[h2.1]; exact hl,q _ _ (fun H1 k e=>.lst e ?_) .non⟩
   exact(h2.snoc rv).mono (fun _ c=>c) k
  ·cases hg
 ·cases hg
theorem Reps.erase{C:jo->Prop}{H:Hp}{vs:List V}{ts:List T}(h:Reps C H vs ts)(k:Nat):Reps C H (vs.eraseIdx k) (ts.eraseIdx k):=by
 rw[Zn,Zn];exact(h.take _).append (h.drop _)
theorem zme:SM ziw zbx:=by
 intro C H a tx vs ts t' tr Q hn L R hg q;unfold zbx at hg;split at hg
 ·split at hg
  ·rename_i xs i hi;obtain⟨y,hy,h0⟩:=Qm hg;cases h0;obtain⟨us,h1,h2⟩:=L.lst';obtain⟨v0,rfl,rv0⟩:=R.one;have e0:=BRep.int (.inl rv0);subst e0;obtain⟨v,hv,rv⟩:=h2.get hy;have hlt:=(j5.mp hv).1;have sx:NN i us.length=some i.toNat:=by
    unfold NN;dsimp only;rw[In_ (by lia:¬ i < 0),Ip_ (by simp; lia)]
   exact⟨a,us,i,i.toNat,v,rfl,rfl,h1,by lia,by lia,sx,hv,q _ _ (fun H1 k e=>.lst e ((h2.erase _).mono (fun _ c=>c) k)) rv⟩
  ·cases hg
 ·cases hg
section
theorem zo7{r:V->List V->Hp->VK->Prop}{g:T->List T->Option (T × T)}{i:Nat}(hi:M.contains i=true)(hs:SM r g):∀ σ H Q,cE .e M (zi8 g i fa) σ H Q->tBM X.K "list" r (zdM i) (cA M fa) σ H Q:=by
 intro σ H Q h_;refine cE_ h_ fun F O s t s' R hf q=>?_;have hi':i∈M:=by simpa using hi
 obtain⟨t0,h0,hf⟩:=Qb hf;split at hf
 ·rename_i hl;obtain⟨p,h1,hf⟩:=Qb hf;obtain⟨t1,h2,hf⟩:=Qb hf;obtain⟨w,h3,h4⟩:=Qm hf;cases h4;obtain⟨a,e1,L0⟩:=R.own i t0 (zad h0) hi';refine⟨_,e1,?_,F,O,s,p.1,p.2,R,h1,fun vs H1 S1 R1 rs=>?_⟩
  ·cases L0 with
   |lst r h=>exact .inl ⟨rfl,_,SqL.of r⟩
   |_=>cases hl
  obtain⟨b,e2,L⟩:=R1.own i t1 (zad h2) hi';rw[e1] at e2;injection e2 with e2;cases e2;refine hs (Free F O) H1 a t1 vs p.1 w.1 w.2 Q (fun z=>z.1 (R1.ow i a hi' e1)) L rs h3 fun o v hL rv=>?_;have R2:=R1.write (o:=o) hi' e1 (zad h2) hL;refine q v _ (S1.trans (.write hi' e1 L.ne)) ⟨R2,?_⟩;exact R1.stay (.write hi' e1 L.ne) rv
 ·cases hf
end
theorem RepK.len{C:jo->Prop}{H:Hp}{vs:List (Key × V)}{ts:List (Key × T)}(h:RepK C H vs ts):vs.length=ts.length:=by simpa using congrArg Y0 h.1
def zfU(i:Nat)(fk fv:DE):DS:=fun s=>(fv s).bind fun p=>(p.2[i]?).join.bind fun _=>(fk p.2).bind fun q=>(q.2[i]?).join.bind fun t=>match t,q.1 with
 |.lst xs,.int k=>(ixN xs.length k).map fun j=>.nx (q.2.set i (some (.lst (xs.set j p.1))))
 |_,_=>none
section
variable {st:ZU}{fk fv:DE}
def zqv(i:Nat)(f:DE):DS:=fun s=>(s[i]?).join.bind fun x=>(f s).bind fun p=>match x,p.1 with
 |.int a,.int b=>some (.nx (p.2.set i (some (.int (a+b)))))
 |_,_=>none
def gsN:List Nat->TGs
 |[]=>zmt
 |i::r=>zfQ (zbo i) (gsN r)
def zaU:List Nat->List T->Sg->Option Sg
 |[],[],s=>some s
 |i::is,t::ts,s=>if i < s.length then zaU is ts (s.set i (some t)) else none
 |_,_,_=>none
theorem zeA{F:Fr}{O:jo->Prop}{H:Hp}{Q:L2.St->Hp->Prop}:∀ {is:List Nat} {ts:List T} {vs:List V} {s s':Sg} {σ:L2.St},Rel F O M s σ H->Ios F io M σ->(∀ i,i∈is->i∉M)->(∀ i,i∈io->i∈M)->Reps (Free F O) H vs ts->zaU is ts s=some s'->
  (∀ σ',Rel F O M s' σ' H->Ios F io M σ'->Q σ' H)->gsN is vs σ H Q
 |[],[],vs,s,s',σ,R,I,_,_,h,e,q=>by
  cases e;exact⟨h.none,q σ R I⟩
 |[],t::ts,vs,s,s',σ,R,I,_,_,h,e,q=>by cases e
 |i::is,[],vs,s,s',σ,R,I,_,_,h,e,q=>by cases e
 |i::is,t::ts,[],s,s',σ,R,I,_,_,h,e,q=>by have:=h.1; simp at this
 |i::is,t::ts,v::vs,s,s',σ,R,I,hm,hio,h,e,q=>by
  unfold zaU at e;split at e
  ·rename_i hl;have hi:=hm i jC;exact⟨v,vs,rfl,zeA (R.setE (fun j hj=>⟨hj,fun z=>hi (z▸hj)⟩) (fun j hj=>.inl hj) hl h.head) (I.set (fun z=>hi (hio i z)) hio) (fun j hj=>hm j (jm _ hj)) hio h.tail e q⟩
  ·cases e
def zhf:T->Option (List T)
 |.lst xs=>some xs
 |.tup xs=>some xs
 |_=>none
def dUn(is:List Nat)(f:DE):DS:=fun s=>(f s).bind fun p=>(zhf p.1).bind fun ts=>(zaU is ts p.2).map .nx
end
def zmP(F:Fr)(O:jo->Prop)(its:List T)(J:It)(H1:Hp):Prop:=∀ H2,(∀ b o,Free F O b->H1 b=some o->H2 b=some o)->
 ∀ i:Nat,(∀ t,its[i]?=some t->J.go i H2/\∀ x H3,J.yld i H2 x H3->(H3=H2∨∃ p o,H2 p=none/\H3=upd H2 p o)/\Rep (fun b=>(Free F O b/\H1 b≠none)∨H2 b=none) H3 x t)/\(its.length<=i->J.stop i H2)
abbrev DI:=Sg->Option (List T × Sg)
def cI(M:List Nat)(f:DI):TI:=fun σ H R=>∃ F O s its s',Rel F O M s σ H/\f s=some (its,s')/\∀ J H',Step σ M H H'->Rel F O M s' σ H'->zmP F O its J H'->R J H'
theorem cI_{M:List Nat}{f:DI}{σ:L2.St}{H:Hp}{R:_}(h:cI M f σ H R){G:Prop}(g:∀ F O s its s',Rel F O M s σ H->f s=some (its,s')->(∀ J H',Step σ M H H'->Rel F O M s' σ H'->zmP F O its J H'->R J H')->G):G:=by
 obtain⟨F,O,s,its,s',Rl,hf,q⟩:=h;exact g F O s its s' Rl hf q
theorem zen{X:Cx}{tg e:Q0}{t t':TI}(h:PI X tg e t)(hw:∀ σ H R,t' σ H R->t σ H R):PI X tg e t':=fun pc s σ H R I q=>h pc s σ H R I (hw _ _ _ q)
def dIt(f:DE):DI:=fun s=>(f s).bind fun p=>match p.1 with
 |.lst xs=>some (xs,p.2)
 |.scr ns=>some (ns.map .int,p.2)
 |_=>none
def zqT(f:DE):DI:=fun s=>(f s).bind fun p=>match p.1 with
 |.tup xs=>some (xs,p.2)
 |_=>none
def zat(lo:Int)(n:Nat):List T:=(jp n).map fun(i:Nat)=>T.int (lo+i)
def zeK(j:Int):Bool:=(j+2000).natAbs.ble 4000
theorem zcP{j:Int}(h:zeK j=true):-(2 ^ 62)<=j/\j < 2 ^ 62:=by
 unfold zeK at h;have:=gH h;lia
def zjP(f:DA):DI:=fun s=>(f s).bind fun p=>match p.1 with
 |[.int j]=>if zeK j=true then some (zat 0 j.toNat,p.2) else none
 |_=>none
def zox(f:DA):DI:=fun s=>(f s).bind fun p=>match p.1 with
 |[.int i,.int j]=>if zeK i=true/\zeK j=true then some (zat i (j - i).toNat,p.2) else none
 |_=>none
def zgF(xs:List T):List T:=(jp xs.length).map fun(i:Nat)=>T.tup [.int i,xs.getD i .non]
def dEn(f:DA):DI:=fun s=>(f s).bind fun p=>match p.1 with
 |[.lst xs]=>some (zgF xs,p.2)
 |_=>none
section
variable {tg:Q0}
theorem zmm{F:Fr}{O:jo->Prop}{H1:Hp}{a:jo}{vs:List V}{ts:List T}{K:jd}(fr:Free F O a)(ha:H1 a=some (.lst vs))(r:Reps (Free F O) H1 vs ts):zmP F O ts (Itl K a) H1:=by
 intro H2 k i;have h2:=k a _ fr ha;refine⟨fun t ht=>?_,fun hl=>⟨vs,SqL.of h2,by rw[r.1]; exact hl⟩⟩
 obtain⟨v,hv,rv⟩:=r.get ht;refine⟨⟨vs,v,SqL.of h2,hv⟩,fun x H3 ⟨e1,e2⟩=>⟨.inl e1,?_⟩⟩;have:=e2 vs (SqL.of h2);rw[hv] at this;obtain rfl:v=x:=je this;subst e1;exact rv.there.mono (fun b c=>.inl c) fun b o c e=>k b o c.1 e
theorem zl3{F:Fr}{O:jo->Prop}{H1:Hp}{a:jo}{ns:List Int}{K:jd}(h:∀ H2,(∀ b o,Free F O b->H1 b=some o->H2 b=some o)->SqL K H2 a (ns.map V.int)):zmP F O (ns.map T.int) (Itl K a) H1:=by
 intro H2 k i;have h2:=h H2 k;refine⟨fun t ht=>?_,fun hl=>⟨_,h2,by simpa using hl⟩⟩
 obtain⟨v,hv,rv⟩:=(zb8 (C:=fun b=>(Free F O b/\H1 b≠none)∨H2 b=none) (H:=H2) ns).get ht;refine⟨⟨_,v,h2,hv⟩,fun x H3 ⟨e1,e2⟩=>⟨.inl e1,?_⟩⟩;have:=e2 _ h2;rw[hv] at this;obtain rfl:v=x:=je this;subst e1;exact rv
theorem zol(hK:X.K=TheK.K)(h:PE X e (cE .e M fe)):PI X tg e (cI M (dIt fe)):=zen (t:=zhZ TheK.K (cE .e M fe)) (hK▸ziL h) (by
 intro σ H R h_;refine cI_ h_ fun F O s its s' Rl hf q=>?_;obtain⟨⟨p1,p2⟩,h1,h2⟩:=Qb hf;refine⟨F,O,s,p1,p2,Rl,h1,fun v H1 S1 po=>?_⟩;cases p1<;>simp at h2
 ·obtain⟨h3,h4⟩:=h2;subst h3 h4;have po2:=po.2;cases po2 with
  |lst c r l h=>
   exact⟨_,rfl,⟨_,SqL.of r⟩,q _ H1 S1 po.1 (zmm c r ⟨l,h⟩)⟩
 ·obtain⟨h3,h4⟩:=h2;subst h3 h4;have po2:=po.2;cases po2 with
  |@scr a ns o c r=>
   refine⟨a,rfl,⟨_,.inl (.inr ⟨o,r⟩)⟩,q _ H1 S1 po.1 ?_⟩;exact zl3 fun H2 k=>.inl (.inr ⟨o,k a _ c r⟩)
  |@scrK a ns r=>
   refine⟨a,rfl,⟨_,r H1⟩,q _ H1 S1 po.1 ?_⟩
   exact zl3 fun H2 k=>r H2)
theorem zqb(h:PE X e (cE .e M fe)):PI X tg e (cI M (zqT fe)):=zen (znO h) (by
 intro σ H R h_;refine cI_ h_ fun F O s its s' Rl hf q=>?_;obtain⟨⟨p1,p2⟩,h1,h2⟩:=Qb hf;refine⟨F,O,s,p1,p2,Rl,h1,fun v H1 S1 po=>?_⟩;cases p1<;>simp at h2
 obtain⟨h3,h4⟩:=h2;subst h3 h4;have po2:=po.2;cases po2 with
 |tup c r l h=>
  rename_i a vs;refine⟨a,rfl,⟨vs,SqT.of r⟩,q _ H1 S1 po.1 ?_⟩;intro H2 k i;have h2:=k a _ c r;refine⟨fun t ht=>?_,fun hl=>⟨vs,SqT.of h2,by rw[l]; exact hl⟩⟩
  obtain⟨v,hv,rv⟩:=Reps.get (⟨l,h⟩:Reps (Free F O) H1 vs _) ht;refine⟨⟨vs,v,SqT.of h2,hv⟩,fun x H3 ⟨e1,e2⟩=>⟨.inl e1,?_⟩⟩;have:=e2 vs (SqT.of h2);rw[hv] at this;obtain rfl:v=x:=je this;subst e1
  exact rv.there.mono (fun b c=>.inl c) fun b o c e=>k b o c.1 e)
theorem zhg{F:Fr}{O:jo->Prop}{H1:Hp}{lo:Int}{n:Nat}:zmP F O (zat lo n) (Itr lo n) H1:=by
 intro H2 k i;unfold zat;refine⟨fun t ht=>?_,fun hl=>by show n<=i; simpa using hl⟩
 rw[jc] at ht;obtain⟨j,hj,e⟩:=Qm ht;have hi:i < n:=by simpa using (j5.mp hj).1
 rw[Qe hi] at hj;obtain rfl:i=j:=je hj;refine⟨hi,fun x H3 ⟨e1,e2⟩=>⟨.inl e1,?_⟩⟩;subst e1 e2 e;exact .int _
end
abbrev DG:=T->Sg->Option Sg
def cG(io M:List Nat)(g:DG):TG:=fun v σ H Q=>∃ F O s t s',Rel F O M s σ H/\Ios F io M σ/\Rep (Free F O) H v t/\g t s=some s'/\∀ σ',Rel F O M s' σ' H->Ios F io M σ'->Q σ' H
def dGn(i:Nat):DG:=fun t s=>if i < s.length then some (s.set i (some t)) else none
def dGt(is:List Nat):DG:=fun t s=>match t with
 |.tup ts=>zaU is ts s
 |_=>none
theorem zmV{X:Cx}{e:Q0}{t t':TG}(h:PG X e t)(hw:∀ v σ H Q,t' v σ H Q->t v σ H Q):PG X e t':=fun pc s σ H v u Q I r q=>h pc s σ H v u Q I r (hw _ _ _ _ q)
section
variable {tg iter:Q0}{body:List ZU}{fi:DI}{g:DG}{db:DS}
theorem gn{i:Nat}(hi:M.contains i=false)(hio:io.all (M.contains ·)=true):∀ v σ H Q,cG io M (dGn i) v σ H Q->zbo i v σ H Q:=by
 rintro v σ H Q ⟨F,O,s,t,s',R,I,r,hg,q⟩;have hi':i∉M:=by simpa using hi
 unfold dGn at hg;split at hg
 ·rename_i hl;cases hg;exact q _ (R.setE (fun j hj=>⟨hj,fun z=>hi' (z▸hj)⟩) (fun j hj=>.inl hj) hl r) (I.set (fun z=>hi' (zbq hio i z)) (zbq hio))
 ·cases hg
theorem gt{is:List Nat}{n:Nat}{K:jd}(hn:is.length=n)(hm:is.all (fun i=>!M.contains i)=true)(hio:io.all (M.contains ·)=true):∀ v σ H Q,cG io M (dGt is) v σ H Q->zjl K n (gsN is) v σ H Q:=by
 rintro v σ H Q ⟨F,O,s,t,s',R,I,r,hg,q⟩;obtain⟨ts,rfl⟩:∃ ts,t=.tup ts:=by cases t<;>first |exact⟨_,rfl⟩ |cases hg
 have hg:=hg;have hl:∀ {is:List Nat} {ts:List T} {s s':Sg},zaU is ts s=some s'->ts.length=is.length:=by
  intro is
  induction is with
  |nil=>intro ts s s' e; cases ts with
   |nil=>rfl
   |cons=>cases e
  |cons i is ih=>intro ts s s' e; cases ts with
   |nil=>cases e
   |cons t ts=>
    unfold zaU at e;split at e
    ·rw[jl,jl,ih e]
    ·cases e
 obtain⟨a,vs,rfl,ha,ra⟩:=BRep.tup (.inl r);exact⟨a,vs,rfl,SqT.of ha,by rw[ra.1,hl hg,hn],zeA R I (fun i hi=>by simpa using jx.mp hm i hi) (zbq hio) ra hg q⟩
def zbn(g:DG)(db:DS):List T->Sg->Option Fl
 |[],s=>some (.nx s)
 |x::xs,s=>(g x s).bind fun s1=>(db s1).bind fun r=>match r with
  |.nx s2=>zbn g db xs s2
  |.ct s2=>zbn g db xs s2
  |.bk s2=>some (.nx s2)
  |.rt t s2=>some (.rt t s2)
def zf3(fi:DI)(g:DG)(db:DS):DS:=fun s=>(fi s).bind fun p=>zbn g db p.1 p.2
theorem ziu{F:Fr}{O O1:jo->Prop}{s:Sg}{σ:L2.St}{H1 H2 H3:Hp}{x:V}{t:T}(k:KeepO O H1 O1 H2)(R:Rel F O1 M s σ H2)(hy:H3=H2∨∃ p o,H2 p=none/\H3=upd H2 p o)(r:Rep (fun b=>(Free F O b/\H1 b≠none)∨H2 b=none) H3 x t) :
  Rel F O1 M s σ H3/\KeepO O1 H2 O1 H3/\Rep (Free F O1) H3 x t:=by
 have fr:∀ b,((Free F O b/\H1 b≠none)∨H2 b=none)->Free F O1 b:=fun b c=>by
  rcases c with ⟨c,n⟩ |n
  ·cases e:H1 b with
   |none=>exact absurd e n
   |some o=>exact⟨(k.1 b o c.1 e).2,c.2⟩
  ·exact⟨fun z=>R.al b z n,.inr (R.dom b n)⟩
 refine⟨?_,?_,r.mono fr fun _ _ _ e=>e⟩
 ·rcases hy with rfl |⟨p,o,hp,rfl⟩
  ·exact R
  ·exact(R.new hp o).less (fun b z=>.inl z) R.ow R.inD
 ·rcases hy with rfl |⟨p,o,hp,rfl⟩
  ·exact .refl
  ·exact⟨fun b u n e=>⟨by rw[za7 (za3 e hp)]; exact e,n⟩,fun b e=>by
    unfold upd at e;split at e
    ·cases e
    ·exact e⟩
theorem zop:∀ D σ H,cS rk io M M Mb (zf3 fi g db) D σ H->zoL (cI M fi) (cG io M g) (cS rk io M M M db) D σ H:=by
 intro D σ H h_;refine cS_ h_ fun F O s r R I hd q=>?_;obtain⟨⟨its,s1⟩,h1,h2⟩:=Qb hd;refine⟨F,O,s,its,s1,R,h1,fun J H1 S1 R1 IT=>?_⟩;have k1:=S1.keepO R;refine⟨fun i m σ' H'=>m=its.length - i/\i<=its.length/\∃ O' s',KeepO O H1 O' H'/\Rel F O' M s' σ' H'/\Ios F io M σ'/\zbn g db (its.drop i) s'=some r,⟨its.length,by simp,Zx _,O,s1,.refl,R1,I,h2⟩,?_⟩
 rintro i m σ2 H2 ⟨rfl,hi,O2,s2,k2,R2,I2,hl⟩;have it:=IT H2 (fun b o c e=>(k2.1 b o c.1 e).1) i
 by_cases hlt:i < its.length
 ·refine .inr ?_;obtain⟨go,yl⟩:=it.1 its[i] (j3 hlt);rw[Ze hlt] at hl;unfold zbn at hl;obtain⟨s3,hg,hl⟩:=Qb hl;obtain⟨r1,hb,hl⟩:=Qb hl;refine⟨go,fun σ' H'=>∃ O' s',KeepO O H1 O' H'/\Rel F O' M s' σ' H'/\Ios F io M σ'/\zbn g db (its.drop (i+1)) s'=some r,fun σ' H' ⟨O',s',h⟩=>⟨its.length - (i+1),by lia,rfl,hlt,O',s',h⟩,fun x H3 hy=>?_⟩
  obtain⟨y1,y2⟩:=yl x H3 hy;obtain⟨R3,k3,rx⟩:=ziu k2 R2 y1 y2;have k13:=k2.trans k3;refine⟨F,O2,s2,its[i],s3,R3,I2,rx,hg,fun σ4 R4 I4=>⟨F,O2,s3,r1,R4,I4,hb,?_⟩⟩;cases r1 with
  |nx s5=>exact fun O5 σ5 H5 k5 R5 I5=>⟨O5,s5,k13.trans k5,R5,I5,hl⟩
  |ct s5=>exact fun O5 σ5 H5 k5 R5 I5=>⟨O5,s5,k13.trans k5,R5,I5,hl⟩
  |bk s5=>
   cases hl;exact fun O5 σ5 H5 k5 R5 I5=>q O5 σ5 H5 (k1.trans (k13.trans k5)) R5 I5
  |rt t s5=>
   cases hl;exact q
 ·have e:i=its.length:=by lia
  subst e;rw[YN] at hl;cases hl;exact .inl ⟨it.2 (jg _),q O2 σ2 H2 (k1.trans k2) R2 I2⟩
def zb7(ft:DT)(db:DS):Nat->Sg->Option Fl
 |0,_=>none
 |n+1,s=>(ft s).bind fun p=>if p.1 then (db p.2).bind fun r=>match r with
  |.nx s2=>zb7 ft db n s2
  |.ct s2=>zb7 ft db n s2
  |.bk s2=>some (.nx s2)
  |.rt t s2=>some (.rt t s2)
  else some (.nx p.2)
theorem zjR{ft:DT}{n:Nat}:∀ D σ H,cS rk io M M Mb (zb7 ft db n) D σ H->zkK (cT M ft) (cS rk io M M M db) D σ H:=by
 intro D σ H h_;refine cS_ h_ fun F O s r R I hd q=>?_;refine⟨fun m σ' H'=>∃ O' s',KeepO O H O' H'/\Rel F O' M s' σ' H'/\Ios F io M σ'/\zb7 ft db m s'=some r,⟨n,O,s,.refl,R,I,hd⟩,?_⟩;rintro m σ2 H2 ⟨O2,s2,k2,R2,I2,hl⟩;cases m with
 |zero=>cases hl
 |succ m=>
  unfold zb7 at hl;obtain⟨⟨b,s3⟩,h1,h2⟩:=Qb hl;refine⟨F,O2,s2,b,s3,R2,h1,fun H3 S3 R3=>?_⟩;have k3:=k2.trans (S3.keepO R2);cases b with
  |true=>
   obtain⟨r1,hb,hl⟩:=Qb h2;refine⟨fun σ' H'=>∃ O' s',KeepO O H O' H'/\Rel F O' M s' σ' H'/\Ios F io M σ'/\zb7 ft db m s'=some r,fun σ' H' z=>⟨m,ZD m,z⟩,F,O2,s3,r1,R3,I2,hb,?_⟩;cases r1 with
   |nx s5=>exact fun O5 σ5 H5 k5 R5 I5=>⟨O5,s5,k3.trans k5,R5,I5,hl⟩
   |ct s5=>exact fun O5 σ5 H5 k5 R5 I5=>⟨O5,s5,k3.trans k5,R5,I5,hl⟩
   |bk s5=>
    cases hl;exact fun O5 σ5 H5 k5 R5 I5=>q O5 σ5 H5 (k3.trans k5) R5 I5
   |rt t s5=>
    cases hl;exact q
  |false=>
   cases h2;exact q O2 σ2 H3 k3 R3 I2
end
structure CallP (rk:Kd) (C:jo->Prop) (H:Hp) (t:T) (v:V) (H':Hp):Prop where
 keep:∀ b o,H b=some o->H' b=some o
 dom:∀ b,H' b=none->H b=none
 res:match rk with
  |.n=>∃ r,v=.ref r/\H r=none/\Live (fun b=>(C b∨H b=none)/\b≠r) H' r t
  |_=>Rep (fun b=>C b∨H b=none) H' v t
def spP(rk:Kd)(np:Nat)(fn:List T->Option T):Sp:=fun vs H Q _=>∃ C ts t,ts.length=np/\Reps C H vs ts/\fn ts=some t/\∀ v H',CallP rk C H t v H'->Q v H'
structure CallI (rk:Kd) (C:jo->Prop) (a:jo) (H:Hp) (t t0:T) (v:V) (H':Hp):Prop where
 keep:∀ b o,b≠a->H b=some o->H' b=some o
 dom:∀ b,H' b=none->H b=none
 res:match rk with
  |.n=>∃ r,v=.ref r/\H r=none/\Live (fun b=>(b≠a/\(C b∨H b=none))/\b≠r) H' r t/\Live (fun b=>(b≠a/\(C b∨H b=none))/\b≠r) H' a t0
  |_=>Rep (fun b=>b≠a/\(C b∨H b=none)) H' v t/\Live (fun b=>b≠a/\(C b∨H b=none)) H' a t0
def spI(rk:Kd)(np:Nat)(fn:List T->Option (T × T)):Sp:=fun vs H Q _=>∃ C a us t0 ts t t1,(t0::ts).length=np/\vs=.ref a::us/\¬ C a/\Live C H a t0/\Reps C H us ts/\fn (t0::ts)=some (t,t1)/\∀ v H',CallI rk C a H t t1 v H'->Q v H'
def zay(n:Nat)(ts:List T):Sg:=ts.map some++Yj (n - ts.length) none
def fnP(n:Nat)(d:DS):List T->Option T:=fun ts=>match d (zay n ts) with
 |some (.rt t _)=>some t
 |some (.nx _)=>some .non
 |_=>none
def zmQ(n:Nat)(d:DS):List T->Option T:=fun ts=>match d (zay n ts) with
 |some (.rt t _)=>some t
 |_=>none
def fnI(n:Nat)(d:DS):List T->Option (T × T):=fun ts=>match d (zay n ts) with
 |some (.rt t s)=>(s[0]?).join.map fun u=>(t,u)
 |_=>none
theorem zfk{N:List Str}{vs:List V}{ts:List T}{C:jo->Prop}{H:Hp}(r:Reps C H vs ts)(hl:ts.length<=N.length):(zay N.length ts).length=(L2.start N vs).length/\∀(i:Nat) t,(zay N.length ts)[i]?=some (some t)->∃ v,(L2.start N vs)[i]?=some (some v)/\ts[i]?=some t/\vs[i]?=some v/\Rep C H v t:=by
 have rl:=r.1;unfold zay L2.start;refine⟨by simp[rl],fun i t e=>?_⟩
 by_cases hi:i < ts.length
 ·rw[jR (by rw[ja]; exact hi),jc] at e
  obtain⟨t',h1,h2⟩:=Qm e;cases h2;obtain⟨v,hv,rv⟩:=r.get h1;refine⟨v,?_,h1,hv,rv⟩;rw[jR (by rw[ja,rl]; exact hi),jc,hv]
  rfl
 ·rw[Q2 (by rw[ja]; lia)] at e
  have:=jN e;have:=Yv this;cases this
section
variable {d:DS}{N:List Str}{np:Nat}
theorem zlJ{fn:List T->Option T}(hfn:∀ ts t,fn ts=some t->(∃ s',d (zay N.length ts)=some (.rt t s'))∨(rk=.e/\t=.non/\∃ s',d (zay N.length ts)=some (.nx s')))(hrk:rk=.e∨rk=.n)(hN:np<=N.length){vs:List V}{H:Hp}{Q:VK}{E:XK}(h:spP rk np fn vs H Q E) :
  cS rk [] [] M' Mb d { nx:=fun _ H'=>Q .non H',rt:=Q } (L2.start N vs) H:=by
 obtain⟨C,ts,t,hl,r,hf,q⟩:=h;obtain⟨l1,l2⟩:=zfk (N:=N) r (by lia)
 have w:∀ b,C b->Free ⟨H,C,fun _=>False,fun _=>0⟩ (fun _=>False) b:=fun b c=>⟨fun z=>z,.inl c⟩;have R:Rel ⟨H,C,fun _=>False,fun _=>0⟩ (fun _=>False) [] (zay N.length ts) (L2.start N vs) H:=by
  refine⟨l1,fun i t e _=>?_,fun i t e n=>by simp at n,fun i a n=>by simp at n,fun i j a n=>by simp at n,fun b o _ e=>e,fun b e=>e,fun a z=>z.elim,fun a z=>z,fun a z=>z.elim⟩
  obtain⟨v,h1,_,_,rv⟩:=l2 i t e;exact⟨v,h1,rv.mono w fun _ _ _ e=>e⟩
 have I:Ios ⟨H,C,fun _=>False,fun _=>0⟩ [] [] (L2.start N vs):=⟨fun i hi=>by simp at hi,fun a z=>z.elim⟩
 rcases hfn ts t hf with ⟨s',hd⟩ |⟨e1,e2,s',hd⟩
 ·refine⟨_,_,_,_,R,I,hd,fun v H' ro=>q v H' ⟨fun b o e=>ro.keep b o (fun z=>z) e,ro.dom,?_⟩⟩;rcases hrk with rfl |rfl
  ·exact ro.res.1.mono (fun b c=>c.2) fun _ _ _ e=>e
  ·obtain⟨r,h1,h2,_,h3,_⟩:=ro.res;exact⟨r,h1,h2,h3.mono (fun b c=>⟨c.1.2,c.2⟩) (fun _ _ _ e=>e) fun _ e=>e⟩
 ·subst e1 e2;refine⟨_,_,_,_,R,I,hd,fun O' σ' H' k R' I'=>q .non H' ⟨fun b o e=>R'.keep b o (fun z=>z) e,R'.dom,.non⟩⟩
theorem zpQ(hrk:rk=.e∨rk=.n)(hN:np<=N.length){vs:List V}{H:Hp}{Q:VK}{E:XK}(h:spI rk np (fnI N.length d) vs H Q E) :
  cS rk [0] [0] M' Mb d { nx:=fun _ H'=>Q .non H',rt:=Q } (L2.start N vs) H:=by
 obtain⟨C,a,us,t0,ts,t,t1,hl,rfl,na,L,r,hf,q⟩:=h;have hlu:us.length+1<=N.length:=by rw[r.1]; simpa using Qt (Nat.le_of_eq hl) hN
 have r':Reps (fun b=>C b∨b=a) H (.ref a::us) (t0::ts):=.cons (L.rep (fun b c=>.inl c) (.inr rfl)) (r.mono (fun b c=>.inl c) fun _ _ _ e=>e);obtain⟨l1,l2⟩:=zfk (N:=N) r' (by rw[hl]; exact hN)
 have w:∀ b,C b->Free ⟨H,C,fun b=>b=a,fun _=>a⟩ (fun b=>b=a) b:=fun b c=>⟨fun z=>na (z▸c),.inl c⟩;have e0:(L2.start N (.ref a::us))[0]?=some (some (.ref a)):=rfl;have R:Rel ⟨H,C,fun b=>b=a,fun _=>a⟩ (fun b=>b=a) [0] (zay N.length (t0::ts)) (L2.start N (.ref a::us)) H:=by
  refine⟨l1,fun i t e n=>?_,fun i t e n=>?_,fun i b n e=>?_,fun i j b n m _ _=>?_,fun b o _ e=>e,fun b e=>e,fun b z=>.inl z,fun b z=>z,fun b z=>z▸L.ne⟩
  ·obtain⟨v,h1,h2,h3,_⟩:=l2 i t e;cases i with
   |zero=>simp at n
   |succ i=>
    have rv:=r.2 i v t (by simpa using h3) (by simpa using h2)
    exact⟨v,h1,rv.mono w fun _ _ _ e=>e⟩
  ·obtain rfl:i=0:=by simpa using n
   obtain⟨v,h1,h2,h3,_⟩:=l2 0 t e;have:t0=t:=by simpa using h2
   subst this;exact⟨a,e0,L.mono w (fun _ _ _ e=>e) fun _ e=>e⟩
  ·obtain rfl:i=0:=by simpa using n
   rw[e0] at e;injection e with e;injection e with e;injection e with e;exact e.symm
  ·have h1:i=0:=by simpa using n
   have h2:j=0:=by simpa using m
   rw[h1,h2]
 have I:Ios ⟨H,C,fun b=>b=a,fun _=>a⟩ [0] [0] (L2.start N (.ref a::us)):=⟨fun i hi=>by
  obtain rfl:i=0:=by simpa using hi
  exact⟨by simp,e0⟩,fun b z=>⟨0,by simp,z⟩⟩
 unfold fnI at hf;cases hd:d (zay N.length (t0::ts)) with
 |none=>rw[hd] at hf; cases hf
 |some r1=>
  rw[hd] at hf;cases r1 with
  |rt t' s'=>
   obtain⟨u,h1,h2⟩:=Qm hf;cases h2;refine⟨_,_,_,_,R,I,hd,fun v H' ro=>q v H' ⟨fun b o n e=>ro.keep b o n e,ro.dom,?_⟩⟩;rcases hrk with rfl |rfl
   ·obtain⟨h2,h3⟩:=ro.res;obtain⟨t2,h4,h5⟩:=h3 0 (by simp)
    rw[zad h1] at h4;cases h4;exact⟨h2,h5⟩
   ·obtain⟨r,h2,h3,_,h4,h5⟩:=ro.res;obtain⟨t2,h6,h7⟩:=h5 0 (by simp)
    rw[zad h1] at h6;cases h6;exact⟨r,h2,h3,h4,h7⟩
  |nx s'=>cases hf
  |bk s'=>cases hf
  |ct s'=>cases hf
end
section
variable {F:Fr}{O:jo->Prop}{s:Sg}{σ:L2.St}{H H':Hp}
theorem Rel.ext(R:Rel F O M s σ H)(k:∀ b o,H b=some o->H' b=some o)(dm:∀ b,H' b=none->H b=none):Rel F O M s σ H' where
 len:=R.len
 val:=fun i t e n=>by
  obtain⟨v,h1,h2⟩:=R.val i t e n;exact⟨v,h1,h2.mono (fun _ c=>c) fun b o _ e=>k b o e⟩
 own:=fun i t e n=>by
  obtain⟨a,h1,h2⟩:=R.own i t e n;exact⟨a,h1,h2.mono (fun _ c=>c) (fun b o _ e=>k b o e) fun o e=>k a o e⟩
 ow:=R.ow
 dis:=R.dis
 keep:=fun b o n e=>k b o (R.keep b o n e)
 dom:=fun b e=>R.dom b (dm b e)
 fresh:=R.fresh
 inD:=R.inD
 al:=fun a z e=>R.al a z (dm a e)
theorem Rel.extN{r:jo}(R:Rel F O M s σ H)(k:∀ b o,H b=some o->H' b=some o)(dm:∀ b,H' b=none->H b=none)(hr:H r=none)(hr':H' r≠none):Rel F (fun b=>O b∨b=r) M s σ H':=by
 have R':=R.ext k dm;have fr:∀ b,Free F O b/\H b≠none->Free F (fun b=>O b∨b=r) b:=fun b c=>⟨fun z=>z.elim c.1.1 fun z=>c.2 (z▸hr),c.1.2⟩;refine⟨R.len,fun i t e n=>?_,fun i t e n=>?_,fun i b hi e=>.inl (R.ow i b hi e),R.dis,R'.keep,R'.dom,fun b z=>?_,fun b z=>.inl (R.inD b z),fun b z=>?_⟩
 ·obtain⟨v,h1,h2⟩:=R.val i t e n;exact⟨v,h1,h2.there.mono fr fun b o _ e=>k b o e⟩
 ·obtain⟨b,h1,h2⟩:=R.own i t e n;exact⟨b,h1,h2.there.mono fr (fun b o _ e=>k b o e) fun o e=>k b o e⟩
 ·rcases z with z |z
  ·exact R.fresh b z
  ·subst z; exact .inr (R.dom _ hr)
 ·rcases z with z |z
  ·exact R'.al b z
  ·subst z; exact hr'
theorem Rel.freeNew(R:Rel F O M s σ H){b:jo}(h:Free F O b∨H b=none):Free F O b:=h.elim id fun z=>⟨fun w=>R.al b w z,.inr (R.dom b z)⟩
end
def Ar(fa:DA)(n:Nat):Prop:=∀ s ts s',fa s=some (ts,s')->ts.length=n
theorem zoG:Ar dAn 0:=fun s ts s' h=>by
 injection h with h;injection h with h1 _;rw[<-h1]; rfl
theorem ar_{f:DE}{fa:DA}{n:Nat}(h:Ar fa n):Ar (dAc f fa) (n+1):=fun s ts s' e=>by
 obtain⟨p,h1,h2⟩:=Qb e;obtain⟨q,h3,h4⟩:=Qm h2;injection h4 with h4 _;rw[<-h4,jl,h _ _ _ h3]
def zal(fn:List T->Option T)(fa:DA):DE:=fun s=>(fa s).bind fun p=>(fn p.1).map fun t=>(t,p.2)
def zfV(fn:List T->Option (T × T))(i:Nat)(fa:DA):DE:=fun s=>(s[i]?).join.bind fun _=>(fa s).bind fun p=>(p.2[i]?).join.bind fun t0=>(fn (t0::p.1)).map fun q=>(q.1,p.2.set i (some q.2))
section
variable {f0:DE}{np:Nat}
theorem zoA{fn:List T->Option T}(hn:Ar fa np):∀ σ H Q,cE .e M (zal fn fa) σ H Q->zjW (spP .e np fn) [] E0 (cA M fa) σ H Q:=by
 intro σ H Q h_;refine cE_ h_ fun F O s t s' R hf q=>?_;obtain⟨p,h1,h2⟩:=Qb hf;obtain⟨t',h3,h4⟩:=Qm h2;injection h4 with h4 h5;subst h4 h5;refine⟨F,O,s,p.1,p.2,R,h1,fun vs H1 S1 R1 rs=>?_⟩
 try dsimp only
 rw[QM];refine⟨Free F O,p.1,t',hn _ _ _ h1,rs,h3,fun v H2 c=>q v H2 (S1.trans ⟨fun b o _ e=>c.keep b o e,c.dom⟩) ⟨R1.ext c.keep c.dom,?_⟩⟩;exact c.res.mono (fun b z=>R1.freeNew z) fun _ _ _ e=>e
theorem zoz{fn:List T->Option T}(hn:Ar fa np):∀ σ H Q,cE .n M (zal fn fa) σ H Q->zjW (spP .n np fn) [] E0 (cA M fa) σ H Q:=by
 intro σ H Q h_;refine cE_ h_ fun F O s t s' R hf q=>?_;obtain⟨p,h1,h2⟩:=Qb hf;obtain⟨t',h3,h4⟩:=Qm h2;injection h4 with h4 h5;subst h4 h5;refine⟨F,O,s,p.1,p.2,R,h1,fun vs H1 S1 R1 rs=>?_⟩
 try dsimp only
 rw[QM];refine⟨Free F O,p.1,t',hn _ _ _ h1,rs,h3,fun v H2 c=>?_⟩;obtain⟨r,rfl,hr,L⟩:=c.res;refine q _ H2 (S1.trans ⟨fun b o _ e=>c.keep b o e,c.dom⟩) ⟨r,rfl,S1.dom r hr,R1.extN c.keep c.dom hr L.ne,L.mono (fun b z=>?_) (fun _ _ _ e=>e) fun _ e=>e⟩;have:=R1.freeNew z.1;exact⟨fun y=>y.elim this.1 z.2,this.2⟩
theorem zmI{fn:List T->Option (T × T)}{i:Nat}(hn:Ar fa np)(hi:M.contains i=true):∀ σ H Q,cE .e M (zfV fn i fa) σ H Q->zjW (spI .e (np+1) fn) [] E0 (zfi (zdM i) (cA M fa)) σ H Q:=by
 intro σ H Q h_;refine cE_ h_ fun F O s t s' R hf q=>?_;have hi':i∈M:=by simpa using hi
 obtain⟨x0,h0,hf⟩:=Qb hf;obtain⟨p,h1,hf⟩:=Qb hf;obtain⟨t0,h2,hf⟩:=Qb hf;obtain⟨w,h3,h4⟩:=Qm hf;cases h4;obtain⟨a,e1,_⟩:=R.own i x0 (zad h0) hi';refine⟨_,e1,F,O,s,p.1,p.2,R,h1,fun vs H1 S1 R1 rs=>?_⟩;obtain⟨b,e2,L⟩:=R1.own i t0 (zad h2) hi';rw[e1] at e2;injection e2 with e2;cases e2;have oa:=R1.ow i a hi' e1
 try dsimp only
 rw[QM];refine⟨Free F O,a,vs,t0,p.1,w.1,w.2,by rw[jl,hn _ _ _ h1],rfl,fun z=>z.1 oa,L,rs,h3,fun v H2 c=>?_⟩
 obtain⟨c1,c2⟩:=c.res;have S2:Step σ M H1 H2:=⟨fun b o n e=>c.keep b o (fun z=>n i hi' (z▸e1)) e,c.dom⟩;have fr:∀ b,(b≠a/\(Free F O b∨H1 b=none))->Free F O b:=fun b z=>R1.freeNew z.2;have kf:∀ b u,Free F O b->H1 b=some u->H2 b=some u:=fun b u z e=>c.keep b u (fun y=>z.1 (y▸oa)) e;have hl:=(j5.mp (zad h2)).1;refine q v H2 (S1.trans S2) ⟨?_,c1.mono fr fun _ _ _ e=>e⟩;refine⟨by rw[jZ]; exact R1.len,fun j t e' n=>?_,fun j t e' n=>?_,R1.ow,R1.dis,fun b u n e=>?_,fun b e=>R1.dom b (c.dom b e),R1.fresh,R1.inD,fun b z e=>R1.al b z (c.dom b e)⟩
 ·have hij:i≠j:=fun z=>n (z▸hi');rw[jf hij] at e';obtain⟨v,h1,h2⟩:=R1.val j t e' n;exact⟨v,h1,h2.mono (fun _ c=>c) kf⟩
 ·by_cases hij:i=j
  ·subst hij;rw[jL hl] at e';cases e';exact⟨a,e1,c2.mono fr (fun _ _ _ e=>e) fun _ e=>e⟩
  ·rw[jf hij] at e';obtain⟨b,h1,h2⟩:=R1.own j t e' n;have hne:b≠a:=fun z=>hij (R1.dis i j a hi' n e1 (z▸h1));exact⟨b,h1,h2.mono (fun _ c=>c) kf fun u e=>c.keep b u hne e⟩
 ·refine c.keep b u (fun z=>?_) (R1.keep b u n e);subst z;rcases R1.fresh b oa with z |z
  ·exact n z
  ·rw[z] at e; cases e
end
def S1E(r:List V->Hp->VK->Prop)(g:T->Option T):Prop:=∀(C:jo->Prop) (H:Hp) x tx t (Q:VK),BRep C H x tx->g tx=some t->(∀ v,Rep C H v t->Q v H)->r [x] H Q
def S1N(r:List V->Hp->VK->Prop)(g:T->Option T):Prop:=∀(C:jo->Prop) (H:Hp) x tx t (Q:VK),BRep C H x tx->g tx=some t->
 (∀ p o,H p=none->(∀ C':jo->Prop,(∀ b,C b/\H b≠none->C' b)->Live C' (upd H p o) p t)->Q (.ref p) (upd H p o))->r [x] H Q
def d1(g:T->Option T)(f:DE):DE:=fun s=>(f s).bind fun p=>(g p.1).map fun t=>(t,p.2)
section
variable {f:DE}
theorem zq6{r:List V->Hp->VK->Prop}{g:T->Option T}(h:S1E r g):∀ σ H Q,cE .e M (d1 g f) σ H Q->tCB r (zfi (cE .b M f) zlt) σ H Q:=by
 intro σ H Q h_;refine cE_ h_ fun F O s t s' R hf q=>?_;obtain⟨p,h1,h2⟩:=Qb hf;obtain⟨t',h3,h4⟩:=Qm h2;injection h4 with h4 h5;subst h4 h5;exact⟨F,O,s,p.1,p.2,R,h1,fun v H1 S1 p1=>h (Free F O) H1 v p.1 t' Q p1.view h3 fun w rw=>q w H1 S1 ⟨p1.1,rw⟩⟩
theorem zmb{r:List V->Hp->VK->Prop}{g:T->Option T}(h:S1N r g):∀ σ H Q,cE .n M (d1 g f) σ H Q->tCB r (zfi (cE .b M f) zlt) σ H Q:=by
 intro σ H Q h_;refine cE_ h_ fun F O s t s' R hf q=>?_;obtain⟨p,h1,h2⟩:=Qb hf;obtain⟨t',h3,h4⟩:=Qm h2;injection h4 with h4 h5;subst h4 h5;exact⟨F,O,s,p.1,p.2,R,h1,fun v H1 S1 p1=>h (Free F O) H1 v p.1 t' Q p1.view h3 fun a o ha L=>q _ _ (S1.trans (.new ha o)) (.mkN R p1.1 S1 ha L)⟩
end
theorem CallR.or{X:Cx}{f:j7}{r r':List V->Hp->VK->Prop}(h:CallR X f r)(h':CallR X f r'):CallR X f (fun xs H Q=>r xs H Q∨r' xs H Q):=by
 intro pc s σ H xs us Q I rv q;rcases q with q |q
 ·exact h pc s σ H xs us Q I rv q
 ·exact h' pc s σ H xs us Q I rv q
theorem zjJ{X:Cx}:CallR X (.builtin "len") (fun xs H Q=>∃ a kvs,xs=[V.ref a]/\Rd H a (.dK kvs)/\Q (.int kvs.length) H):=by
 intro pc s σ H xs us Q I r h;obtain⟨a,kvs,rfl,ha,q⟩:=h;obtain⟨u,rfl,ru⟩:=zic r;cases ru;exact zqs I ha fun t s' I'=>⟨.int kvs.length,H,I',⟨t,rfl⟩,q⟩
def zbP:T->Option T
 |.lst xs=>some (.int xs.length) |.tup xs=>some (.int xs.length) |.scr xs=>some (.int xs.length) |.dct xs=>some (.int xs.length) |.fd xs=>some (.int xs.length)
 |.str x=>if x.length<=jq then some (.int x.length) else none
 |_=>none
theorem zpK:S1E (fun xs H Q=>((∃ p ys,xs=[.ref p]/\(SqL TheK.K H p ys∨SqT TheK.K H p ys)/\Q (.int ys.length) H)∨(∃ z,xs=[.str z]/\z.length<=jq/\Q (.int z.length) H))∨∃ a kvs,xs=[V.ref a]/\Rd H a (.dK kvs)/\Q (.int kvs.length) H) zbP:=by
 intro C H x tx t Q bx hg q;cases tx with
 |lst ts=>
  injection hg with hg; subst hg;obtain⟨a,vs,rfl,ha,ra⟩:=bx.lst;exact .inl (.inl ⟨a,vs,rfl,.inl (SqL.of ha),by rw[ra.1]; exact q _ (.int _)⟩)
 |tup ts=>
  injection hg with hg; subst hg;obtain⟨a,vs,rfl,ha,ra⟩:=bx.tup;exact .inl (.inl ⟨a,vs,rfl,.inr (SqT.of ha),by rw[ra.1]; exact q _ (.int _)⟩)
 |scr ns=>
  injection hg with hg; subst hg;obtain⟨a,rfl,ha⟩:=bx.scr;exact .inl (.inl ⟨a,_,rfl,.inl ha,by rw[ja]; exact q _ (.int _)⟩)
 |dct ks=>
  injection hg with hg; subst hg;obtain⟨a,kvs,rfl,ha,ra⟩:=bx.dct;exact .inr ⟨a,kvs,rfl,.inl ha,by rw[ra.len]; exact q _ (.int _)⟩
 |fd ks=>
  injection hg with hg; subst hg;obtain⟨a,ob,kvs,rfl,ha,ra,_⟩:=bx.fd;exact .inr ⟨a,kvs,rfl,.inr ⟨ob,ha⟩,by rw[ra.len]; exact q _ (.int _)⟩
 |str z=>
  have hg:(if z.length<=jq then some (T.int z.length) else none)=some t:=hg
  split at hg
  ·rename_i hl;injection hg with hg; subst hg;exact .inl (.inr ⟨z,by rw[bx.str],hl,q _ (.int _)⟩)
  ·cases hg
 |_=>cases hg
def zqk:T->Option T
 |.lst xs=>some (.lst xs) |.tup xs=>some (.lst xs) |.scr ns=>some (.lst (ns.map .int))
 |_=>none
theorem zit:S1N (fun xs H Q=>∃ p ys,xs=[.ref p]/\(SqL TheK.K H p ys∨SqT TheK.K H p ys)/\∀ l,H l=none->Q (.ref l) (upd H l (.lst ys))) zqk:=by
 intro C H x tx t Q bx hg q;cases tx with
 |lst ts=>
  injection hg with hg; subst hg;obtain⟨a,vs,rfl,ha,ra⟩:=bx.lst;exact⟨a,vs,rfl,.inl (SqL.of ha),fun p hp=>q p _ hp fun C' hC=>.lst zab (ra.there.mono hC fun c o _ e=>by rw[za7 (za3 e hp)]; exact e)⟩
 |tup ts=>
  injection hg with hg; subst hg;obtain⟨a,vs,rfl,ha,ra⟩:=bx.tup;exact⟨a,vs,rfl,.inr (SqT.of ha),fun p hp=>q p _ hp fun C' hC=>.lst zab (ra.there.mono hC fun c o _ e=>by rw[za7 (za3 e hp)]; exact e)⟩
 |scr ns=>
  injection hg with hg; subst hg;obtain⟨a,rfl,ha⟩:=bx.scr;exact⟨a,_,rfl,.inl ha,fun p hp=>q p _ hp fun C' hC=>.lst zab (zb8 _)⟩
 |_=>cases hg
def isi(c:String):T->Option Bool
 |.non=>some (c == "NoneType") |.bl _=>some (c == "bool"||c == "int") |.int _=>some (c == "int") |.str _=>some (c == "str")
 |.lst _=>some (c == "list") |.tup _=>some (c == "tuple") |.dct _=>some (c == "dict")
 |_=>none
def dA2(g:Int->Int->Int)(fa:DA):DE:=fun s=>(fa s).bind fun p=>match p.1 with
 |[.int i,.int j]=>some (.int (g i j),p.2)
 |_=>none
theorem zjU{M:List Nat}{fa:DA}{g:Int->Int->Int}:∀ σ H Q,cE .e M (dA2 g fa) σ H Q->tCB (fun xs H Q=>∃ i j,xs=[.int i,.int j]/\Q (.int (g i j)) H) (cA M fa) σ H Q:=by
 intro σ H Q h_;refine cE_ h_ fun F O s t s' R hf q=>?_;obtain⟨⟨p1,p2⟩,h1,h2⟩:=Qb hf;refine⟨F,O,s,p1,p2,R,h1,fun vs H1 S1 R1 rs=>?_⟩;dsimp only at h2;split at h2
 ·rename_i i j;cases h2;cases vs with
  |cons v vs=>
   obtain⟨u,rfl,ru⟩:=rs.tail.one;obtain rfl:v=.int i:=BRep.int (.inl rs.head);obtain rfl:u=.int j:=BRep.int (.inl ru);exact⟨i,j,rfl,q _ H1 S1 ⟨R1,.int _⟩⟩
  |nil=>exact nomatch rs.1
 ·cases h2
def zcJ:List T->Option (List Str)
 |[]=>some []
 |.str x::ts=>(zcJ ts).map fun r=>x::r
 |_=>none
theorem zcN{C:jo->Prop}{H:Hp}:∀ {vs:List V} {ts:List T} {ys:List Str},Reps C H vs ts->zcJ ts=some ys->vs=ys.map V.str
 |[],[],ys,_,e=>by injection e with e; subst e; rfl
 |v::vs,[],ys,h,_=>by have:=h.1; simp at this
 |[],t::ts,ys,h,_=>by have:=h.1; simp at this
 |v::vs,t::ts,ys,h,e=>by
  cases t with
  |str x=>
   obtain⟨r,h1,h2⟩:=Qm e;subst h2;rw[ju,zcN h.tail h1,BRep.str (.inl h.head)]
  |_=>cases e
theorem zlc{x:V}:∀ {ys:List V} {us:List j7},Vals ys us->ys.all zbX=true->us.countP (eqU x)=ys.countP fun y=>eqV y x
 |[],_,.nil,_=>rfl
 |y::ys,u::us,.cons r t,h=>by
  rw[gT,jw] at h;rw[Wt,Wt,zlc t h.2,zho r h.1]
def zgn:V->List V->Hp->VK->Prop:=fun x vs H Q=>∃(l:jo) (ys:List V) (z:V),x=.ref l/\vs=[z]/\zbX z=true/\ys.all zbX=true/\H l=some (.lst ys)/\Q (.int (ys.countP (fun y=>eqV y z):Nat)) H
theorem zj0{X:Cx}:MtR X "list.count" zgn:=by
 intro pc s sg H x vs v us Q I rx rv h;obtain⟨l,ys,z,rfl,rfl,fz,fy,hH,q⟩:=h;cases rx;obtain⟨u,rfl,ru⟩:=rv.one;obtain⟨its,n,r,e,hz⟩:=I.lst hH;refine Nj F.slot_list_count ⟨_,e,rfl⟩ F.entry_list_count (F.args_list_count_2 _ _) (SeqAt.list_countAt l its.toArray n none #[] u (eqU z)) ⟨e,fun w hw=>zc7 ru fz r fy w (by simpa using hw),?_⟩
 refine⟨.int (ys.countP (fun y=>eqV y z):Nat),H,I.tok _,⟨s.toks,?_⟩,q⟩;rw[List.toList_toArray,zlc r fy]
def zfP(x y:T):Option T:=match x with
 |.lst ts=>(zgW ts).bind fun vs=>(toV y).map fun v=>.int (vs.countP (fun u=>eqV u v):Nat)
 |_=>none
def S2M(r:V->List V->Hp->VK->Prop)(g:T->T->Option T):Prop:=∀(C:jo->Prop) (H:Hp) x y tx ty t (Q:VK),BRep C H x tx->BRep C H y ty->g tx ty=some t->(∀ v,Rep C H v t->Q v H)->r x [y] H Q
def d2L(g:T->T->Option T)(fa fb:DE):DE:=fun s=>(fa s).bind fun p=>if zjd p.1 then (fb p.2).bind fun q=>(g p.1 q.1).map fun t=>(t,q.2) else none
theorem zqP{M:List Nat}{fa fb:DE}{K:jd}{r:V->List V->Hp->VK->Prop}{g:T->T->Option T}(h:S2M r g):∀ σ H Q,cE .e M (d2L g fa fb) σ H Q->tBM K "list" r (cE .e M fa) (zfi (cE .b M fb) zlt) σ H Q:=by
 intro σ H Q h_;refine cE_ h_ fun F O s t s' R hf q=>?_;obtain⟨p,h1,h2⟩:=Qb hf;split at h2
 ·rename_i hl;obtain⟨w,h3,h4⟩:=Qb h2;obtain⟨t',h5,h6⟩:=Qm h4;injection h6 with h6 h7;subst h6 h7;refine⟨F,O,s,p.1,p.2,R,h1,fun v H1 S1 pa=>?_⟩;have ty:tyV K "list" v H1:=by
   obtain⟨ts,e⟩:∃ ts,p.1=.lst ts:=by cases e:p.1<;>first |exact⟨_,rfl⟩ |(rw[e] at hl; cases hl)
   have pr:=pa.2;rw[e] at pr;obtain⟨a,vs,rfl,ha,ra⟩:=BRep.lst (.inl pr);exact .inl ⟨rfl,_,SqL.of ha⟩
  refine⟨ty,F,O,p.2,w.1,w.2,pa.1,h3,fun u H2 S2 pb=>?_⟩;exact h (Free F O) H2 v u p.1 w.1 t' Q (.inl (pa.1.stay S2 pa.2)) pb.view h5 fun x rx=>q x H2 (S1.trans S2) ⟨pb.1,rx⟩
 ·cases h2
theorem zlI:S2M zgn zfP:=by
 intro C H x y tx ty t Q bx by' hg q;obtain⟨ts,rfl⟩:∃ ts,tx=.lst ts:=by cases tx<;>first |exact⟨_,rfl⟩ |cases hg
 obtain⟨vs,h1,h2⟩:=Qb hg;obtain⟨v,h3,rfl⟩:=Qm h2;obtain⟨a,us,rfl,ha,ra⟩:=bx.lst;obtain⟨e1,e2⟩:=zes ra h1;obtain⟨e3,e4⟩:=zgX by' h3;subst e1 e3;exact⟨a,_,_,rfl,rfl,e4,e2,ha,q _ (.int _)⟩
end L3
namespace L3
open PySem PySem.Spec PyProof.Rows L2
def zgm:V->List V->Hp->VK->Prop:=fun x vs H Q=>∃(l:jo) (ys:List V) (z:V) (j:Nat),x=.ref l/\vs=[z]/\zbX z=true/\ys.all zbX=true/\H l=some (.lst ys)/\ys.findIdx? (fun y=>eqV y z)=some j/\Q (.int (j:Nat)) H
theorem zfG{X:Cx}:MtR X "list.index" zgm:=by
 intro pc s sg H x vs v us Q I rx rv h;obtain⟨l,ys,z,j,rfl,rfl,fz,fy,hH,hj,q⟩:=h;cases rx;obtain⟨u,rfl,ru⟩:=rv.one;obtain⟨its,n,r,e,hz⟩:=I.lst hH;have hlen:=r.length;obtain⟨hjl,hit,hno⟩:=gk.mp hj;have key:∀(m:Nat) (h1:m < ys.length) (h2:m < its.length),eqU z its[m]=eqV ys[m] z:=fun m h1 h2=>by
  obtain⟨w,e1,e2⟩:=r.get (j3 h1);rw[j3 h2] at e1;cases e1;exact zho e2 (jx.mp fy _ (QU h1))
 refine Nj F.slot_list_index ⟨_,e,rfl⟩ F.entry_list_index (F.args_list_index_2 _ _) (SeqAt.list_indexAt l its.toArray n none #[] u (eqU z) j (by simp; lia) (by have hz':=hz; rw[Qr] at hz'; lia) (by
   rw[gR,key j hjl (by lia)]; exact hit) (fun m hm hmj=>by
   have hm':m < its.length:=by simpa using hm
   rw[gR,key m (by lia) hm']
   have:=hno m hmj
   simpa using this)) ⟨e,fun w hw=>zc7 ru fz r fy w (by simpa using hw),?_⟩
 exact⟨.int (j:Nat),H,I.tok _,⟨s.toks,rfl⟩,q⟩
end L3
namespace L2
open PySem PySem.Spec PyProof.Rows
variable {X:Cx}{P:jG}{w:Q7}{A:Q1}{E:j7->j8->Prop}{s:j8}
def Itd(f:Key × V->V)(a:jo)(o:Obj):It:=
 ⟨fun i H=>∃ kvs x,H a=some (.frz o (.dK kvs))/\kvs[i]?=some x,fun i H x H'=>H'=H/\∀ kvs,H a=some (.frz o (.dK kvs))->(kvs[i]?).map f=some x,fun i H=>∃ kvs,H a=some (.frz o (.dK kvs))/\kvs.length<=i⟩
theorem zeW{X:Cx}{pc:List (jo × Obj)}{σ:St}{H:Hp}{s:j8}{a:jo}{o:Obj}{kvs:List (Key × V)}(I:Inv X pc σ H s)(e:H a=some (.frz o (.dK kvs))) :
  ∃ vs es ep,KV kvs vs/\s.heap.DictAt (zaN X.prog X.w) a vs ep/\o.data=.dict es ep/\es.size=vs.length/\(a == Ys)=false:=by
 obtain⟨ho,z,hd,vs,rel,o',es,ep,ho',c,d,k,p,n⟩:=(I.hok a _ e);rw[ho] at ho';cases ho';exact⟨vs,es,ep,rel,⟨o,es,ho,c,d,k,p,n⟩,d,by rw[<-p.length]; simp,hd⟩
theorem zik{P:jG}{w:Q7}{K:jd}{tg:Q0}(a it:jo)(o:Obj):Turn P w K tg (Itd (fun kv=>kV kv.1) a o) [it] it (fun i h=>∃ n ep es,h.IsKeyIter it a i n ep/\o.data=.dict es ep/\es.size=n) where
 mem:=by simp
 obj:=fun i h st b hb=>by
  have e:b=it:=by simpa using hb
  subst e;obtain⟨n,ep,es,⟨o',e,c,d⟩,_⟩:=st;exact⟨o',e,fun v z=>by rw[d] at z; cases z⟩
 keep:=fun i h h' ⟨n,ep,es,st,r⟩ k=>⟨n,ep,es,st.at fun o e=>k it (by simp) o e,r⟩
 item:=by
  intro X hP hw hK hc i pc s σ H E I hf st hg;subst hP hw hK;obtain⟨kvs,x,hq,hx⟩:=hg;obtain⟨n,ep,es,st,d1,d2⟩:=st;obtain⟨vs,es',ep',rel,da,d3,d4,hd⟩:=zeW I hq;rw[d1] at d3;cases d3;obtain⟨y,hy,y1,y2⟩:=zkZ rel hx;obtain⟨f0,f1,f2,f3,f4,f5⟩:=hf it (by simp)
  rw[<-d2,d4] at st;refine wpAny_pyNext_dict_item st da (k:=y.1) (v:=y.2) hy fun key h' hkey st' sb=>?_;have I1:Inv X pc σ H { s with heap:=h' }:=I.turned (t':=s.toks) (fun b o hb e=>(sb.2 b hb).trans e) f0 f1 f3 f4 f5;obtain⟨o',e,c,d⟩:=id st';refine⟨key,rfl,zi2 (s:={ s with heap:=h' }) e c d (by decide) ⟨kV x.1,H,I1,y1▸ziv hkey,⟨rfl,fun kvs' h'=>?_⟩,⟨_,ep,es,st',d1,d4⟩,fun b hb=>(hf b hb).1⟩⟩
  rw[hq] at h';cases h';rw[hx]; rfl
 done:=by
  intro X hP hw hK hc i pc s σ H E I hf st hg;subst hP hw hK;obtain⟨kvs,hq,hx⟩:=hg;obtain⟨n,ep,es,st,d1,d2⟩:=st;obtain⟨vs,es',ep',rel,da,d3,d4,hd⟩:=zeW I hq;rw[d1] at d3;cases d3;obtain⟨f0,f1,f2,f3,f4,f5⟩:=hf it (by simp)
  have hl:=rel.length;rw[<-d2,d4] at st;exact wpAny_pyNext_dict_end (I.ok.hd hc) st da (by rw[Ym]; lia) fun h' eb=>⟨rfl,I.turned (t':=s.toks) (fun b o hb e=>eb b o hb e) f0 f1 f3 f4 f5⟩
 self:=fun _ _ _ _ _ ⟨_,_,_,st,_⟩ h=>wpAny_pyIter_keyiter st h
def zqh(tl:TE):TI:=fun σ H R=>tl σ H fun x H1=>∃ a o kvs,x=.ref a/\H1 a=some (.frz o (.dK kvs))/\R (Itd (fun kv=>kV kv.1) a o) H1
theorem zm3{X:Cx}{tg l:Q0}{tl:TE}(hl:PE X l tl):PI X tg l (zqh tl):=by
 intro pc s σ H R I h;refine thn (hl pc s σ H _ I h) fun v s1 h_=>?_; obtain⟨x,H1,I1,r1,q1⟩:=h_;obtain⟨a,o,kvs,e,hq,q⟩:=q1;subst e;cases r1;obtain⟨vs,es,ep,rel,da,d3,d4,hd⟩:=zeW I1 hq;refine wpAny_pyIter_dict hd da ?_;refine⟨s1.heap.objs.size,[s1.heap.objs.size],_,_,H1,rfl,I1.kept (t':=s1.toks) fun b o e=>j6 _ e,zik a _ o,⟨_,ep,es,⟨_,jn _ rfl,rfl,rfl⟩,d3,d4⟩,fun b hb=>?_,q⟩;have e:b=s1.heap.objs.size:=by simpa using hb
 subst e;exact I1.fpOk (jg _) (I1.hok.fresh (jg _))
def Its(x:Str):It:=⟨fun i _=>i < x.cps.size,fun i H v H'=>H'=H/\∃ c,x.cps[i]?=some c/\v=.str ⟨#[c]⟩,fun i _=>x.cps.size<=i⟩
theorem zfg{P:jG}{w:Q7}{K:jd}{tg:Q0}(it:jo)(x:Str)(t:Tok)(n:String)(hn:n="str_ascii_iterator"∨n="str_iterator"):Turn P w K tg (Its x) [it] it (fun i h=>h.IsStrIter it n x t i) where
 mem:=by simp
 obj:=fun i h st b hb=>by
  have e:b=it:=by simpa using hb
  subst e;obtain⟨o,e,c,d⟩:=st;exact⟨o,e,fun v z=>by rw[d] at z; cases z⟩
 keep:=fun i h h' st k=>let ⟨o,ho,r⟩:=st; ⟨o,k it (by simp) o ho,r⟩
 item:=by
  intro X hP hw hK hc i pc s σ H E I hf st hg;subst hP hw hK;obtain⟨f0,f1,f2,f3,f4,f5⟩:=hf it (by simp)
  have hg:i < x.cps.size:=hg;have fin:∀ h',h'.IsStrIter it n x t (i+1)->Z7 it s.heap h'->∀ u,u=Yr ⟨#[x.cps[i]]⟩ s.toks->∃ u',some u=some u'/\jD (jF X.prog X.w) X.A (gd tg (.ref it) u') (fun _ s2=>∃ y H',Inv X pc σ H' s2/\RelV y u'/\(Its x).yld i H y H'/\s2.heap.IsStrIter it n x t (i+1)/\∀ b∈[it],H' b=none) E { s with heap:=h',toks:=s.toks+1 }:=by
   intro h' st' sb u hu;have I1:Inv X pc σ H { s with heap:=h',toks:=s.toks+1 }:=I.turned (fun b o hb e=>(sb.2 b hb).trans e) f0 f1 f3 f4 f5;obtain⟨o',e,c,d⟩:=id st';refine⟨u,rfl,zi2 (s:={ s with heap:=h',toks:=s.toks+1 }) e c d (by rcases hn with rfl |rfl<;>decide) ⟨.str ⟨#[x.cps[i]]⟩,H,I1,⟨_,hu⟩,⟨rfl,_,by simp[hg],rfl⟩,st',fun b hb=>(hf b hb).1⟩⟩
  rcases hn with rfl |rfl
  ·exact wpAny_pyNext_ascii_item st (c:=x.cps[i]) (by simp[hg]) fun h' st' sb=>fin h' st' sb _ rfl
  ·exact wpAny_pyNext_wide_item st (c:=x.cps[i]) (by simp[hg]) fun h' st' sb=>fin h' st' sb _ rfl
 done:=by
  intro X hP hw hK hc i pc s σ H E I hf st hg;subst hP hw hK;obtain⟨f0,f1,f2,f3,f4,f5⟩:=hf it (by simp)
  have hg:x.cps.size<=i:=hg;rcases hn with rfl |rfl
  ·exact wpAny_pyNext_ascii_end (I.ok.hd hc) st (by simp[hg]) fun h' eb=>⟨rfl,I.turned (t':=s.toks) (fun b o hb e=>eb b o hb e) f0 f1 f3 f4 f5⟩
  ·exact wpAny_pyNext_wide_end (I.ok.hd hc) st (by simp[hg]) fun h' eb=>⟨rfl,I.turned (t':=s.toks) (fun b o hb e=>eb b o hb e) f0 f1 f3 f4 f5⟩
 self:=fun _ _ _ _ _ st h=>by
  rcases hn with rfl |rfl
  ·exact wpAny_pyIter_striter_ascii st h
  ·exact wpAny_pyIter_striter_wide st h
def zqc(tl:TE):TI:=fun σ H R=>tl σ H fun v H1=>∃ x,v=.str x/\R (Its x) H1
theorem zm1{X:Cx}{tg l:Q0}{tl:TE}(hl:PE X l tl):PI X tg l (zqc tl):=by
 intro pc s σ H R I h;refine thn (hl pc s σ H _ I h) fun v s1 h_=>?_; obtain⟨y,H1,I1,r1,q1⟩:=h_;obtain⟨x,e,q⟩:=q1;subst e;obtain⟨t,rfl⟩:=r1;have fp:∀ b∈[s1.heap.objs.size],zia X pc H1 b:=fun b hb=>by
  have e:b=s1.heap.objs.size:=by simpa using hb
  subst e;exact I1.fpOk (jg _) (I1.hok.fresh (jg _))
 cases ha:x.cps.all (· < 128)
 ·exact wpAny_pyIter_wide ha ⟨s1.heap.objs.size,[s1.heap.objs.size],_,_,H1,rfl,I1.kept (t':=s1.toks) fun b o e=>j6 _ e,zfg _ x t "str_iterator" (.inr rfl),⟨_,jn _ rfl,rfl,rfl⟩,fp,q⟩
 ·exact wpAny_pyIter_ascii ha ⟨s1.heap.objs.size,[s1.heap.objs.size],_,_,H1,rfl,I1.kept (t':=s1.toks) fun b o e=>j6 _ e,zfg _ x t "str_ascii_iterator" (.inl rfl),⟨_,jn _ rfl,rfl,rfl⟩,fp,q⟩
def leS(a b:Str):Bool:=!decide (b.cps.toList < a.cps.toList)
theorem leS_iff{a b:Str}:leS a b=true↔a.cps.toList<=b.cps.toList:=by
 unfold leS;rw[Bool.not_eq_true',decide_eq_false_iff_not,List.not_lt]
theorem zdr(a b c:Str)(h:leS a b=true)(h':leS b c=true):leS a c=true:=leS_iff.mpr (List.le_trans (leS_iff.mp h) (leS_iff.mp h'))
theorem zfI(a b:Str):(leS a b||leS b a)=true:=by
 rw[Q4,leS_iff,leS_iff];exact List.le_total _ _
theorem zb4{a b:Str}(h:leS a b=true)(h':leS b a=true):a=b:=by
 have:=List.le_antisymm (leS_iff.mp h) (leS_iff.mp h');cases a; cases b;simp at this;rw[this]
def za9(l:List Str):List Str:=l.mergeSort leS
theorem zan(l:List Str):(za9 l).Perm l:=Y3 l leS
theorem zev(l:List Str):(za9 l).Pairwise fun a b=>leS a b=true:=gm zdr zfI l
theorem zbr{l m:List Str}(hp:m.Perm l)(hm:m.Pairwise fun a b=>leS a b=true):m=za9 l:=
 Zo (fun a b _ _ h h'=>zb4 h h') hm (zev l) (hp.trans (zan l).symm)
theorem zew{l m:List Str}(hp:m.Perm l):za9 m=za9 l:=zbr ((zan m).trans hp) (zev m)
theorem zfv:∀(l:List Str) (p:Str),risingS p l=true->(p::l).Pairwise fun a b=>leS a b=true
 |[],p,_=>by simp
 |x::r,p,h=>by
  have h:(!ltCps x.cps.toList p.cps.toList&&risingS x r)=true:=h;rw[jw,ltCps_eq] at h;have ih:=zfv r x h.2;rw[Yh];refine⟨fun y hy=>?_,ih⟩;rcases jt.mp hy with e |e
  ·rw[e]; exact h.1
  ·exact zdr _ _ _ h.1 ((Yh.mp ih).1 y e)
theorem ze1{l:List Str}(h:sortedS l=true):l.Pairwise fun a b=>leS a b=true:=by
 cases l with
 |nil=>exact .nil
 |cons x r=>exact zfv r x h
theorem zd4:∀ {ss:List Str} {us:List j7},Vals (ss.map V.str) us->Jf us ss
 |[],_,.nil=>.nil
 |s::ss,_,.cons r t=>by obtain⟨t',rfl⟩:=r; exact .cons s t' (zd4 t)
theorem zbp:∀ {us:List j7} {ss:List Str},Jf us ss->Vals (ss.map V.str) us
 |_,_,.nil=>.nil
 |_,_,.cons y t h=>.cons ⟨t,rfl⟩ (zbp h)
theorem zbR:∀ {us:List j7} {ss:List Str},Jf us ss->us.length=ss.length
 |_,_,.nil=>rfl
 |_,_,.cons y t h=>by simp[zbR h]
theorem zdt:∀ {ss:List Int} {us:List j7},Vals (ss.map V.int) us->W8 us ss
 |[],_,.nil=>.nil
 |s::ss,_,.cons r t=>by obtain⟨t',rfl⟩:=r; exact .cons s t' (zdt t)
theorem zcB:∀ {us:List j7} {ss:List Int},W8 us ss->Vals (ss.map V.int) us
 |_,_,.nil=>.nil
 |_,_,.cons y t h=>.cons ⟨t,rfl⟩ (zcB h)
def leI(a b:Int):Bool:=decide (a<=b)
def zfm(l:List Int):List Int:=l.mergeSort leI
theorem ze2(l:List Int):(zfm l).Perm l:=Y3 l leI
theorem zjY(l:List Int):(zfm l).Pairwise fun a b=>leI a b=true:=gm (fun a b c h h'=>by unfold leI at *; rw[decide_eq_true_iff] at *; lia) (fun a b=>by unfold leI; rw[Q4,decide_eq_true_iff,decide_eq_true_iff]; lia) l
theorem zfl{l m:List Int}(hp:m.Perm l)(hm:m.Pairwise (·<=·)):m=zfm l:=
 Zo (le:=fun a b=>leI a b=true) (fun a b _ _ h h'=>by unfold leI at h h'; rw[decide_eq_true_iff] at h h'; lia) (hm.imp fun h=>Dt_ h) (zjY l) (hp.trans (ze2 l).symm)
section
theorem zg0:CallR X (.builtin "sorted") (fun xs H Q=>∃(a:jo) (ss:List Str),xs=[V.ref a]/\SqL X.K H a (ss.map V.str)/\ss.length < 64/\∀ l,H l=none->Q (.ref l) (upd H l (.lst ((za9 ss).map V.str)))):=by
 intro pc s σ H xs us Q I rv h;obtain⟨a,ss,rfl,hq,hl,q⟩:=h;obtain⟨u,rfl,ru⟩:=rv.one;cases ru;obtain⟨its,r,p,hz⟩:=I.list hq;have sa:=zd4 r;have hlen:=zbR sa;refine sorted_strs p.isList sa (by lia) fun out ss' h1 h2 h3=>?_
 obtain⟨e,he⟩:=Wq s.heap its out;have hs:=zbr h2 (ze1 h3);subst hs;exact⟨.ref (s.heap.objs.size+1),_,I.laid (a:=s.heap.objs.size+1) (o:=.lst ((za9 ss).map V.str)) (t':=s.toks) (fun b o e=>NQ e) (Qk _) ⟨by rw[ja,(zan ss).length_eq,Qr]; lia,out.toList,e,zbp h1,by rw[he]⟩,rfl,q _ (I.hok.fresh (Qk _))⟩
theorem zg1:CallR X (.builtin "sorted") (fun xs H Q=>∃(a:jo) (ss:List Int),xs=[V.ref a]/\SqL X.K H a (ss.map V.int)/\ss.length < 64/\∀ l,H l=none->Q (.ref l) (upd H l (.lst ((zfm ss).map V.int)))):=by
 intro pc s σ H xs us Q I rv h;obtain⟨a,ss,rfl,hq,hl,q⟩:=h;obtain⟨u,rfl,ru⟩:=rv.one;cases ru;obtain⟨its,r,p,hz⟩:=I.list hq;have sa:=zdt r;have hlen:=r.length;rw[ja] at hlen;refine sorted_ints p.isList sa (by lia) fun out ss' h1 h2 h3=>?_
 obtain⟨e,he⟩:=Wq s.heap its out;have hs:=zfl h2 h3;subst hs;exact⟨.ref (s.heap.objs.size+1),_,I.laid (a:=s.heap.objs.size+1) (o:=.lst ((zfm ss).map V.int)) (t':=s.toks) (fun b o e=>NQ e) (Qk _) ⟨by rw[ja,(ze2 ss).length_eq,Qr]; lia,out.toList,e,zcB h1,by rw[he]⟩,rfl,q _ (I.hok.fresh (Qk _))⟩
end
section
variable {R:Result->j8->Prop}{I:jo}{fp wr:List jo}{G:Array NI->Array NI->Prop}{n:Nat}{Pv:Nat->j7->Prop}{St:Nat->j8->Prop}
def IsSetS(P:jG)(w:Q7)(S:jo)(l:List Str)(h:Zq):Prop:=h.SetOf (strKind P w) S (fun q=>decide (q∈l)) l.length
theorem IsSetS.at{S:jo}{l:List Str}{h h':Zq}(x:IsSetS P w S l h)(k:∀ o,h.get? S=some o->h'.get? S=some o):IsSetS P w S l h':=by
 obtain⟨o,es,ep,t,e,r⟩:=x;exact⟨o,es,ep,t,k _ e,r⟩
theorem IsSetS.next{S:jo}{l:List Str}{x:Str}{h:Zq}(y:h.SetOf (strKind P w) S (fun q=>decide (q∈l)||decide (q=x)) (if decide (x∈l)=true then l.length else l.length+1)):IsSetS P w S (Dw.stp l x) h:=by
 have e1:(fun q=>decide (q∈l)||decide (q=x))=fun q=>decide (q∈Dw.stp l x):=by
  funext q
  unfold Dw.stp
  by_cases hx:x∈l
  ·rw[Ip_ hx]
   by_cases hq:q=x
   ·subst hq; simp[hx]
   ·simp[hq]
  ·rw[In_ hx,ZK]; simp
 have e2:(if decide (x∈l)=true then l.length else l.length+1)=(Dw.stp l x).length:=by
  unfold Dw.stp
  by_cases hx:x∈l
  ·rw[Ip_ hx,Ip_ (by simpa using hx)]
  ·rw[In_ hx,In_ (by simpa using hx),js]; rfl
 rwa [e1,e2] at y
theorem zet:∀(l acc:List Str),(l.foldl Dw.stp acc).length<=acc.length+l.length
 |[],acc=>jg _
 |x::l,acc=>by
  rw[gj];have:=zet l (Dw.stp acc x);have h2:(Dw.stp acc x).length<=acc.length+1:=by
   unfold Dw.stp;split
   ·lia
   ·rw[js]; exact jg _
  rw[jl];lia
theorem zjq(W:WalksS P w A.in1 I fp wr G n Pv St)(S:jo)(hS:S∉fp)(ss:List Str)(hn:ss.length=n)(hv:∀ i v x,Pv i v->ss[i]?=some x->∃ t,v=.str x t)(hb:n+1 < Z3) :
  ∀(k i:Nat) (s:j8),n - i=k->i<=n->St i s->IsSetS P w S (Dw.za0 (ss.take i)) s.heap->(∀ s',Moved (S::wr) G s s'->IsSetS P w S (Dw.za0 ss) s'.heap->R (.ok (.ret .none)) s')->
   YC (jF P w) A (.builtin "set.update.loop" ⟨[.ref S,.ref I],[]⟩) R s:=by
 have nw:S∉wr:=fun z=>hS (W.sub _ z);have up:∀ b∈wr,b∈S::wr:=fun b z=>.tail _ z;intro k
 induction k with
 |zero=>
  intro i s hk hi st hs q;obtain rfl:i=n:=by lia
  refine QB Zz ?_;rw[Ql QC _];refine j4 (m:=Yc (.ref I)) (W.done s _ _ st fun s' mv=>jb (q s' (mv.mono up) ?_));rw[Qn (by lia)] at hs
  exact hs.at fun o e=>mv.heap S o nw e
 |succ k ih=>
  intro i s hk hi st hs q;have lt:i < n:=by lia
  obtain⟨x,hx⟩:∃ x,ss[i]?=some x:=⟨_,j3 (by lia)⟩
  refine QB Zz ?_;rw[Ql QC _];refine j4 (m:=Yc (.ref I)) (W.item i s _ _ lt st fun v s1 pv st1 mv=>?_);obtain⟨t,rfl⟩:=hv i v x pv hx;have hs1:=hs.at fun o e=>mv.heap S o nw e;have ky:(strKind P w).is x (.str x t)=true:=by show Zt x (.str x t)=true; simp[Zt]
  refine j4 (m:=YA [Yr x t] (setAdd S (.str x t))) (jW ?_);unfold setAdd;refine jW (j4 ((strKind P w).pyHash (k:=x) ky ?_));have fl:(Dw.za0 (ss.take i)).length<=i:=by
   have:=zet (ss.take i) [];rw[jK,N9] at this;unfold Dw.za0;lia
  refine wpAny_setAddHashed_of (knd:=strKind P w) (s:={ s1 with toks:=s1.toks+1 }) ky rfl hs1 (by lia) fun h2 sb hs2=>?_
  have hs3:=IsSetS.next hs2
  rw[<-Dw.zbY hx] at hs3;refine jb ⟨gp QC _,ih (i+1) _ (by lia) lt (W.frame _ s1 _ _ st1 (Qk _) fun b z o e=>(sb.2 b (fun y=>hS (y▸z))).trans e) hs3 fun s2 mv2=>q s2 (Jv W.gtrans ((mv.mono up).then_heap (Qk _) fun b o z e=>(sb.2 b (fun y=>z (y▸.head _))).trans e) mv2)⟩
end
section
def zfq(led:Bool):Obj:={ cls:=.type "set",dict:=none,data:=.set #[] 0 (.fresh 0 0 led) }
set_option maxHeartbeats 3200000 in
theorem zgi{l:jo}{its:Array j7}{ss:List Str}{Q:j7->j8->Prop}(hh:A.handled=none)(hl:s.heap.IsList l its)(hn:ss.length=its.size)(hv:∀(i:Nat) v x,its[i]?=some v->ss[i]?=some x->∃ t,v=.str x t)(hb:its.size+1 < Z3)
  (q:∀(h':Zq) (tk:Nat),IsSetS P w s.heap.objs.size (Dw.za0 ss) h'->(∀ b o,b < s.heap.objs.size->s.heap.get? b=some o->h'.get? b=some o)->Q (.ref s.heap.objs.size) { s with heap:=h',toks:=tk }) :
  jD (jF P w) A (call (.type "set") [.ref l]) Q E s:=by
 have a0:=Qf.mro;obtain⟨mc,mt,a0⟩:=a0;have a1:=Qf.made;have a2:=Qf.sub;refine J3 (Na (jb ⟨NR _ (by decide +kernel),QB Wc ?_⟩))
 rw[NS (Nb "set" [ZB l] []) rfl];have a3:=Qf.notType;have a4:=Qf.canCreate;have a5:=Wu (.ref l)
 repeat (any_goals (first |wp_step |assumption))
 refine gb (code_set_new_1 (.ref l) (E:=E) (Q₁:=fun v s1=>∃ led:Bool,v=.ref s.heap.objs.size/\s1={ s with heap:=s.heap.push (zfq led) }) fun led=>⟨led,rfl,rfl⟩) fun r s1 hr=>?_;cases r with
 |error e=>exact hr
 |ok fl=>
  cases fl with
  |ret v=>
   obtain⟨led,rfl,rfl⟩:=hr;have g0:(s.heap.push (zfq led)).get? s.heap.objs.size=some (zfq led):=jn _ rfl;have ty:NT { s with heap:=s.heap.push (zfq led) } (.ref s.heap.objs.size) "set":=⟨_,g0,rfl⟩;have b1:=Qf.init.lookup;have b2:=Qf.init.bind (.ref s.heap.objs.size)
   repeat (any_goals (first |wp_step |assumption))
   refine gb (No (R:=wants (fun r s2=>r=.none/\∃ h' tk,s2={ s with heap:=h',toks:=tk }/\IsSetS P w s.heap.objs.size (Dw.za0 ss) h'/\(∀ b o,b < s.heap.objs.size->s.heap.get? b=some o->h'.get? b=some o)) E) Qf.init.plain Wv (check_set_init_1 ty ?_)) fun r2 s2 hr2=>?_
   ·obtain⟨⟨c1,c2,c3,c4⟩,ho,hc,nl,hd⟩:=hl;dsimp only at hc hd;subst hc hd;have g1:(s.heap.push (zfq led)).get? l=some { cls:=.type "list",dict:=c2,data:=.seq its nl,slots:=c4 }:=j6 _ ho;have d1:=F.sub_list_set;have d2:=Np;have d3:(gz "list" == gz "dict")=false:=by decide
    have il:(s.heap.push (zfq led)).IsList l its:=⟨_,g1,rfl,nl,rfl⟩;unfold YH.«set.__init__»;unfold noKeywords gU;generalize hPI:WG=PI
    wp_walk
    subst hPI;refine gA il (j4 (Nw ?_));have lS:=jk ho;have ne:l≠(s.heap.push (zfq led)).objs.size:=by rw[Qp]; exact jB (Qv lS)
    have nS:s.heap.objs.size∉[(s.heap.push (zfq led)).objs.size,l]:=by
     rw[Qp];intro z;rcases jt.mp z with z |z
     ·exact absurd z (jB (ZD _))
     ·exact absurd (jy.mp z) (Z8 lS)
    refine zjq ((Walks.list (show A.in1.in1.in1.handled=none by simp[hh]) _ l ne its).toS) s.heap.objs.size nS ss hn (fun i v x hv' hx=>hv i v x hv' hx) hb (its.size - 0) 0 _ (by lia) (Zx _) ⟨⟨_,jn _ rfl,rfl,rfl⟩,il.push _⟩ ?st ?fin
    case st=>exact(setObjOf_fresh (knd:=strKind P w) led).setOf (j6 _ g0) (by unfold Z3; lia)
    case fin=>
     intro s' mv hs';obtain⟨h',g',d',tk',os'⟩:=s';obtain rfl:g'=s.gens:=mv.gens;obtain rfl:d'=s.drawn:=mv.drawn;obtain rfl:os'=s.os:=mv.os;refine jb (jb ⟨rfl,h',tk',rfl,hs',fun b o z e=>mv.heap b o (fun y=>?_) (j6 _ (j6 _ e))⟩);rw[Qp] at y;rcases jt.mp y with y |y
     ·exact absurd y (jB z)
     ·exact absurd (jy.mp y) (jB (Qv z))
   ·cases r2 with
    |error e=>exact hr2
    |ok f2=>
     cases f2 with
     |ret r=>
      obtain⟨rfl,h',tk,rfl,y1,y2⟩:=hr2
      repeat (any_goals (first |wp_step |assumption))
      exact q _ _ y1 y2
     |_=>exact hr2.elim
  |_=>exact hr.elim
end
section
def zoM(X:Cx)(a:jo)(l:List Str):HO:=.ext (IsSetS X.prog X.w a l)
theorem zjF(hc:X.calm=true):CallR X (.type "set") (fun xs H Q=>∃(a:jo) (ss:List Str),xs=[V.ref a]/\SqL X.K H a (ss.map V.str)/\ss.length < 1000/\∀ l,H l=none->Q (.ref l) (upd H l (zoM X l (Dw.za0 ss)))):=by
 intro pc s σ H xs us Q I rv h;obtain⟨a,ss,rfl,hq,hl,q⟩:=h;obtain⟨u,rfl,ru⟩:=rv.one;cases ru;obtain⟨its,r,p,hz⟩:=I.list hq;have hlen:=r.length;rw[ja] at hlen;refine zgi (ss:=ss) (I.ok.hd hc) p.isList (by rw[ji]; exact hlen) (fun i v x hv hx=>?_) (by rw[ji]; unfold Z3; lia) fun h' tk hs k=>?_
 ·obtain⟨u,hu,ru⟩:=r.get (i:=i) (x:=V.str x) (by rw[jc,hx]; rfl)
  have e:v=u:=by
   rw[ZL,hu] at hv;exact(je hv).symm
  rw[e];exact ru
 ·have new:ObjOk X.prog X.w (upd H s.heap.objs.size (zoM X s.heap.objs.size (Dw.za0 ss))) h' s.heap.objs.size (zoM X s.heap.objs.size (Dw.za0 ss)):=⟨hs,by obtain⟨o,_,_,_,e,_⟩:=hs; exact⟨o,e⟩,fun h1 h2 x k=>x.at k⟩
  exact⟨.ref s.heap.objs.size,_,I.laid (a:=s.heap.objs.size) (t':=tk) (fun b o e=>k b o (jk e) e) (jg _) new,rfl,q _ (I.hok.fresh (jg _))⟩
theorem zjI:CallR X (.builtin "len") (fun xs H Q=>∃(a:jo) (l:List Str),xs=[V.ref a]/\H a=some (zoM X a l)/\Q (.int l.length) H):=by
 intro pc s σ H xs us Q I rv h;obtain⟨a,l,rfl,ha,q⟩:=h;obtain⟨u,rfl,ru⟩:=rv.one;cases ru;obtain⟨hs,_,_⟩:=(I.hok a _ ha);obtain⟨o,es,ep,t,e,ex,d,_,_,b,f,n⟩:=hs;refine call_len_set e ex d f (by unfold Z3 at b; lia) ?_
 rw[n];exact⟨.int l.length,H,I.tok _,⟨_,rfl⟩,q⟩
end
section
variable {tg:Q0}
def zoZ(lo c:Int)(n:Nat):It:=⟨fun i _=>i < n,fun i H x H'=>H'=H/\x=.int (lo+i*c),fun i _=>n<=i⟩
theorem zih{P:jG}{w:Q7}{K:jd}{tg:Q0}(it:jo)(lo c:Int)(n:Nat):Turn P w K tg (zoZ lo c n) [it] it (fun i h=>WH h it (lo+(i:Nat)*c) ((n:Int) - (i:Nat)) c) where
 mem:=by simp
 obj:=fun i h st b hb=>by
  obtain rfl:b=it:=by simpa using hb
  exact⟨_,st,fun v z=>by
   have z':=z
   cases z'⟩
 keep:=fun i h h' st k=>k it (by simp) _ st
 item:=by
  intro X hP hw hK hc i pc s σ H E I hf st hg;subst hP hw hK;obtain⟨f0,f1,f2,f3,f4,f5⟩:=hf it (by simp)
  refine(Js (prog:=X.prog) (w:=X.w) (I.ok.hd hc) it lo c n).item i s _ _ hg st fun v h' tk hv st' kk=>?_;obtain⟨t,rfl⟩:=hv;have I1:Inv X pc σ H { s with heap:=h',toks:=tk }:=I.turned (fun b o hb e=>kk b o (by simpa using hb) e) f0 f1 f3 f4 f5
  exact⟨_,rfl,zi2 (s:={ s with heap:=h',toks:=tk }) (n:="range_iterator") st' rfl rfl (by decide) ⟨.int (lo+i*c),H,I1,⟨t,rfl⟩,⟨rfl,rfl⟩,st',fun b hb=>(hf b hb).1⟩⟩
 done:=by
  intro X hP hw hK hc i pc s σ H E I hf st hg;subst hP hw hK;obtain⟨f0,f1,f2,f3,f4,f5⟩:=hf it (by simp)
  exact YV (I.ok.hd hc) st (by have:n<=i:=hg; lia) fun h' eb=>⟨rfl,I.turned (t':=s.toks) (fun b o hb e=>eb b o hb e) f0 f1 f3 f4 f5⟩
 self:=fun _ _ _ _ _ st h=>YW st h
def zqd(ta:TA):TI:=fun σ H R=>ta σ H fun vs H1=>∃ i j c:Int,vs=[.int i,.int j,.int c]/\(c≠0/\ga i j c=true/\ZI (j - i) c=false/\0<=jE i j c)/\R (zoZ i c (jE i j c).toNat) H1
theorem zlw{pc:List (jo × Obj)}{σ:St}{H:Hp}{s:j8}{R:It->Hp->Prop}{E:j7->j8->Prop}{lo hi c:Int}{t u v:Tok}{tk:Nat}(I:Inv X pc σ H s)(h1:ga lo hi c=true)(h2:0<=jE lo hi c)
  (q:R (zoZ lo c (jE lo hi c).toNat) H) {h0:Zq} (e0:h0=s.heap.push { cls:=.type "range",data:=.fields #[.int lo t,.int hi u,.int c v] }):jD (jF X.prog X.w) X.A (WG (.ref s.heap.objs.size)) (PIE X pc σ tg R) E { s with heap:=h0,toks:=tk }:=by
 have r0:IsRange h0 s.heap.objs.size lo hi c t u v:=by rw[e0]; exact WI ..
 refine NJ r0 h1 ?_;have I1:Inv X pc σ H { s with heap:=h0,toks:=tk }:=I.kept fun b o e=>by rw[e0]; exact j6 _ e
 refine⟨h0.objs.size,[h0.objs.size],_,_,H,rfl,I1.kept (t':=tk) fun b o e=>j6 _ e,zih _ lo c (jE lo hi c).toNat,?_,fun b hb=>?_,q⟩
 ·rw[show lo+((0:Nat):Int)*c=lo by simp,show (((jE lo hi c).toNat:Nat):Int) - ((0:Nat):Int)=jE lo hi c by lia]
  exact jn _ rfl
 ·obtain rfl:b=h0.objs.size:=by simpa using hb
  exact I1.fpOk (jg _) (I1.hok.fresh (jg _))
theorem ziI{a b c:Q0}{ta:TA}{p pos:Pos}(hg:Gl X "range")(hm:X.mg "range"=none)(ha:PA X [a,b,c] ta)(hs:jj [a,b,c] X.env=(false,eval a X.env)::jj [b,c] X.env:=by rfl)(hs2:(Zr pos (jj [b,c] X.env)).any (·.1)=false:=by rfl) :
  PI X tg (.Call (.Name "range" p) [a,b,c] [] pos) (zqd ta):=by
 intro pc s σ H R I h;refine Call_ (zcG I hg hm W3 (jY (thn (ha pos pc s σ H _ I h) fun us s1 ⟨vs,H1,I1,r1,q1⟩=>?_) hs hs2));obtain⟨i,j,k,e,⟨q1,q2,q3,q4⟩,q⟩:=q1;subst e;cases r1 with
 |cons r rr=>
  cases rr with
  |cons r' rr=>
   cases rr with
   |cons r2 rr=>
    cases rr;obtain⟨t,rfl⟩:=r;obtain⟨t',rfl⟩:=r';obtain⟨t2,rfl⟩:=r2;exact call_range_3 q1 (zlw I1 q2 q4 q rfl) (.inl q3)
end
section
variable {a b:Q0}{ta:TA}{pos p p' pos':Pos}
theorem zfd:∀ ps:List jo,Vals (ps.map V.ref) (ps.map ZB)
 |[]=>.nil
 |p::ps=>.cons rfl (zfd ps)
end
section
variable {prog:jG}
theorem zpB{st:Nx}{i j:Nat}{x y x' y':j7}{b:Bool}{Q:Option Bool->Nx->Prop}(hk:kindOf st=oneType')(hi:(Qj st)[i]?=some (x,x'))(hj:(Qj st)[j]?=some (y,y'))
  (ho:∀(E:j7->j8->Prop) (Q:Bool->j8->Prop),Q b s->jD (jF prog w) A (oneLt' true x y) Q E s) (h:Q (some b) st):wpS (jF prog w) A E s (ltAt' i j) Q st:=by
 rw[ltAt'_eq];refine Qa (WM ?_);show wpS _ _ _ _ (elem' (Qj st) i >>= fun x=>elem' (Qj st) j >>= fun y=>lt' x y) Q st;rw[elem'_eq,elem'_eq,hi,hj];refine Qa (QY (Qa (QY ?_)));rw[lt'_eq];refine Qa (WM ?_);rw[hk,keyLt'_oneType];exact Qa (wpS_lift (gV (ho _ _ ⟨rfl,QY h⟩)))
theorem zgg{α β:Type}{M:Model}{m:α->Sem β}{f:α->β}:∀(l:List α) {Q:List β->j8->Prop},(∀ x∈l,∀ Q:β->j8->Prop,Q (f x) s->jD M A (m x) Q E s)->Q (l.map f) s->jD M A (l.mapM m) Q E s
 |[],Q,_,q=>by rw[List.mapM_nil]; exact jb q
 |x::l,Q,h,q=>by
  rw[List.mapM_cons];exact j4 (h x (jC ..) _ (j4 (zgg l (fun y hy=>h y (jm _ hy)) (jb q))))
theorem zkw(v:j7):firstOfTuple' v=(do
  if (<-typeOf v) != .type "tuple" then return none
  return (<-Builtin.List.listItems v)[0]?):=rfl
theorem zj8{vs:List j7}{Q:SortKind->j8->Prop}(hn:2<=vs.length)(ht:∀ v∈vs,s.TypeIs v "list")(h:Q oneType' s):jD (jF prog w) A (keyKind' vs.toArray) Q E s:=by
 rw[keyKind'_eq,Wd];have hne:vs≠[]:=by intro z; subst z; simp at hn
 obtain⟨v0,vr,rfl⟩:=List.exists_cons_of_ne_nil hne;refine j4 (wpAny_map ?_);refine zgg (f:=fun _=>none) _ (fun v hv Q q=>?_) ?_
 ·rw[zkw];refine j4 (Nc (ht v hv) ?_);rw[Ip_ (by rfl)]
  exact jb q
 ·rw[In_ (by simp),In_ (by simp)]
  refine j4 ?_;rw[oneTypeOnly'_eq,Wd];refine j4 (wpAny_map ?_);refine zgg (f:=fun _=>gz "list") _ (fun v hv Q q=>Nc (ht v hv) q) ?_;have e0:(List.map (fun _=>gz "list") (v0::vr)).toArray[0]?=some (gz "list"):=by simp
  rw[e0];dsimp only;rw[Ip_ (by simp only[List.all_toArray,Jo,jx]; intro _ _; rfl)]
  exact jb (jb h)
end
def byT(w:Q7):Bool:=w.params.followText "set-order"
structure Tb (w:Q7) (n:Nat) (t:Zi):Prop where
 led:t.led=!byT w
 pl:n=0∨t.plain=false
theorem zfD(t:Zi)(n:Nat):(t.orStandIn n).led=t.led/\(t.plain=false->(t.orStandIn n).plain=false):=by
 unfold SetTable.orStandIn;split
 ·exact⟨rfl,fun z=>z⟩
 ·exact⟨rfl,fun _=>rfl⟩
theorem zj4(t:Zi)(es:Array (Int × j7))(h:Int)(x:j7):(layNew t es h x).2.1.led=t.led/\(t.plain=false->(layNew t es h x).2.1.plain=false):=by
 unfold layNew;split
 ·exact zfD _ _
 ·exact⟨rfl,fun _=>rfl⟩
theorem zgl(t:Zi)(es:Array (Int × j7))(n:Nat):(Nk t es n).2.1.led=t.led/\(t.plain=false->(Nk t es n).2.1.plain=false):=by
 unfold Nk;split
 ·rename_i t' order he;unfold SetTable.relaid SetTable.laid at he;obtain⟨ow,h1,h2⟩:=Qb he;cases h2;dsimp only;split
  ·exact⟨rfl,fun z=>z⟩
  ·exact⟨rfl,fun _=>rfl⟩
 ·exact⟨rfl,fun _=>rfl⟩
def zmO(P:jG)(w:Q7)(a:jo)(S:Str->Bool)(n:Nat)(h:Zq):Prop:=
 ∃ o es ep t,h.get? a=some o/\o.ExactSet/\o.data=.set es ep t/\ElemsOf (strKind P w) es.toList/\(∀ k,S k=true↔∃ e∈es.toList,(strKind P w).is k e.2=true)/\es.size < Z3/\t.fits es.size=true/\es.size=n/\Tb w es.size t
section
theorem ze4{h:Zq}{a:jo}{o:Obj}{es:Array (Int × j7)}{ep:Nat}{t:Zi}(ho:h.get? a=some o)(hex:o.ExactSet)(hd:o.data=.set es ep t)
  {es':Array (Int × j7)} {t':Zi} {S':Str->Bool} (hel:ElemsOf (strKind P w) es'.toList) (hmem:∀ k,S' k=true↔∃ e∈es'.toList,(strKind P w).is k e.2=true) (hb:es'.size < Z3) (hf:t'.fits es'.size=true) (tb:Tb w es'.size t') :
  (h.update a (J7 es' t')).get? a=some { o with data:=.set es' (ep+1) t' }/\zmO P w a S' es'.size (h.update a (J7 es' t')):=by
 obtain⟨g,_⟩:=SetOf_store (knd:=strKind P w) ho hex hd hel hmem hb hf;exact⟨g,_,es',ep+1,t',g,hex,rfl,hel,hmem,hb,hf,rfl,tb⟩
theorem zhC{g:Bool->Sem Unit}(hg:∀(b:Bool) (s₁:j8) (Q':Unit->j8->Prop),Q' () s₁->jD (jF P w) A (g b) Q' E s₁)
  {a:jo} {o:Obj} {es:Array (Int × j7)} {ep:Nat} {t:Zi} (ho:s.heap.get? a=some o) (hex:o.ExactSet) (hd:o.data=.set es ep t)
  {es1:Array (Int × j7)} {t2:Zi} {S':Str->Bool} (hel1:ElemsOf (strKind P w) es1.toList) (hmem1:∀ k',S' k'=true↔∃ e∈es1.toList,(strKind P w).is k' e.2=true)
  (hb1:es1.size < Z3) (hf2:t2.fits es1.size=true) (ld:t2.led=!byT w) (pl:t2.plain=false) {wasDummy:Bool} {R:Option Bool->j8->Prop}
  (h:∀ h',Z7 a s.heap h'->zmO P w a S' es1.size h'->R (some true) { s with heap:=h' }) :
  jD (jF P w) A (do
    storeSet a es1 t2
    if (!wasDummy&&t2.tooFull)=true then do
      g (Nk t2 es1 (ZG es1.size)).2.2
      storeSet a (Nk t2 es1 (ZG es1.size)).1 (Nk t2 es1 (ZG es1.size)).2.1
      pure (some true)
     else pure (some true)) R E s:=by
 refine j4 (We ho hd ?_ (Wf hb1));obtain⟨ho1,hS1⟩:=ze4 (P:=P) (w:=w) ho hex hd hel1 hmem1 hb1 hf2 ⟨ld,.inr pl⟩;have hsb1:=Qs s.heap a (J7 es1 t2);split
 ·have hp:=relayAll_perm t2 es1 (ZG es1.size);have hfr:=relayAll_fits t2 es1 (ZG es1.size);have htb:=zgl t2 es1 (ZG es1.size);generalize hRl:Nk t2 es1 (ZG es1.size)=Rl at hp hfr htb ⊢;obtain⟨es2,t3,gave2⟩:=Rl;dsimp only at hp hfr htb ⊢;have hsz:es2.size=es1.size:=by rw[<-jA,hp.length_eq,jA]
  have hb2:es2.size < Z3:=by rw[hsz]; exact hb1
  refine j4 (hg _ _ _ (j4 (We ho1 rfl ?_ (Wf hb2))));obtain⟨_,hS2⟩:=ze4 (P:=P) (w:=w) (S':=S') ho1 hex rfl (hel1.perm hp) (fun k'=>(hmem1 k').trans ⟨fun⟨e,he,q⟩=>⟨e,hp.mem_iff.mpr he,q⟩,fun⟨e,he,q⟩=>⟨e,hp.mem_iff.mp he,q⟩⟩) hb2 hfr ⟨htb.1.trans ld,.inr (htb.2 pl)⟩;rw[hsz] at hS2;exact jb (h _ (hsb1.trans (Qs _ a _)) hS2)
 ·exact jb (h _ hsb1 hS1)
theorem zrN{a:jo}{S:Str->Bool}{n:Nat}{k:Str}{tok:Tok}{Q:Bool->j8->Prop}(hS:zmO P w a S n s.heap)(hroom:n+1 < Z3)
  (h:∀ h',Z7 a s.heap h'->zmO P w a (fun k'=>S k'||decide (k'=k)) (if S k then n else n+1) h'->Q (!S k) { s with heap:=h' }) :
  jD (jF P w) A (setAddHashed a (.str k tok) ((strKind P w).hash k)) Q E s:=by
 have hkey:(strKind P w).is k (.str k tok)=true:=by show Zt k (.str k tok)=true; simp[Zt]
 have hsc:(Yr k tok).scannable=true:=rfl;obtain⟨o,es,ep,t,ho,hex,hd,hel,hmem,hb,hf,hn,tb⟩:=hS;have hb1:es.size+1 < Z3:=by rw[hn]; exact hroom
 unfold setAddHashed setAddHashedIn;refine jW (j4 (Q6 ho hd hf ?_));dsimp only;rw[byScan_of hsc hb hel];simp only[↓reduceIte];unfold setAddByScan;refine j4 (j4 (gW (j4 (wpAny_setScan_of hkey ho hd hf hel ?_))));cases hr:List.findIdx? (fun e=>(strKind P w).is k e.2) es.toList with
 |some j=>
  dsimp only;obtain⟨hj,hpj,_⟩:=gk.mp hr;have hSk:S k=true:=(hmem k).mpr ⟨es.toList[j],QU hj,hpj⟩;refine jb (jb ?_);have e:s={ s with heap:=s.heap }:=by cases s; rfl
  have:=h s.heap (Wa a s.heap) ⟨o,es,ep,t,ho,hex,hd,hel,fun k'=>by
   rw[Q4,decide_eq_true_eq,<-hmem k']
   exact⟨fun hk=>hk.elim id (fun e=>e▸hSk),.inl⟩,hb,hf,by rw[hSk]; exact hn,tb⟩
  rw[hSk] at this; rw[e]; exact this
 |none=>
  dsimp only;have hSk:S k=false:=by
   cases hk:S k with
   |false=>rfl
   |true=>obtain⟨e,he,hp⟩:=(hmem k).mp hk; have:=List.findIdx?_eq_none_iff.mp hr e he; rw[hp] at this; exact Bool.noConfusion this
  have hgw:∀(b:Bool) {s₁:j8} {Q':Unit->j8->Prop},Q' () s₁->jD (jF P w) A (match b with |true=>rule "set.scan.the-table-gave-way" |false=>pure ()) Q' E s₁:=
   fun b s₁ Q' hq=>by cases b<;>first |exact jb hq |exact gW hq
  have hperm:=layNew_perm t es ((strKind P w).hash k) (.str k tok);have hfits:=layNew_fits t es ((strKind P w).hash k) (.str k tok);have htb:=zj4 t es ((strKind P w).hash k) (.str k tok);generalize hL:layNew t es ((strKind P w).hash k) (.str k tok)=L at hperm hfits htb ⊢;obtain⟨es1,t1,wasDummy,gave⟩:=L;dsimp only at hperm hfits htb ⊢;rw[Wg] at hperm;have hel1:=(hel.push hkey hsc).perm hperm;have hmem1:∀ k',(S k'||decide (k'=k))=true↔∃ e∈es1.toList,(strKind P w).is k' e.2=true:=mem_push_iff hkey hmem hperm
  have hb1':es1.size < Z3:=by rw[<-jA,hperm.length_eq,js,jA]; simpa using hb1
  have hsz1:es1.size=n+1:=by rw[<-jA,hperm.length_eq,js,jA,hn]; rfl
  have hend:∀ h',Z7 a s.heap h'->zmO P w a (fun k'=>S k'||decide (k'=k)) es1.size h'->Q true { s with heap:=h' }:=by
   intro h' hsb hS'; have:=h h' hsb; rw[hSk] at this; rw[hsz1] at hS'; exact this hS'
  refine j4 (hgw _ ?_);split
  ·refine j4 ?_;unfold hashByValue;refine jb ?_;refine zhC (t2:={ t1 with plain:=false }) ?_ ho hex hd hel1 hmem1 hb1' (SetTable.fits_plain_off hfits) (htb.1.trans tb.led) rfl ?_
   ·intro b s₁ Q' hq; cases b<;>first |exact jb hq |exact gW hq
   ·intro h' hsb hS'; dsimp only; exact jb (hend h' hsb hS')
  ·rename_i hpl;refine j4 (jb ?_);simp only[↓reduceIte];refine zhC ?_ ho hex hd hel1 hmem1 hb1' hfits (htb.1.trans tb.led) (by simpa using hpl) ?_
   ·intro b s₁ Q' hq; cases b<;>first |exact jb hq |exact gW hq
   ·intro h' hsb hS'; dsimp only; exact jb (hend h' hsb hS')
end
section
variable {R:Result->j8->Prop}{I:jo}{fp wr:List jo}{G:Array NI->Array NI->Prop}{n:Nat}{Pv:Nat->j7->Prop}{St:Nat->j8->Prop}
def IsSetF(P:jG)(w:Q7)(S:jo)(l:List Str)(h:Zq):Prop:=zmO P w S (fun q=>decide (q∈l)) l.length h
theorem IsSetF.at{S:jo}{l:List Str}{h h':Zq}(x:IsSetF P w S l h)(k:∀ o,h.get? S=some o->h'.get? S=some o):IsSetF P w S l h':=by
 obtain⟨o,es,ep,t,e,r⟩:=x;exact⟨o,es,ep,t,k _ e,r⟩
theorem IsSetF.next{S:jo}{l:List Str}{x:Str}{h:Zq}(y:zmO P w S (fun q=>decide (q∈l)||decide (q=x)) (if decide (x∈l)=true then l.length else l.length+1) h):IsSetF P w S (Dw.stp l x) h:=by
 have e1:(fun q=>decide (q∈l)||decide (q=x))=fun q=>decide (q∈Dw.stp l x):=by
  funext q
  unfold Dw.stp
  by_cases hx:x∈l
  ·rw[Ip_ hx]
   by_cases hq:q=x
   ·subst hq; simp[hx]
   ·simp[hq]
  ·rw[In_ hx,ZK]; simp
 have e2:(if decide (x∈l)=true then l.length else l.length+1)=(Dw.stp l x).length:=by
  unfold Dw.stp
  by_cases hx:x∈l
  ·rw[Ip_ hx,Ip_ (by simpa using hx)]
  ·rw[In_ hx,In_ (by simpa using hx),js]; rfl
 unfold IsSetF
 rwa [e1,e2] at y
theorem zi4(W:WalksS P w A.in1 I fp wr G n Pv St)(S:jo)(hS:S∉fp)(ss:List Str)(hn:ss.length=n)(hv:∀ i v x,Pv i v->ss[i]?=some x->∃ t,v=.str x t)(hb:n+1 < Z3) :
  ∀(k i:Nat) (s:j8),n - i=k->i<=n->St i s->IsSetF P w S (Dw.za0 (ss.take i)) s.heap->(∀ s',Moved (S::wr) G s s'->IsSetF P w S (Dw.za0 ss) s'.heap->R (.ok (.ret .none)) s')->
   YC (jF P w) A (.builtin "set.update.loop" ⟨[.ref S,.ref I],[]⟩) R s:=by
 have nw:S∉wr:=fun z=>hS (W.sub _ z);have up:∀ b∈wr,b∈S::wr:=fun b z=>.tail _ z;intro k
 induction k with
 |zero=>
  intro i s hk hi st hs q;obtain rfl:i=n:=by lia
  refine QB Zz ?_;rw[Ql QC _];refine j4 (m:=Yc (.ref I)) (W.done s _ _ st fun s' mv=>jb (q s' (mv.mono up) ?_));rw[Qn (by lia)] at hs
  exact hs.at fun o e=>mv.heap S o nw e
 |succ k ih=>
  intro i s hk hi st hs q;have lt:i < n:=by lia
  obtain⟨x,hx⟩:∃ x,ss[i]?=some x:=⟨_,j3 (by lia)⟩
  refine QB Zz ?_;rw[Ql QC _];refine j4 (m:=Yc (.ref I)) (W.item i s _ _ lt st fun v s1 pv st1 mv=>?_);obtain⟨t,rfl⟩:=hv i v x pv hx;have hs1:=hs.at fun o e=>mv.heap S o nw e;have ky:(strKind P w).is x (.str x t)=true:=by show Zt x (.str x t)=true; simp[Zt]
  refine j4 (m:=YA [Yr x t] (setAdd S (.str x t))) (jW ?_);unfold setAdd;refine jW (j4 ((strKind P w).pyHash (k:=x) ky ?_));have fl:(Dw.za0 (ss.take i)).length<=i:=by
   have:=zet (ss.take i) [];rw[jK,N9] at this;unfold Dw.za0;lia
  refine zrN (s:={ s1 with toks:=s1.toks+1 }) hs1 (by lia) fun h2 sb hs2=>?_
  have hs3:=IsSetF.next hs2
  rw[<-Dw.zbY hx] at hs3;refine jb ⟨gp QC _,ih (i+1) _ (by lia) lt (W.frame _ s1 _ _ st1 (Qk _) fun b z o e=>(sb.2 b (fun y=>hS (y▸z))).trans e) hs3 fun s2 mv2=>q s2 (Jv W.gtrans ((mv.mono up).then_heap (Qk _) fun b o z e=>(sb.2 b (fun y=>z (y▸.head _))).trans e) mv2)⟩
end
section
theorem zf5(a:j7){Q₁:j7->j8->Prop}
  (h:Q₁ (.ref s.heap.objs.size) { s with heap:=s.heap.push (zfq (!byT w)) }) :
  YC (jF P w) A (.call (.builtin "set.__new__") ⟨[.type "set",a],[]⟩) (wants Q₁ E) s:=by
 refine Na ?_;show jD _ A.in1 (do checkBuiltinCall "set.__new__" ⟨[.type "set",a],[]⟩; Jl (.builtin "set.__new__" ⟨[.type "set",a],[]⟩)) _ _ s
 refine j4 (wpAny_of_eq (F.newCall_set_1 a) (jb ⟨gp WN _,QB F.entry_set_new ?_⟩));rw[Ql WN _];unfold YH.«set.__new__» WT;have hsub:=sub_set_self;obtain⟨hp,g,d,tk,os⟩:=s;dsimp only
 wp_walk
 refine g9 (jb ?_);dsimp only;simp only[newObj];exact j4 (wpAny_alloc (jb (jb h)))
set_option maxHeartbeats 3200000 in
theorem zfp{l:jo}{its:Array j7}{ss:List Str}{Q:j7->j8->Prop}(hh:A.handled=none)(hl:s.heap.IsList l its)(hn:ss.length=its.size)(hv:∀(i:Nat) v x,its[i]?=some v->ss[i]?=some x->∃ t,v=.str x t)(hb:its.size+1 < Z3)
  (q:∀(h':Zq) (tk:Nat),IsSetF P w s.heap.objs.size (Dw.za0 ss) h'->(∀ b o,b < s.heap.objs.size->s.heap.get? b=some o->h'.get? b=some o)->Q (.ref s.heap.objs.size) { s with heap:=h',toks:=tk }) :
  jD (jF P w) A (call (.type "set") [.ref l]) Q E s:=by
 have a0:=Qf.mro;obtain⟨mc,mt,a0⟩:=a0;have a1:=Qf.made;have a2:=Qf.sub;refine J3 (Na (jb ⟨NR _ (by decide +kernel),QB Wc ?_⟩))
 rw[NS (Nb "set" [ZB l] []) rfl];have a3:=Qf.notType;have a4:=Qf.canCreate;have a5:=Wu (.ref l)
 repeat (any_goals (first |wp_step |assumption))
 refine gb (zf5 (.ref l) (E:=E) (Q₁:=fun v s1=>v=.ref s.heap.objs.size/\s1={ s with heap:=s.heap.push (zfq (!byT w)) }) ⟨rfl,rfl⟩) fun r s1 hr=>?_;cases r with
 |error e=>exact hr
 |ok fl=>
  cases fl with
  |ret v=>
   obtain⟨rfl,rfl⟩:=hr;generalize hled:(!byT w)=led;have g0:(s.heap.push (zfq led)).get? s.heap.objs.size=some (zfq led):=jn _ rfl;have ty:NT { s with heap:=s.heap.push (zfq led) } (.ref s.heap.objs.size) "set":=⟨_,g0,rfl⟩;have b1:=Qf.init.lookup;have b2:=Qf.init.bind (.ref s.heap.objs.size)
   repeat (any_goals (first |wp_step |assumption))
   refine gb (No (R:=wants (fun r s2=>r=.none/\∃ h' tk,s2={ s with heap:=h',toks:=tk }/\IsSetF P w s.heap.objs.size (Dw.za0 ss) h'/\(∀ b o,b < s.heap.objs.size->s.heap.get? b=some o->h'.get? b=some o)) E) Qf.init.plain Wv (check_set_init_1 ty ?_)) fun r2 s2 hr2=>?_
   ·obtain⟨⟨c1,c2,c3,c4⟩,ho,hc,nl,hd⟩:=hl;dsimp only at hc hd;subst hc hd;have g1:(s.heap.push (zfq led)).get? l=some { cls:=.type "list",dict:=c2,data:=.seq its nl,slots:=c4 }:=j6 _ ho;have d1:=F.sub_list_set;have d2:=Np;have d3:(gz "list" == gz "dict")=false:=by decide
    have il:(s.heap.push (zfq led)).IsList l its:=⟨_,g1,rfl,nl,rfl⟩;unfold YH.«set.__init__»;unfold noKeywords gU;generalize hPI:WG=PI
    wp_walk
    subst hPI;refine gA il (j4 (Nw ?_));have lS:=jk ho;have ne:l≠(s.heap.push (zfq led)).objs.size:=by rw[Qp]; exact jB (Qv lS)
    have nS:s.heap.objs.size∉[(s.heap.push (zfq led)).objs.size,l]:=by
     rw[Qp];intro z;rcases jt.mp z with z |z
     ·exact absurd z (jB (ZD _))
     ·exact absurd (jy.mp z) (Z8 lS)
    refine zi4 ((Walks.list (show A.in1.in1.in1.handled=none by simp[hh]) _ l ne its).toS) s.heap.objs.size nS ss hn (fun i v x hv' hx=>hv i v x hv' hx) hb (its.size - 0) 0 _ (by lia) (Zx _) ⟨⟨_,jn _ rfl,rfl,rfl⟩,il.push _⟩ ?st ?fin
    case st=>exact⟨_,#[],0,.fresh 0 0 led,j6 _ g0,⟨rfl,rfl,rfl⟩,rfl,fun e he=>by simp at he,fun k=>by simp[Dw.za0],by unfold Z3; decide,rfl,rfl,⟨hled.symm,.inl rfl⟩⟩
    case fin=>
     intro s' mv hs';obtain⟨h',g',d',tk',os'⟩:=s';obtain rfl:g'=s.gens:=mv.gens;obtain rfl:d'=s.drawn:=mv.drawn;obtain rfl:os'=s.os:=mv.os;refine jb (jb ⟨rfl,h',tk',rfl,hs',fun b o z e=>mv.heap b o (fun y=>?_) (j6 _ (j6 _ e))⟩);rw[Qp] at y;rcases jt.mp y with y |y
     ·exact absurd y (jB z)
     ·exact absurd (jy.mp y) (jB (Qv z))
   ·cases r2 with
    |error e=>exact hr2
    |ok f2=>
     cases f2 with
     |ret r=>
      obtain⟨rfl,h',tk,rfl,y1,y2⟩:=hr2
      repeat (any_goals (first |wp_step |assumption))
      exact q _ _ y1 y2
     |_=>exact hr2.elim
  |_=>exact hr.elim
end
theorem slot_seti_next:Slot "set_iterator" "__next__" "set_iterator.__next__":=
 .of (owner:="set_iterator") (n:="__next__") (by rw[typeLookup_type,Nd]; kernel_rfl) (by decide +kernel) (by decide +kernel) (by decide +kernel) (by first |exact .inl (by decide +kernel) |exact .inr (by decide +kernel)) (by rw[isSubtype_type]; kernel_rfl)
theorem zbM:Slot "set_iterator" "__iter__" "set_iterator.__iter__":=
 .of (owner:="set_iterator") (n:="__iter__") (by rw[typeLookup_type,Nd]; kernel_rfl) (by decide +kernel) (by decide +kernel) (by decide +kernel) (by first |exact .inl (by decide +kernel) |exact .inr (by decide +kernel)) (by rw[isSubtype_type]; kernel_rfl)
theorem zaG:entryFor table "set_iterator.__next__"=some YH.«set_iterator.__next__»:=entryFor_of_fast (by kernel_rfl)
theorem zdB:entryFor table "set_iterator.__iter__"=some YH.«dict_keyiterator.__iter__»:=entryFor_alias (id':="dict_keyiterator.__iter__") (by kernel_rfl) rfl (by decide +kernel) (by kernel_rfl)
theorem zdU:entryFor table "set.__iter__"=some YH.«frozenset.__iter__»:=entryFor_alias (id':="frozenset.__iter__") (by kernel_rfl) rfl (by decide +kernel) (by kernel_rfl)
theorem zaQ(a:j7):argsOk "set_iterator.__next__" ⟨[a],[]⟩:=by unfold argsOk; kernel_rfl
theorem zdW(a:j7):argsOk "set_iterator.__iter__" ⟨[a],[]⟩:=by unfold argsOk; kernel_rfl
def sit(f0:j7)(i:Nat)(S:jo)(n ep:Nat):Obj:={ cls:=.type "set_iterator",data:=.fields #[f0,ge i,.ref S,ge n,ge ep] }
section
theorem zlB{I S:jo}{sl i n ep nx:Nat}{x:j7}{o:Obj}{es:Array (Int × j7)}{t:Zi}{Q:Option j7->j8->Prop}(hi:s.heap.get? I=some (sit (ge sl) i S n ep))(ho:s.heap.get? S=some o)(hd:o.data=.set es ep t)(hf:t.fits es.size=true)(hn:es.size=n)
  (hx:∀ {A:Q1} {E:j7->j8->Prop} {Q:Option (j7 × Nat)->j8->Prop},Q (some (x,nx)) s->jD (jF P w) A (YI S sl i ep) Q E s)
  (h:∀ h',h'.get? I=some (sit (ge nx) (i+1) S n ep)->Z7 I s.heap h'->Q (some x) { s with heap:=h' }):jD (jF P w) A (Yc (.ref I)) Q E s:=by
 have ty:s.TypeIs (.ref I) "set_iterator":=⟨_,hi,rfl⟩;unfold Yc;refine j4 (gV (ZA (name:=gJ "__next__") ty slot_seti_next (QW slot_seti_next ty zaG ?_ (zaQ _))));show jD _ _ (Jg (.ref I) >>= _) _ _ s;refine j4 (Yn hi rfl ?_);show jD _ _ (gc S >>= _) _ _ s;unfold gc;refine j4 (j4 (Q6 ho hd hf (jb ?_)));dsimp only;rw[In_ (by rw[hn]; simp)]
 refine j4 ?_;rw[jh,jh,jh];refine hx ?_;dsimp only;refine j4 (ZY hi rfl (by show 0 < 5; decide) ?_)
 have hi2:=Qu (YJ (·.setIfInBounds 0 (ge nx))) hi rfl
 refine j4 (ZY hi2 rfl (by show 1 < 5; decide) ?_)
 have hi3:=Qu (YJ (·.setIfInBounds 1 (ge ((i:Int)+1)))) hi2 rfl
 exact jb ⟨_,rfl,jb (h _ (hi3.trans rfl) ((Qs _ I _).trans (Qs _ I _)))⟩
theorem zio{I:jo}{Q:Option j7->j8->Prop}(hh:A.handled=none){s0:j8}(hs:Z7 I s.heap s0.heap)(e0:s0={ s with heap:=s0.heap })(h:∀ h',YG I s.heap h'->Q none { s with heap:=h' }) :
  jD (jF P w) A.in1 (newExc (.type "StopIteration") [] >>= fun e=>(raiseNew e:Sem Fin)) (fun fin s'=>∃ v,fin=.done (.ret v)/\jD (jF P w) A (pure (some v)) Q E s') (fun e s'=>jD (jF P w) A (do
   let b <-isInstance e (.type "StopIteration")
   if b=true then pure none else throw e) Q E s') s0:=by
 rw[e0];refine j4 ?_;simp only[newExc,newTuple];refine j4 (Z1 ?_ (by size_fits))
 refine j4 (m:=firstArgMember _ _) (wpAny_of_eq (a:=ZE) (by first |rfl |(simp only[firstArgMember]; rfl)) ?_)
 refine Z1 ?_ (by size_fits)
 simp only[raiseNew];refine j4 (wpAny_handled ?_);rw[show A.in1.handled=none from hh];refine j4 (jb (wpAny_throw ?_));refine j4 (wpAny_isInstance (T:="StopIteration") (b:=true) ⟨_,jn _ rfl,rfl⟩ isSubtype_stop ?_);exact jb (h _ ((hs.extBut.push _).push _))
theorem zlC{I S:jo}{sl i n ep:Nat}{o:Obj}{es:Array (Int × j7)}{t:Zi}{Q:Option j7->j8->Prop}(hh:A.handled=none)(hi:s.heap.get? I=some (sit (ge sl) i S n ep))(ho:s.heap.get? S=some o)(hd:o.data=.set es ep t)(hf:t.fits es.size=true)(hn:es.size=n)
  (hx:∀ {A:Q1} {E:j7->j8->Prop} {Q:Option (j7 × Nat)->j8->Prop},Q none s->jD (jF P w) A (YI S sl i ep) Q E s)
  (h:∀ h',YG I s.heap h'->Q none { s with heap:=h' }):jD (jF P w) A (Yc (.ref I)) Q E s:=by
 have ty:s.TypeIs (.ref I) "set_iterator":=⟨_,hi,rfl⟩;unfold Yc;refine j4 (gV (ZA (name:=gJ "__next__") ty slot_seti_next (QW slot_seti_next ty zaG ?_ (zaQ _))));show jD _ _ (Jg (.ref I) >>= _) _ _ s;refine j4 (Yn hi rfl ?_);show jD _ _ (gc S >>= _) _ _ s;unfold gc;refine j4 (j4 (Q6 ho hd hf (jb ?_)));dsimp only;rw[In_ (by rw[hn]; simp)]
 refine j4 ?_;rw[jh,jh,jh];refine hx ?_;dsimp only;refine j4 (ZY hi rfl (by show 2 < 5; decide) ?_)
 exact zio hh (Qs s.heap I _) rfl h
def plc(os:List Nat):Obj:={ cls:=.type "tuple",data:=.seq (os.map fun(k:Nat)=>ge k).toArray }
theorem zk0{I S D:jo}{i n ep k:Nat}{y:Int × j7}{os:List Nat}{o:Obj}{es:Array (Int × j7)}{t:Zi}{Q:Option j7->j8->Prop}(hi:s.heap.get? I=some (sit (.ref D) i S n ep))(hD:s.heap.get? D=some (plc os))(ho:s.heap.get? S=some o)(hd:o.data=.set es ep t)(hf:t.fits es.size=true)(hn:es.size=n)
  (hk:os[i]?=some k) (hy:es[k]?=some y)
  (h:∀ h',h'.get? I=some (sit (.ref D) (i+1) S n ep)->Z7 I s.heap h'->Q (some y.2) { s with heap:=h' }):jD (jF P w) A (Yc (.ref I)) Q E s:=by
 have ty:s.TypeIs (.ref I) "set_iterator":=⟨_,hi,rfl⟩;unfold Yc;refine j4 (gV (ZA (name:=gJ "__next__") ty slot_seti_next (QW slot_seti_next ty zaG ?_ (zaQ _))));show jD _ _ (Jg (.ref I) >>= _) _ _ s;refine j4 (Yn hi rfl ?_);show jD _ _ (gc S >>= _) _ _ s;unfold gc;refine j4 (j4 (Q6 ho hd hf (jb ?_)));dsimp only;rw[In_ (by rw[hn]; simp)]
 refine j4 (wpAny_seqItems hD rfl ?_);have e1:((os.map fun(k:Nat)=>ge k).toArray)[((i:Nat):Int).toNat]?=some (ge k):=by
  rw[jh,ZL,jc,hk]; rfl
 dsimp only;rw[e1]
 try dsimp only
 unfold setNextDrawn;refine j4 (j4 (Q6 ho hd hf ?_));dsimp only;rw[jh,jh,In_ (by simp),hy]
 refine jb ?_;refine j4 (ZY hi rfl (by show 1 < 5; decide) ?_)
 have hi3:=Qu (YJ (·.setIfInBounds 1 (ge ((i:Int)+1)))) hi rfl
 exact jb ⟨_,rfl,jb (h _ (hi3.trans rfl) (Qs _ I _))⟩
theorem zk1{I S D:jo}{i n ep:Nat}{os:List Nat}{o:Obj}{es:Array (Int × j7)}{t:Zi}{Q:Option j7->j8->Prop}(hh:A.handled=none)(hi:s.heap.get? I=some (sit (.ref D) i S n ep))(hD:s.heap.get? D=some (plc os))(ho:s.heap.get? S=some o)(hd:o.data=.set es ep t)(hf:t.fits es.size=true)(hn:es.size=n)
  (hk:os[i]?=none)
  (h:∀ h',YG I s.heap h'->Q none { s with heap:=h' }):jD (jF P w) A (Yc (.ref I)) Q E s:=by
 have ty:s.TypeIs (.ref I) "set_iterator":=⟨_,hi,rfl⟩;unfold Yc;refine j4 (gV (ZA (name:=gJ "__next__") ty slot_seti_next (QW slot_seti_next ty zaG ?_ (zaQ _))));show jD _ _ (Jg (.ref I) >>= _) _ _ s;refine j4 (Yn hi rfl ?_);show jD _ _ (gc S >>= _) _ _ s;unfold gc;refine j4 (j4 (Q6 ho hd hf (jb ?_)));dsimp only;rw[In_ (by rw[hn]; simp)]
 refine j4 (wpAny_seqItems hD rfl ?_);have e1:((os.map fun(k:Nat)=>ge k).toArray)[((i:Nat):Int).toNat]?=none:=by
  rw[jh,ZL,jc,hk]; rfl
 dsimp only;rw[e1];dsimp only;refine j4 (ZY hi rfl (by show 0 < 5; decide) ?_)
 have hi2:=Qu (YJ (·.setIfInBounds 0 (ge 0))) hi rfl
 refine j4 (ZY hi2 rfl (by show 2 < 5; decide) ?_)
 exact zio hh ((Qs _ I _).trans (Qs _ I _)) rfl h
end
section
theorem zfo{I S:jo}{f0:j7}{i n ep:Nat}{Q:j7->j8->Prop}(hi:s.heap.get? I=some (sit f0 i S n ep))(h:Q (.ref I) s):jD (jF P w) A (WG (.ref I)) Q E s:=by
 have ty:s.TypeIs (.ref I) "set_iterator":=⟨_,hi,rfl⟩;refine Wh ty zbM (QW zbM ty zdB ?_ (zdW _));show jD _ _ (ret (.ref I)) _ _ s;exact jb ⟨_,rfl,"set_iterator",_,ty,slot_seti_next.lookup,h⟩
theorem zjS{I S:jo}{n ep:Nat}{o:Obj}{es:Array (Int × j7)}{t:Zi}(hh:A.handled=none)(hne:I≠S)(hd:o.data=.set es ep t)(hf:t.fits es.size=true)(hn:es.size=n)(sl:Nat->Nat)(y:Nat->j7)
  (h1:∀ i,i < n->∀ {A:Q1} {E:j7->j8->Prop} {s:j8} {Q:Option (j7 × Nat)->j8->Prop},s.heap.get? S=some o->Q (some (y i,sl (i+1))) s->jD (jF P w) A (YI S (sl i) i ep) Q E s)
  (h2:∀ {A:Q1} {E:j7->j8->Prop} {s:j8} {Q:Option (j7 × Nat)->j8->Prop},s.heap.get? S=some o->Q none s->jD (jF P w) A (YI S (sl n) n ep) Q E s) :
  Walks P w A I [I,S] [I] n (fun i v=>v=y i) (fun i h=>h.get? I=some (sit (ge (sl i)) i S n ep)/\h.get? S=some o) where
 sub:=fun b hb=>by rw[jy.mp hb]; exact jC
 frame:=fun i h h' st k=>⟨k I (by simp) _ st.1,k S (by simp) _ st.2⟩
 item:=fun i s Q E hi st q=>by
  refine zlB st.1 st.2 hd hf hn (fun z=>h1 i hi st.2 z) fun h' e sb=>?_;have e0:({ s with heap:=h' }:j8)={ s with heap:=h',toks:=s.toks }:=rfl;rw[e0];exact q _ _ _ rfl ⟨e,(sb.2 S hne.symm).trans st.2⟩ fun b o hb e=>(sb.2 b (fun z=>hb (by rw[z]; simp))).trans e
 done:=fun s Q E st q=>by
  refine zlC hh st.1 st.2 hd hf hn (fun z=>h2 st.2 z) fun h' eb=>?_;have e0:({ s with heap:=h' }:j8)={ s with heap:=h',toks:=s.toks }:=rfl;rw[e0];exact q _ _ fun b o hb e=>eb b o (fun z=>hb (by rw[z]; simp)) e
 self:=fun i s Q E st q=>zfo st.1 q
theorem zhG{I S D:jo}{n ep:Nat}{o:Obj}{es:Array (Int × j7)}{t:Zi}{os:List Nat}(hh:A.handled=none)(hne:I≠S)(hnD:I≠D)(hd:o.data=.set es ep t)(hf:t.fits es.size=true)(hn:es.size=n)(hl:os.length=n)(y:Nat->Int × j7)(h1:∀ i k,os[i]?=some k->es[k]?=some (y i)) :
  Walks P w A I [I,S,D] [I] n (fun i v=>v=(y i).2) (fun i h=>h.get? I=some (sit (.ref D) i S n ep)/\h.get? S=some o/\h.get? D=some (plc os)) where
 sub:=fun b hb=>by rw[jy.mp hb]; exact jC
 frame:=fun i h h' st k=>⟨k I (by simp) _ st.1,k S (by simp) _ st.2.1,k D (by simp) _ st.2.2⟩
 item:=fun i s Q E hi st q=>by
  obtain⟨k,hk⟩:∃ k,os[i]?=some k:=⟨_,j3 (by lia)⟩
  refine zk0 st.1 st.2.2 st.2.1 hd hf hn hk (h1 i k hk) fun h' e sb=>?_;have e0:({ s with heap:=h' }:j8)={ s with heap:=h',toks:=s.toks }:=rfl;rw[e0];exact q _ _ _ rfl ⟨e,(sb.2 S hne.symm).trans st.2.1,(sb.2 D hnD.symm).trans st.2.2⟩ fun b o hb e=>(sb.2 b (fun z=>hb (by rw[z]; simp))).trans e
 done:=fun s Q E st q=>by
  refine zk1 hh st.1 st.2.2 st.2.1 hd hf hn (Zb (by lia)) fun h' eb=>?_
  have e0:({ s with heap:=h' }:j8)={ s with heap:=h',toks:=s.toks }:=rfl;rw[e0];exact q _ _ fun b o hb e=>eb b o (fun z=>hb (by rw[z]; simp)) e
 self:=fun i s Q E st q=>zfo st.1 q
theorem zem{α:Type}{xs:List α}{i:Nat}(h:i < xs.length):(xs[i]::xs.eraseIdx i).Perm xs:=by
 rw[Zn];refine List.perm_middle.symm.trans ?_;rw[List.getElem_cons_drop,jP]
theorem zm0{α:Type}(next:Nat->Nat):∀(fuel k:Nat) (left:List α) (out:Array α),left.length=fuel->(Jp next fuel k left out).toList.Perm (out.toList++left):=by
 intro fuel
 induction fuel with
 |zero=>
  intro k left out hl;obtain rfl:=QX.mp hl;rw[QM];exact Ny _
 |succ fuel ih=>
  intro k left out hl;unfold Jp;have hi:next k%left.length < left.length:=Nat.mod_lt _ (by lia)
  rw[j3 hi];dsimp only;refine(ih (k+1) _ _ (by rw[Nq,Ip_ hi,hl]; rfl)).trans ?_
  rw[Wg,Qw];refine Nf _ ?_;exact(zem hi)
theorem ziH{α:Type}(next:Nat->Nat)(xs:Array α):(WO next xs).toList.Perm xs.toList:=by
 unfold WO;refine(zm0 next xs.size 0 xs.toList #[] (by simp)).trans ?_
 rw[ZM]
theorem zfc{src:Source}{n:Nat}{Q:Nat->j8->Prop}(hn:n≠0)(h:∀ i,i < n->Q i { s with drawn:=s.drawn.bump src }):jD (jF P w) A (choose src n) Q E s:=fun Γ p hΓ=>⟨hn,h _ (Nat.mod_lt _ (Nat.pos_of_ne_zero hn))⟩
theorem zd1{α:Type}:∀(n:Nat) (xs:List α) {s:j8} {Q:List α->j8->Prop},xs.length=n->(∀ ys d,ys.Perm xs->Q ys { s with drawn:=d })->jD (jF P w) A (drawOrder n xs) Q E s:=by
 intro n
 induction n with
 |zero=>
  intro xs s Q hl h;obtain rfl:=QX.mp hl;have e:s={ s with drawn:=s.drawn }:=by cases s; rfl
  unfold drawOrder;rw[e];exact jb (h [] s.drawn (Ny _))
 |succ n ih=>
  intro xs s Q hl h;cases xs with
  |nil=>cases hl
  |cons x0 xs0=>
   unfold drawOrder;refine j4 (zfc (by simp) fun i hi=>?_)
   rw[j3 hi];dsimp only;refine j4 (ih _ (by rw[Nq,Ip_ hi,hl]; rfl) fun ys d hp=>?_)
   refine jb (h _ d ?_);exact(hp.cons _).trans (zem hi)
theorem ze3{S:jo}{sl i ep:Nat}{o:Obj}{es:Array (Int × j7)}{t:Zi}{Q:Option (j7 × Nat)->j8->Prop}(hT:byT w=true)(ho:s.heap.get? S=some o)(hd:o.data=.set es ep t)(hf:t.fits es.size=true)
  (h:Q (((WO (w.params.setOrder S ep) es)[i]?).map fun e=>(e.2,sl)) s):jD (jF P w) A (YI S sl i ep) Q E s:=by
 have b:∀ {A:Q1} {E:j7->j8->Prop} {Q:Bool->j8->Prop},Q true s->jD (jF P w) A Nl Q E s:=fun {A E Q'} z=>by
  unfold Nl;refine j4 (g9 (jb ?_));show Q' (byT w) s;rw[hT];exact z
 unfold YI;refine j4 (Q6 ho hd hf ?_);dsimp only;refine j4 (b ?_);rw[Ip_ rfl];rw[In_ (by simp)]
 unfold setWalk;refine j4 (j4 (Q6 ho hd hf ?_));dsimp only;refine j4 (b ?_);rw[Ip_ rfl];exact j4 (g9 (jb (jb h)))
theorem zd6{S:jo}{sl i ep:Nat}{o:Obj}{es:Array (Int × j7)}{t:Zi}{Q:Option (j7 × Nat)->j8->Prop}(hT:byT w=false)(hl:t.led=true)(hn:es.size<=1)(ho:s.heap.get? S=some o)(hd:o.data=.set es ep t)(hf:t.fits es.size=true)
  (h:Q (match es[Zf t.place sl]?,t.place[Zf t.place sl]? with |some (_,x),some j=>some (x,j+1) |_,_=>none) s):jD (jF P w) A (YI S sl i ep) Q E s:=by
 have b:∀ {A:Q1} {E:j7->j8->Prop} {Q:Bool->j8->Prop},Q false s->jD (jF P w) A Nl Q E s:=fun {A E Q'} z=>by
  unfold Nl;refine j4 (g9 (jb ?_));show Q' (byT w) s;rw[hT];exact z
 unfold YI;refine j4 (Q6 ho hd hf ?_);dsimp only;refine j4 (b ?_);rw[In_ (by simp)]
 split
 ·rename_i hdr;have hdr:(!t.plain&&decide (es.size > 1))=true:=hdr;rw[jw,decide_eq_true_eq] at hdr;lia
 ·refine j4 ?_;show jD _ _ (if (!t.led&&!es.isEmpty)=true then unsupported "set:maker-not-led" else pure ()) _ _ s
  rw[hl,In_ (by simp)]
  exact jb (jb h)
theorem zgj{S:jo}{ep:Nat}{o:Obj}{es:Array (Int × j7)}{t:Zi}{Q:Bool->j8->Prop}(ho:s.heap.get? S=some o)(hd:o.data=.set es ep t)(hf:t.fits es.size=true)
  (h:Q (!byT w&&(!t.plain&&decide (es.size > 1))) s):jD (jF P w) A (setDrawn S) Q E s:=by
 unfold setDrawn;refine j4 (Q6 ho hd hf ?_);dsimp only;unfold Nl;exact j4 (j4 (g9 (jb (jb h))))
end
theorem zc5{α:Type}[DecidableEq α]:∀ {l m:List α},l.Nodup->(∀ x∈l,x∈m)->m.length=l.length->m.Perm l
 |[],m,_,_,h=>by rw[QX.mp h]
 |x::l,m,nd,sub,h=>by
  have hx:=sub x (by simp)
  obtain⟨n1,n2⟩:=Qy.mp nd;refine(List.perm_cons_erase hx).trans (List.Perm.cons x (zc5 n2 (fun y hy=>?_) ?_))
  ·exact(Nr (fun e:y=x=>n1 (e▸hy))).mpr (sub y (by simp[hy]))
  ·rw[Yw hx,h]; rfl
def zjX:j7->Str
 |.str x _=>x
 |_=>Qi
section
theorem zim{es:List (Int × j7)}{l:List Str}(hel:ElemsOf (strKind P w) es)(hmem:∀ k,decide (k∈l)=true↔∃ e∈es,(strKind P w).is k e.2=true)(hn:es.length=l.length)(nd:l.Nodup){ys:List (Int × j7)}(hp:ys.Perm es) :
  (ys.map fun e=>zjX e.2).Perm l/\∀ e∈ys,∃ tok,e.2=.str (zjX e.2) tok:=by
 have one:∀ {k:Str} {v:j7},(strKind P w).is k v=true->∃ tok,v=.str k tok:=fun {k v} h=>NA h;refine⟨zc5 nd (fun x hx=>?_) (by rw[ja,hp.length_eq,hn]),fun e he=>?_⟩
 ·obtain⟨e,he,hk⟩:=(hmem x).mp (by simpa using hx)
  obtain⟨tok,h⟩:=one hk;exact jH.mpr ⟨e,hp.mem_iff.mpr he,by rw[h]; rfl⟩
 ·obtain⟨⟨k,hk,_⟩,_⟩:=hel e (hp.mem_iff.mp he);obtain⟨tok,h⟩:=one hk;exact⟨tok,by rw[h]; rfl⟩
structure SWk (P:jG) (w:Q7) (S n0:Nat) (s:j8) (I:jo) (l:List Str) (fp:List jo) (y:Nat->j7) (St:Nat->Zq->Prop):Prop where
 wk:∀ A:Q1,A.handled=none->Walks P w A I fp [I] l.length (fun i v=>v=y i) St
 st:St 0 s.heap
 new:∀ b∈fp,b=S∨n0<=b
 inew:n0<=I
 txt:∃ ss:List Str,ss.Perm l/\∀ i x,ss[i]?=some x->∃ tok,y i=.str x tok
theorem zil{ys:List (Int × j7)}{l:List Str}(h:(ys.map fun e=>zjX e.2).Perm l/\∀ e∈ys,∃ tok,e.2=.str (zjX e.2) tok){y:Nat->j7}(hy:∀ i e,ys[i]?=some e->y i=e.2):∃ ss:List Str,ss.Perm l/\∀ i x,ss[i]?=some x->∃ tok,y i=.str x tok:=by
 refine⟨_,h.1,fun i x hx=>?_⟩;rw[jc] at hx;obtain⟨e,he,rfl⟩:=Qm hx;obtain⟨tok,ht⟩:=h.2 e (jN he);exact⟨tok,by rw[hy i e he]; exact ht⟩
theorem zkq{S:jo}{l:List Str}{Q:j7->j8->Prop}(hS:IsSetF P w S l s.heap)(nd:l.Nodup)
  (h:∀ h' d' I fp y St,SWk P w S s.heap.objs.size { s with heap:=h',drawn:=d' } I l fp y St->(∀ b o,s.heap.get? b=some o->h'.get? b=some o)->s.heap.objs.size<=h'.objs.size->Q (.ref I) { s with heap:=h',drawn:=d' }):jD (jF P w) A (WG (.ref S)) Q E s:=by
 obtain⟨o,es,ep,t,ho,hex,hd,hel,hmem,hb,hf,hn,tb⟩:=hS;have ty:s.TypeIs (.ref S) "set":=⟨_,ho,hex.1⟩;have lS:=jk ho;have hel':es.toList.length=l.length:=by rw[jA]; exact hn
 refine Wh ty WP (QW WP ty zdU ?_ (F.args_set_iter_1 _));show jD _ _ (Yx S >>= _) _ _ s;unfold Yx gc;refine j4 (j4 (j4 (Q6 ho hd hf (jb (jb ?_)))));refine j4 (zgj ho hd hf ?_)
 by_cases hdr:(!byT w&&(!t.plain&&decide (es.size > 1)))=true
 ·rw[Ip_ hdr];refine j4 (zd1 _ _ (ZS) fun os d hp=>?_);unfold newTuple;have hol:os.length=es.size:=by rw[hp.length_eq,ZS]
  refine j4 (Z1 ?_ (by show (os.map _).toArray.size<=jq; rw[ji,ja,hol]; exact Yb (jI hb (by decide))))
  have hD:(s.heap.push (plc os)).get? s.heap.objs.size=some (plc os):=jn _ rfl;have ho2:(s.heap.push (plc os)).get? S=some o:=j6 _ ho;show jD _ _ (setEpoch S >>= _) _ _ { s with heap:=s.heap.push (plc os),drawn:=d };refine j4 (Wi ho2 hd hf ?_);unfold newFields;refine j4 (Z1 (jb ⟨_,rfl,"set_iterator",_,⟨_,jn _ rfl,rfl⟩,slot_seti_next.lookup,?_⟩));have hk:∀ i k,os[i]?=some k->k < es.size:=fun i k e=>jz.mp (hp.mem_iff.mp (jN e));have hI:((s.heap.push (plc os)).push (sit (.ref s.heap.objs.size) 0 S es.size ep)).get? (s.heap.push (plc os)).objs.size=some (sit (.ref s.heap.objs.size) 0 S es.size ep):=jn _ rfl;have sz:(s.heap.push (plc os)).objs.size=s.heap.objs.size+1:=Qp _ _;have y1:∀ i k,os[i]?=some k->es[k]?=some ((os[i]?.bind fun k=>es[k]?).getD ((0:Int),ZE)):=fun i k e=>by
   rw[e,j9,Zg (hk i k e)]; rfl
  have pm:(os.map fun k=>es.toList.getD k ((0:Int),ZE)).Perm es.toList:=by
   refine(hp.map _).trans (List.Perm.of_eq ?_);refine Ww (by simp) fun i h1 h2=>?_
   rw[YO,Yf,Q3,j3 h2]; rfl
  refine h _ d _ [(s.heap.push (plc os)).objs.size,S,s.heap.objs.size] (fun i=>((os[i]?.bind fun k=>es[k]?).getD ((0:Int),ZE)).2) (fun i h=>h.get? (s.heap.push (plc os)).objs.size=some (sit (.ref s.heap.objs.size) i S es.size ep)/\h.get? S=some o/\h.get? s.heap.objs.size=some (plc os)) ⟨fun A hA=>by
   rw[<-hn]
   exact zhG (n:=es.size) (ep:=ep) (o:=o) hA (by rw[sz]; exact Z8 (Qv lS)) (by rw[sz]; exact Z8 (ZD _)) hd hf rfl hol (fun i=>(os[i]?.bind fun k=>es[k]?).getD ((0:Int),ZE)) y1,⟨hI,j6 _ ho2,j6 _ hD⟩,fun b hb=>?_,by rw[sz]; exact Qk _,zil (zim hel hmem hel' nd pm) fun i e he=>?_⟩ (fun b o e=>j6 _ (j6 _ e)) (by rw[Qp,sz]; lia)
  ·rw[sz] at hb;simp only[jt,YQ,or_false] at hb;rcases hb with rfl |rfl |rfl
   ·exact .inr (Qk _)
   ·exact .inl rfl
   ·exact .inr (jg _)
  ·rw[jc] at he;obtain⟨k,hk',rfl⟩:=Qm he;have hlt:=hk i k hk';rw[hk',j9,Zg hlt,Q3,j3 (by simpa using hlt)]
   rfl
 ·rw[In_ hdr];refine j4 (jb ?_);refine j4 (Wi ho hd hf ?_);unfold newFields;refine j4 (Z1 (jb ⟨_,rfl,"set_iterator",_,⟨_,jn _ rfl,rfl⟩,slot_seti_next.lookup,?_⟩));have hI:(s.heap.push (sit (ge 0) 0 S es.size ep)).get? s.heap.objs.size=some (sit (ge 0) 0 S es.size ep):=jn _ rfl;have ne:s.heap.objs.size≠S:=Z8 lS;have ex:s={ s with drawn:=s.drawn }:=by cases s; rfl
  have go:∀(sl:Nat->Nat) (ys:List (Int × j7)),sl 0=0->ys.Perm es.toList->
    (∀ i,i < es.size->∀ {A:Q1} {E:j7->j8->Prop} {s:j8} {Q:Option (j7 × Nat)->j8->Prop},s.heap.get? S=some o->Q (some ((ys.getD i ((0:Int),ZE)).2,sl (i+1))) s->jD (jF P w) A (YI S (sl i) i ep) Q E s)->
    (∀ {A:Q1} {E:j7->j8->Prop} {s:j8} {Q:Option (j7 × Nat)->j8->Prop},s.heap.get? S=some o->Q none s->jD (jF P w) A (YI S (sl es.size) es.size ep) Q E s)->
    Q (.ref s.heap.objs.size) { s with heap:=s.heap.push (sit (ge 0) 0 S es.size ep) }:=fun sl ys s0 hp h1 h2=>by
   refine h _ s.drawn _ [s.heap.objs.size,S] (fun i=>(ys.getD i ((0:Int),ZE)).2) (fun i h=>h.get? s.heap.objs.size=some (sit (ge (sl i)) i S es.size ep)/\h.get? S=some o) ⟨fun A hA=>by
    rw[<-hn]
    exact zjS hA ne hd hf rfl sl _ h1 h2,⟨by rw[s0]; exact hI,j6 _ ho⟩,fun b hb=>?_,jg _,zil (zim hel hmem hel' nd hp) fun i e he=>?_⟩ (fun b o e=>j6 _ e) (by rw[Qp]; lia)
   ·simp only[jt,YQ,or_false] at hb;rcases hb with rfl |rfl
    ·exact .inr (jg _)
    ·exact .inl rfl
   ·rw[Q3,he]; rfl
  by_cases hT:byT w=true
  ·have pm:=ziH (w.params.setOrder S ep) es;have pl:(WO (w.params.setOrder S ep) es).toList.length=es.size:=by rw[pm.length_eq,jA]
   refine go (fun _=>0) _ rfl pm (fun i hi {A E s Q} ho q=>ze3 hT ho hd hf ?_) (fun {A E s Q} ho q=>ze3 hT ho hd hf ?_)
   ·rw[Q3,j3 (by lia)] at q
    rw[Zg (by rw[<-jA]; lia)]
    exact q
   ·rw[gy (by rw[<-jA]; lia)]
    exact q
  ·have hT:byT w=false:=by simpa using hT
   have few:es.size<=1:=by
    rcases tb.pl with z |z
    ·lia
    ·rw[hT,z] at hdr;simpa using hdr
   have led:t.led=true:=by rw[tb.led,hT]; rfl
   have hpl:t.place.size=es.size:=by
    simp only[SetTable.fits,jw,beq_iff_eq] at hf;exact hf.1
   refine go (fun i=>if i=0 then 0 else t.place.getD 0 0+1) es.toList rfl (Ny _) (fun i hi {A E s Q} ho q=>zd6 hT led few ho hd hf ?_) (fun {A E s Q} ho q=>zd6 hT led few ho hd hf ?_)
   ·obtain rfl:i=0:=by lia
    obtain⟨p,hp⟩:∃ p,t.place=#[p]:=by
     have:t.place.toList.length=1:=by rw[jA]; lia
     match h:t.place.toList,this with
     |[p],_=>exact⟨p,by rw[<-Nt (xs:=t.place),h]⟩
    rw[hp] at q ⊢;have b0:Zf #[p] 0=0:=by simp[Zf,Wj]
    rw[Ip_ rfl,b0,Zg (show 0 < es.size by lia)]
    rw[Q3,j3 (by simpa using hi),In_ (by lia)] at q
    exact q
   ·by_cases h0:es.size=0
    ·rw[gy (by lia)]
     exact q
    ·obtain⟨p,hp⟩:∃ p,t.place=#[p]:=by
      have:t.place.toList.length=1:=by rw[jA]; lia
      match h:t.place.toList,this with
      |[p],_=>exact⟨p,by rw[<-Nt (xs:=t.place),h]⟩
     have b0:Zf #[p] (p+1)=1:=by simp[Zf,Wj]
     rw[In_ h0,hp];show Q (match es[Zf #[p] (p+1)]?,(#[p]:Array Nat)[Zf #[p] (p+1)]? with |some (_,x),some j=>some (x,j+1) |_,_=>none) _
     rw[b0,gy (by lia)]
     exact q
end
section
theorem ze0:∀ {us:List j7} {ss:List Str},us.length=ss.length->(∀(i:Nat) u x,us[i]?=some u->ss[i]?=some x->∃ t,u=.str x t)->Jf us ss
 |[],[],_,_=>.nil
 |[],_::_,h,_=>by simp at h
 |_::_,[],h,_=>by simp at h
 |u::us,x::ss,h,k=>by
  obtain⟨t,rfl⟩:=k 0 u x rfl rfl;exact .cons x t (ze0 (by simpa using h) fun i u x h1 h2=>k (i+1) u x (by simpa using h1) (by simpa using h2))
theorem zgP{S:jo}{l:List Str}{Q:List j7->j8->Prop}(hh:A.handled=none)(hS:IsSetF P w S l s.heap)(nd:l.Nodup)(hlen:l.length<=4000)
  (h:∀(us:List j7) (ss:List Str) (h':Zq) d' tk,Jf us ss->ss.Perm l->(∀ b o,s.heap.get? b=some o->h'.get? b=some o)->s.heap.objs.size<=h'.objs.size->Q us { s with heap:=h',drawn:=d',toks:=tk }):jD (jF P w) A (collect (.ref S)) Q E s:=by
 obtain⟨o,ho,hex⟩:∃ o,s.heap.get? S=some o/\o.ExactSet:=by
  obtain⟨o,es,ep,t,ho,hex,_⟩:=hS;exact⟨o,ho,hex⟩
 have lS:=jk ho;unfold collect;refine j4 (Nw (QB F.entry_proto_collect ?_));rw[Ql F.plain_proto_collect _];show jD _ A.in1 (newList [] >>= fun l=>Jl (.builtin "list.__iadd__" ⟨[l,.ref S],[]⟩)) _ _ s;refine j4 (Z1 ?_);refine jb ⟨gp Wk _,QB F.entry_list_iadd ?_⟩;rw[Ql Wk _];have hS1:=hS.at (h':=s.heap.push { cls:=.type "list",data:=.seq ([]:List j7).toArray }) fun o e=>j6 _ e;have ho1:(s.heap.push { cls:=.type "list",data:=.seq ([]:List j7).toArray }).get? S=some o:=j6 _ ho;have hL:(s.heap.push { cls:=.type "list",data:=.seq ([]:List j7).toArray }).get? s.heap.objs.size=some { cls:=.type "list",data:=.seq ([]:List j7).toArray }:=jn _ rfl;have h1:Yy (.ref s.heap.objs.size) (.ref S)=false:=by simp[Yy,Z8 lS]
 show jD _ A.in1 (Y4 (.ref s.heap.objs.size) (.ref S) (.ref s.heap.objs.size)) _ _ _;unfold Y4;refine j4 (Nc (T:="set") ⟨o,ho1,hex.1⟩ ?_);rw[In_ (by rw[h1]; decide)]
 refine j4 (zkq (s:={ s with heap:=s.heap.push { cls:=.type "list",data:=.seq ([]:List j7).toArray } }) hS1 nd fun h' d' I fp y St sw kp le=>?_);have ty:NT { s with heap:=h',drawn:=d' } (.ref S) "set":=⟨o,kp S o ho1,hex.1⟩;refine j4 (jW ?_);unfold Builtin.List.listLengthHint;refine j4 (N8 ty F.slot_set_len.lookup ?_)
 (generalize hid:("set.__len__":String)=id0; (fail_if_success (clear hid id0)); wp_delta; rw[show splitId id0=some ("set","__len__") from by subst hid; decide +kernel]; subst hid)
 refine j4 (wpAny_isInstance (b:=true) ty sub_set_self ?_);refine j4 (Nc ty ?_);refine jb ?_;rw[Ip_ (by decide)]
 show jD _ A.in1 (rule "list.extend.makes-room" >>= fun _=>Builtin.List.listTouch (.ref s.heap.objs.size) >>= fun _=>
  Jl (.builtin "list.extend.loop" ⟨[.ref s.heap.objs.size,.ref I,.ref s.heap.objs.size],[]⟩)) _ _ _
 refine j4 (gW ?_);have hL1:=kp _ _ hL;refine j4 ?_;show jD _ A.in1 (updateSeq s.heap.objs.size (·.push .none) >>= fun _=>updateSeq s.heap.objs.size (·.pop)) _ _ _
 refine j4 (wpAny_updateSeq hL1 rfl ?_);have hL2:=Qu (QK (·.push ZE)) hL1 rfl
 refine wpAny_updateSeq hL2 rfl ?_;have hL3:=Qu (QK (·.pop)) hL2 rfl
 have sz1:(s.heap.push { cls:=.type "list",data:=.seq ([]:List j7).toArray }).objs.size=s.heap.objs.size+1:=Qp _ _;have nf:s.heap.objs.size∉fp:=fun z=>by
  rcases sw.new _ z with e |e
  ·exact absurd e (Z8 lS)
  ·rw[sz1] at e; exact absurd e (Nat.not_succ_le_self _)
 have nI:s.heap.objs.size+1<=I:=by have:=sw.inew; rwa [sz1] at this
 have W:=(sw.wk A.in1 (by simp[hh])).toS
 have oth:∀ b o,b≠s.heap.objs.size->h'.get? b=some o->((h'.update s.heap.objs.size (QK (·.push ZE))).update s.heap.objs.size (QK (·.pop))).get? b=some o:=
  fun b o hb e=>(QJ _ _ (Zu hb)).trans ((QJ _ _ (Zu hb)).trans e)
 refine jb ⟨gp F.plain_extend_loop _,codeAny_extend_loopS W (Qt hlen (by decide)) _ nf _ l.length 0 _ _ _ rfl (Zx _)
  (W.frame 0 ({ s with heap:=h',drawn:=d' }:j8) _ s.toks sw.st (jg _) fun b hb o e=>oth b o (fun h=>nf (h▸hb)) e) hL3 (ItemsOf.nil _) fun s' acc' c' hm hS' hacc=>?_⟩
 show jD _ A (load s.heap.objs.size >>= _) _ _ s';refine j4 (wpAny_load hS' (jb ?_));obtain⟨h2,g2,d2,tk2,os2⟩:=s';obtain rfl:g2=s.gens:=hm.gens;obtain rfl:d2=d':=hm.drawn;obtain rfl:os2=s.os:=hm.os;obtain⟨ss,hp,hy⟩:=sw.txt;refine h acc'.toList ss h2 d2 tk2 (ze0 (by rw[jA,hacc.1,hp.length_eq]) fun i u x h1 h2=>?_) hp (fun b o e=>hm.heap b o (fun z=>?_) (oth b o (jB (jk e)) (kp b o (j6 _ e)))) (Yb (jk hS'))
 ·obtain⟨t,ht⟩:=hy i x h2;exact⟨t,(hacc.2 i u (by simpa using h1)).trans ht⟩
 ·have lb:=jk e;rcases jt.mp z with z |z
  ·exact absurd z (jB lb)
  ·rw[jy.mp z] at lb;exact absurd (Nat.lt_of_succ_le nI) (Nat.lt_asymm lb)
end
section
def zoN(X:Cx)(a:jo)(l:List Str):HO:=.ext (IsSetF X.prog X.w a l)
theorem zjG(hc:X.calm=true):CallR X (.type "set") (fun xs H Q=>∃(a:jo) (ss:List Str),xs=[V.ref a]/\SqL X.K H a (ss.map V.str)/\ss.length < 1000/\∀ l,H l=none->Q (.ref l) (upd H l (zoN X l (Dw.za0 ss)))):=by
 intro pc s σ H xs us Q I rv h;obtain⟨a,ss,rfl,hq,hl,q⟩:=h;obtain⟨u,rfl,ru⟩:=rv.one;cases ru;obtain⟨its,r,p,hz⟩:=I.list hq;have hlen:=r.length;rw[ja] at hlen;refine zfp (ss:=ss) (I.ok.hd hc) p.isList (by rw[ji]; exact hlen) (fun i v x hv hx=>?_) (by rw[ji]; unfold Z3; lia) fun h' tk hs k=>?_
 ·obtain⟨u,hu,ru⟩:=r.get (i:=i) (x:=V.str x) (by rw[jc,hx]; rfl)
  have e:v=u:=by
   rw[ZL,hu] at hv;exact(je hv).symm
  rw[e];exact ru
 ·have new:ObjOk X.prog X.w (upd H s.heap.objs.size (zoN X s.heap.objs.size (Dw.za0 ss))) h' s.heap.objs.size (zoN X s.heap.objs.size (Dw.za0 ss)):=⟨hs,by obtain⟨o,_,_,_,e,_⟩:=hs; exact⟨o,e⟩,fun h1 h2 x k=>x.at k⟩
  exact⟨.ref s.heap.objs.size,_,I.laid (a:=s.heap.objs.size) (t':=tk) (fun b o e=>k b o (jk e) e) (jg _) new,rfl,q _ (I.hok.fresh (jg _))⟩
theorem Inv.dwn{pc:List (jo × Obj)}{σ:St}{H:Hp}{s:j8}(I:Inv X pc σ H s)(d:Drawn):Inv X pc σ H { s with drawn:=d }:=⟨I.ok,I.os,I.bare,I.base,I.loc,I.cell,I.free,I.freeC,I.pin,I.hok,I.len⟩
theorem zg3(hc:X.calm=true):CallR X (.builtin "sorted") (fun xs H Q=>∃(a:jo) (l:List Str),xs=[V.ref a]/\H a=some (zoN X a l)/\l.Nodup/\l.length < 64/\∀ r,H r=none->Q (.ref r) (upd H r (.lst ((za9 l).map V.str)))):=by
 intro pc s σ H xs us Q I rv h;obtain⟨a,l,rfl,ha,nd,hl,q⟩:=h;obtain⟨u,rfl,ru⟩:=rv.one;cases ru;obtain⟨hs,_,_⟩:=(I.hok a _ ha);refine Yo kind_sorted plain_sorted entry_sorted (args_sorted1 _) ?_;unfold YH.«sorted»;refine j4 (m:=checkCount "sorted" 1 1 _) (jb ?_);refine j4 (zgP (show X.A.in1.handled=none by simp[I.ok.hd hc]) hs nd (by lia) fun vs ss h' d' tk sa hp kp tl=>?_)
 have hlen:=zbR sa;have vl:vs.length < 64:=by rw[hlen,hp.length_eq]; exact hl
 refine j4 (NU ?_ (by rw[Qr]; lia))
 have hoL:(h'.push (Yi "list" vs.toArray 0)).get? h'.objs.size=some (Yi "list" vs.toArray 0):=jn _ rfl;refine j4 (jW (QW slot_list_sort ⟨_,hoL,rfl⟩ entry_list_sort (list_sort_treeK strKind_oneLt hoL sa.keysOf (fun v₁ v₂ zc2 e=>keyKind_strs (by rw[<-e]; exact sa)) vl fun st' a1 a2=>⟨_,rfl,?_⟩) (args_list_sort _)))
 obtain⟨ss',b1,b2,b3⟩:=sorted_out_str sa a1 a2;have hss:=zbr (b2.trans hp) (ze1 b3);subst hss;obtain⟨e,he⟩:=sortedHeap_at (vs:=vs) (out:=(Qj st').map (·.2)) hoL
 have I2:Inv X pc σ H { s with heap:=s.heap,drawn:=d',toks:=s.toks }:=I.dwn d';refine jb ⟨_,rfl,⟨.ref h'.objs.size,_,I2.laid (a:=h'.objs.size) (o:=.lst ((za9 l).map V.str)) (t':=tk) (h':=sortedHeap (h'.push (Yi "list" vs.toArray 0)) h'.objs.size vs ((Qj st').map (·.2))) (fun b o e=>?_) tl ⟨by rw[ja,(zan l).length_eq,Qr]; lia,((Qj st').map (·.2)).toList,e,zbp b1,by rw[he]⟩,rfl,q _ (I.hok.fresh tl)⟩⟩
 have hb:=kp b o e;have lb:=jk hb;rw[sortedHeap_old (jB lb) (by rw[Qp]; exact Qv lb)]
 exact j6 _ hb
end
def Rk(rk:j7->Nat)(xs:Array Keyed)(i:Nat):Nat:=((xs[i]?).map fun p=>rk p.1).getD 0
theorem zaC{rk:j7->Nat}{xs ys:Array Keyed}{i j:Nat}(h:xs[i]?=ys[j]?):Rk rk xs i=Rk rk ys j:=by unfold Rk; rw[h]
def zhD(rk:j7->Nat)(xs:Array Keyed)(n:Nat):Prop:=∀ i j,i < j->j < n->Rk rk xs i < Rk rk xs j
structure Lts (prog:jG) (w:Q7) (A:Q1) (s:j8) (rk:j7->Nat) (a₀:Array Keyed):Prop where
 nd:(a₀.toList.map fun p=>rk p.1).Nodup
 lt:∀ p∈a₀.toList,∀ q∈a₀.toList,rk p.1≠rk q.1->∀(E:j7->j8->Prop) (Q:Bool->j8->Prop),Q (decide (rk p.1 < rk q.1)) s->jD (jF prog w) A (oneLt' true p.1 q.1) Q E s
section
variable {prog:jG}{rk:j7->Nat}{a₀:Array Keyed}{st:Nx}
theorem Lts.ne(h:Lts prog w A s rk a₀)(hB:NV a₀ st){i j:Nat}(hi:i < a₀.size)(hj:j < a₀.size)(hn:i≠j):Rk rk (Qj st) i≠Rk rk (Qj st) j:=by
 have e:=hB.size;have nd:((Qj st).toList.map fun p=>rk p.1).Nodup:=((Z6.mp hB.perm).map _).nodup_iff.mpr h.nd;intro z;have hi':i < ((Qj st).toList.map fun p=>rk p.1).length:=by simpa[e] using hi
 have hj':j < ((Qj st).toList.map fun p=>rk p.1).length:=by simpa[e] using hj
 refine hn ((g8 (h₀:=hi') (h₁:=hj') nd).mp ?_);have hi2:i < (Qj st).size:=by lia
 have hj2:j < (Qj st).size:=by lia
 unfold Rk at z;rw[getElem?_pos _ i hi2,getElem?_pos _ j hj2] at z;simpa using z
theorem Lts.at_(h:Lts prog w A s rk a₀)(hB:NV a₀ st){i j:Nat}(hi:i < a₀.size)(hj:j < a₀.size)(hn:i≠j){Q:Option Bool->Nx->Prop}(q:Q (some (decide (Rk rk (Qj st) i < Rk rk (Qj st) j))) st):wpS (jF prog w) A E s (ltAt' i j) Q st:=by
 have e:=hB.size;have hi2:i < (Qj st).size:=by lia
 have hj2:j < (Qj st).size:=by lia
 have ne:=h.ne hB hi hj hn;have m1:(Qj st)[i]∈a₀.toList:=(Z6.mp hB.perm).mem_iff.mp (by simp)
 have m2:(Qj st)[j]∈a₀.toList:=(Z6.mp hB.perm).mem_iff.mp (by simp)
 have e1:=getElem?_pos (Qj st) i hi2;have e2:=getElem?_pos (Qj st) j hj2;unfold Rk at ne q;rw[e1,e2] at ne q;exact zpB hB.kind e1 e2 (fun E Q q=>h.lt _ m1 _ m2 ne E Q q) q
theorem zkL(L:Lts prog w A s rk a₀){a n:Nat}{Q:AscSt->Nx->Prop}(hn:n<=a₀.size)(ha:1<=a)(han:a<=n)(hB:NV a₀ st)(hu:zhD rk (Qj st) a)
  (h:∀ m,a<=m->m<=n->zhD rk (Qj st) m->(m=n∨Rk rk (Qj st) m < Rk rk (Qj st) (m - 1))->Q (none,m) st):wpS (jF prog w) A E s (ascLoop a n) Q st:=by
 refine gK (I:=fun x c st'=>st'=st/\c=(none,x)/\zhD rk (Qj st) x) ?_ ?_ ⟨rfl,rfl,hu⟩
 ·rintro x c st' h1 h2 ⟨rfl,rfl,h3⟩;dsimp only;refine Qa (L.at_ hB (i:=x) (j:=x - 1) (by lia) (by lia) (by lia) ?_)
  have ne:=L.ne hB (i:=x) (j:=x - 1) (by lia) (by lia) (by lia)
  by_cases q:Rk rk (Qj st') x < Rk rk (Qj st') (x - 1)
  ·rw[Dt_ q];exact QY (h x h1 (by lia) h3 (.inr q))
  ·rw[Df_ q];refine QY ⟨rfl,rfl,fun i j hij hj=>?_⟩
   by_cases e:j=x
   ·subst e
    by_cases e2:i=j - 1
    ·subst e2; lia
    ·have:=h3 i (j - 1) (by lia) (by lia); lia
   ·exact h3 i j hij (by lia)
 ·rintro c st' ⟨rfl,rfl,h3⟩;rw[YR han] at h3 ⊢;exact h n han (jg _) h3 (.inl rfl)
theorem zlz(L:Lts prog w A s rk a₀){n:Nat}{Q:Option Nat->Nx->Prop}(hn:n<=a₀.size)(h1:1 < n)(hB:NV a₀ st)(hd:Rk rk (Qj st) 1 < Rk rk (Qj st) 0)
  (h:∀ m st',NV a₀ st'->1<=m->m<=n->zhD rk (Qj st') m->Q (some m) st'):wpS (jF prog w) A E s (descPart 1 n) Q st:=by
 unfold descPart;refine Qa (wpS_lift (gW ⟨rfl,Qa ?_⟩));have fin:∀ m,2<=m->m<=n->(∀ i j,i < j->j < m->Rk rk (Qj st) j < Rk rk (Qj st) i)->wpS (jF prog w) A E s (tail3 m n) Q st:=fun m h2 h3 h4=>by
  unfold tail3;refine Qa (wpS_reverse ?_);have hz:m<=(Qj st).size:=by rw[hB.size]; lia
  have hB':NV a₀ (setArr st (mirror (Qj st) 0 m ((m - 0) / 2))):=hB.setArr (mirror_perm _ _ _ _);refine Qa (zkL L hn (by lia) h3 hB' (fun i j hij hj=>?_) fun k h5 h6 h7 _=>QY (h k _ hB' (by lia) h6 h7))
  show Rk rk (mirror (Qj st) 0 m ((m - 0) / 2)) i < Rk rk (mirror (Qj st) 0 m ((m - 0) / 2)) j;have ei:=ND (i:=0) hz i;have ej:=ND (i:=0) hz j;rw[Ip_ (by lia)] at ei ej
  rw[zaC ei,zaC ej];exact h4 _ _ (by lia) (by lia)
 refine WD (Q:=fun c st'=>st'=st/\∃ m,c=(none,m,0)/\2<=m/\m<=n/\∀ i j,i < j->j < m->Rk rk (Qj st) j < Rk rk (Qj st) i) (gK (I:=fun x c st'=>st'=st/\c=(none,x,0)/\∀ i j,i < j->j < x->Rk rk (Qj st) j < Rk rk (Qj st) i) ?_ ?_ ⟨rfl,rfl,fun i j hij hj=>?_⟩) ?_
 ·rintro x c st' h2 h3 ⟨rfl,rfl,h4⟩;dsimp only;refine Qa (L.at_ hB (i:=x) (j:=x - 1) (by lia) (by lia) (by lia) ?_)
  have ne:=L.ne hB (i:=x) (j:=x - 1) (by lia) (by lia) (by lia)
  by_cases q:Rk rk (Qj st') x < Rk rk (Qj st') (x - 1)
  ·rw[Dt_ q];refine QY ⟨rfl,rfl,fun i j hij hj=>?_⟩
   by_cases e:j=x
   ·subst e
    by_cases e2:i=j - 1
    ·subst e2; lia
    ·have:=h4 i (j - 1) (by lia) (by lia); lia
   ·exact h4 i j hij (by lia)
  ·rw[Df_ q];refine Qa (L.at_ hB (i:=x - 1) (j:=x) (by lia) (by lia) (by lia) ?_)
   rw[Dt_ (by lia)]
   exact QY ⟨rfl,x,rfl,by lia,by lia,h4⟩
 ·rintro c st' ⟨rfl,rfl,h4⟩;rw[YR (by lia)] at h4 ⊢
  exact⟨rfl,n,rfl,by lia,by lia,h4⟩
 ·obtain rfl:i=0:=by lia
  obtain rfl:j=1:=by lia
  exact hd
 ·rintro c st' ⟨rfl,m,rfl,h2,h3,h4⟩;exact fin m h2 h3 h4
theorem znj(L:Lts prog w A s rk a₀){n:Nat}{Q:Option Nat->Nx->Prop}(hn:n<=a₀.size)(h1:1<=n)(hB:NV a₀ st)
  (h:∀ m st',NV a₀ st'->1<=m->m<=n->zhD rk (Qj st') m->Q (some m) st'):wpS (jF prog w) A E s (countRun' 0 n) Q st:=by
 rw[countRun0_eq];refine Qa (zkL L hn (jg 1) h1 hB (fun i j hij hj=>by lia) fun m h2 h3 h4 h5=>?_)
 dsimp only
 by_cases e:m=n
 ·rw[Ip_ (by simpa using e)]
  exact QY (h m st hB h2 h3 h4)
 ·rw[In_ (by simpa using e)]
  by_cases g:m > 1
  ·rw[Ip_ g];refine Qa (L.at_ hB (i:=0) (j:=m - 1) (by lia) (by lia) (by lia) ?_)
   rw[Dt_ (h4 0 (m - 1) (by lia) (by lia))]
   exact QY (h m st hB h2 h3 h4)
  ·rw[In_ g];obtain rfl:m=1:=by lia
   exact zlz L hn (by lia) hB (h5.resolve_left e) h
theorem znk(L:Lts prog w A s rk a₀){n ok:Nat}{Q:Bool->Nx->Prop}(hn:n<=a₀.size)(hok:1<=ok)(hle:ok<=n)(hB:NV a₀ st)(hu:zhD rk (Qj st) ok)
  (h:∀ st',NV a₀ st'->zhD rk (Qj st') n->Q true st'):wpS (jF prog w) A E s (binarySort' 0 n ok) Q st:=by
 rw[binarySort'_eq];simp only[Zc,Nat.max_eq_left hok];refine Qa (WD (Q:=fun c st'=>c=(none,())/\NV a₀ st'/\zhD rk (Qj st') n) (gK (I:=fun k c st'=>c=(none,())/\NV a₀ st'/\zhD rk (Qj st') k) ?_ ?_ ⟨rfl,hB,hu⟩) ?_)
 ·rintro k c st' h1 h2 ⟨rfl,hB',h3⟩;have hk:k < a₀.size:=by lia
  refine Qa (WD (Q:=fun c st2=>st2=st'/\∃ l r,c=(none,l,r)/\l<=k/\(∀ i,i < l->Rk rk (Qj st') i < Rk rk (Qj st') k)/\∀ i,l<=i->i < k->Rk rk (Qj st') k < Rk rk (Qj st') i)
   (gK (I:=fun x c st2=>st2=st'/\∃ l r,c=(none,l,r)/\l<=r/\r<=k/\r - l<=k - x/\(∀ i,i < l->Rk rk (Qj st') i < Rk rk (Qj st') k)/\∀ i,r<=i->i < k->Rk rk (Qj st') k < Rk rk (Qj st') i) ?_ ?_ ⟨rfl,0,k,rfl,by lia,by lia,by lia,fun i hi=>by lia,fun i h1 h2=>by lia⟩) ?_)
  ·rintro x c st2 _ h4 ⟨rfl,l,r,rfl,h5,h6,h7,h8,h9⟩;dsimp only
   by_cases g:l≥r
   ·rw[Ip_ g];obtain rfl:l=r:=by lia
    exact QY ⟨rfl,l,l,rfl,h6,h8,h9⟩
   ·rw[In_ g];refine Qa (L.at_ hB' (i:=k) (j:=(l+r) / 2) hk (by lia) (by lia) ?_)
    have ne:=L.ne hB' (i:=k) (j:=(l+r) / 2) hk (by lia) (by lia)
    by_cases q:Rk rk (Qj st2) k < Rk rk (Qj st2) ((l+r) / 2)
    ·rw[Dt_ q];refine QY ⟨rfl,l,(l+r) / 2,rfl,by lia,by lia,by lia,h8,fun i h1 h2=>?_⟩
     by_cases e:i=(l+r) / 2
     ·rw[e]; exact q
     ·have:=h3 ((l+r) / 2) i (by lia) h2; lia
    ·rw[Df_ q];refine QY ⟨rfl,(l+r) / 2+1,r,rfl,by lia,by lia,by lia,fun i h1=>?_,h9⟩
     by_cases e:i=(l+r) / 2
     ·rw[e]; lia
     ·have:=h3 i ((l+r) / 2) (by lia) (by lia); lia
  ·rintro c st2 ⟨rfl,l,r,rfl,h5,h6,h7,h8,h9⟩;obtain rfl:l=r:=by lia
   exact⟨rfl,l,l,rfl,h6,h8,h9⟩
  ·rintro c st2 ⟨rfl,l,r,rfl,h6,h8,h9⟩;show wpS _ _ _ _ (moveDown' k l >>= fun _=>pure (Qz (none,()))) _ _;rw[moveDown'_eq];refine Qa (J8 (QY ⟨rfl,hB'.setArr (bubble_perm _ _ _),fun i j hij hj=>?_⟩));have hks:k < (Qj st2).size:=by rw[hB'.size]; exact hk
   show Rk rk (bubble (Qj st2) k (k - l)) i < Rk rk (bubble (Qj st2) k (k - l)) j;have ei:=getElem?_bubble hks (k - l) (by lia) i
   have ej:=getElem?_bubble hks (k - l) (by lia) j
   rw[show k - (k - l)=l by lia] at ei ej
   by_cases i1:i=l
   ·rw[Ip_ i1] at ei;rw[In_ (by lia),Ip_ (by lia)] at ej
    rw[zaC ei,zaC ej];exact h9 _ (by lia) (by lia)
   ·rw[In_ i1] at ei
    by_cases i2:l < i
    ·rw[Ip_ (by lia)] at ei
     rw[In_ (by lia),Ip_ (by lia)] at ej
     rw[zaC ei,zaC ej];exact h3 _ _ (by lia) (by lia)
    ·rw[In_ (by lia)] at ei
     by_cases j1:j=l
     ·rw[Ip_ j1] at ej;rw[zaC ei,zaC ej];exact h8 _ (by lia)
     ·rw[In_ j1] at ej
      by_cases j2:l < j
      ·rw[Ip_ (by lia)] at ej
       rw[zaC ei,zaC ej];exact h3 _ _ (by lia) (by lia)
      ·rw[In_ (by lia)] at ej
       rw[zaC ei,zaC ej];exact h3 _ _ (by lia) (by lia)
 ·rintro c st' ⟨hc,hB',h3⟩;rw[YR hle] at h3;exact⟨hc,hB',h3⟩
 ·rintro c st' ⟨rfl,hB',h3⟩;exact QY (h st' hB' h3)
theorem zly(L:Lts prog w A s rk a₀){Q:Unit->Nx->Prop}(hB:NV a₀ st)(h2:2<=a₀.size)(h64:a₀.size < 64)
  (h:∀ st',(Qj st').Perm a₀->failedOf st'=none->zhD rk (Qj st') a₀.size->Q () st'):wpS (jF prog w) A E s sortRuns' Q st:=by
 rw[sortRuns'_eq];refine Qa (WM ?_);dsimp only;have hm:minRun' a₀.size a₀.size 0=a₀.size:=by
  obtain⟨f,e⟩:∃ f,a₀.size=f+1:=⟨a₀.size - 1,by lia⟩
  rw[e,minRun'_succ,Ip_ (e▸h64)]
 simp only[hB.size,hm]
 let D:Nx->Prop:=fun st'=>(Qj st').Perm a₀/\failedOf st'=none/\NW st'=#[(0,a₀.size,0)]/\zhD rk (Qj st') a₀.size
 have push:∀ st2:Nx,NV a₀ st2->zhD rk (Qj st2) a₀.size->D (setPending st2 ((NW st2).push (0,a₀.size,0))):=fun st2 b u=>⟨b.perm,b.failed,by show (NW st2).push _=_; rw[b.pend]; rfl,u⟩
 refine Qa (WD (Q:=fun c st'=>c=(none,a₀.size)/\D st') (gK (I:=fun x c st'=>(x=0->c=(none,0)/\NV a₀ st')/\(0 < x->c=(none,a₀.size)/\D st')) ?_ (fun c st' hh=>hh.2 (by lia)) ⟨fun _=>⟨rfl,hB⟩,fun z=>absurd z (QL 0)⟩) ?_)
 ·intro x c st' _ hx hI;rcases Nat.eq_zero_or_pos x with hx0 |hx0
  ·obtain⟨rfl,hB'⟩:=hI.1 hx0;dsimp only;rw[In_ (by lia)]
   simp only[Wr,Nat.min_self,Zc];refine Qa (znj L (jg _) (by lia) hB' fun m st2 b h3 h4 h5=>?_)
   dsimp only
   by_cases hlt:m < a₀.size
   ·rw[Ip_ hlt];refine Qa (wpS_lift (gW ⟨rfl,Qa (znk L (jg _) h3 h4 b h5 fun st3 b3 h6=>?_)⟩));simp only[Bool.not_true,Za,if_false];refine Qa (WM ?_);rw[show (NW st3).back?=none by rw[b3.pend]; rfl]
    exact Qa (J8 (QY ⟨fun z=>by lia,fun _=>⟨rfl,push st3 b3 h6⟩⟩))
   ·rw[In_ hlt];obtain rfl:m=a₀.size:=by lia
    refine Qa (WM ?_);rw[show (NW st2).back?=none by rw[b.pend]; rfl]
    exact Qa (J8 (QY ⟨fun z=>by lia,fun _=>⟨rfl,push st2 b h5⟩⟩))
  ·obtain⟨rfl,hD⟩:=hI.2 hx0;dsimp only;rw[Ip_ (jg _)];exact QY ⟨rfl,hD⟩
 ·rintro c st' ⟨rfl,hD⟩;dsimp only;refine Qa (WD (Q:=fun c st2=>c=(none,())/\st2=st') (gK (I:=fun _ c st2=>c=(none,())/\st2=st') ?_ (fun _ _ hh=>hh) ⟨rfl,rfl⟩) ?_)
  ·rintro x c st2 _ _ ⟨rfl,rfl⟩;refine Qa (WM ?_);rw[Ip_ (by rw[hD.2.2.1]; exact jg 1)]
   exact QY ⟨rfl,rfl⟩
  ·rintro c st2 ⟨rfl,rfl⟩;exact QY (h _ hD.1 hD.2.1 hD.2.2.2)
end
end L2
namespace L2
open PySem PySem.Spec PyProof.Rows
open PySem.SeqAt
open PySem.AutoSeq1 (wpAny_loadPart')
open PySem.MeetsSeq PySem.MeetsSeq2 PySem.MeetsSeq3
theorem zko(p q:jo)(us vs:Array j7)(n1 n2:Nat)(d1 d2:Option jo)(z1 z2:Array (Option j7))(x y:Str)(t u:Tok)(hx:us[0]?=some (.str x t))(hy:vs[0]?=some (.str y u))(hn:x≠y):Meets (YH.«list.__lt__» ⟨[.ref p,.ref q],[]⟩) (fun A R s=>
   s.heap.get? p=some { cls:=.type "list",dict:=d1,data:=.seq us n1,slots:=z1 }/\s.heap.get? q=some { cls:=.type "list",dict:=d2,data:=.seq vs n2,slots:=z2 }/\R (.ok (.ret (.bool (decide (x.cps.toList < y.cps.toList))))) s):=by
 intro prog w A R s h;obtain⟨hp,g,d,tk,os⟩:=s;obtain⟨hl,hb,hR⟩:=h;have f3:=AutoSeq1.sub_list_list;have e1:us[((0:Int)).toNat]?=some (.str x t):=hx;have e2:vs[((0:Int)).toNat]?=some (.str y u):=hy
 wp_walk using ZN hl,ZN hb
 refine⟨gp plain_eq_loop _,QB entry_eq_loop ?_⟩;rw[Ql plain_eq_loop _]
 wp_walk using ZN hl,ZN hb
 rw[e1,e2];have he:EqAt A.in1 (⟨hp,g,d,tk,os⟩:j8) (.str x t) (.str y u) false:=by
  have e:=EqAt.str_str (A:=A.in1) (s:=(⟨hp,g,d,tk,os⟩:j8)) x t y u
  rwa [show (x == y)=false by simpa using hn] at e
 refine j4 (he prog w _ _ ?_);have hri:∀(E:j7->j8->Prop) (Q:j7->j8->Prop),Q (.bool (decide (x.cps.toList < y.cps.toList))) ⟨hp,g,d,tk,os⟩->jD (jF prog w) A.in1 (richCompare .Lt (.str x t) (.str y u)) Q E ⟨hp,g,d,tk,os⟩:=fun E Q q=>(PyProof.Rows.lt_str q:jD (jF prog w) A.in1 (ZV .Lt (.str x t) (.str y u)) Q E _)
 wp_walk using ZN hl,ZN hb
 rw[e1,e2]
 wp_walk using hri
 exact hR
theorem zcM:∀(l:List j7),l.zip l=l.map fun v=>(v,v)
 |[]=>rfl
 |v::l=>congrArg ((v,v)::·) (zcM l)
section
variable {prog:jG}{w:Q7}{A:Q1}{E:j7->j8->Prop}{s:j8}
theorem zmc{p q:jo}{us vs:Array j7}{x y:Str}{t u:Tok}{Q:Bool->j8->Prop}(hl:s.heap.IsList p us)(hb:s.heap.IsList q vs)(hx:us[0]?=some (.str x t))(hy:vs[0]?=some (.str y u))(hn:x≠y)(hu:A.units < gO)
  (h:Q (decide (x.cps.toList < y.cps.toList)) s):jD (jF prog w) A (oneLt' true (.ref p) (.ref q)) Q E s:=by
 obtain⟨⟨c1,d1,dt1,z1⟩,ho,hc,n1,hd⟩:=id hl;obtain⟨⟨c2,d2,dt2,z2⟩,ho2,hc2,n2,hd2⟩:=id hb;simp only at hc hd hc2 hd2;subst hc hd hc2 hd2;rw[oneLt'_eq,Ip_ rfl];refine j4 (m:=cRoomFor "comparison" [.ref p,.ref q]) (wpAny_cRoomFor hu (j4 ?_));exact wpAny_callSpecialIfBound?_slot ⟨_,ho,rfl⟩ F.slot_list_lt (Nj F.slot_list_lt ⟨_,ho,rfl⟩ F.entry_list_lt (F.args_list_lt_2 _ _) (zko p q us vs n1 n2 d1 d2 z1 z2 x y t u hx hy hn) ⟨ho,ho2,ZQ h⟩)
structure Sd (rk:j7->Nat) (vs out:List j7):Prop where
 perm:out.Perm vs
 up:out.Pairwise fun a b=>rk a < rk b
theorem Sd.of{rk:j7->Nat}{vs:List j7}{xs:Array Keyed}(hp:xs.Perm (vs.toArray.zip vs.toArray))(hu:zhD rk xs xs.size):Sd rk vs (xs.map (·.2)).toList:=by
 have hl:xs.toList.Perm (vs.zip vs):=by
  have:=Z6.mp hp
  rwa [YS] at this
 have eq:∀ p∈xs.toList,p.1=p.2:=fun p h=>by
  have:=hl.mem_iff.mp h;rw[zcM] at this;obtain⟨v,_,rfl⟩:=jH.mp this;rfl
 refine⟨?_,?_⟩
 ·rw[Array.toList_map];have:=hl.map (·.2)
  rwa [Wx (jg _)] at this
 ·rw[Yp];intro i j hi hj hij;have hi':i < xs.size:=by simpa using hi
  have hj':j < xs.size:=by simpa using hj
  have:=hu i j hij hj';unfold Rk at this;rw[getElem?_pos xs i hi',getElem?_pos xs j hj'] at this;have a1:=eq xs[i] (by simp)
  have a2:=eq xs[j] (by simp)
  simp only[jv,Option.getD_some] at this;rw[a1,a2] at this;simpa using this
theorem zmq{rk:j7->Nat}{a:jo}{vs:List j7}{n:Nat}{P:Fin->j8->Prop}(ho:s.heap.get? a=some (Yi "list" vs.toArray n))(h64:vs.length < 64)(hnd:(vs.map rk).Nodup)(ht:∀ v∈vs,∃ b us,v=.ref b/\b≠a/\s.heap.IsList b us)
  (hlt:∀ x∈vs,∀ y∈vs,rk x≠rk y->∀(s':j8) (E:j7->j8->Prop) (Q:Bool->j8->Prop),(∀ b o,b≠a->s.heap.get? b=some o->s'.heap.get? b=some o)->Q (decide (rk x < rk y)) s'->jD (jF prog w) A (oneLt' true x y) Q E s')
  (h:∀ out:Array j7,Sd rk vs out.toList->P (.done (.ret .none)) { s with heap:=sortedHeap s.heap a vs out }):jD (jF prog w) A (YH.«list.sort» ⟨[.ref a],[]⟩) P E s:=by
 rw[list_sort_plain];have la:=jk ho;refine j4 (listItems_at ho rfl (j4 (NX ho rfl ?_)));obtain⟨e1,ho1⟩:∃ e,(s.heap.update a (QK fun _=>#[])).get? a=some (Yi "list" #[] e):=⟨_,get?_update_seq ho (fun _=>#[])⟩;refine j4 (WQ ho1 rfl (j4 (wpAny_newTuple (j4 (NU (jW ?_))))));have kp:∀ b o,(s.heap.update a (QK fun _=>#[])).get? b=some o->(((s.heap.update a (QK fun _=>#[])).push (Yi "tuple" vs.toArray 0)).push (Yi "list" #[] 0)).get? b=some o:=fun b o e=>j6 _ (j6 _ e);have ho6:=kp _ _ ho1;have old:∀ b o,b≠a->s.heap.get? b=some o->(((s.heap.update a (QK fun _=>#[])).push (Yi "tuple" vs.toArray 0)).push (Yi "list" #[] 0)).get? b=some o:=fun b o nb e=>kp b o ((QJ _ _ (fun z=>nb z.symm)).trans e);have fz:(vs.toArray.zip vs.toArray).size=vs.length:=by simp
 dsimp only
 by_cases h2:vs.toArray.size < 2
 ·rw[Ip_ h2,Ip_ h2];refine j4 (jb ?_);rw[StateT.run_pure];have sz:vs.toArray.size=vs.length:=by simp
  refine j4 (jb (j4 (WQ ho6 rfl (j4 (NX ho6 rfl ?_ (hsz2:=?_))))))
  ·simp only[bne_self_eq_false,Za,if_false];exact jb (h _ (Sd.of (WR _) fun i j hij hj=>by have:j < (vs.toArray.zip vs.toArray).size:=hj; lia))
  ·rw[WV,fz,Qr];lia
 ·rw[In_ h2,In_ h2];have sz:vs.toArray.size=vs.length:=by simp
  have mem:∀ p∈(vs.toArray.zip vs.toArray).toList,p.1∈vs:=fun p hp=>by
   rw[YS,zcM] at hp;obtain⟨v,hv,rfl⟩:=jH.mp hp;exact hv
  refine j4 (zj8 (by lia) (fun v hv=>?_) ?_)
  ·obtain⟨b,us,rfl,nb,⟨o,hb,hc,_⟩⟩:=ht v hv;exact⟨o,old b o nb hb,hc⟩
  ·refine j4 (Z0 (zly (rk:=rk) (a₀:=vs.toArray.zip vs.toArray) (st:=SortSt.mk' oneType' (vs.toArray.zip vs.toArray) #[] 7 none) (Q:=fun _ st'=>(Qj st').Perm (vs.toArray.zip vs.toArray)/\failedOf st'=none/\zhD rk (Qj st') (vs.toArray.zip vs.toArray).size)
    ⟨?_,fun p hp q hq ne E Q z=>hlt _ (mem p hp) _ (mem q hq) ne _ E Q old z⟩ ⟨WR _,rfl,rfl,rfl⟩ (by lia) (by lia) fun st' a1 a2 a3=>⟨a1,a2,a3⟩) ?_ fun _ _ e=>e)
   ·rw[YS,zcM,jQ];exact hnd
   ·rintro⟨⟨⟩,st'⟩ s' ⟨rfl,hp,hf,hu⟩;dsimp only;refine j4 (WQ ho6 rfl (j4 (NX ho6 rfl ?_ (hsz2:=?_))))
    ·rw[hf];simp only[bne_self_eq_false,Za,if_false];rw[<-hp.size_eq] at hu;exact jb (h _ (Sd.of hp hu))
    ·rw[WV,hp.size_eq,fz,Qr];lia
theorem zjg{rk:j7->Nat}{l:jo}{vs:List j7}{Q:j7->j8->Prop}(hl:s.heap.IsList l vs.toArray)(h64:vs.length < 64)(hnd:(vs.map rk).Nodup)(ht:∀ v∈vs,∃ b us,v=.ref b/\s.heap.IsList b us)
  (hlt:∀ x∈vs,∀ y∈vs,rk x≠rk y->∀(s':j8) (E:j7->j8->Prop) (Q:Bool->j8->Prop),(∀ b o,s.heap.get? b=some o->s'.heap.get? b=some o)->Q (decide (rk x < rk y)) s'->jD (jF prog w) A.in1.in1 (oneLt' true x y) Q E s')
  (h:∀ out:Array j7,Sd rk vs out.toList->Q (.ref (s.heap.objs.size+1)) { s with heap:=sortedAll s.heap vs out }):jD (jF prog w) A (call (.builtin "sorted") [.ref l]) Q E s:=by
 refine Yo kind_sorted plain_sorted entry_sorted (args_sorted1 _) ?_;unfold YH.«sorted»;refine j4 (m:=checkCount "sorted" 1 1 _) (jb (j4 (collect_list hl (j4 (NU ?_)))));have hz:((s.heap.push (Yi "list" #[] 0)).update s.heap.objs.size (QK (·++vs.toArray))).objs.size=s.heap.objs.size+1:=(Heap.size_update ..).trans (size_push' ..)
 have k1:∀ b o,s.heap.get? b=some o->(((s.heap.push (Yi "list" #[] 0)).update s.heap.objs.size (QK (·++vs.toArray))).push (Yi "list" vs.toArray 0)).get? b=some o:=fun b o e=>
  j6 _ ((QJ _ _ (Z8 (jk e))).trans (j6 _ e))
 have hoL:(((s.heap.push (Yi "list" #[] 0)).update s.heap.objs.size (QK (·++vs.toArray))).push (Yi "list" vs.toArray 0)).get? (s.heap.objs.size+1)=some (Yi "list" vs.toArray 0):=by
  rw[<-hz];exact jn _ rfl
 rw[hz];refine j4 (jW (QW slot_list_sort ⟨_,hoL,rfl⟩ entry_list_sort (zmq hoL h64 hnd (fun v hv=>?_) (fun x hx y hy ne s' E Q k q=>hlt x hx y hy ne s' E Q (fun b o e=>k b o (jB (Qv (jk e))) (k1 b o e)) q) fun out o=>⟨_,rfl,?_⟩) (args_list_sort _)))
 ·obtain⟨b,us,rfl,hb⟩:=ht v hv;exact⟨b,us,rfl,fun z=>by obtain⟨o,e,_⟩:=hb; exact absurd (jk e) (by rw[z]; exact Nat.not_lt.mpr (Qk _)),hb.at fun o e=>k1 _ o e⟩
 ·exact jb ⟨_,rfl,h out o⟩
end
end L2
namespace L2
open PySem PySem.Spec PyProof.Rows
theorem zcD:∀ {as:List jo} {its:List j7},Vals (as.map V.ref) its->its=as.map ZB
 |[],_,.nil=>rfl
 |a::as,_,.cons r t=>by cases r; rw[zcD t]; rfl
def zji(ps:List (jo × Str)):j7->Str
 |.ref b=>((ps.find? fun p=>p.1 == b).map (·.2)).getD ⟨#[]⟩
 |_=>⟨#[]⟩
theorem zjh{ps:List (jo × Str)}(hu:∀ p∈ps,∀ q∈ps,p.1=q.1->p.2=q.2){p:jo × Str}(h:p∈ps):zji ps (.ref p.1)=p.2:=by
 show ((ps.find? fun q=>q.1 == p.1).map (·.2)).getD ⟨#[]⟩=p.2
 cases e:ps.find? fun q=>q.1 == p.1 with
 |none=>exact absurd (List.find?_eq_none.mp e p h) (by simp)
 |some q=>
  have:=List.find?_some e;exact hu q (List.mem_of_find?_eq_some e) p h (by simpa using this)
theorem zl4{l:List Str}(nd:l.Nodup){x y:Str}(hx:x∈l)(hy:y∈l)(hn:x≠y):decide ((za9 l).idxOf x < (za9 l).idxOf y)=decide (x.cps.toList < y.cps.toList):=by
 have hx':=(zan l).mem_iff.mpr hx;have hy':=(zan l).mem_iff.mpr hy;have lx:=ZO hx';have ly:=ZO hy';have ex:=gq lx;have ey:=gq ly;have pw:=Yp.mp (zev l);rcases gD ((za9 l).idxOf x) ((za9 l).idxOf y) with q |q |q
 ·have h1:=pw _ _ lx ly q;rw[ex,ey] at h1;rw[Dt_ q]
  symm
  refine Dt_ (ZZ fun z=>hn (zb4 h1 ?_));unfold leS;rw[Df_ z]; rfl
 ·exact absurd (ex.symm.trans ((by simp[q]):_)) (fun z=>hn (z.trans ey))
 ·have h1:=pw _ _ ly lx q;rw[ex,ey] at h1;rw[Df_ (by lia)]
  unfold leS at h1;simpa using h1.symm
theorem zmo{l:List Str}{x y:Str}(hx:x∈l)(h:(za9 l).idxOf x=(za9 l).idxOf y):x=y:=by
 have hx':=(zan l).mem_iff.mpr hx;have lx:=ZO hx';have ex:=gq lx;have ly:(za9 l).idxOf y < (za9 l).length:=h▸lx;have ey:=gq ly;rw[<-ex,<-ey]
 congr 1
def zcK{α:Type}(ps:List (α × Str)):List (α × Str):=ps.mergeSort fun a b=>leS a.2 b.2
theorem zav{α:Type}(ps:List (α × Str)):(zcK ps).Perm ps:=Y3 _ _
theorem zex{α:Type}(ps:List (α × Str)):(zcK ps).Pairwise fun a b=>leS a.2 b.2=true:=gm (fun a b c=>zdr a.2 b.2 c.2) (fun a b=>zfI a.2 b.2) ps
section
variable {X:Cx}
theorem zg2(hu:X.A.units+8 < gO):CallR X (.builtin "sorted") (fun xs H Q=>∃(a:jo) (ps:List (jo × Str)),xs=[V.ref a]/\SqL X.K H a ((ps.map (·.1)).map V.ref)/\ps.length < 64/\(ps.map (·.2)).Nodup /\
  (∀ p∈ps,∃ vs,SqL X.K H p.1 (V.str p.2::vs))/\∀ l,H l=none->Q (.ref l) (upd H l (.lst (((zcK ps).map (·.1)).map V.ref)))):=by
 intro pc s σ H xs us Q I rv h;obtain⟨a,ps,rfl,hq,h64,nd,hin,q⟩:=h;obtain⟨u,rfl,ru⟩:=rv.one;cases ru;obtain⟨its,r,p,hz⟩:=I.list hq;obtain rfl:=zcD r;have look:∀ p∈ps,∃(us:Array j7) (t:Tok),s.heap.IsList p.1 us/\us[0]?=some (.str p.2 t):=fun p hp=>by
  obtain⟨vs,hv⟩:=hin p hp;obtain⟨us,r1,p1,_⟩:=I.list hv;obtain⟨u,e,ru⟩:=r1.get (i:=0) rfl;obtain⟨t,rfl⟩:=ru;exact⟨us.toArray,t,p1.isList,by simpa using e⟩
 have uniq:∀ p∈ps,∀ q∈ps,p.1=q.1->p.2=q.2:=fun p hp q hq e=>by
  obtain⟨us,t,l1,e1⟩:=look p hp;obtain⟨us2,t2,l2,e2⟩:=look q hq;rw[e] at l1;obtain⟨o,g1,c1,n1,d1⟩:=l1;obtain⟨o2,g2,c2,n2,d2⟩:=l2;obtain rfl:o=o2:=je (g1.symm.trans g2);have e3:=d1.symm.trans d2;injection e3 with e3 e4;subst e3;have e5:=e1.symm.trans e2;injection e5 with e5;injection e5
 let rk:j7->Nat:=fun v=>(za9 (ps.map (·.2))).idxOf (zji ps v)
 have rkp:∀ p∈ps,rk (.ref p.1)=(za9 (ps.map (·.2))).idxOf p.2:=fun p hp=>by
  show (za9 (ps.map (·.2))).idxOf (zji ps (.ref p.1))=_
  rw[zjh uniq hp]
 have mem2:∀ p∈ps,p.2∈ps.map (·.2):=fun p hp=>jH.mpr ⟨p,hp,rfl⟩
 have itm:∀ v∈(ps.map (·.1)).map ZB,∃ p∈ps,v=.ref p.1:=fun v hv=>by
  obtain⟨b,hb,rfl⟩:=jH.mp hv;obtain⟨p,hp,rfl⟩:=jH.mp hb;exact⟨p,hp,rfl⟩
 refine zjg (rk:=rk) p.isList (by simpa using h64) ?_ (fun v hv=>?_) (fun x hx y hy ne s' E Q k q=>?_) fun out sd=>?_
 ·rw[jQ,jQ];unfold Nm at nd ⊢;rw[Zp] at nd ⊢;refine Q9 (fun {p q} hp hq h z=>h ?_) nd;have z:rk (.ref p.1)=rk (.ref q.1):=z;rw[rkp p hp,rkp q hq] at z;exact zmo (mem2 p hp) z
 ·obtain⟨p,hp,rfl⟩:=itm v hv;obtain⟨us,t,l1,_⟩:=look p hp;exact⟨_,us,rfl,l1⟩
 ·obtain⟨p,hp,rfl⟩:=itm x hx;obtain⟨p',hp',rfl⟩:=itm y hy;obtain⟨us,t,l1,e1⟩:=look p hp;obtain⟨us2,t2,l2,e2⟩:=look p' hp';rw[rkp p hp,rkp p' hp'] at ne q;have hn:p.2≠p'.2:=fun z=>ne (by rw[z])
  rw[zl4 nd (mem2 p hp) (mem2 p' hp') hn] at q;exact zmc (l1.at fun o e=>k _ o e) (l2.at fun o e=>k _ o e) e1 e2 hn (by simp; lia) q
 ·have e:out.toList=((zcK ps).map (·.1)).map ZB:=by
   refine Zo (le:=fun a b=>rk a < rk b) (fun a b _ _ h h'=>absurd h (by lia)) sd.up ?_ (sd.perm.trans (((zav ps).map _).map _).symm)
   rw[jQ,Zp];have nd2:((zcK ps).map (·.2)).Nodup:=((zav ps).map _).nodup_iff.mpr nd
   unfold Nm at nd2;rw[Zp] at nd2;refine Q9 (fun {x y} hx hy h=>?_) ((zex ps).and nd2);have hx':=(zav ps).mem_iff.mp hx;have hy':=(zav ps).mem_iff.mp hy;show rk (.ref x.1) < rk (.ref y.1);rw[rkp x hx',rkp y hy'];have:=zl4 nd (mem2 x hx') (mem2 y hy') h.2;refine of_decide_eq_true (this.trans (Dt_ ?_));refine ZZ fun z=>h.2 (zb4 h.1 ?_);unfold leS;rw[Df_ z]; rfl
  obtain⟨ep,he⟩:=Wq s.heap ((ps.map (·.1)).map ZB) out
  exact⟨.ref (s.heap.objs.size+1),_,I.laid (a:=s.heap.objs.size+1) (o:=.lst (((zcK ps).map (·.1)).map V.ref)) (t':=s.toks) (fun b o e=>NQ e) (Qk _) ⟨by rw[ja,ja,(zav ps).length_eq,Qr]; lia,out.toList,ep,e▸zfd _,he⟩,rfl,q _ (I.hok.fresh (Qk _))⟩
end
end L2
namespace L3
open PySem PySem.Spec PyProof.Rows L2
variable [TheK]
variable {X:Cx}{M:List Nat}{e:Q0}{fe:DE}{p pos:Pos}
def zhy(caps:List (Option Nat))(s:Sg):Sg:=caps.map fun o=>o.bind fun j=>(s[j]?).join
def zar(M:List Nat):List (Option Nat)->Sg->Sg->Sg
 |some j::cs,x::xs,s=>zar M cs xs (if M.contains j then s.set j x else s)
 |none::cs,_::xs,s=>zar M cs xs s
 |_,_,s=>s
structure CapOk (caps:List (Option Nat)) (M Mi:List Nat):Prop where
 yes:∀(i:Nat),i∈Mi->∃ j,caps[i]?=some (some j)/\j∈M
 no:∀(i j:Nat),caps[i]?=some (some j)->i∉Mi->j∉M
 inj:∀(i i' j:Nat),caps[i]?=some (some j)->caps[i']?=some (some j)->i=i'
def zmR(caps:List (Option Nat))(M Mi:List Nat):Bool:=
 Mi.all (fun i=>match caps[i]? with |some (some j)=>M.contains j |_=>false) &&
 (jp caps.length).all (fun i=>match caps[i]? with |some (some j)=>Mi.contains i||!M.contains j |_=>true) &&
 (jp caps.length).all (fun i=>(jp caps.length).all fun i'=>match caps[i]?,caps[i']? with |some (some j),some (some j')=>j != j'||i == i' |_,_=>true)
theorem CapOk.of{caps:List (Option Nat)}{M Mi:List Nat}(h:zmR caps M Mi=true):CapOk caps M Mi:=by
 unfold zmR at h;rw[jw,jw] at h;obtain⟨⟨h1,h2⟩,h3⟩:=h;have lt:∀ {i:Nat} {o:Option Nat},caps[i]?=some o->i∈jp caps.length:=fun e=>jz.mpr (j5.mp e).1;refine⟨fun i hi=>?_,fun i j e n=>?_,fun i i' j e e'=>?_⟩
 ·have:=jx.mp h1 i hi;cases hc:caps[i]? with
  |none=>rw[hc] at this; cases this
  |some o=>cases o with
   |none=>rw[hc] at this; cases this
   |some j=>rw[hc] at this; exact⟨j,rfl,by simpa using this⟩
 ·have:=jx.mp h2 i (lt e);rw[e] at this;intro hj;have a:Mi.contains i=false:=by simpa using n
  have b:M.contains j=true:=by simpa using hj
  dsimp only at this;rw[a,b] at this;cases this
 ·have:=jx.mp (jx.mp h3 i (lt e)) i' (lt e');rw[e,e'] at this;simpa using this
theorem zhx{caps:List (Option Nat)}{s:Sg}{i:Nat}{t:T}(h:(zhy caps s)[i]?=some (some t)):∃ j,caps[i]?=some (some j)/\s[j]?=some (some t):=by
 unfold zhy at h;rw[jc] at h;obtain⟨o,h1,h2⟩:=Qm h;cases o with
 |none=>cases h2
 |some j=>exact⟨j,h1,zad h2⟩
theorem zfZ{caps:List (Option Nat)}{σ:L2.St}{i j:Nat}(h:caps[i]?=some (some j)):(zb2 caps σ)[i]?=some (σ[j]?).join:=by
 unfold zb2;rw[jc,h];rfl
theorem zaI{caps:List (Option Nat)}{σ:L2.St}{i:Nat}{v:V}(h:(zb2 caps σ)[i]?=some (some v)):∃ j,caps[i]?=some (some j)/\σ[j]?=some (some v):=by
 unfold zb2 at h;rw[jc] at h;obtain⟨o,h1,h2⟩:=Qm h;cases o with
 |none=>cases h2
 |some j=>
  refine⟨j,h1,?_⟩;have h2:(σ[j]?).join=some v:=h2;cases e:σ[j]? with
  |none=>rw[e] at h2; cases h2
  |some x=>rw[e] at h2; cases x with
   |none=>cases h2
   |some y=>injection h2 with h2; rw[h2]
theorem Rel.cap{F:Fr}{O:jo->Prop}{M Mi:List Nat}{s:Sg}{σ:L2.St}{H:Hp}{caps:List (Option Nat)}(R:Rel F O M s σ H)(c:CapOk caps M Mi):Rel F O Mi (zhy caps s) (zb2 caps σ) H:=by
 refine⟨by unfold zhy zb2; simp,fun i t e n=>?_,fun i t e n=>?_,fun i a hi e=>?_,fun i i' a hi hi' e e'=>?_,R.keep,R.dom,R.fresh,R.inD,R.al⟩
 ·obtain⟨j,h1,h2⟩:=zhx e;obtain⟨v,h3,h4⟩:=R.val j t h2 (c.no i j h1 n);exact⟨v,by rw[zfZ h1,h3]; rfl,h4⟩
 ·obtain⟨j,h1,h2⟩:=zhx e;obtain⟨j',h1',h3⟩:=c.yes i n;rw[h1] at h1';obtain rfl:j=j':=by injection h1' with h; injection h
  obtain⟨a,h4,L⟩:=R.own j t h2 h3;exact⟨a,by rw[zfZ h1,h4]; rfl,L⟩
 ·obtain⟨j,h1,h2⟩:=zaI e;obtain⟨j',h1',h3⟩:=c.yes i hi;rw[h1] at h1';obtain rfl:j=j':=by injection h1' with h; injection h
  exact R.ow j a h3 h2
 ·obtain⟨j,h1,h2⟩:=zaI e;obtain⟨j',h1',h2'⟩:=zaI e';obtain⟨k,hk,h3⟩:=c.yes i hi;obtain⟨k',hk',h3'⟩:=c.yes i' hi';rw[h1] at hk;rw[h1'] at hk';obtain rfl:j=k:=by injection hk with h; injection h
  obtain rfl:j'=k':=by injection hk' with h; injection h
  have:=R.dis j j' a h3 h3' h2 h2';subst this;exact c.inj i i' j h1 h1'
theorem zbJ(M:List Nat):∀(caps:List (Option Nat)) (si s:Sg),(zar M caps si s).length=s.length
 |[],_,_=>by unfold zar; rfl
 |none::cs,[],s=>by unfold zar; rfl
 |some j::cs,[],s=>by unfold zar; rfl
 |none::cs,x::xs,s=>by unfold zar; exact zbJ M cs xs s
 |some j::cs,x::xs,s=>by
  unfold zar;rw[zbJ M cs xs];split
  ·rw[jZ]
  ·rfl
theorem zbb(M:List Nat){j:Nat}:∀(caps:List (Option Nat)) (si s:Sg),(j∉M∨∀ i:Nat,caps[i]?≠some (some j))->(zar M caps si s)[j]?=s[j]?
 |[],_,_,_=>by unfold zar; rfl
 |none::cs,[],s,_=>by unfold zar; rfl
 |some k::cs,[],s,_=>by unfold zar; rfl
 |none::cs,x::xs,s,h=>by
  unfold zar;exact zbb M cs xs s (h.imp id fun z i=>by simpa using z (i+1))
 |some k::cs,x::xs,s,h=>by
  unfold zar;rw[zbb M cs xs _ (h.imp id fun z i=>by simpa using z (i+1))]
  split
  ·rename_i hk;refine jf fun z=>?_;subst z;rcases h with h |h
   ·exact h (by simpa using hk)
   ·exact h 0 rfl
  ·rfl
theorem zdF(M:List Nat){j:Nat}(hj:j∈M):∀(caps:List (Option Nat)) (si s:Sg) (i:Nat),caps[i]?=some (some j)->(∀ i':Nat,caps[i']?=some (some j)->i'=i)->i < si.length->j < s.length->(zar M caps si s)[j]?=si[i]?
 |[],_,_,i,e,_,_,_=>by simp at e
 |c::cs,[],s,i,_,_,hi,_=>by simp at hi
 |none::cs,x::xs,s,i,e,u,hi,hl=>by
  unfold zar;cases i with
  |zero=>simp at e
  |succ i=>
   rw[gs];exact zdF M hj cs xs s i (by simpa using e) (fun i' e'=>by simpa using u (i'+1) (by simpa using e')) (by simpa using hi) hl
 |some k::cs,x::xs,s,i,e,u,hi,hl=>by
  unfold zar;cases i with
  |zero=>
   have hk:k=j:=by simpa using e
   subst hk;rw[zbb M cs xs _ (.inr fun i' e'=>by simpa using u (i'+1) (by simpa using e')),Ip_ (by simpa using hj),jL hl]
   rfl
  |succ i=>
   rw[gs];refine zdF M hj cs xs _ i (by simpa using e) (fun i' e'=>by simpa using u (i'+1) (by simpa using e')) (by simpa using hi) ?_
   split
   ·rw[jZ]; exact hl
   ·exact hl
theorem Rel.back{F:Fr}{O:jo->Prop}{M Mi:List Nat}{s si:Sg}{σ σ2:L2.St}{H2 H4:Hp}{caps:List (Option Nat)}(R:Rel F O M s σ H2)(c:CapOk caps M Mi)(S:Step σ2 Mi H2 H4)(Ri:Rel F O Mi si σ2 H4)
  (hk:∀(i j:Nat),caps[i]?=some (some j)->σ2[i]?=(zb2 caps σ)[i]?) (hl:si.length=caps.length):Rel F O M (zar M caps si s) σ H4:=by
 have addr:∀(i:Nat) b,i∈Mi->σ2[i]?=some (some (.ref b))->∃ j,caps[i]?=some (some j)/\j∈M/\σ[j]?=some (some (.ref b)):=fun i b hi e=>by
  obtain⟨j,h1,h2⟩:=c.yes i hi;rw[hk i j h1] at e;obtain⟨j',h3,h4⟩:=zaI e;rw[h1] at h3;obtain rfl:j=j':=by injection h3 with h; injection h
  exact⟨j,h1,h2,h4⟩
 have kf:∀ b u,Free F O b->H2 b=some u->H4 b=some u:=fun b u z e=>S.keep b u (fun i hi e'=>by
  obtain⟨j,_,h2,h3⟩:=addr i b hi e'
  exact z.1 (R.ow j b h2 h3)) e
 refine⟨by rw[zbJ]; exact R.len,fun j t e n=>?_,fun j t e n=>?_,R.ow,R.dis,Ri.keep,Ri.dom,R.fresh,R.inD,Ri.al⟩
 ·rw[zbb M caps si s (.inl n)] at e;obtain⟨v,h1,h2⟩:=R.val j t e n;exact⟨v,h1,h2.mono (fun _ c=>c) kf⟩
 ·by_cases hc:∃ i:Nat,caps[i]?=some (some j)
  ·obtain⟨i,hi⟩:=hc;have hlt:=(j5.mp hi).1;have hjl:j < s.length:=by
    have:=(j5.mp e).1
    rwa [zbJ] at this
   rw[zdF M n caps si s i hi (fun i' e'=>c.inj i' i j e' hi) (by lia) hjl] at e
   have him:=ZZ fun z=>c.no i j hi z n;obtain⟨a,h1,L⟩:=Ri.own i t e him;obtain⟨j',h2,_,h3⟩:=addr i a him h1;rw[hi] at h2;obtain rfl:j=j':=by injection h2 with h; injection h
   exact⟨a,h3,L⟩
  ·rw[zbb M caps si s (.inr fun i z=>hc ⟨i,z⟩)] at e;obtain⟨a,h1,L⟩:=R.own j t e n;refine⟨a,h1,L.mono (fun _ c=>c) kf fun u e'=>S.keep a u (fun i hi e''=>?_) e'⟩;obtain⟨j',h2,h3,h4⟩:=addr i a hi e'';have:=R.dis j j' a n h3 h1 h4;subst this;exact hc ⟨i,h2⟩
def zlf(g:TG)(dg:DG)(Mi:List Nat)(caps:List (Option Nat)):Prop:=∀ F O s t s' v σ H (Q:L2.St->Hp->Prop),Rel F O Mi s σ H->Rep (Free F O) H v t->dg t s=some s'->
 (∀ σ',Rel F O Mi s' σ' H->(∀(i j:Nat),caps[i]?=some (some j)->σ'[i]?=σ[i]?)->σ'.length=σ.length->Q σ' H)->g v σ H Q
theorem zbQ{i:Nat}{Mi:List Nat}{caps:List (Option Nat)}(hc:caps[i]?=some none:=by rfl)(hi:Mi.contains i=false:=by rfl):zlf (zbo i) (dGn i) Mi caps:=by
 intro F O s t s' v σ H Q R r hg q;have hi':i∉Mi:=by simpa using hi
 unfold dGn at hg;split at hg
 ·rename_i hl;cases hg;refine q _ (R.setE (fun j hj=>⟨hj,fun z=>hi' (z▸hj)⟩) (fun j hj=>.inl hj) hl r) (fun k j e=>?_) ?_;exact jf fun z=>by subst z; rw[hc] at e; cases e
  exact jZ
 ·cases hg
theorem zkJ{Mi:List Nat}{caps:List (Option Nat)}{F:Fr}{O:jo->Prop}{H:Hp}{Q:L2.St->Hp->Prop}:∀ {is:List Nat} {ts:List T} {vs:List V} {s s':Sg} {σ:L2.St},Rel F O Mi s σ H->(∀ i,i∈is->i∉Mi/\caps[i]?=some none)->Reps (Free F O) H vs ts->zaU is ts s=some s'->
  (∀ σ',Rel F O Mi s' σ' H->(∀(i j:Nat),caps[i]?=some (some j)->σ'[i]?=σ[i]?)->σ'.length=σ.length->Q σ' H)->gsN is vs σ H Q
 |[],[],vs,s,s',σ,R,_,h,e,q=>by
  cases e;exact⟨h.none,q σ R (fun _ _ _=>rfl) rfl⟩
 |[],t::ts,vs,s,s',σ,R,_,h,e,q=>by cases e
 |i::is,[],vs,s,s',σ,R,_,h,e,q=>by cases e
 |i::is,t::ts,[],s,s',σ,R,_,h,e,q=>by have:=h.1; simp at this
 |i::is,t::ts,v::vs,s,s',σ,R,hm,h,e,q=>by
  unfold zaU at e;split at e
  ·rename_i hl;obtain⟨hi,hc⟩:=hm i jC;refine⟨v,vs,rfl,zkJ (R.setE (fun j hj=>⟨hj,fun z=>hi (z▸hj)⟩) (fun j hj=>.inl hj) hl h.head) (fun j hj=>hm j (jm _ hj)) h.tail e fun σ' R' k l=>q σ' R' (fun k' j e'=>(k k' j e').trans ?_) (l.trans jZ)⟩;exact jf fun z=>by subst z; rw[hc] at e'; cases e'
  ·cases e
theorem ze5:∀ {is:List Nat} {ts:List T} {s s':Sg},zaU is ts s=some s'->ts.length=is.length
 |[],[],_,_,_=>rfl
 |[],_::_,_,_,e=>by cases e
 |_::_,[],_,_,e=>by cases e
 |i::is,t::ts,s,s',e=>by
  unfold zaU at e;split at e
  ·rw[jl,jl,ze5 e]
  ·cases e
theorem znh{is:List Nat}{n:Nat}{K:jd}{Mi:List Nat}{caps:List (Option Nat)}(hn:is.length=n:=by rfl)(h:is.all (fun i=>!Mi.contains i&&caps[i]? == some none)=true:=by rfl):zlf (zjl K n (gsN is)) (dGt is) Mi caps:=by
 intro F O s t s' v σ H Q R r hg q;obtain⟨ts,rfl⟩:∃ ts,t=.tup ts:=by cases t<;>first |exact⟨_,rfl⟩ |cases hg
 have hg:=hg;obtain⟨a,vs,rfl,ha,ra⟩:=BRep.tup (.inl r);refine⟨a,vs,rfl,SqT.of ha,by rw[ra.1,ze5 hg,hn],zkJ R (fun i hi=>?_) ra hg q⟩
 have:=jx.mp h i hi;rw[jw] at this;exact⟨by simpa using this.1,by simpa using this.2⟩
@[irreducible] def zeV:Nat:=1000000
theorem zhe:zeV=1000000:=by unfold zeV; rfl
def zjN(M:List Nat)(caps:List (Option Nat))(dg:DG)(ft:DT)(fe:DE):List T->List T->Sg->Option (List T × Sg)
 |[],acc,s=>some (acc,s)
 |x::xs,acc,s=>(dg x (zhy caps s)).bind fun s1=>(ft s1).bind fun p=>if p.1 then (fe p.2).bind fun q=>zjN M caps dg ft fe xs (acc++[q.1]) (zar M caps q.2 s) else zjN M caps dg ft fe xs acc (zar M caps p.2 s)
def dLC(M:List Nat)(caps:List (Option Nat))(fi:DI)(dg:DG)(ft:DT)(fe:DE):DE:=fun s=>(fi s).bind fun p=>if p.1.length<=zeV then (zjN M caps dg ft fe p.1 [] p.2).map fun q=>(.lst q.1,q.2) else none
def zjv:DT:=fun s=>some (true,s)
theorem zo8{M Mi:List Nat}{caps:List (Option Nat)}{fi:DI}{g:TG}{dg:DG}{ft:DT}{fe:DE}{tt:TT}(c:CapOk caps M Mi)(hg:zlf g dg Mi caps)(htt:∀ σ H Q,cT Mi ft σ H Q->tt σ H Q) :
  ∀ σ H Q,cE .n M (dLC M caps fi dg ft fe) σ H Q->tLC caps (cI M fi) g tt (cE .e Mi fe) σ H Q:=by
 intro σ H Q h_;refine cE_ h_ fun F O s t s' R hf q=>?_;obtain⟨⟨its,s1⟩,h1,h2⟩:=Qb hf;split at h2
 case isFalse=>cases h2
 rename_i hsz;have hsz:its.length<=zeV:=hsz;rw[zhe] at hsz;obtain⟨⟨tsE,sE⟩,h3,h4⟩:=Qm h2;cases h4;refine⟨F,O,s,its,s1,R,h1,fun J H1 S1 R1 IT D hD=>?_⟩;have nD:∀(j:Nat),j∈M->σ[j]?≠some (some (.ref D)):=fun j hj e=>R1.al D (R1.ow j D hj e) hD;have RD:=R1.new hD (.lst [])
 refine⟨fun i m H'=>m=its.length - i/\i<=its.length/\∃ s' acc ys,Rel F (fun b=>O b∨b=D) M s' σ H'/\H' D=some (.lst ys)/\ys.length<=i/\Reps (Free F (fun b=>O b∨b=D)) H' ys acc/\Step σ M H H' /\
  (∀ b o,Free F O b->H1 b=some o->H' b=some o)/\zjN M caps dg ft fe (its.drop i) acc s'=some (tsE,sE),⟨its.length,by simp,Zx _,s1,[],[],RD,zab,jg _,.nil,S1.trans (.new hD _),fun b o _ e=>by rw[za7 (za3 e hD)]; exact e,h3⟩,?_⟩
 rintro i m H2 ⟨rfl,hi,s2,acc,ys,R2,hD2,hy,ry,S2,k2,hl⟩;have it:=IT H2 k2 i
 by_cases hlt:i < its.length
 ·refine .inr ?_;obtain⟨go,yl⟩:=it.1 its[i] (j3 hlt);rw[Ze hlt] at hl;unfold zjN at hl;obtain⟨si1,hdg,hl⟩:=Qb hl;obtain⟨⟨b,si2⟩,hft,hl⟩:=Qb hl;refine⟨go,fun x H3 hy3=>?_⟩;obtain⟨y1,y2⟩:=yl x H3 hy3
  -- what was yielded is free of D
  have R3:Rel F (fun b=>O b∨b=D) M s2 σ H3/\(∀ b u,H2 b=some u->H3 b=some u)/\(∀ b,H3 b=none->H2 b=none):=by
   rcases y1 with rfl |⟨p,o,hp,rfl⟩
   ·exact⟨R2,fun _ _ e=>e,fun _ e=>e⟩
   ·exact⟨(R2.new hp o).less (fun b z=>.inl z) R2.ow R2.inD,fun b u e=>by rw[za7 (za3 e hp)]; exact e,fun b e=>by
     unfold upd at e;split at e
     ·cases e
     ·exact e⟩
  obtain⟨R3,k3,dm3⟩:=R3
  have rx:Rep (Free F (fun b=>O b∨b=D)) H3 x its[i]:=y2.mono (fun b z=>by
   rcases z with ⟨z,n⟩ |n
   ·exact⟨fun y=>y.elim z.1 fun y=>n (y▸hD),z.2⟩
   ·exact⟨fun y=>R2.al b y n,.inr (R2.dom b n)⟩) fun _ _ _ e=>e
  have ry3:=ry.mono (fun _ z=>z) fun b o _ e=>k3 b o e;have hD3:=k3 _ _ hD2;refine hg F _ (zhy caps s2) its[i] si1 x (zb2 caps σ) H3 _ (R3.cap c) rx hdg fun σ4 R4 hk4 hl4=>?_;have hsl:∀ {sx:Sg} {Hx:Hp},Rel F (fun b=>O b∨b=D) Mi sx σ4 Hx->sx.length=caps.length:=fun {sx Hx} Rx=>by
   rw[Rx.len,hl4];unfold zb2;rw[ja]
  have nD4:∀(k:Nat),k∈Mi->σ4[k]?≠some (some (.ref D)):=fun k hk e=>by
   obtain⟨j,e1,e2⟩:=c.yes k hk;rw[hk4 k j e1] at e;obtain⟨j',e3,e4⟩:=zaI e;rw[e1] at e3;obtain rfl:j=j':=by injection e3 with h; injection h
   exact nD j e2 e4
  refine htt _ _ _ ⟨F,_,si1,b,si2,R4,hft,fun H5 S5 R5=>?_⟩;have freeK:∀ {Hx Hy:Hp},Step σ4 Mi Hx Hy->∀ b o,(Free F O b/\b≠D)->Hx b=some o->Hy b=some o:=fun {Hx Hy} Sx b o z e=>Sx.keep b o (R4.notOwned fun y=>y.elim z.1.1 z.2) e
  have S3':∀ {Hx:Hp},Step σ4 Mi H3 Hx->Step σ M H Hx:=fun {Hx} Sx=>⟨fun b o n e=>Sx.keep b o (fun k hk e'=>by
   obtain⟨j,e1,e2⟩:=c.yes k hk;rw[hk4 k j e1] at e';obtain⟨j',e3,e4⟩:=zaI e';rw[e1] at e3;obtain rfl:j=j':=by injection e3 with h; injection h
   exact n j e2 e4) (k3 b o (S2.keep b o n e)),fun b e=>S2.dom b (dm3 b (Sx.dom b e))⟩
  have keepF:∀ {Hx:Hp},Step σ4 Mi H3 Hx->∀ b o,Free F O b->H1 b=some o->Hx b=some o:=fun {Hx} Sx b o z e=>freeK Sx b o ⟨z,fun y=>by rw[y,hD] at e; cases e⟩ (k3 b o (k2 b o z e))
  cases b with
  |false=>
   rw[In_ jr] at hl;dsimp only;rw[In_ jr];exact⟨its.length - (i+1),by lia,rfl,hlt,zar M caps si2 s2,acc,ys,R3.back c S5 R5 hk4 (hsl R5),S5.keep D _ nD4 hD3,Wl hy,ry3.mono (fun _ z=>z) fun b o z e=>S5.keep b o (R4.notOwned z.1) e,S3' S5,keepF S5,hl⟩
  |true=>
   rw[Ip_ rfl] at hl;dsimp only;rw[Ip_ rfl];obtain⟨⟨te,si3⟩,hfe,hl⟩:=Qb hl;refine⟨F,_,si2,te,si3,R5,hfe,fun y H6 S6 p6=>?_⟩;have S56:=S5.trans S6;have hD6:=S56.keep D _ nD4 hD3;have R6:=R3.back c S56 p6.1 hk4 (hsl p6.1);refine⟨ys,hD6,by rw[Qr]; lia,its.length - (i+1),by lia,rfl,hlt,zar M caps si3 s2,acc++[te],ys++[y],?_,zab,by rw[js,Z9]; lia,?_,?_,?_,hl⟩
   ·-- D is nobody's: writing there keeps the relation
    have kD:∀ b u,b≠D->H6 b=some u->upd H6 D (.lst (ys++[y])) b=some u:=fun b u n e=>by rw[za7 n]; exact e
    refine⟨R6.len,fun j t e n=>?_,fun j t e n=>?_,R6.ow,R6.dis,fun b u n e=>?_,fun b e=>?_,R6.fresh,R6.inD,fun b z e=>?_⟩
    ·obtain⟨v,a1,a2⟩:=R6.val j t e n;exact⟨v,a1,a2.mono (fun _ z=>z) fun b u z e=>kD b u (fun w=>z.1 (.inr w)) e⟩
    ·obtain⟨a,a1,a2⟩:=R6.own j t e n;exact⟨a,a1,a2.mono (fun _ z=>z) (fun b u z e=>kD b u (fun w=>z.1 (.inr w)) e) fun u e=>kD a u (fun w=>nD j n (w▸a1)) e⟩
    ·refine kD b u (fun w=>?_) (R6.keep b u n e);subst w;have:=R1.dom b hD;rw[this] at e; cases e
    ·refine R6.dom b ?_;unfold upd at e;split at e
     ·cases e
     ·exact e
    ·refine R6.al b z ?_;unfold upd at e;split at e
     ·cases e
     ·exact e
   ·have r1:=(ry3.mono (fun _ z=>z) fun b o z e=>S56.keep b o (R4.notOwned z.1) e).snoc p6.2;exact r1.mono (fun _ z=>z) fun b u z e=>by rw[za7 (fun w=>z.1 (.inr w))]; exact e
   ·exact⟨fun b o n e=>by rw[za7 (za3 e (S1.dom D hD))]; exact(S3' S56).keep b o n e,fun b e=>(S3' S56).dom b (by
     unfold upd at e;split at e
     ·cases e
     ·exact e)⟩
   ·exact fun b o z e=>by rw[za7 (za3 e hD)]; exact keepF S56 b o z e
 ·have e:i=its.length:=by lia
  subst e;rw[YN] at hl;cases hl;exact .inl ⟨it.2 (jg _),q _ H2 S2 ⟨D,rfl,S1.dom D hD,R2,.lst hD2 ry⟩⟩
theorem zoP{X:Cx}{e:Q0}{t t':TE}(h:PE X e t)(h':PE X e t'):PE X e (fun σ H Q=>t σ H Q∨t' σ H Q):=fun pc s σ H Q I q=>q.elim (h pc s σ H Q I) (h' pc s σ H Q I)
theorem zrC{X:Cx}{e:Q0}{t t':TT}(h:PT X e t)(h':PT X e t'):PT X e (fun σ H Q=>t σ H Q∨t' σ H Q):=fun pc s σ H Q I q=>q.elim (h pc s σ H Q I) (h' pc s σ H Q I)
theorem zpZ{X:Cx}{tg e:Q0}{t t':TI}(h:PI X tg e t)(h':PI X tg e t'):PI X tg e (fun σ H R=>t σ H R∨t' σ H R):=fun pc s σ H R I q=>q.elim (h pc s σ H R I) (h' pc s σ H R I)
theorem zhr{M:List Nat}{k k' k2:Kd}{f f' f2:DE}(hs:∀ s p,f2 s=some p->f s=some p∨f' s=some p)(hk:∀ F O σ H s' t v H' (s:Sg),Rel F O M s σ H->Post k F O M σ H s' t v H'->Post k2 F O M σ H s' t v H')(hk':∀ F O σ H s' t v H' (s:Sg),Rel F O M s σ H->Post k' F O M σ H s' t v H'->Post k2 F O M σ H s' t v H') :
  ∀ σ H Q,cE k2 M f2 σ H Q->cE k M f σ H Q∨cE k' M f' σ H Q:=by
 intro σ H Q h_;refine cE_ h_ fun F O s t s' R hf q=>?_;rcases hs s _ hf with h |h
 ·exact .inl ⟨F,O,s,t,s',R,h,fun v H' S p=>q v H' S (hk F O σ H s' t v H' s R p)⟩
 ·exact .inr ⟨F,O,s,t,s',R,h,fun v H' S p=>q v H' S (hk' F O σ H s' t v H' s R p)⟩
def orG(g g':T->T->Option T):T->T->Option T:=fun x y=>match g x y with
 |some t=>some t
 |none=>g' x y
theorem zkU{g g':T->T->Option T}{x y:T}{t:T}(h:orG g g' x y=some t):g x y=some t∨g' x y=some t:=by
 unfold orG at h;cases e:g x y with
 |none=>rw[e] at h; exact .inr h
 |some u=>rw[e] at h; exact .inl h
theorem zmF{g g':T->T->Option T}{fa fb:DE}:∀ s p,d2 (orG g g') fa fb s=some p->d2 g fa fb s=some p∨d2 g' fa fb s=some p:=fun s p h=>by
 obtain⟨t,s'⟩:=p;obtain⟨x,s1,y,h1,h2,h3⟩:=zgJ h;rcases zkU h3 with e |e
 ·left; unfold d2; rw[h1,j9,h2,j9,e]; rfl
 ·right; unfold d2; rw[h1,j9,h2,j9,e]; rfl
theorem zoy{g g':T->T->Option T}{i:Nat}{fb:DE}:∀ s p,d2v (orG g g') i fb s=some p->d2v g i fb s=some p∨d2v g' i fb s=some p:=fun s p h=>by
 obtain⟨t,s'⟩:=p;obtain⟨x0,x,y,h0,h1,h2,h3⟩:=zht h;have j0:(s[i]?).join=some x0:=by rw[h0]; rfl
 have j2:(s'[i]?).join=some x:=by rw[h2]; rfl
 rcases zkU h3 with e |e
 ·left; unfold d2v; rw[j0,j9,h1,j9,j2,j9,e]; rfl
 ·right; unfold d2v; rw[j0,j9,h1,j9,j2,j9,e]; rfl
def zau:=orG gIx zmv
def zon:=orG gIn zrK
def zb6:=orG zhl zjm
def zah:=orG zjO zmx
section
variable {a b c:Q0}{fa fb:DE}
theorem idE:∀(F:Fr) (O:jo->Prop) (σ:L2.St) (H:Hp) (s':Sg) (t:T) (v:V) (H':Hp) (s:Sg),Rel F O M s σ H->Post .e F O M σ H s' t v H'->Post .e F O M σ H s' t v H':=fun _ _ _ _ _ _ _ _ _ _ p=>p
theorem neE:∀(F:Fr) (O:jo->Prop) (σ:L2.St) (H:Hp) (s':Sg) (t:T) (v:V) (H':Hp) (s:Sg),Rel F O M s σ H->Post .n F O M σ H s' t v H'->Post .e F O M σ H s' t v H':=fun _ _ _ _ _ _ _ _ _ R p=>p.ne R
theorem zmz{f f' f2:DE}(hs:∀ s p,f2 s=some p->f s=some p∨f' s=some p):∀ σ H Q,cT M (dB f2) σ H Q->cT M (dB f) σ H Q∨cT M (dB f') σ H Q:=by
 intro σ H Q h_;refine cT_ h_ fun F O s b s' R hf q=>?_;rcases hs s _ (zgI hf) with h |h
 ·exact .inl ⟨F,O,s,b,s',R,by unfold dB; rw[h]; rfl,q⟩
 ·exact .inr ⟨F,O,s,b,s',R,by unfold dB; rw[h]; rfl,q⟩
def zbL(x:T)(lo hi:Option Int):Option T:=match x with
 |.str _=>zmr x lo hi
 |_=>gSl x lo hi
theorem zov{fl fh:DO}:∀ s p,dSl zbL fa fl fh s=some p->dSl zmr fa fl fh s=some p∨dSl gSl fa fl fh s=some p:=fun s p h=>by
 obtain⟨p1,h1,h2⟩:=Qb h;obtain⟨q1,h3,h4⟩:=Qb h2;obtain⟨r1,h5,h6⟩:=Qb h4;obtain⟨t,h7,h8⟩:=Qm h6;have e:zmr p1.1 q1.1 r1.1=some t∨gSl p1.1 q1.1 r1.1=some t:=by
  unfold zbL at h7;split at h7
  ·exact .inl h7
  ·exact .inr h7
 rcases e with e |e
 ·left; unfold dSl; rw[h1,j9,h3,j9,h5,j9,e]; exact congrArg some h8
 ·right; unfold dSl; rw[h1,j9,h3,j9,h5,j9,e]; exact congrArg some h8
def kT:Key->T
 |.inl i=>.int i
 |.inr x=>.str x
theorem zoh{C:jo->Prop}{H:Hp}(k:Key):Rep C H (kV k) (kT k):=by
 cases k with
 |inl i=>exact .int i
 |inr x=>exact .str x
theorem zc8{C:jo->Prop}{H:Hp}:∀ {vs:List (Key × V)} {ts:List (Key × T)},vs.map (·.1)=ts.map (·.1)->Reps C H (vs.map fun kv=>kV kv.1) (ts.map fun kv=>kT kv.1)
 |[],[],_=>.nil
 |p::vs,[],h=>by simp at h
 |[],q::ts,h=>by simp at h
 |p::vs,q::ts,h=>by
  rw[ju,ju] at h;injection h with h1 h2;rw[ju,ju,h1];exact .cons (zoh _) (zc8 h2)
def zjZ(c:Nat):T:=.str ⟨#[c]⟩
def zjQ(f:DE):DI:=fun s=>(f s).bind fun p=>match p.1 with
 |.lst xs=>some (xs,p.2)
 |.scr ns=>some (ns.map .int,p.2)
 |.tup xs=>some (xs,p.2)
 |.fd kvs=>some (kvs.map fun kv=>kT kv.1,p.2)
 |.str x=>some (x.cps.toList.map zjZ,p.2)
 |_=>none
def zqV(f:DE):DI:=fun s=>(f s).bind fun p=>match p.1 with
 |.fd kvs=>some (kvs.map fun kv=>kT kv.1,p.2)
 |_=>none
def zqU(f:DE):DI:=fun s=>(f s).bind fun p=>match p.1 with
 |.str x=>some (x.cps.toList.map zjZ,p.2)
 |_=>none
theorem zmn{F:Fr}{O:jo->Prop}{H1:Hp}{a:jo}{o:Obj}{kvs:List (Key × V)}{f:Key × V->V}{ts:List T}(fr:Free F O a)(ha:H1 a=some (.frz o (.dK kvs)))(r:Reps (Free F O) H1 (kvs.map f) ts):zmP F O ts (Itd f a o) H1:=by
 intro H2 k i;have h2:=k a _ fr ha;have hl0:kvs.length=ts.length:=by have:=r.1; simpa using this
 refine⟨fun t ht=>?_,fun hl=>⟨kvs,h2,by rw[hl0]; exact hl⟩⟩
 obtain⟨v,hv,rv⟩:=r.get ht;rw[jc] at hv;obtain⟨y,hy,hyv⟩:=Qm hv;refine⟨⟨kvs,y,h2,hy⟩,fun x H3 ⟨e1,e2⟩=>⟨.inl e1,?_⟩⟩;have:=e2 kvs h2;rw[hy] at this;have hx:=je this;subst hx hyv e1;exact rv.there.mono (fun b c=>.inl c) fun b o c e=>k b o c.1 e
theorem zrH{tg:Q0}(h:PE X e (cE .e M fe)):PI X tg e (cI M (zqV fe)):=zen (zm3 h) (by
 intro σ H R h_;refine cI_ h_ fun F O s its s' Rl hf q=>?_;obtain⟨⟨p1,p2⟩,h1,h2⟩:=Qb hf;obtain⟨ks,rfl⟩:∃ ks,p1=.fd ks:=by cases p1<;>first |exact⟨_,rfl⟩ |cases h2
 cases h2;refine⟨F,O,s,_,_,Rl,h1,fun v H1 S1 p=>?_⟩;obtain⟨a,o,kvs,rfl,ha,ra,fr⟩:=BRep.fd (.inl p.2)
 exact⟨a,o,kvs,rfl,ha,q _ H1 S1 p.1 (zmn fr ha (zc8 ra.1))⟩)
theorem zok{tg:Q0}(h:PE X e (cE .e M fe)):PI X tg e (cI M (zqU fe)):=zen (zm1 h) (by
 intro σ H R h_;refine cI_ h_ fun F O s its s' Rl hf q=>?_;obtain⟨⟨p1,p2⟩,h1,h2⟩:=Qb hf;obtain⟨x,rfl⟩:∃ x,p1=.str x:=by cases p1<;>first |exact⟨_,rfl⟩ |cases h2
 cases h2;refine⟨F,O,s,_,_,Rl,h1,fun v H1 S1 p=>?_⟩;refine⟨x,BRep.str (.inl p.2),q _ H1 S1 p.1 ?_⟩;intro H2 k i;refine⟨fun t ht=>?_,fun hl=>by simpa[Its] using hl⟩
 rw[jc] at ht;obtain⟨c,hc,rfl⟩:=Qm ht;have hc':x.cps[i]?=some c:=by simpa using hc
 refine⟨(Array.getElem?_eq_some_iff.mp hc').1,fun y H3 ⟨e1,c',e2,e3⟩=>⟨.inl e1,?_⟩⟩;rw[hc'] at e2;cases e2;subst e3
 exact .str _)
variable {es:List Q0}{fs:DA}{x:Str}{k:Nat}{f:jo}{fd:Zh}{ps:List Str}{np:Nat}
def zoS(i j:Int):Int:=if j < i then j else i
theorem zdX{Mi:List Nat}:∀ σ H Q,cT Mi zjv σ H Q->zpI σ H Q:=by
 intro σ H Q h_;refine cT_ h_ fun F O s b s' R hf q=>?_;cases hf;exact q H .refl R
theorem zoF{st:ZU}{t t':TE}{g:TG}(h:PS X st (zgd t g))(hw:∀ σ H Q,t' σ H Q->t σ H Q):PS X st (zgd t' g):=zcm h fun D σ H q=>hw σ H _ q
end
section
variable {a b c:Q0}{fa fb fc fk:DE}
def zei:T->Option T
 |.lst xs=>some (.lst xs) |.tup xs=>some (.lst xs) |.scr ns=>some (.lst (ns.map .int)) |.dct kvs=>some (.lst (kvs.map fun kv=>kT kv.1)) |.fd kvs=>some (.lst (kvs.map fun kv=>kT kv.1))
 |_=>none
theorem zlF:S1N (fun xs H Q=>(∃ p ys,xs=[.ref p]/\(SqL TheK.K H p ys∨SqT TheK.K H p ys)/\∀ l,H l=none->Q (.ref l) (upd H l (.lst ys)))∨∃ a kvs,xs=[V.ref a]/\Rd H a (.dK kvs)/\∀ l,H l=none->Q (.ref l) (upd H l (.lst (kvs.map fun kv=>kV kv.1)))) zei:=by
 intro C H x tx t Q bx hg q;cases tx with
 |dct ts=>
  injection hg with hg; subst hg;obtain⟨a,kvs,rfl,ha,ra⟩:=bx.dct;exact .inr ⟨a,kvs,rfl,.inl ha,fun p hp=>q p _ hp fun C' hC=>.lst zab (zc8 ra.1)⟩
 |fd ts=>
  injection hg with hg; subst hg;obtain⟨a,ob,kvs,rfl,ha,ra,_⟩:=bx.fd;exact .inr ⟨a,kvs,rfl,.inr ⟨ob,ha⟩,fun p hp=>q p _ hp fun C' hC=>.lst zab (zc8 ra.1)⟩
 |lst ts=>exact .inl (zit C H x (.lst ts) t Q bx hg q)
 |tup ts=>exact .inl (zit C H x (.tup ts) t Q bx hg q)
 |scr ts=>exact .inl (zit C H x (.scr ts) t Q bx hg q)
 |_=>cases hg
def zrJ:T->Option T
 |.int i=>some (.int (-i))
 |_=>none
end
section
variable {st:Q0}{fk:DO}{p2:Pos}
def dLR(f:DA):DE:=fun s=>(f s).bind fun p=>match p.1 with
 |[.int j]=>if zeK j=true then some (.lst (zat 0 j.toNat),p.2) else none
 |_=>none
theorem zhM{j:Int}(h:zeK j=true):-16777216<=j/\j<=16777216:=by
 have:=gH h;lia
end
def zi9(i:Nat):DI:=fun s=>match (s[i]?).join with
 |some (.lst xs)=>some (xs,s)
 |_=>none
theorem zjx{i:Nat}{s s1:Sg}{its:List T}(h:zi9 i s=some (its,s1)):s[i]?=some (some (.lst its))/\s1=s:=by
 unfold zi9 at h;split at h
 ·rename_i xs e;cases h;exact⟨zad e,rfl⟩
 ·cases h
theorem zkY{M Mi:List Nat}{caps:List (Option Nat)}{i0:Nat}(h0:i0∈M)(hcap:∀ k:Nat,caps[k]?≠some (some i0)){g:TG}{dg:DG}{ft:DT}{fe:DE}{tt:TT}(c:CapOk caps M Mi)(hg:zlf g dg Mi caps)(htt:∀ σ H Q,cT Mi ft σ H Q->tt σ H Q) :
  ∀ σ H Q,cE .n M (dLC M caps (zi9 i0) dg ft fe) σ H Q->tLC caps (zhZ TheK.K (zdM i0)) g tt (cE .e Mi fe) σ H Q:=by
 intro σ H Q h_;refine cE_ h_ fun F O s t s' R hf q=>?_;obtain⟨⟨its,s1⟩,h1,h2⟩:=Qb hf;split at h2
 case isFalse=>cases h2
 rename_i hsz;have hsz:its.length<=zeV:=hsz;rw[zhe] at hsz;obtain⟨⟨tsE,sE⟩,h3,h4⟩:=Qm h2;cases h4;obtain⟨hs0,rfl⟩:=zjx h1;obtain⟨a0,ha0,L0⟩:=R.own i0 _ hs0 h0;obtain⟨vs0,hv0,rv0⟩:∃ vs0,H a0=some (.lst vs0)/\Reps (Free F O) H vs0 its:=by
  cases L0 with
  |lst r h=>exact⟨_,r,h⟩
 refine⟨_,ha0,a0,rfl,⟨_,SqL.of hv0⟩,fun D hD=>?_⟩;have S1:Step σ M H H:=.refl;have R1:=R;have hne:a0≠D:=fun e=>by rw[e,hD] at hv0; cases hv0
 have IT:∀ H2,(∀ b o,Free F O b->H b=some o->H2 b=some o)->H2 a0=some (.lst vs0)->
  ∀ i:Nat,(∀ t,its[i]?=some t->(Itl TheK.K a0).go i H2/\∀ x H3,(Itl TheK.K a0).yld i H2 x H3->(H3=H2∨∃ p o,H2 p=none/\H3=upd H2 p o)/\Rep (fun b=>(Free F O b/\H b≠none)∨H2 b=none) H3 x t)/\(its.length<=i->(Itl TheK.K a0).stop i H2):=by
  intro H2 k h2 i;refine⟨fun t ht=>?_,fun hl=>⟨vs0,SqL.of h2,by rw[rv0.1]; exact hl⟩⟩
  obtain⟨v,hv,rv⟩:=rv0.get ht;refine⟨⟨vs0,v,SqL.of h2,hv⟩,fun x H3 ⟨e1,e2⟩=>⟨.inl e1,?_⟩⟩;have:=e2 vs0 (SqL.of h2);rw[hv] at this;obtain rfl:v=x:=je this;subst e1;exact rv.there.mono (fun b c=>.inl c) fun b o c e=>k b o c.1 e
 have nD:∀(j:Nat),j∈M->σ[j]?≠some (some (.ref D)):=fun j hj e=>R1.al D (R1.ow j D hj e) hD;have RD:=R1.new hD (.lst [])
 refine⟨fun i m H'=>m=its.length - i/\i<=its.length/\∃ s' acc ys,Rel F (fun b=>O b∨b=D) M s' σ H'/\H' D=some (.lst ys)/\ys.length<=i/\Reps (Free F (fun b=>O b∨b=D)) H' ys acc/\Step σ M H H' /\
  (∀ b o,Free F O b->H b=some o->H' b=some o)/\H' a0=some (.lst vs0)/\zjN M caps dg ft fe (its.drop i) acc s'=some (tsE,sE),⟨its.length,by simp,Zx _,s1,[],[],RD,zab,jg _,.nil,S1.trans (.new hD _),fun b o _ e=>by rw[za7 (za3 e hD)]; exact e,by rw[za7 hne]; exact hv0,h3⟩,?_⟩
 rintro i m H2 ⟨rfl,hi,s2,acc,ys,R2,hD2,hy,ry,S2,k2,hA2,hl⟩;have it:=IT H2 k2 hA2 i
 by_cases hlt:i < its.length
 ·refine .inr ?_;obtain⟨go,yl⟩:=it.1 its[i] (j3 hlt);rw[Ze hlt] at hl;unfold zjN at hl;obtain⟨si1,hdg,hl⟩:=Qb hl;obtain⟨⟨b,si2⟩,hft,hl⟩:=Qb hl;refine⟨go,fun x H3 hy3=>?_⟩;obtain⟨y1,y2⟩:=yl x H3 hy3
  -- what was yielded is free of D
  have R3:Rel F (fun b=>O b∨b=D) M s2 σ H3/\(∀ b u,H2 b=some u->H3 b=some u)/\(∀ b,H3 b=none->H2 b=none):=by
   rcases y1 with rfl |⟨p,o,hp,rfl⟩
   ·exact⟨R2,fun _ _ e=>e,fun _ e=>e⟩
   ·exact⟨(R2.new hp o).less (fun b z=>.inl z) R2.ow R2.inD,fun b u e=>by rw[za7 (za3 e hp)]; exact e,fun b e=>by
     unfold upd at e;split at e
     ·cases e
     ·exact e⟩
  obtain⟨R3,k3,dm3⟩:=R3
  have rx:Rep (Free F (fun b=>O b∨b=D)) H3 x its[i]:=y2.mono (fun b z=>by
   rcases z with ⟨z,n⟩ |n
   ·exact⟨fun y=>y.elim z.1 fun y=>n (y▸hD),z.2⟩
   ·exact⟨fun y=>R2.al b y n,.inr (R2.dom b n)⟩) fun _ _ _ e=>e
  have ry3:=ry.mono (fun _ z=>z) fun b o _ e=>k3 b o e;have hD3:=k3 _ _ hD2;refine hg F _ (zhy caps s2) its[i] si1 x (zb2 caps σ) H3 _ (R3.cap c) rx hdg fun σ4 R4 hk4 hl4=>?_;have hsl:∀ {sx:Sg} {Hx:Hp},Rel F (fun b=>O b∨b=D) Mi sx σ4 Hx->sx.length=caps.length:=fun {sx Hx} Rx=>by
   rw[Rx.len,hl4];unfold zb2;rw[ja]
  have nD4:∀(k:Nat),k∈Mi->σ4[k]?≠some (some (.ref D)):=fun k hk e=>by
   obtain⟨j,e1,e2⟩:=c.yes k hk;rw[hk4 k j e1] at e;obtain⟨j',e3,e4⟩:=zaI e;rw[e1] at e3;obtain rfl:j=j':=by injection e3 with h; injection h
   exact nD j e2 e4
  refine htt _ _ _ ⟨F,_,si1,b,si2,R4,hft,fun H5 S5 R5=>?_⟩;have freeK:∀ {Hx Hy:Hp},Step σ4 Mi Hx Hy->∀ b o,(Free F O b/\b≠D)->Hx b=some o->Hy b=some o:=fun {Hx Hy} Sx b o z e=>Sx.keep b o (R4.notOwned fun y=>y.elim z.1.1 z.2) e
  have S3':∀ {Hx:Hp},Step σ4 Mi H3 Hx->Step σ M H Hx:=fun {Hx} Sx=>⟨fun b o n e=>Sx.keep b o (fun k hk e'=>by
   obtain⟨j,e1,e2⟩:=c.yes k hk;rw[hk4 k j e1] at e';obtain⟨j',e3,e4⟩:=zaI e';rw[e1] at e3;obtain rfl:j=j':=by injection e3 with h; injection h
   exact n j e2 e4) (k3 b o (S2.keep b o n e)),fun b e=>S2.dom b (dm3 b (Sx.dom b e))⟩
  have keepA:∀ {Hx:Hp},Step σ4 Mi H3 Hx->Hx a0=some (.lst vs0):=fun {Hx} Sx=>Sx.keep a0 _ (fun k hk e=>by
   obtain⟨j,e1,e2⟩:=c.yes k hk;rw[hk4 k j e1] at e;obtain⟨j',e3,e4⟩:=zaI e;rw[e1] at e3;obtain rfl:j=j':=by injection e3 with h; injection h
   cases R.dis i0 j a0 h0 e2 ha0 e4
   exact hcap k e1) (k3 a0 _ hA2)
  have keepF:∀ {Hx:Hp},Step σ4 Mi H3 Hx->∀ b o,Free F O b->H b=some o->Hx b=some o:=fun {Hx} Sx b o z e=>freeK Sx b o ⟨z,fun y=>by rw[y,hD] at e; cases e⟩ (k3 b o (k2 b o z e))
  cases b with
  |false=>
   rw[In_ jr] at hl;dsimp only;rw[In_ jr];exact⟨its.length - (i+1),by lia,rfl,hlt,zar M caps si2 s2,acc,ys,R3.back c S5 R5 hk4 (hsl R5),S5.keep D _ nD4 hD3,Wl hy,ry3.mono (fun _ z=>z) fun b o z e=>S5.keep b o (R4.notOwned z.1) e,S3' S5,keepF S5,keepA S5,hl⟩
  |true=>
   rw[Ip_ rfl] at hl;dsimp only;rw[Ip_ rfl];obtain⟨⟨te,si3⟩,hfe,hl⟩:=Qb hl;refine⟨F,_,si2,te,si3,R5,hfe,fun y H6 S6 p6=>?_⟩;have S56:=S5.trans S6;have hD6:=S56.keep D _ nD4 hD3;have R6:=R3.back c S56 p6.1 hk4 (hsl p6.1);refine⟨ys,hD6,by rw[Qr]; lia,its.length - (i+1),by lia,rfl,hlt,zar M caps si3 s2,acc++[te],ys++[y],?_,zab,by rw[js,Z9]; lia,?_,?_,?_,by rw[za7 hne]; exact keepA S56,hl⟩
   ·-- D is nobody's: writing there keeps the relation
    have kD:∀ b u,b≠D->H6 b=some u->upd H6 D (.lst (ys++[y])) b=some u:=fun b u n e=>by rw[za7 n]; exact e
    refine⟨R6.len,fun j t e n=>?_,fun j t e n=>?_,R6.ow,R6.dis,fun b u n e=>?_,fun b e=>?_,R6.fresh,R6.inD,fun b z e=>?_⟩
    ·obtain⟨v,a1,a2⟩:=R6.val j t e n;exact⟨v,a1,a2.mono (fun _ z=>z) fun b u z e=>kD b u (fun w=>z.1 (.inr w)) e⟩
    ·obtain⟨a,a1,a2⟩:=R6.own j t e n;exact⟨a,a1,a2.mono (fun _ z=>z) (fun b u z e=>kD b u (fun w=>z.1 (.inr w)) e) fun u e=>kD a u (fun w=>nD j n (w▸a1)) e⟩
    ·refine kD b u (fun w=>?_) (R6.keep b u n e);subst w;have:=R1.dom b hD;rw[this] at e; cases e
    ·refine R6.dom b ?_;unfold upd at e;split at e
     ·cases e
     ·exact e
    ·refine R6.al b z ?_;unfold upd at e;split at e
     ·cases e
     ·exact e
   ·have r1:=(ry3.mono (fun _ z=>z) fun b o z e=>S56.keep b o (R4.notOwned z.1) e).snoc p6.2;exact r1.mono (fun _ z=>z) fun b u z e=>by rw[za7 (fun w=>z.1 (.inr w))]; exact e
   ·exact⟨fun b o n e=>by rw[za7 (za3 e (S1.dom D hD))]; exact(S3' S56).keep b o n e,fun b e=>(S3' S56).dom b (by
     unfold upd at e;split at e
     ·cases e
     ·exact e)⟩
   ·exact fun b o z e=>by rw[za7 (za3 e hD)]; exact keepF S56 b o z e
 ·have e:i=its.length:=by lia
  subst e;rw[YN] at hl;cases hl;exact .inl ⟨it.2 (jg _),q _ H2 S2 ⟨D,rfl,S1.dom D hD,R2,.lst hD2 ry⟩⟩
section
theorem zo5{caps:List (Option Nat)}{i:Nat}(h:caps.contains (some i)=false):∀ k:Nat,caps[k]?≠some (some i):=fun k e=>by
 have:=jN e;rw[List.contains_eq_mem,decide_eq_false_iff_not] at h;exact h this
end
theorem zoB:QZ "min"=some (.builtin "min"):=by first |exact PySem.boot_min |rfl |decide +kernel
def zej(x y:T):Option T:=match x with
 |.lst ts=>(zgW ts).bind fun vs=>(toV y).bind fun v=>(vs.findIdx? fun u=>eqV u v).map fun(j:Nat)=>.int j
 |_=>none
theorem zlH:S2M zgm zej:=by
 intro C H x y tx ty t Q bx by' hg q;obtain⟨ts,rfl⟩:∃ ts,tx=.lst ts:=by cases tx<;>first |exact⟨_,rfl⟩ |cases hg
 obtain⟨vs,h1,h2⟩:=Qb hg;obtain⟨v,h3,h4⟩:=Qb h2;obtain⟨j,h5,rfl⟩:=Qm h4;obtain⟨a,us,rfl,ha,ra⟩:=bx.lst;obtain⟨e1,e2⟩:=zes ra h1;obtain⟨e3,e4⟩:=zgX by' h3;subst e1 e3;exact⟨a,_,_,j,rfl,rfl,e4,e2,ha,h5,q _ (.int _)⟩
def zoC:List T->Option (List Bool)
 |[]=>some []
 |.bl b::ts=>(zoC ts).map (b::·)
 |_=>none
def zqR:T->Option T
 |.lst ts=>(zoC ts).map fun bs=>.bl (bs.all id)
 |_=>none
def zqQ:T->Option T
 |.lst ts=>(zoC ts).map fun bs=>.bl (bs.any id)
 |_=>none
def zkr:List T->Option (List Int)
 |[]=>some []
 |.int i::ts=>(zkr ts).map (i::·)
 |_=>none
theorem zhh{C:jo->Prop}{H:Hp}:∀ {vs:List V} {ts:List T} {ns:List Int},Reps C H vs ts->zkr ts=some ns->vs=ns.map V.int
 |[],[],ns,_,h=>by injection h with h; subst h; rfl
 |[],_::_,_,r,_=>by have:=r.1; simp at this
 |_::_,[],_,r,_=>by have:=r.1; simp at this
 |v::vs,t::ts,ns,r,h=>by
  obtain⟨b,rfl⟩:∃ b,t=.int b:=by cases t<;>first |exact⟨_,rfl⟩ |cases h
  obtain⟨l,h1,rfl⟩:=Qm h;rw[zhh r.tail h1,BRep.int (.inl r.head)]; rfl
def zdx:T->Option T
 |.lst ts=>match zcJ ts with
  |some ss=>if ss.length < 64 then some (.lst ((za9 ss).map T.str)) else none
  |none=>(zkr ts).bind fun ns=>if ns.length < 64 then some (.lst ((zfm ns).map T.int)) else none
 |_=>none
theorem zdf{C:jo->Prop}{H:Hp}:∀(l:List Str),Reps C H (l.map V.str) (l.map T.str)
 |[]=>.nil
 |k::l=>.cons (.str _) (zdf l)
theorem zk4:S1N (fun xs H Q=>(∃(a:jo) (ss:List Str),xs=[V.ref a]/\SqL TheK.K H a (ss.map V.str)/\ss.length < 64/\∀ l,H l=none->Q (.ref l) (upd H l (.lst ((za9 ss).map V.str))))∨∃(a:jo) (ss:List Int),xs=[V.ref a]/\SqL TheK.K H a (ss.map V.int)/\ss.length < 64/\∀ l,H l=none->Q (.ref l) (upd H l (.lst ((zfm ss).map V.int)))) zdx:=by
 intro C H x tx t Q bx hg q;obtain⟨ts,rfl⟩:∃ ts,tx=.lst ts:=by cases tx<;>first |exact⟨_,rfl⟩ |cases hg
 obtain⟨a,us,rfl,ha,ra⟩:=bx.lst
 have hg:(match zcJ ts with
  |some ss=>if ss.length < 64 then some (T.lst ((za9 ss).map T.str)) else none
  | none=>(zkr ts).bind fun ns=>if ns.length < 64 then some (T.lst ((zfm ns).map T.int)) else none)=some t:=hg
 cases e:zcJ ts with
 |some ss=>
  rw[e] at hg;dsimp only at hg;split at hg
  ·rename_i hl;injection hg with hg; subst hg;rw[zcN ra e] at ha;exact .inl ⟨a,ss,rfl,SqL.of ha,hl,fun l hl=>q l _ hl fun C' _=>.lst zab (zdf _)⟩
  ·cases hg
 |none=>
  rw[e] at hg;obtain⟨ns,e2,hg⟩:=Qb hg;split at hg
  ·rename_i hl;injection hg with hg; subst hg;rw[zhh ra e2] at ha;exact .inr ⟨a,ns,rfl,SqL.of ha,hl,fun l hl=>q l _ hl fun C' _=>.lst zab (zb8 _)⟩
  ·cases hg
theorem zdE:QZ "sorted"=some (.builtin "sorted"):=by first |exact PySem.boot_sorted |rfl |decide +kernel
def zjn:T->T->Option T
 |.int i,.int j=>some (.int (ZW i j))
 |_,_=>none
def zoU:T->T->Option T
 |.int i,.int j=>some (.int (gg i j))
 |_,_=>none
theorem zkN{f:Int->Int->V}{g:T->T->Option T}{k:Int->Int->Int}(hf:∀ i j,f i j=.int (k i j))(hg:∀ x y t,g x y=some t->∃ i j,x=.int i/\y=.int j/\t=.int (k i j)):S2E (rI0 f) g:=by
 intro C H x y tx ty t Q bx by' hgg q;obtain⟨i,j,rfl,rfl,rfl⟩:=hg _ _ _ hgg;exact⟨i,j,BRep.int bx,BRep.int by',by rw[hf]; exact q _ (.int _)⟩
theorem zld:QZ "set"=some (.type "set"):=by decide +kernel
def zeY:T->Option T
 |.lst ts=>(zcJ ts).bind fun ss=>if ss.length < 1000 then some (.int (Dw.za0 ss).length) else none
 |_=>none
theorem Rel.plus{F:Fr}{O:jo->Prop}{M:List Nat}{s:Sg}{σ:L2.St}{H:Hp}{l:jo}(R:Rel F O M s σ H)(h:H l=none)(o:HO):Rel F O M s σ (upd H l o):=
 R.ext (fun b u e=>by rw[za7 (za3 e h)]; exact e) fun b e=>by
  unfold upd at e;split at e
  ·cases e
  ·exact e
section
variable {p2 pos2:Pos}
def zdP(i c:Int)(n:Nat):List T:=(jp n).map fun(k:Nat)=>T.int (i+k*c)
def rg3(i j c:Int):Bool:=match j with
 |.ofNat n=>Nat.ble n 100&&(decide (i=2)&&decide (c=2))
 |_=>false
theorem zlK:∀ L:Fin 101,ga 2 (L.val:Int) 2=true/\ZI ((L.val:Int) - 2) 2=false/\0<=jE 2 (L.val:Int) 2/\(jE 2 (L.val:Int) 2).toNat=(L.val - 1) / 2:=by decide +kernel
theorem znv{i j c:Int}(h:rg3 i j c=true):∃ n:Nat,i=2/\c=2/\j=(n:Int)/\ga 2 (n:Int) 2=true/\ZI ((n:Int) - 2) 2=false/\0<=jE 2 (n:Int) 2/\(jE 2 (n:Int) 2).toNat=(n - 1) / 2:=by
 match j,h with
 |.ofNat n,h=>
  have h:(Nat.ble n 100&&(decide (i=2)&&decide (c=2)))=true:=h;rw[jw,jw,decide_eq_true_iff,decide_eq_true_iff] at h;have hn:=Nat.lt_succ_of_le (gH h.1);exact⟨n,h.2.1,h.2.2,rfl,zlK ⟨n,hn⟩⟩
 |.negSucc _,h=>cases h
def zqt(f:DA):DI:=fun s=>(f s).bind fun p=>match p.1 with
 |[.int i,.int j,.int c]=>if rg3 i j c=true then some (zdP 2 2 ((j.toNat - 1) / 2),p.2) else none
 |_=>none
theorem zml{F:Fr}{O:jo->Prop}{H1:Hp}{lo c:Int}{n:Nat}:zmP F O (zdP lo c n) (zoZ lo c n) H1:=by
 intro H2 k i;unfold zdP;refine⟨fun t ht=>?_,fun hl=>by show n<=i; simpa using hl⟩
 rw[jc] at ht;obtain⟨j,hj,e⟩:=Qm ht;have hi:i < n:=by simpa using (j5.mp hj).1
 rw[Qe hi] at hj;obtain rfl:i=j:=je hj;refine⟨hi,fun x H3 ⟨e1,e2⟩=>⟨.inl e1,?_⟩⟩;subst e1 e2 e;exact .int _
end
theorem zdo:∀(l acc:List Str),acc.Nodup->(l.foldl Dw.stp acc).Nodup
 |[],_,h=>h
 |x::l,acc,h=>by
  rw[gj];refine zdo l _ ?_;unfold Dw.stp;split
  ·exact h
  ·rename_i hx;exact ZT.mpr ⟨h,by simp,fun a ha b hb e=>by rw[jy] at hb; subst hb e; exact hx ha⟩
theorem zeZ(l:List Str):(Dw.za0 l).Nodup:=zdo l [] Nz
end L3
namespace L3
open PySem PySem.Spec PyProof.Rows L2
def Here(K:jd)(mg:Str->Option j7)(x:Str)(st:ZU)(ps:List Str):Prop:=
 ∃ f fd,Fun K x x st f fd/\Binds K fd ps []/\Qx K (.ref f)=true/\mg x=some (.ref f)
def Cal(P:jG)(w:Q7)(K:jd)(mg:Str->Option j7)(base:Zq)(n:Nat)(x:Str)(ps:List Str)(sp:Sp):Prop:=
 ∃ f fd,FnOk P w K mg base CX0 n f fd ps sp/\Binds K fd ps []/\Qx K (.ref f)=true/\mg x=some (.ref f)
theorem zmp{K:jd}{h:Zq}{mg:Str->Option j7}(X:K.In h)(G:h.Ns jS mg){x:Str}{st:ZU}{ps:List Str}{f:jo}{oc:j7}{od an:Option jo}{osl:Array (Option j7)}{kV doc pm cdv ct:j7}
  (hb:∀(kV doc pm:j7) (an:Option jo) (cdv ct:j7) (us:List j7),us.length=ps.length->YD (Qd x x (zaH st) (zax st) (za1 st) .none kV doc pm an cdv ct) ⟨us,[]⟩=pure (ps.zip us))
  (a:Zd K jS x=some (some (.ref f))) (l:K.lookup f=some ⟨oc,od,.func (Qd x x (zaH st) (zax st) (za1 st) .none kV doc pm an cdv ct),osl⟩)
  (c:ZX K cdv x=true) (k:Qx K (.ref f)=true):Here K mg x st ps:=by
 have F:=zl5 (st:=st) l c k;exact⟨f,_,F,F.binds hb,k,Jh X G a⟩
section
variable {P:jG}{w:Q7}{K:jd}{mg:Str->Option j7}{base:Zq}
theorem Here.ok{x:Str}{st:ZU}{N ps:List Str}{k:Nat}{sp:Sp}(h:Here K mg x st ps)(S:FnScope N ps (za1 st))(len:∀ vs H Q E,sp vs H Q E->vs.length=ps.length)
  (hbody:∀(f:jo) (cdv:j7) (A:Q1) (outer:List Env) (s:j8) (H:Hp) (vs:List V) (Q:VK) (E:XK),Room k (A.deeper (N6 x (za1 st) s.heap.objs.size f cdv))->sp vs H Q E->
   ∃ t,PSs (zkA CX0 P w K mg base N x (za1 st) f cdv A outer s H E).nox (zax st) t/\t { nx:=fun _ H'=>Q .non H',rt:=Q } (L2.start N vs) H):Cal P w K mg base (k+1) x ps sp:=by
 obtain⟨f,fd,F,b,kp,m⟩:=h;exact⟨f,fd,F.ok S len fun cdv A outer s H vs Q E hr hs=>hbody f cdv A outer s H vs Q E hr hs,b,kp,m⟩
theorem Cal.mono{j k:Nat}{x:Str}{ps:List Str}{sp:Sp}(h:Cal P w K mg base j x ps sp)(hjk:j<=k):Cal P w K mg base k x ps sp:=by
 obtain⟨f,fd,F,b,kp,m⟩:=h;exact⟨f,fd,F.mono hjk,b,kp,m⟩
end
def zoK(tk:TheK)(P:jG)(w:Q7)(mg:Str->Option j7)(base:Zq)(k:Nat)(x:Str)(st:ZU)(N:List Str)(t:TS):Prop:=
 ∀(f:jo) (cdv:j7) (A:Q1) (outer:List Env) (s:j8) (H:Hp) (E:XK),Room k (A.deeper (N6 x (za1 st) s.heap.objs.size f cdv))->PSs (zkA CX0 P w tk.K mg base N x (za1 st) f cdv A outer s H E).nox (zax st) t
variable [tk:TheK]
section
variable {P:jG}{w:Q7}{mg:Str->Option j7}{base:Zq}{x:Str}{st:ZU}{N ps:List Str}{k:Nat}{d:DS}{M' Mb:List Nat}
theorem Here.okP(h:Here tk.K mg x st ps)(S:FnScope N ps (za1 st))(hb:zoK tk P w mg base k x st N (cS .e [] [] M' Mb d))(hN:ps.length<=N.length:=by decide):Cal P w tk.K mg base (k+1) x ps (spP .e ps.length (fnP N.length d)):=by
 refine h.ok S (fun vs H Q E ⟨C,ts,t,hl,r,_⟩=>by rw[r.1,hl]) fun f cdv A outer s H vs Q E hr hs=>⟨_,hb f cdv A outer s H E hr,?_⟩
 refine zlJ (fun ts t e=>?_) (.inl rfl) hN hs;unfold fnP at e;split at e
 ·injection e with e; subst e; exact .inl ⟨_,by assumption⟩
 ·injection e with e; subst e; exact .inr ⟨rfl,rfl,_,by assumption⟩
 ·cases e
theorem Here.okN(h:Here tk.K mg x st ps)(S:FnScope N ps (za1 st))(hb:zoK tk P w mg base k x st N (cS .n [] [] M' Mb d))(hN:ps.length<=N.length:=by decide):Cal P w tk.K mg base (k+1) x ps (spP .n ps.length (zmQ N.length d)):=by
 refine h.ok S (fun vs H Q E ⟨C,ts,t,hl,r,_⟩=>by rw[r.1,hl]) fun f cdv A outer s H vs Q E hr hs=>⟨_,hb f cdv A outer s H E hr,?_⟩
 refine zlJ (fun ts t e=>?_) (.inr rfl) hN hs;unfold zmQ at e;split at e
 ·injection e with e; subst e; exact .inl ⟨_,by assumption⟩
 ·cases e
theorem zlA{rk:Kd}{np:Nat}{fn:List T->Option (T × T)}{vs:List V}{H:Hp}{Q:VK}{E:XK}(h:spI rk np fn vs H Q E):vs.length=np:=by
 obtain⟨C,a,us,t0,ts,t,t1,hl,rfl,_,_,r,_⟩:=h;rw[<-hl,jl,jl,r.1]
theorem Here.okI(h:Here tk.K mg x st ps)(S:FnScope N ps (za1 st))(hb:zoK tk P w mg base k x st N (cS .e [0] [0] M' Mb d))(hN:ps.length<=N.length:=by decide):Cal P w tk.K mg base (k+1) x ps (spI .e ps.length (fnI N.length d)):=
 h.ok S (fun vs H Q E h=>zlA h) fun f cdv A outer s H vs Q E hr hs=>⟨_,hb f cdv A outer s H E hr,zpQ (.inl rfl) hN hs⟩
def zhK(K:jd):Sp:=fun vs H Q _=>∃(a:jo) (ns:List Int),vs=[.ref a]/\zoX H/\SqL K H a (ns.map V.int)/\ns.length<=63/\∀ H',Q (.bl true) H'
theorem zo9{fw:jo}{dw:Zh}(F:Fun tk.K x x st fw dw)(S:FnScope N [ps0] (za1 st))(hb:zoK tk P w mg base k x st N (cS .e [] [] M' Mb d))(hN:1<=N.length)(hd:∀ ns:List Int,ns.length<=63->fnP N.length d [.scr ns]=some (.bl true)):FnOk P w tk.K mg base CX0 (k+1) fw dw [ps0] (zhK tk.K):=by
 refine F.ok S (fun vs H Q E ⟨a,ns,e,_⟩=>by rw[e]; rfl) fun cdv A outer s H vs Q E hr hs=>⟨_,hb fw cdv A outer s H E hr,?_⟩
 obtain⟨a,ns,rfl,hO,hS,h63,q⟩:=hs;have rp:Rep (fun _=>True) H (.ref a) (.scr ns):=by
  rcases hS with (hS |⟨o,hS⟩) |hS
  ·rcases hO a with z |⟨_,_,z⟩<;>rw[hS] at z<;>cases z
  ·exact .scr trivial hS
  ·exact .scrK fun H'=>.inr hS
 refine zlJ (np:=1) (N:=N) (fn:=L3.fnP N.length d) (fun ts t e=>?_) (.inl rfl) hN (E:=E) ⟨fun _=>True,[.scr ns],.bl true,rfl,.cons rp .nil,hd ns h63,fun v H' c=>?_⟩
 ·unfold L3.fnP at e;split at e
  ·injection e with e; subst e; exact .inl ⟨_,by assumption⟩
  ·injection e with e; subst e; exact .inr ⟨rfl,rfl,_,by assumption⟩
  ·cases e
 ·have:v=.bl true:=BRep.bl (.inl c.res);rw[this];exact q H'
end
end L3
namespace L3
open PySem PySem.Spec PyProof.Rows L2
variable {X:Cx}{p p2 pos:Pos}{a c e tg:Q0}{es:List Q0}{N ps:List Str}{M M' Mb io:List Nat}{fa fb fe:DE}{rk:Kd}{st:ZU}{x:Str}{k:Nat}
theorem zdv{A:Q1}{k:Nat}(hr:Room k A):A.units+8 < gO:=by have:=hr.un; lia
structure QE (X:Cx) (e:Q0) (t:TE):Prop where
 un:L2.PE X e t
structure QT (X:Cx) (e:Q0) (t:TT):Prop where
 un:L2.PT X e t
structure QA (X:Cx) (e:List Q0) (t:TA):Prop where
 un:L2.PA X e t
structure QSs (X:Cx) (e:List ZU) (t:TS):Prop where
 un:L2.PSs X e t
structure QS (X:Cx) (e:ZU) (t:TS):Prop where
 un:L2.PS X e t
structure QI (X:Cx) (tg iter:Q0) (t:TI):Prop where
 un:L2.PI X tg iter t
structure QGs (X:Cx) (e:List Q0) (t:TGs):Prop where
 un:L2.PGs X e t
structure QG (X:Cx) (e:Q0) (t:TG):Prop where
 un:L2.PG X e t
structure QTs (X:Cx) (e:List Q0) (t:TT):Prop where
 un:L2.PTs X e t
structure QO (X:Cx) (e:Option Q0) (t:TO):Prop where
 un:L2.PO X e t
section
theorem zaf{i:Nat}{x:Str}(hN:X.N.Nodup)(hi:X.N[i]?=some x)(hx:Loc X.env.scope x)(hf:X.fn x=true∨X.env.scope.names.lookup x=some .local:=by first |exact .inl rfl |exact .inr rfl |assumption):QG X (.Name x pos) (zbo i):=⟨L2.zm6 hN hi hx hf⟩
theorem zcQ :QGs X [] zmt:=⟨L2.zm4 ⟩
theorem zaR{e:Q0}{es:List Q0}{t:TG}{u:TGs}(h1:QG X e t)(h2:QGs X es u)(hs:(Q5 (e::es) X.env).map (·.2)=Nv e X.env::(Q5 es X.env).map (·.2):=by rfl):QGs X (e::es) (zfQ t u):=⟨L2.zkm h1.un h2.un hs⟩
theorem ziy{es:List Q0}{k:Nat}{t:TGs}{n:Nat}(hc:X.calm=true)(h:QGs X es t)(hn:(Q5 es X.env).length=n:=by rfl)(hst:(Q5 es X.env).findIdx? (·.1)=none:=by rfl):QG X (.Tuple es k pos) (zjl X.K n t):=⟨L2.zkT hc h.un hn hst⟩
theorem zeQ{o i:Q0}{to ti:TE}{t:zoW}(ho:QE X o to)(hi:QE X i ti)(hs:zqC X t)(ha:∀ v,Nv (.Subscript o i pos) X.env v=(do
   let ov <-YA [v] (eval o X.env)
   let iv <-YA [v,ov] (eval i X.env)
   standAt pos
   YA [v,ov,iv] (setItem ov iv v)
   release [v,ov,iv] []):=by intro _; rfl):QG X (.Subscript o i pos) (zqj to ti t):=⟨L2.znQ ho.un hi.un hs ha⟩
theorem zdk{tg e:Q0}{te:TE}{g:TG}(he:QE X e te)(hg:QG X tg g)(hs:swapsWithSole [tg] e pos.line X.env=pure false:=by rfl)(hw:swappedStores [tg] e X.env=pure none:=by rfl)(h1:(Q5 [tg] X.env).map (·.2)=[Nv tg X.env]:=by rfl):QS X (.Assign [tg] e pos) (zgd te g):=⟨L2.znN he.un hg.un hs hw h1⟩
theorem za6{i:Nat}{x:Str}{e:Q0}{te:TE}{pos':Pos}(hN:X.N.Nodup)(hi:X.N[i]?=some x)(hx:Loc X.env.scope x)(he:QE X e te)(hs:N4 e (some (.Name x pos')) pos.line X.env=pure false:=by rfl)(hf:X.fn x=true∨X.env.scope.names.lookup x=some .local:=by first |exact .inl rfl |exact .inr rfl |assumption):QS X (.Assign [.Name x pos'] e pos) (zgd te (zbo i)):=⟨L2.znK hN hi hx he.un hs hf⟩
theorem zlN{i:Nat}{x:Str}{e:Q0}{te:TE}{op:J9}{ti:TIp}{pos':Pos}(hN:X.N.Nodup)(hi:X.N[i]?=some x)(hx:Loc X.env.scope x)(he:QE X e te)(ho:PIp X op ti)(hf:X.fn x=true∨X.env.scope.names.lookup x=some .local:=by first |exact .inl rfl |exact .inr rfl |assumption):QS X (.AugAssign (.Name x pos') op e pos) (zpH i te ti):=⟨L2.znM hN hi hx he.un ho hf⟩
end
section
theorem zeP{l:Q0}{tl:TE}(hl:QE X l tl):QI X tg l (zhZ X.K tl):=⟨L2.ziL hl.un⟩
theorem zbd{iter:Q0}{body:List ZU}{wi:TI}{g:TG}{tb:TS}{pos:Pos}(hp:WF (jF X.prog X.w) X.A X.env X.xe)(hc:X.calm=true)(hi:QI X tg iter wi)(hg:QG X tg g)(hb:QSs X body tb)(hs:∀ x,Zk iter X.env x=pure x:=by intro _; rfl):QS X (.For tg iter body [] pos) (zoL wi g tb):=⟨L2.znL hp hc hi.un hg.un hb.un hs⟩
end
section
variable {te:TE}{t:TA}
theorem zgp :QA X [] zlt:=⟨L2.zbO ⟩
theorem zeR(ha:QE X e te)(hr:QA X es t)(hs:jj (e::es) X.env=(false,eval e X.env)::jj es X.env:=by rfl):QA X (e::es) (zfi te t):=⟨L2.zb0 ha.un hr.un hs⟩
end
section
variable {b:Q0}{ta tb:TE}
variable {o:Q0}{to:TE}{t:TA}{name:Str}{apos cpos:Pos}{T id:String}{r:V->List V->Hp->VK->Prop}
theorem zbs(pa:PlainAttrs T)(slot:Slot T name id)(hty:typeOf (.builtin id)=pure (.type "method_descriptor"))(hm:MtR X id r)(ho:QE X o to)(ha:QA X (e::es) t)(hbase:attributeBase o name X.env (eval o X.env)=eval o X.env:=by rfl)(hfew:((Zr cpos (jj (e::es) X.env)).all (fun x=>!x.1)&&(backToKw cpos (keywordEach [] X.env)).all (fun x=>x.1.isSome)
   && decide ((e::es).length+([]:List Keyword).length+(if ([]:List Keyword).isEmpty then 0 else 1) < 30))=true:=by rfl) (hline:(apos.endLine == cpos.line)=true:=by rfl) (hs:jj (e::es) X.env=(false,eval e X.env)::jj es X.env:=by rfl) (hplain:(Zr cpos (jj es X.env)).any (·.1)=false:=by rfl):QE X (.Call (.Attribute o name apos) (e::es) [] cpos) (tBM X.K T r to t):=⟨L2.zq2 pa slot hty hm ho.un ha.un hbase hfew hline hs hplain⟩
end
section
theorem qpv(i:Nat){x:Str}{pos:Pos}(hN:X.N[i]?=some x:=by rfl)(hv:Vis X.env.scope x:=by first |exact jT rfl |exact gx (jT rfl) |exact gx (gx rfl))(hd:(x == ("__debug__":Str))=false:=by decide)(hcd:(x == ("__classdict__":Str))=false:=by decide):QE X (.Name x pos) (zdM i):=⟨L2.pv i hN hv hd hcd⟩
end
section
theorem zbB{X:Cx}:QTs X [] zpI:=⟨L2.zlU ⟩
theorem zh4{X:Cx}{c:Q0}{t:TT}(h:QT X c t):QTs X [c] t:=⟨L2.zlT h.un⟩
end
section
variable {scope:Yz}{caps:List (Option Nat)}{elt iter:Q0}{ifs:List Q0}{wi:TI}{g:TG}{tt:TT}{te:TE}
theorem zfz(hc:X.calm=true)(hi:QI X tg iter wi)(hg:∀ cl C s0 H0 fp,QG (zaK X N scope cl C s0 H0 fp) tg g)(hgk:zfb caps g)(ht:∀ cl C s0 H0 fp,QTs (zaK X N scope cl C s0 H0 fp) ifs tt)(he:∀ cl C s0 H0 fp,QE (zaK X N scope cl C s0 H0 fp) elt te)(hcap:capOk N X.N scope X.env.scope caps=true:=by rfl)(hkind:scope.kind=.function:=by rfl)(hcell:scope.names.all (fun p=>p.2 != .cell)=true:=by rfl)(hnames:scope.names.all (fun p=>p.2 != .local||scope.names.lookup p.1 == some .local)=true:=by rfl)(hfr:scope.names.all (fun p=>p.2 != .free||(X.env.scope.names.lookup p.1 == some .cell||X.env.scope.names.lookup p.1 == some .free))=true:=by rfl)(hs:∀ x,Zk iter X.env x=pure x:=by intro _; rfl):QE X (.ListComp elt [⟨tg,iter,ifs,0⟩] scope pos) (tLC caps wi g tt te):=⟨L2.zq1 hc hi.un (fun cl C s0 H0 fp=>(hg cl C s0 H0 fp).un) hgk (fun cl C s0 H0 fp=>(ht cl C s0 H0 fp).un) (fun cl C s0 H0 fp=>(he cl C s0 H0 fp).un) hcap hkind hcell hnames hfr hs⟩
theorem zdj{i:Nat}{y:Str}{py spos:Pos}(hN:X.N.Nodup)(hiy:X.N[i]?=some y)(hy:X.env.scope.names.lookup y=some .local)(hc:X.calm=true)(hi:QI X tg iter wi)(hg:∀ cl C s0 H0 fp,QG (zaK X N scope cl C s0 H0 fp) tg g)(hgk:zfb caps g)(ht:∀ cl C s0 H0 fp,QTs (zaK X N scope cl C s0 H0 fp) ifs tt)(he:∀ cl C s0 H0 fp,QE (zaK X N scope cl C s0 H0 fp) elt te)(hsw:N4 (.ListComp elt [⟨tg,iter,ifs,0⟩] scope pos) (some (.Name y py)) spos.line X.env=pure true:=by rfl)(hcap:capOk N X.N scope X.env.scope caps=true:=by rfl)(hkind:scope.kind=.function:=by rfl)(hcell:scope.names.all (fun p=>p.2 != .cell)=true:=by rfl)(hnames:scope.names.all (fun p=>p.2 != .local||scope.names.lookup p.1 == some .local)=true:=by rfl)(hfr:scope.names.all (fun p=>p.2 != .free||(X.env.scope.names.lookup p.1 == some .cell||X.env.scope.names.lookup p.1 == some .free))=true:=by rfl)(hs:∀ x,Zk iter X.env x=pure x:=by intro _; rfl):QS X (.Assign [.Name y py] (.ListComp elt [⟨tg,iter,ifs,0⟩] scope pos) spos) (zgd (tLC caps wi g tt te) (zbo i)):=⟨L2.zkl hN hiy hy hc hi.un (fun cl C s0 H0 fp=>(hg cl C s0 H0 fp).un) hgk (fun cl C s0 H0 fp=>(ht cl C s0 H0 fp).un) (fun cl C s0 H0 fp=>(he cl C s0 H0 fp).un) hsw hcap hkind hcell hnames hfr hs⟩
end
section
variable {K:jd}
theorem zka{es:List Q0}{k:Nat}{t:TGs}{n:Nat}{pos:Pos}(hK:X.K=K)(hc:X.calm=true)(h:QGs X es t)(hn:(Q5 es X.env).length=n:=by rfl)(hst:(Q5 es X.env).findIdx? (·.1)=none:=by rfl):QG X (.Tuple es k pos) (zjl K n t):=⟨L2.zm5 hK hc h.un hn hst⟩
end
section
theorem zlO{es:List Q0}{k:Nat}{t:TGs}{n:Nat}(hc:X.calm=true)(h:QGs X es t)(hn:(Q5 es X.env).length=n:=by rfl)(hst:(Q5 es X.env).findIdx? (·.1)=none:=by rfl):QG X (.Tuple es k pos) (zqi X.K n t):=⟨L2.znP hc h.un hn hst⟩
end
section
variable [TheK]
variable {b:Q0}
theorem qne(h:QE X e (cE .n M fa)):QE X e (cE .e M fa):=⟨L3.ne h.un⟩
theorem qeb(h:QE X e (cE .e M fa)):QE X e (cE .b M fa):=⟨L3.eb h.un⟩
theorem qnb(h:QE X e (cE .n M fa)):QE X e (cE .b M fa):=⟨L3.nb h.un⟩
theorem qv_{i:Nat}(hi:M.contains i=false)(h:QE X e (zdM i)):QE X e (cE .e M (dV i)):=⟨have h:=h.un;weak h fun σ H Q h_=>cE_ h_ fun F O s t s' R hf q=>by
 obtain⟨e1,rfl⟩:=zjw hf;obtain⟨v,h1,h2⟩:=R.val i t e1 (by simpa using hi)
 exact⟨v,h1,q v H .refl ⟨R,h2⟩⟩⟩
theorem zh6{i:Nat}(hi:M.contains i=true)(h:QE X e (zdM i)):QE X e (cE .b M (dV i)):=⟨have h:=h.un;weak h fun σ H Q h_=>cE_ h_ fun F O s t s' R hf q=>by
 obtain⟨e1,rfl⟩:=zjw hf;obtain⟨a,h1,h2⟩:=R.own i t e1 (by simpa using hi)
 exact⟨_,h1,q _ H .refl ⟨R,.inr ⟨i,by simpa using hi,h1,e1⟩⟩⟩⟩
theorem qi_{i j pos}:QE X (.Constant (.int i) j pos) (cE .e M (dC (.int i))):=⟨zmA (fun _ _=>.int i) znX⟩
theorem zkh{i j pos}:QE X (.Constant (.bool i) j pos) (cE .e M (dC (.bl i))):=⟨zmA (fun _ _=>.bl i) zq3⟩
theorem ziC{i j pos}:QE X (.Constant (.str i) j pos) (cE .e M (dC (.str i))):=⟨zmA (fun _ _=>.str i) znT⟩
end
section
variable [TheK]
variable {b:Q0}
theorem zkQ(ha:QE X a (cE .e M fa))(hb:QE X b (cE .b M fb)):QE X (.BinOp a .Sub b pos) (cE .e M (d2 gSb fa fb)):=⟨have ha:=ha.un;have hb:=hb.un;weak (zdS znY ha hb) (zbm zrA)⟩
theorem zc4(ha:QE X a (cE .e M fa))(hb:QE X b (cE .b M fb)):QE X (.BinOp a .Mult b pos) (cE .e M (d2 zgC fa fb)):=⟨have ha:=ha.un;have hb:=hb.un;weak (zdS zo1 ha hb) (zbm (s_I fun i j h=>by
 unfold zge at h;rw[Q4,decide_eq_true_iff,decide_eq_true_iff] at h
 exact h))⟩
theorem zdl(ha:QE X a (cE .e M fa))(hb:QE X b (cE .b M fb)):QE X (.BinOp a .FloorDiv b pos) (cE .e M (d2 zhm fa fb)):=⟨have ha:=ha.un;have hb:=hb.un;weak (zdS zm9 ha hb) (zbm (s_I fun i j h=>of_decide_eq_true (p:=0 < j/\j < 1073741824) h))⟩
theorem zaY(ha:QE X a (cE .e M fa))(hb:QE X b (cE .b M fb)):QE X (.BinOp a .Mod b pos) (cE .e M (d2 zcT fa fb)):=⟨have ha:=ha.un;have hb:=hb.un;weak (zdS zo2 ha hb) (zbm (s_I fun i j h=>of_decide_eq_true h))⟩
theorem znE(ha:QE X a (cE .e M fa))(hb:QE X b (cE .b M fb)):QE X (.BinOp a .LShift b pos) (cE .e M (d2 zoT fa fb)):=⟨have ha:=ha.un;have hb:=hb.un;weak (zdS zo0 ha hb) (zbm (s_I fun i j h=>of_decide_eq_true (p:=0<=j/\j<=1000000/\i.natAbs < 2 ^ 64) h))⟩
theorem znD(ha:QE X a (cE .e M fa))(hb:QE X b (cE .b M fb)):QE X (.BinOp a .RShift b pos) (cE .e M (d2 zom fa fb)):=⟨have ha:=ha.un;have hb:=hb.un;weak (zdS znZ ha hb) (zbm (s_I fun i j h=>of_decide_eq_true h))⟩
end
section
variable [TheK]
variable {b:Q0}
theorem zkd(hu:X.A.units+8 < gO)(ha:QE X a (cE .e M fa))(hb:QE X b (cE .b M fb)):QE X (.Compare a [.Eq] [b] pos) (cE .e M (d2 gEq fa fb)):=⟨have ha:=ha.un;have hb:=hb.un;weak (zm7 (zkW hu) ha hb (zeb _)) (zbm zqI)⟩
end
section
variable [TheK]
variable {b:Q0}{ft fu:DT}{k:Kd}
theorem zfy(h:QE X a (cE .b M fa))(he:∀ whole,isTrue a X.env whole=(do let v <-whole; standAt a.pos; YA [v] (truthy v)):=by intro _; rfl):QT X a (cT M (zla fa)):=⟨have h:=h.un;zdO (zki h he) (by
 intro σ H Q h_;refine cT_ h_ fun F O s b s' R hf q=>?_;obtain⟨p,h1,h2⟩:=Qb hf;obtain⟨b',h3,h4⟩:=Qm h2;injection h4 with h4 h5;subst h4 h5
 exact⟨F,O,s,p.1,p.2,R,h1,fun v H' S po=>⟨b',zlq po.view h3,q H' S po.1⟩⟩)⟩
theorem zk9(hu:X.A.units+8 < gO)(ha:QE X a (cE .e M fa))(hb:QE X b (cE .b M fb)):QT X (.Compare a [.Eq] [b] pos) (cT M (dB (d2 gEq fa fb))):=⟨have ha:=ha.un;have hb:=hb.un;zdO (zcr (zkW hu) ha hb (zeb _)) (tst (zbm zqI))⟩
theorem zpT(hu:X.A.units+8 < gO)(ha:QE X a (cE .e M fa))(hb:QE X b (cE .b M fb)):QT X (.Compare a [.NotEq] [b] pos) (cT M (dB (d2 gNe fa fb))):=⟨have ha:=ha.un;have hb:=hb.un;zdO (zcr (zkV hu) ha hb (zeb _)) (tst (zbm zqG))⟩
theorem zny{i:Nat}(hi:M.contains i=true)(hu:X.A.units+8 < gO)(ha:QE X a (zdM i))(hb:QE X b (cE .b M fb)):QT X (.Compare a [.NotEq] [b] pos) (cT M (dB (d2v gNe i fb))):=⟨have ha:=ha.un;have hb:=hb.un;zdO (zcr (zkV hu) ha hb (zeb _)) (tst (zig hi zqG))⟩
theorem znz(ha:QE X a (cE .e M fa))(hb:QE X b (cE .b M fb)):QT X (.Compare a [.Lt] [b] pos) (cT M (dB (d2 gLt fa fb))):=⟨have ha:=ha.un;have hb:=hb.un;zdO (zcr (op_lt.or ziQ) ha hb (zeb _)) (tst (zbm zpN))⟩
theorem zpU(ha:QE X a (cE .e M fa))(hb:QE X b (cE .b M fb)):QT X (.Compare a [.Gt] [b] pos) (cT M (dB (d2 gGt fa fb))):=⟨have ha:=ha.un;have hb:=hb.un;zdO (zcr zq5 ha hb (zeb _)) (tst (zbm zrz))⟩
theorem zkO(h:QT X a (cT M ft)):QT X (.UnaryOp .Not a pos) (cT M (zoV ft)):=⟨have h:=h.un;zdO (znI h) (by
 intro σ H Q h_;refine cT_ h_ fun F O s b s' R hf q=>?_;obtain⟨p,h1,h2⟩:=Qm hf;cases h2
 exact⟨F,O,s,p.1,p.2,R,h1,fun H' S R'=>q H' S R'⟩)⟩
theorem znF{op}(h:QE X a (cE .e M fa)):QE X (.BoolOp op [a] pos) (cE .e M fa):=⟨have h:=h.un;znU h⟩
theorem zpX{zc2:List Q0}(ha:QE X a (cE .e M fa))(hb:QE X (.BoolOp .Or (b::zc2) pos) (cE .e M fb)):QE X (.BoolOp .Or (a::b::zc2) pos) (cE .e M (zqu fa fb)):=⟨have ha:=ha.un;have hb:=hb.un;weak (zq0 ha hb) (by
 intro σ H Q h_;refine cE_ h_ fun F O s t s' R hf q=>?_;obtain⟨p,h1,h2⟩:=Qb hf;refine⟨F,O,s,.bl p.1,p.2,R,zgI h1,fun v H' S po=>⟨p.1,BRep.bl (.inl po.2),?_⟩⟩;split at h2
 ·rename_i hp;rw[Ip_ hp];cases h2;exact q _ H' S ⟨po.1,.bl true⟩
 ·rename_i hp;rw[In_ hp]
  exact⟨F,O,p.2,t,s',po.1,h2,fun w H2 S2 p2=>q w H2 (S.trans S2) p2⟩)⟩
end
section
variable [TheK]
variable {fa:DA}
theorem za2 :QA X [] (cA M dAn):=⟨zmW zbO (by
 rintro σ H Q ⟨F,O,s,ts,s',R,hf,q⟩;cases hf
 exact q [] H .refl R .nil)⟩
theorem qa_(h:QE X e (cE .e M fe))(ha:QA X es (cA M fa))(hs:jj (e::es) X.env=(false,eval e X.env)::jj es X.env:=by rfl):QA X (e::es) (cA M (dAc fe fa)):=⟨have h:=h.un;have ha:=ha.un;zmW (zb0 h ha hs) (by
 rintro σ H Q ⟨F,O,s,ts,s',R,hf,q⟩;obtain⟨p,h1,h2⟩:=Qb hf;obtain⟨r,h3,h4⟩:=Qm h2;cases h4;refine⟨F,O,s,p.1,p.2,R,h1,fun v H1 S1 p1=>⟨F,O,p.2,r.1,r.2,p1.1,h3,fun vs H2 S2 R2 rs=>?_⟩⟩
 exact q _ H2 (S1.trans S2) R2 (.cons (p1.1.stay S2 p1.2) rs))⟩
theorem zbN(h:QA X es (cA M fa)):QE X (.List es pos) (cE .n M (zhs fa)):=⟨have h:=h.un;weak (znV h) (by
 intro σ H Q h_;refine cE_ h_ fun F O s t s' R hf q=>?_;obtain⟨p,h1,h2⟩:=Qb hf;split at h2
 ·rename_i hl;cases h2;refine⟨F,O,s,p.1,p.2,R,h1,fun vs H1 S1 R1 rs=>⟨by rw[rs.1]; exact hl,fun a ha=>?_⟩⟩
  exact q _ _ (S1.trans (.new ha _)) (.mkN R R1 S1 ha fun C hC=>.lst zab (rs.there.mono hC fun c o _ e=>by rw[za7 (za3 e ha)]; exact e))
 ·cases h2)⟩
theorem ziB{x1}(h:QA X es (cA M fa)):QE X (.Tuple es x1 pos) (cE .e M (zmE fa)):=⟨have h:=h.un;weak (znS h) (by
 intro σ H Q h_;refine cE_ h_ fun F O s t s' R hf q=>?_;obtain⟨p,h1,h2⟩:=Qb hf;split at h2
 ·rename_i hl;cases h2;refine⟨F,O,s,p.1,p.2,R,h1,fun vs H1 S1 R1 rs=>⟨by rw[rs.1]; exact hl,fun a ha=>?_⟩⟩
  refine q _ _ (S1.trans (.new ha _)) (.mkE R1 ha fun C hC hp=>?_);have:=rs.there.mono (C':=C) (H':=upd H1 a (.tup vs)) hC fun c o _ e=>by rw[za7 (za3 e ha)]; exact e
  exact .tup hp zab this.1 this.2
 ·cases h2)⟩
end
section
variable [TheK]
variable {lo hi:Option Q0}{fl fh:DO}
theorem zaw :QO X none (cO M dOn):=⟨fun pc s σ H Q I h=>by
 obtain⟨F,O,s',t,s'',R,hf,q⟩:=h;cases hf
 exact zlZ pc s σ H Q I (q H .refl R)⟩
theorem zak(h:QE X e (cE .e M fe)):QO X (some e) (cO M (dOs fe)):=⟨have h:=h.un;fun pc s σ H Q I hw=>by
 obtain⟨F,O,s',t,s'',R,hf,q⟩:=hw;obtain⟨⟨t',s1⟩,h1,h2⟩:=Qb hf;cases t'<;>simp at h2
 rename_i i;obtain⟨h2,h3⟩:=h2;subst h2 h3
 exact zlY h pc s σ H Q I ⟨F,O,s',.int i,s1,R,h1,fun v H' S p=>⟨i,BRep.int (.inl p.2),q H' S p.1⟩⟩⟩
theorem zkR{i:Nat}(hK:X.K=TheK.K)(hi':M.contains i=true)(he:QE X e (zdM i))(hl:QO X lo (cO M fl))(hu:QO X hi (cO M fh)):QE X (.Subscript e (.Slice lo hi none p2) pos) (cE .n M (zow gSl i fl fh)):=⟨have he:=he.un;have hl:=hl.un;have hu:=hu.un;weak (zeT (hK▸zin) he hl hu) (zpJ hi' zqF)⟩
end
section
variable [TheK]
variable {F:Fr}{O O' O'':jo->Prop}{s s':Sg}{σ:L2.St}{H H' H'':Hp}{v:V}{t:T}{a:jo}
theorem zh3{X:Cx}{st:ZU}{d:DS}{Mx:List Nat}(h:QS X st (cS rk io M' Mx Mb d))(hM:M'.all (M.contains ·)=true:=by rfl)(hio:io.all (M'.contains ·)=true:=by rfl):QS X st (cS rk io M Mx Mb d):=⟨have h:=h.un;zcm h (by
 intro D σ H h_;refine cS_ h_ fun F O s r R I hd q=>?_;obtain⟨O',w,R',I'⟩:=R.freeze I (zbq hM) (zbq hio)
 exact⟨F,O',s,r,R',I',hd,q.more ⟨fun b o n h=>⟨h,fun z=>n (w b z)⟩,fun _ h=>h⟩⟩)⟩
end
section
variable [TheK]
variable {M'':List Nat}{sts:List ZU}{a b:List ZU}{d d':DS}{ft:DT}{pos':Pos}
theorem zaS :QSs X [] (cS rk io M M Mb zb1):=⟨zkE zlW (by
 intro D σ H h_;refine cS_ h_ fun F O s r R I hd q=>?_;cases hd
 exact q O σ H .refl R I)⟩
theorem za5(h:QS X st (cS rk io M M' Mb d)):QSs X [st] (cS rk io M M' Mb d):=⟨have h:=h.un;zlV h⟩
theorem qs_(h:QS X st (cS rk io M M' Mb d))(h2:QSs X sts (cS rk io M' M'' Mb d')):QSs X (st::sts) (cS rk io M M'' Mb (zao d d')):=⟨have h:=h.un;have h2:=h2.un;zkE (zkj h h2) (by
 intro D σ H h_;refine cS_ h_ fun F O s r R I hd q=>?_;obtain⟨r1,h1,h2⟩:=Qb hd;refine⟨F,O,s,r1,R,I,h1,?_⟩;cases r1 with
 |nx s1=>exact fun O1 σ1 H1 k1 R1 I1=>⟨F,O1,s1,r,R1,I1,h2,q.more k1⟩
 |bk s1=>injection h2 with h2; subst h2; exact q
 |ct s1=>injection h2 with h2; subst h2; exact q
 | rt t s1=>injection h2 with h2; subst h2; exact q)⟩
theorem zcL(hc:QT X c (cT M ft))(ha:QSs X a (cS rk io M M' Mb d))(hb:QSs X b (cS rk io M M' Mb d')):QS X (.If c a b pos) (cS rk io M M' Mb (zdN ft d d')):=⟨have hc:=hc.un;have ha:=ha.un;have hb:=hb.un;zcm (zpY hc ha hb) (by
 intro D σ H h_;refine cS_ h_ fun F O s r R I hd q=>?_;obtain⟨p,h1,h2⟩:=Qb hd;refine⟨F,O,s,p.1,p.2,R,h1,fun H1 S1 R1=>?_⟩;have k:=S1.keepO R;dsimp only;split at h2
 ·rename_i hp;rw[Ip_ hp];exact⟨F,O,p.2,r,R1,I,h2,q.more k⟩
 ·rename_i hp;rw[In_ hp]
  exact⟨F,O,p.2,r,R1,I,h2,q.more k⟩)⟩
theorem zae{i:Nat}(h:QS X st (zgd (cE .e M fe) (zbo i)))(hM:znn M M' io i=true:=by rfl):QS X st (cS rk io M M' Mb (zaT i fe)):=⟨have h:=h.un;zcm h (by
 unfold znn at hM;rw[jw,jw,jw] at hM;obtain⟨⟨⟨m1,m2⟩,m3⟩,m4⟩:=hM;intro D σ H h_;refine cS_ h_ fun F O s r R I hd q=>?_;obtain⟨p,h1,h2⟩:=Qb hd;split at h2
 ·rename_i hi;cases h2;refine⟨F,O,s,p.1,p.2,R,h1,fun v H1 S1 p1=>?_⟩;refine q O _ H1 (S1.keepO R) (p1.1.setE (fun j hj=>?_) (fun j hj=>?_) hi p1.2) (I.set (by simpa using m3) (zbq m4))
  ·simpa using jx.mp m1 j hj
  ·simpa using jx.mp m2 j hj
 ·cases h2)⟩
theorem zaX{i:Nat}(h:QS X st (zgd (cE .n M fe) (zbo i)))(hM:znm M M' io i=true:=by rfl):QS X st (cS rk io M M' Mb (zaT i fe)):=⟨have h:=h.un;zcm h (by
 unfold znm at hM;rw[jw,jw,jw,jw] at hM;obtain⟨⟨⟨⟨m1,m2⟩,m5⟩,m3⟩,m4⟩:=hM;intro D σ H h_;refine cS_ h_ fun F O s r R I hd q=>?_;obtain⟨p,h1,h2⟩:=Qb hd;split at h2
 ·rename_i hi;cases h2;refine⟨F,O,s,p.1,p.2,R,h1,fun v H1 S1 p1=>?_⟩;obtain⟨a,rfl,h0,R1,L⟩:=p1;have k:KeepO O H (fun b=>O b∨b=a) H1:=⟨fun b o n h=>⟨S1.keep b o (R.notOwned n) h,fun z=>z.elim n fun z=>by rw[z,h0] at h; cases h⟩,S1.dom⟩
  refine q _ _ H1 k (R1.setN (fun j hj=>?_) (fun j hj=>?_) hi (by simpa using m5) (.inr rfl) (fun j hj _ e=>R.al a (R.ow j a hj e) h0) L) (I.set (by simpa using m3) (zbq m4))
  ·simpa using jx.mp m1 j hj
  ·simpa using jx.mp m2 j hj
 ·cases h2)⟩
theorem zix{k:Kd}(hk:k=.e∨k=.b)(he:QE X e (cE k M fe))(hs:N4 e none pos.line X.env=pure false:=by rfl):QS X (.Expr e pos) (cS rk io M M Mb (dDo fe)):=⟨have he:=he.un;zcm (zlX he hs) (by
 intro D σ H h_;refine cS_ h_ fun F O s r R I hd q=>?_;obtain⟨p,h1,h2⟩:=Qm hd;subst h2;refine⟨F,O,s,p.1,p.2,R,h1,fun v H1 S1 p1=>?_⟩;rcases hk with rfl |rfl
 ·exact q O σ H1 (S1.keepO R) p1.1 I
 ·exact q O σ H1 (S1.keepO R) p1.1 I)⟩
theorem zai(he:QE X e (cE .e M fe)):QS X (.Return (some e) pos) (cS .e io M M' Mb (zap io fe)):=⟨have he:=he.un;zcm (zkS he) (by
 intro D σ H h_;refine cS_ h_ fun F O s r R I hd q=>?_;obtain⟨p,h1,h2⟩:=Qb hd;split at h2
 ·rename_i hh;cases h2;exact⟨F,O,s,p.1,p.2,R,h1,fun v H1 S1 p1=>q v H1 (zpS p1.1 I (hasAll.get hh) p1.2)⟩
 ·cases h2)⟩
theorem zlM(he:QE X e (cE .n M fe)):QS X (.Return (some e) pos) (cS .n io M M' Mb (zap io fe)):=⟨have he:=he.un;zcm (zkS he) (by
 intro D σ H h_;refine cS_ h_ fun F O s r R I hd q=>?_;obtain⟨p,h1,h2⟩:=Qb hd;split at h2
 ·rename_i hh;cases h2;refine⟨F,O,s,p.1,p.2,R,h1,fun v H1 S1 p1=>?_⟩;obtain⟨a,rfl,h0,R1,L⟩:=p1;exact q _ H1 (zpR R1 I (hasAll.get hh) (.inr rfl) (R.dom a h0) (fun z=>R.al a (R.inD a z) h0) L)
 ·cases h2)⟩
end
section
variable [TheK]
variable {fk fv:DE}
theorem zeO{i:Nat}(hi:M.contains i=true)(h:QS X st (zgd (cE .e M fv) (zqj (zdM i) (cE .e M fk) znx))):QS X st (cS rk io M M Mb (zfU i fk fv)):=⟨have h:=h.un;zcm h (by
 intro D σ H h_;refine cS_ h_ fun F O s r R I hd q=>?_;have hi':i∈M:=by simpa using hi
 obtain⟨p,h1,hd⟩:=Qb hd;obtain⟨t0,h0,hd⟩:=Qb hd;obtain⟨⟨w1,w2⟩,h2,hd⟩:=Qb hd;obtain⟨t1,h3,hd⟩:=Qb hd;obtain⟨xs,rfl⟩:∃ xs,t1=.lst xs:=by cases t1<;>first |exact⟨_,rfl⟩ |cases hd
 obtain⟨k,rfl⟩:∃ k,w1=.int k:=by cases w1<;>first |exact⟨_,rfl⟩ |cases hd
 obtain⟨j,h4,h6⟩:=Qm hd;subst h6;refine⟨F,O,s,p.1,p.2,R,h1,fun v H1 S1 p1=>?_⟩;obtain⟨a,e1,_⟩:=p1.1.own i t0 (zad h0) hi';refine⟨_,e1,F,O,p.2,_,_,p1.1,h2,fun y H2 S2 p2=>?_⟩;obtain⟨b,e2,L⟩:=p2.1.own i _ (zad h3) hi';rw[e1] at e2;injection e2 with e2;cases e2;have ne:=L.ne;obtain⟨vs,hr,hk⟩:=L.lst';obtain rfl:y=.int k:=BRep.int (.inl p2.2);refine⟨a,vs,k,j,rfl,rfl,hr,by rw[hk.1]; exact h4,?_⟩
 have rv:=p1.1.stay S2 p1.2;have R2:=p2.1.write (t':=.lst (xs.set j p.1)) hi' e1 (zad h3) (fun Hx kx ex=>.lst ex ((hk.set j rv).mono (fun _ c=>c) kx))
 exact q O σ _ (((S1.trans S2).trans (.write hi' e1 ne)).keepO R) R2 I)⟩
theorem znB{i:Nat}{fe:DE}(hi:M.contains i=false)(h:QS X st (zpH i (cE .e M fe) (ipI fun i j=>i+j)))(hio:io.all (M.contains ·)=true:=by rfl):QS X st (cS rk io M M Mb (zqv i fe)):=⟨have h:=h.un;zcm h (by
 intro D σ H h_;refine cS_ h_ fun F O s r R I hd q=>?_;have hi':i∉M:=by simpa using hi
 obtain⟨x,h0,hd⟩:=Qb hd;obtain⟨⟨p1,p2⟩,h1,hd⟩:=Qb hd;obtain⟨a,rfl⟩:∃ a,x=.int a:=by cases x<;>first |exact⟨_,rfl⟩ |cases hd
 obtain⟨b,rfl⟩:∃ b,p1=.int b:=by cases p1<;>first |exact⟨_,rfl⟩ |cases hd
 cases hd;obtain⟨v,e1,r1⟩:=R.val i _ (zad h0) hi';obtain rfl:v=.int a:=BRep.int (.inl r1);refine⟨_,e1,F,O,s,_,_,R,h1,fun y H1 S1 po=>?_⟩;obtain rfl:y=.int b:=BRep.int (.inl po.2);have hl:=(j5.mp (zad h0)).1;have hl2:i < p2.length:=by rw[po.1.len,<-R.len]; exact hl
 refine⟨a,b,rfl,rfl,q O _ H1 (S1.keepO R) (po.1.setE (fun j hj=>⟨hj,fun z=>hi' (z▸hj)⟩) (fun j hj=>.inl hj) hl2 (.int _)) (I.set (fun z=>hi' ((zbq hio) i z)) (zbq hio))⟩)⟩
theorem znA{is:List Nat}{n:Nat}{K:jd}{fe:DE}(h:QS X st (zgd (cE .e M fe) (fun v σ H Q=>zqi K n (gsN is) v σ H Q∨zjl K n (gsN is) v σ H Q)))(hn:is.length=n)(hm:is.all (fun i=>!M.contains i)=true)(hio:io.all (M.contains ·)=true):QS X st (cS rk io M M Mb (dUn is fe)):=⟨have h:=h.un;zcm h (by
 intro D σ H h_;refine cS_ h_ fun F O s r R I hd q=>?_;obtain⟨⟨p1,p2⟩,h1,hd⟩:=Qb hd;obtain⟨ts,h2,hd⟩:=Qb hd;obtain⟨s2,h3,hd⟩:=Qm hd;subst hd;have hl:∀ {is:List Nat} {ts:List T} {s s':Sg},zaU is ts s=some s'->ts.length=is.length:=by
  intro is
  induction is with
  |nil=>intro ts s s' e; cases ts with
   |nil=>rfl
   |cons=>cases e
  |cons i is ih=>intro ts s s' e; cases ts with
   |nil=>cases e
   |cons t ts=>
    unfold zaU at e;split at e
    ·rw[jl,jl,ih e]
    ·cases e
 have hmm:∀ i,i∈is->i∉M:=fun i hi=>by simpa using jx.mp hm i hi
 refine⟨F,O,s,p1,p2,R,h1,fun v H1 S1 po=>?_⟩;cases p1<;>simp[zhf] at h2
 ·subst h2;obtain⟨a,vs,rfl,ha,ra⟩:=BRep.lst (.inl po.2);exact .inl ⟨a,vs,rfl,SqL.of ha,by rw[ra.1,hl h3,hn],zeA po.1 I hmm (zbq hio) ra h3 fun σ' R' I'=>q O σ' H1 (S1.keepO R) R' I'⟩
 ·subst h2;obtain⟨a,vs,rfl,ha,ra⟩:=BRep.tup (.inl po.2)
  exact .inr ⟨a,vs,rfl,SqT.of ha,by rw[ra.1,hl h3,hn],zeA po.1 I hmm (zbq hio) ra h3 fun σ' R' I'=>q O σ' H1 (S1.keepO R) R' I'⟩)⟩
end
section
variable [TheK]
variable {fa:DA}
theorem zbt{a:Q0}{p pos:Pos}(hg:Gl X "range")(hm:X.mg "range"=none)(ha:QA X [a] (cA M fa))(hs:jj [a] X.env=[(false,eval a X.env)]:=by rfl):QI X tg (.Call (.Name "range" p) [a] [] pos) (cI M (zjP fa)):=⟨have ha:=ha.un;zen (ziK hg hm ha hs) (by
 intro σ H R h_;refine cI_ h_ fun F O s its s' Rl hf q=>?_;obtain⟨⟨p1,p2⟩,h1,h2⟩:=Qb hf;refine⟨F,O,s,p1,p2,Rl,h1,fun vs H1 S1 R1 rs=>?_⟩;dsimp only at h2;split at h2
 case h_2=>cases h2
 ·rename_i j;have h2:=h2;split at h2
  ·rename_i hj;have hj:=zcP hj;cases h2;obtain⟨v,rfl,rv⟩:=rs.one;obtain rfl:v=.int j:=BRep.int (.inl rv);exact⟨j,rfl,hj.1,hj.2,q _ H1 S1 R1 zhg⟩
  ·cases h2)⟩
theorem ziA{a b:Q0}{p pos:Pos}(hg:Gl X "range")(hm:X.mg "range"=none)(ha:QA X [a,b] (cA M fa))(hs:jj [a,b] X.env=[(false,eval a X.env),(false,eval b X.env)]:=by rfl)(hs2:jj [b] X.env=[(false,eval b X.env)]:=by rfl):QI X tg (.Call (.Name "range" p) [a,b] [] pos) (cI M (zox fa)):=⟨have ha:=ha.un;zen (ziJ hg hm ha hs hs2) (by
 intro σ H R h_;refine cI_ h_ fun F O s its s' Rl hf q=>?_;obtain⟨⟨p1,p2⟩,h1,h2⟩:=Qb hf;refine⟨F,O,s,p1,p2,Rl,h1,fun vs H1 S1 R1 rs=>?_⟩;dsimp only at h2;split at h2
 case h_2=>cases h2
 ·rename_i i j;have h2:=h2;split at h2
  ·rename_i hj;have hj:-(2 ^ 62)<=i/\i < 2 ^ 62/\-(2 ^ 62)<=j/\j < 2 ^ 62:=⟨(zcP hj.1).1,(zcP hj.1).2,zcP hj.2⟩;cases h2
   match vs,rs with
   |v::vs,rs=>
    obtain⟨u,rfl,ru⟩:=rs.tail.one;obtain rfl:v=.int i:=BRep.int (.inl rs.head);obtain rfl:u=.int j:=BRep.int (.inl ru);exact⟨i,j,rfl,hj,q _ H1 S1 R1 zhg⟩
   |[],rs=>exact absurd rs.1 (by simp)
  ·cases h2)⟩
theorem zlP{elts:List Q0}{x1:Nat}{tp:Pos}{a:Q0}{p pos:Pos}(hg:Gl X "enumerate")(hm:X.mg "enumerate"=none)(ha:QA X [a] (cA M fa))(hs:jj [a] X.env=[(false,eval a X.env)]:=by rfl):QI X (.Tuple elts x1 tp) (.Call (.Name "enumerate" p) [a] [] pos) (cI M (dEn fa)):=⟨have ha:=ha.un;zen (zm2 hg hm ha hs) (by
 intro σ H R h_;refine cI_ h_ fun F O s its s' Rl hf q=>?_;obtain⟨⟨p1,p2⟩,h1,h2⟩:=Qb hf;refine⟨F,O,s,p1,p2,Rl,h1,fun vs H1 S1 R1 rs=>?_⟩;dsimp only at h2;split at h2
 case h_2=>cases h2
 ·rename_i xs;cases h2;obtain⟨v,rfl,rv⟩:=rs.one;cases rv with
  |@lst a us _ c r l h=>
   refine⟨a,rfl,⟨us,SqL.of r⟩,q _ H1 S1 R1 ?_⟩;intro H2 k i;have h2:=k a _ c r;have hlen:(zgF xs).length=us.length:=by unfold zgF; rw[ja,ZS,l]
   refine⟨fun t ht=>?_,fun hl=>⟨us,SqL.of h2,by rw[<-hlen]; exact hl⟩⟩
   have hi:i < us.length:=by rw[<-hlen]; exact(j5.mp ht).1
   have hx:i < xs.length:=by rw[<-l]; exact hi
   have et:t=.tup [.int i,xs[i]]:=by
    unfold zgF at ht;rw[jc,Qe hx] at ht;have:=je ht;rw[<-this];simp[List.getD,j3 hx]
   subst et;refine⟨⟨us,us[i],SqL.of h2,j3 hi⟩,fun x H3 ⟨p',x',e1,e2,e3,e4⟩=>⟨.inr ⟨p',_,e2,e3⟩,?_⟩⟩;have:=e4 us (SqL.of h2);rw[j3 hi] at this;obtain rfl:us[i]=x':=je this;subst e1 e3;have ri:=h i _ _ (j3 hi) (j3 hx);have ri2:Rep (fun b=>(Free F O b/\H1 b≠none)∨H2 b=none) (upd H2 p' (.tup [.int i,us[i]])) us[i] xs[i]:=
    ri.there.mono (fun b c=>.inl c) fun b o c e=>by rw[za7 (za3 (k b o c.1 e) e2)]; exact k b o c.1 e
   have rr:Reps (fun b=>(Free F O b/\H1 b≠none)∨H2 b=none) (upd H2 p' (.tup [.int i,us[i]])) [.int i,us[i]] [.int i,xs[i]]:=.cons (.int _) (.cons ri2 .nil)
   exact .tup (.inr e2) zab rr.1 rr.2)⟩
end
section
variable [TheK]
variable {iter:Q0}{body:List ZU}{fi:DI}{g:DG}{db:DS}
theorem zbu{i:Nat}(h:QG X tg (zbo i))(hi:M.contains i=false:=by rfl)(hio:io.all (M.contains ·)=true:=by rfl):QG X tg (cG io M (dGn i)):=⟨have h:=h.un;zmV h (gn hi hio)⟩
theorem znC{is:List Nat}{n:Nat}{K:jd}(h:QG X tg (zjl K n (gsN is)))(hn:is.length=n:=by rfl)(hm:is.all (fun i=>!M.contains i)=true:=by rfl)(hio:io.all (M.contains ·)=true:=by rfl):QG X tg (cG io M (dGt is)):=⟨have h:=h.un;zmV h (gt hn hm hio)⟩
theorem zc3(h:QS X (.For tg iter body [] pos) (zoL (cI M fi) (cG io M g) (cS rk io M M M db))):QS X (.For tg iter body [] pos) (cS rk io M M Mb (zf3 fi g db)):=⟨have h:=h.un;zcm h zop⟩
theorem zeN{c:Q0}{ft:DT}(n:Nat)(hp:WF (jF X.prog X.w) X.A X.env X.xe)(hc:QT X c (cT M ft))(hb:QSs X body (cS rk io M M M db)):QS X (.While c body [] pos) (cS rk io M M Mb (zb7 ft db n)):=⟨have hc:=hc.un;have hb:=hb.un;zcm (zkk hp hc hb) zjR⟩
end
section
variable [TheK]
variable {b:Q0}
theorem zbe(hK:X.K=TheK.K)(hu:X.A.units+1 < gO)(ha:QE X a (cE .e M fa))(hb:QE X b (cE .b M fb))(hs:zdL b):QE X (.Subscript a b pos) (cE .e M (d2 zau fa fb)):=⟨have ha:=ha.un;have hb:=hb.un;weak (zoP (zrM hK ha hb hs) (zqo hu ha hb hs)) (zhr zmF idE idE)⟩
theorem zbC{i:Nat}(hK:X.K=TheK.K)(hi:M.contains i=true)(hu:X.A.units+1 < gO)(ha:QE X a (zdM i))(hb:QE X b (cE .b M fb))(hs:zdL b):QE X (.Subscript a b pos) (cE .e M (d2v zau i fb)):=⟨have ha:=ha.un;have hb:=hb.un;weak (zoP (zqn hK hi ha hb hs) (zou hi hu ha hb hs)) (zhr zoy idE idE)⟩
theorem zdi(hu:X.A.units+1 < gO)(ha:QE X a (cE .e M fa))(hb:QE X b (cE .b M fb))(hm:Zv .NotIn b=false):QT X (.Compare a [.NotIn] [b] pos) (cT M (dB (d2 zb6 fa fb))):=⟨have ha:=ha.un;have hb:=hb.un;zdO (zrC (zlr ha hb hm) (zjV hu ha hb hm)) (zmz zmF)⟩
theorem zaa(ha:QE X a (cE .e M fa))(hb:QE X b (cE .b M fb)):QE X (.BinOp a .Add b pos) (cE .e M (d2 zah fa fb)):=⟨have ha:=ha.un;have hb:=hb.un;weak (zoP (zqq ha hb) (zqp ha hb)) (zhr zmF idE neE)⟩
theorem zaJ{lo hi:Option Q0}{fl fh:DO}{p2:Pos}(hK:X.K=TheK.K)(he:QE X e (cE .e M fe))(hl:QO X lo (cO M fl))(hu:QO X hi (cO M fh)):QE X (.Subscript e (.Slice lo hi none p2) pos) (cE .e M (dSl zbL fe fl fh)):=⟨have he:=he.un;have hl:=hl.un;have hu:=hu.un;weak (zoP (zqm he hl hu) (zrL hK he hl hu)) (zhr zov idE neE)⟩
theorem zea{tg:Q0}(hK:X.K=TheK.K)(h:QE X e (cE .e M fe)):QI X tg e (cI M (zjQ fe)):=⟨have h:=h.un;zen (zpZ (zpZ (zol hK h) (zqb h)) (zpZ (zrH h) (zok h))) (by
 intro σ H R h_;refine cI_ h_ fun F O s its s' Rl hf q=>?_;obtain⟨⟨p1,p2⟩,h1,h2⟩:=Qb hf;cases p1 with
 |lst xs=>exact .inl (.inl ⟨F,O,s,its,s',Rl,by unfold dIt; rw[h1]; exact h2,q⟩)
 |scr xs=>exact .inl (.inl ⟨F,O,s,its,s',Rl,by unfold dIt; rw[h1]; exact h2,q⟩)
 |tup xs=>exact .inl (.inr ⟨F,O,s,its,s',Rl,by unfold zqT; rw[h1]; exact h2,q⟩)
 |fd xs=>exact .inr (.inl ⟨F,O,s,its,s',Rl,by unfold zqV; rw[h1]; exact h2,q⟩)
 |str x=>exact .inr (.inr ⟨F,O,s,its,s',Rl,by unfold zqU; rw[h1]; exact h2,q⟩)
 | _=>cases h2)⟩
end
section
variable [TheK]
variable {b:Q0}
variable {fs:DA}{f:jo}{fd:Zh}{np:Nat}
theorem zlR{fn:List T->Option T}(F:FnOk X.prog X.w X.K X.mg X.base CX0 k f fd ps (spP .e np fn))(hr:Room k X.A)(hg:Gl X x)(hm:X.mg x=some (.ref f))(hk:Qx X.K (.ref f)=true)(hb:Binds X.K fd ps [])(ha:QA X (e::es) (cA M fs))(ar:Ar fs np)(hdb:(x == ("__debug__":Str))=false:=by decide)(he:jj (e::es) X.env=(false,eval e X.env)::jj es X.env:=by rfl)(hpl:(Zr pos (jj es X.env)).any (·.1)=false:=by rfl):QE X (.Call (.Name x p) (e::es) [] pos) (cE .e M (zal fn fs)):=⟨have ha:=ha.un;weak (zgr F hr hg hm hk hb .nil zm8 ha hdb he hpl) (zoA ar)⟩
theorem zkf{fn:List T->Option T}(F:FnOk X.prog X.w X.K X.mg X.base CX0 k f fd ps (spP .n np fn))(hr:Room k X.A)(hg:Gl X x)(hm:X.mg x=some (.ref f))(hk:Qx X.K (.ref f)=true)(hb:Binds X.K fd ps [])(ha:QA X (e::es) (cA M fs))(ar:Ar fs np)(hdb:(x == ("__debug__":Str))=false:=by decide)(he:jj (e::es) X.env=(false,eval e X.env)::jj es X.env:=by rfl)(hpl:(Zr pos (jj es X.env)).any (·.1)=false:=by rfl):QE X (.Call (.Name x p) (e::es) [] pos) (cE .n M (zal fn fs)):=⟨have ha:=ha.un;weak (zgr F hr hg hm hk hb .nil zm8 ha hdb he hpl) (zoz ar)⟩
theorem zkg{fn:List T->Option (T × T)}{i:Nat}(hi:M.contains i=true)(F:FnOk X.prog X.w X.K X.mg X.base CX0 k f fd ps (spI .e (np+1) fn))(hr:Room k X.A)(hg:Gl X x)(hm:X.mg x=some (.ref f))(hk:Qx X.K (.ref f)=true)(hb:Binds X.K fd ps [])(h0:QE X e (zdM i))(ha:QA X es (cA M fs))(ar:Ar fs np)(hdb:(x == ("__debug__":Str))=false:=by decide)(he:jj (e::es) X.env=(false,eval e X.env)::jj es X.env:=by rfl)(hpl:(Zr pos (jj es X.env)).any (·.1)=false:=by rfl):QE X (.Call (.Name x p) (e::es) [] pos) (cE .e M (zfV fn i fs)):=⟨have h0:=h0.un;have ha:=ha.un;weak (zgr F hr hg hm hk hb .nil zm8 (zb0 h0 ha he) hdb he hpl) (zmI ar hi)⟩
theorem zaZ(hK:X.K=TheK.K)(hg:Gl X "len")(hm:X.mg "len"=none)(h:QE X e (cE .b M fe))(he:jj [e] X.env=(false,eval e X.env)::jj [] X.env:=by rfl)(hpl:(Zr pos (jj [] X.env)).any (·.1)=false:=by rfl):QE X (.Call (.Name "len" p) [e] [] pos) (cE .e M (d1 zbP fe)):=⟨have h:=h.un; weak (zbD (((hK▸zg6).or zg5).or zjJ) hg hm WW (zb0 h zbO he) (by decide) (by decide) he hpl) (zq6 zpK)⟩
theorem zlQ{e2:Q0}(hc:X.calm=true)(hg:Gl X "min")(hm:X.mg "min"=none)(hv:QZ "min"=some (.builtin "min"))(h:QA X [e,e2] (cA M fs))(he:jj [e,e2] X.env=(false,eval e X.env)::jj [e2] X.env:=by rfl)(hpl:(Zr pos (jj [e2] X.env)).any (·.1)=false:=by rfl):QE X (.Call (.Name "min" p) [e,e2] [] pos) (cE .e M (dA2 zoS fs)):=⟨have h:=h.un; weak (zbD (zjH hc) hg hm hv h (by decide) (by decide) he hpl) zjU⟩
theorem zbv{i:Nat}{o:Q0}{apos:Pos}(hi:M.contains i=true)(h:QE X (.Call (.Attribute o "append" apos) (e::es) [] pos) (tBM X.K "list" zgo (zdM i) (cA M fs))):QE X (.Call (.Attribute o "append" apos) (e::es) [] pos) (cE .e M (zi8 zhc i fs)):=⟨have h:=h.un;weak h (zo7 hi zq7)⟩
theorem zeS{i:Nat}{o:Q0}{apos:Pos}(hi:M.contains i=true)(h:QE X (.Call (.Attribute o "pop" apos) (e::es) [] pos) (tBM X.K "list" ziw (zdM i) (cA M fs))):QE X (.Call (.Attribute o "pop" apos) (e::es) [] pos) (cE .e M (zi8 zbx i fs)):=⟨have h:=h.un;weak h (zo7 hi zme)⟩
theorem zke{o:Q0}{apos:Pos}(h:QE X (.Call (.Attribute o "count" apos) [e] [] pos) (tBM X.K "list" zgn (cE .e M fa) (zfi (cE .b M fe) zlt))):QE X (.Call (.Attribute o "count" apos) [e] [] pos) (cE .e M (d2L zfP fa fe)):=⟨have h:=h.un;weak h (zqP zlI)⟩
theorem zkc{Mi:List Nat}{caps:List (Option Nat)}{fi:DI}{g:TG}{dg:DG}{ft:DT}{tt:TT}(c:zmR caps M Mi=true)(hg:zlf g dg Mi caps)(htt:∀ σ H Q,cT Mi ft σ H Q->tt σ H Q)(h:QE X e (tLC caps (cI M fi) g tt (cE .e Mi fe))):QE X e (cE .n M (dLC M caps fi dg ft fe)):=⟨have h:=h.un;weak h (zo8 (.of c) hg htt)⟩
theorem zpV{st:ZU}{Mi:List Nat}{caps:List (Option Nat)}{fi:DI}{g:TG}{g2:TG}{dg:DG}{ft:DT}{tt:TT}(c:zmR caps M Mi=true)(hg:zlf g dg Mi caps)(htt:∀ σ H Q,cT Mi ft σ H Q->tt σ H Q)(h:QS X st (zgd (tLC caps (cI M fi) g tt (cE .e Mi fe)) g2)):QS X st (zgd (cE .n M (dLC M caps fi dg ft fe)) g2):=⟨have h:=h.un;zoF h (zo8 (.of c) hg htt)⟩
theorem zpW{tg:Q0}{t t':TG}(h:QG X tg t)(h':QG X tg t'):QG X tg (fun v σ H Q=>t v σ H Q∨t' v σ H Q):=⟨have h:=h.un;have h':=h'.un;fun pc s σ H v u Q I r q=>q.elim (h pc s σ H v u Q I r) (h' pc s σ H v u Q I r)⟩
end
section
variable [TheK]
variable {b:Q0}{fc fk:DE}
theorem zkb(hK:X.K=TheK.K)(hc:X.calm=true)(hg:Gl X "list")(hm:X.mg "list"=none)(h:QE X e (cE .b M fe))(he:jj [e] X.env=(false,eval e X.env)::jj [] X.env:=by rfl)(hpl:(Zr pos (jj [] X.env)).any (·.1)=false:=by rfl):QE X (.Call (.Name "list" p) [e] [] pos) (cE .n M (d1 zei fe)):=⟨have h:=h.un; weak (zdn (CallR.or (hK▸zg4) (zdV hc)) hg hm zmJ (zb0 h zbO he) (by decide) (by decide) he hpl) (zmb zlF)⟩
end
section
variable [TheK]
variable {st:Q0}{fk:DO}
theorem zcE{a:Q0}{fa:DA}{p p' pos':Pos}(hc:X.calm=true)(hg:Gl X "list")(hm:X.mg "list"=none)(hg':Gl X "range")(hm':X.mg "range"=none)(ha:QA X [a] (cA M fa))(hs:jj [a] X.env=[(false,eval a X.env)]:=by rfl)(hs':jj [.Call (.Name "range" p') [a] [] pos'] X.env=[(false,eval (.Call (.Name "range" p') [a] [] pos') X.env)]:=by rfl):QE X (.Call (.Name "list" p) [.Call (.Name "range" p') [a] [] pos'] [] pos) (cE .n M (dLR fa)):=⟨have ha:=ha.un;weak (zfB hc hg hm hg' hm' ha hs hs') (by
 intro σ H Q h_;refine cE_ h_ fun F O s t s' R hf q=>?_;obtain⟨⟨p1,p2⟩,h1,h2⟩:=Qb hf;refine⟨F,O,s,p1,p2,R,h1,fun vs H1 S1 R1 rs=>?_⟩;dsimp only at h2;split at h2
 case h_2=>cases h2
 ·rename_i j;have h2:=h2;split at h2
  ·rename_i hj;have hj:=zhM hj;cases h2;obtain⟨v,rfl,rv⟩:=rs.one;obtain rfl:v=.int j:=BRep.int (.inl rv);refine⟨j,rfl,by lia,hj.2,fun b hb=>q _ _ (S1.trans (.new hb _)) (.mkN R R1 S1 hb fun C' hC=>.lst zab ?_)⟩
   have e:((jp j.toNat).map fun(k:Nat)=>V.int k)=((jp j.toNat).map fun(k:Nat)=>(k:Int)).map V.int:=by rw[jQ]; rfl
   have e':zat 0 j.toNat=((jp j.toNat).map fun(k:Nat)=>(k:Int)).map T.int:=by
    unfold zat;rw[jQ];refine Z4 fun k _=>?_;rw[Yg]; rfl
   rw[e,e'];exact zb8 _
  ·cases h2)⟩
end
section
variable [TheK]
theorem znG{i0:Nat}{Mi:List Nat}{caps:List (Option Nat)}{g:TG}{dg:DG}{ft:DT}{tt:TT}(hK:X.K=TheK.K)(h0:M.contains i0=true)(hcap:caps.contains (some i0)=false)(c:zmR caps M Mi=true)(hg:zlf g dg Mi caps)(htt:∀ σ H Q,cT Mi ft σ H Q->tt σ H Q)(h:QE X e (tLC caps (zhZ X.K (zdM i0)) g tt (cE .e Mi fe))):QE X e (cE .n M (dLC M caps (zi9 i0) dg ft fe)):=⟨have h:=h.un;weak (hK▸h) (zkY (by simpa using h0) (zo5 hcap) (.of c) hg htt)⟩
theorem zkP{st:ZU}{i0:Nat}{Mi:List Nat}{caps:List (Option Nat)}{g:TG}{g2:TG}{dg:DG}{ft:DT}{tt:TT}(hK:X.K=TheK.K)(h0:M.contains i0=true)(hcap:caps.contains (some i0)=false)(c:zmR caps M Mi=true)(hg:zlf g dg Mi caps)(htt:∀ σ H Q,cT Mi ft σ H Q->tt σ H Q)(h:QS X st (zgd (tLC caps (zhZ X.K (zdM i0)) g tt (cE .e Mi fe)) g2)):QS X st (zgd (cE .n M (dLC M caps (zi9 i0) dg ft fe)) g2):=⟨have h:=h.un;zoF (hK▸h) (zkY (by simpa using h0) (zo5 hcap) (.of c) hg htt)⟩
end
section
variable [TheK]
variable {o:Q0}{apos:Pos}
theorem zh7(h:QE X (.Call (.Attribute o "index" apos) [e] [] pos) (tBM X.K "list" zgm (cE .e M fa) (zfi (cE .b M fe) zlt))):QE X (.Call (.Attribute o "index" apos) [e] [] pos) (cE .e M (d2L zej fa fe)):=⟨have h:=h.un;weak h (zqP zlH)⟩
end
section
variable [TheK]
theorem ziD(hK:X.K=TheK.K)(hg:Gl X "sorted")(hm:X.mg "sorted"=none)(h:QE X e (cE .b M fe))(he:jj [e] X.env=(false,eval e X.env)::jj [] X.env:=by rfl)(hpl:(Zr pos (jj [] X.env)).any (·.1)=false:=by rfl):QE X (.Call (.Name "sorted" p) [e] [] pos) (cE .n M (d1 zdx fe)):=⟨have h:=h.un; weak (zbD (CallR.or (hK▸zg0) (show CallR X _ _ from hK▸zg1)) hg hm zdE (zb0 h zbO he) (by decide) (by decide) he hpl) (zmb zk4)⟩
end
section
variable [TheK]
variable {b:Q0}
theorem zlS(ha:QE X a (cE .e M fa))(hb:QE X b (cE .b M fb)):QE X (.BinOp a .BitAnd b pos) (cE .e M (d2 zjn fa fb)):=⟨have ha:=ha.un;have hb:=hb.un;weak (zdS zo4 ha hb) (zbm (zkN (k:=ZW) (fun _ _=>rfl) fun x y t h=>by
 unfold zjn at h;split at h
 ·injection h with h; exact⟨_,_,rfl,rfl,h.symm⟩
 ·cases h))⟩
theorem znH(ha:QE X a (cE .e M fa))(hb:QE X b (cE .b M fb)):QE X (.BinOp a .BitOr b pos) (cE .e M (d2 zoU fa fb)):=⟨have ha:=ha.un;have hb:=hb.un;weak (zdS zq4 ha hb) (zbm (zkN (k:=gg) (fun _ _=>rfl) fun x y t h=>by
 unfold zoU at h;split at h
 ·injection h with h; exact⟨_,_,rfl,rfl,h.symm⟩
 ·cases h))⟩
end
section
variable [TheK]
variable {pos2:Pos}
theorem ziE(hK:X.K=TheK.K)(hc:X.calm=true)(hg:Gl X "len")(hm:X.mg "len"=none)(hg2:Gl X "set")(hm2:X.mg "set"=none)(h:QE X e (cE .b M fe))(he2:jj [e] X.env=(false,eval e X.env)::jj [] X.env:=by rfl)(hpl2:(Zr pos2 (jj [] X.env)).any (·.1)=false:=by rfl)(he:jj [.Call (.Name "set" p2) [e] [] pos2] X.env=(false,eval (.Call (.Name "set" p2) [e] [] pos2) X.env)::jj [] X.env:=by rfl)(hpl:(Zr pos (jj [] X.env)).any (·.1)=false:=by rfl):QE X (.Call (.Name "len" p) [.Call (.Name "set" p2) [e] [] pos2] [] pos) (cE .e M (d1 zeY fe)):=⟨have h:=h.un; weak (zbD zjI hg hm WW (zb0 (zdn (zjF hc) hg2 hm2 zld (zb0 h zbO he2) (by decide) (by decide) he2 hpl2) zbO he) (by decide) (by decide) he hpl) (by
 intro σ H Q h_;refine cE_ h_ fun F O s t s' R hf q=>?_;obtain⟨⟨p1,p2⟩,h1,h2⟩:=Qb hf;obtain⟨t',h3,h4⟩:=Qm h2;cases h4;obtain⟨ts,rfl⟩:∃ ts,p1=.lst ts:=by cases p1<;>first |exact⟨_,rfl⟩ |cases h3
 obtain⟨ss,h6,h7⟩:=Qb h3;split at h7
 ·rename_i hl;cases h7;refine⟨F,O,s,_,_,R,h1,fun v H1 S1 p1=>?_⟩;obtain⟨a,us,rfl,ha,ra⟩:=p1.view.lst;rw[zcN ra h6] at ha;exact⟨a,ss,rfl,SqL.of ha,hl,fun l hn=>⟨l,_,rfl,zab,q _ _ (S1.trans (.new hn _)) ⟨p1.1.plus hn _,.int _⟩⟩⟩
 ·cases h7)⟩
theorem ziz{tg a b c:Q0}{fa:DA}(hg:Gl X "range")(hm:X.mg "range"=none)(ha:QA X [a,b,c] (cA M fa))(hs:jj [a,b,c] X.env=(false,eval a X.env)::jj [b,c] X.env:=by rfl)(hs2:(Zr pos (jj [b,c] X.env)).any (·.1)=false:=by rfl):QI X tg (.Call (.Name "range" p) [a,b,c] [] pos) (cI M (zqt fa)):=⟨have ha:=ha.un;zen (ziI hg hm ha hs hs2) (by
 intro σ H R h_;refine cI_ h_ fun F O s its s' Rl hf q=>?_;obtain⟨⟨p1,p2⟩,h1,h2⟩:=Qb hf;refine⟨F,O,s,p1,p2,Rl,h1,fun vs H1 S1 R1 rs=>?_⟩;dsimp only at h2;split at h2
 case h_2=>cases h2
 ·rename_i i j k
  replace h2:(if rg3 i j k=true then some (zdP 2 2 ((j.toNat - 1) / 2),p2) else none)=some (its,s'):=h2
  by_cases hj:rg3 i j k=true
  ·rw[Ip_ hj] at h2;cases h2;obtain⟨n,rfl,rfl,rfl,t1,t2,t3,t4⟩:=znv hj;rw[jh] at q
   match vs,rs with
   |v::v2::vs,rs=>
    obtain⟨u,rfl,ru⟩:=rs.tail.tail.one;obtain rfl:v=.int 2:=BRep.int (.inl rs.head);obtain rfl:v2=.int (n:Int):=BRep.int (.inl rs.tail.head);obtain rfl:u=.int 2:=BRep.int (.inl ru);exact⟨2,n,2,rfl,⟨by decide,t1,t2,t3⟩,q _ H1 S1 R1 (by rw[t4]; exact zml)⟩
   |[_],rs=>exact absurd rs.1 (by simp)
   |[],rs=>exact absurd rs.1 (by simp)
  ·rw[In_ hj] at h2; cases h2)⟩
end
def QBody(tk:TheK)(P:jG)(w:Q7)(mg:Str->Option j7)(base:Zq)(k:Nat)(x:Str)(st:ZU)(N:List Str)(t:TS):Prop:=
 ∀(f:jo) (cdv:j7) (A:Q1) (outer:List Env) (s:j8) (H:Hp) (E:XK),Room k (A.deeper (N6 x (za1 st) s.heap.objs.size f cdv))->QSs (zkA CX0 P w tk.K mg base N x (za1 st) f cdv A outer s H E).nox (zax st) t
theorem QBody.b{tk:TheK}{P:jG}{w:Q7}{mg:Str->Option j7}{base:Zq}{k:Nat}{x:Str}{st:ZU}{N:List Str}{t:TS}(h:QBody tk P w mg base k x st N t):zoK tk P w mg base k x st N t:=fun f cdv A outer s H E hr=>(h f cdv A outer s H E hr).un
section
variable [tk:TheK]{P:jG}{w:Q7}{mg:Str->Option j7}{base:Zq}{d:DS}
theorem Here.qP(h:Here tk.K mg x st ps)(S:FnScope N ps (za1 st))(hb:QBody tk P w mg base k x st N (cS .e [] [] M' Mb d))(hN:ps.length<=N.length:=by decide):Cal P w tk.K mg base (k+1) x ps (spP .e ps.length (fnP N.length d)):=h.okP S hb.b hN
theorem Here.qN(h:Here tk.K mg x st ps)(S:FnScope N ps (za1 st))(hb:QBody tk P w mg base k x st N (cS .n [] [] M' Mb d))(hN:ps.length<=N.length:=by decide):Cal P w tk.K mg base (k+1) x ps (spP .n ps.length (zmQ N.length d)):=h.okN S hb.b hN
theorem Here.qI(h:Here tk.K mg x st ps)(S:FnScope N ps (za1 st))(hb:QBody tk P w mg base k x st N (cS .e [0] [0] M' Mb d))(hN:ps.length<=N.length:=by decide):Cal P w tk.K mg base (k+1) x ps (spI .e ps.length (fnI N.length d)):=h.okI S hb.b hN
theorem zq9{ps0:Str}{fw:jo}{dw:Zh}(F:Fun tk.K x x st fw dw)(S:FnScope N [ps0] (za1 st))(hb:QBody tk P w mg base k x st N (cS .e [] [] M' Mb d))(hN:1<=N.length)(hd:∀ ns:List Int,ns.length<=63->fnP N.length d [.scr ns]=some (.bl true)):FnOk P w tk.K mg base CX0 (k+1) fw dw [ps0] (zhK tk.K):=zo9 F S hb.b hN hd
end
theorem zmk{α:Type}(x:α):(some (some x):Option (Option α)).join=some x:=rfl
theorem zaO{n:Nat}(h:n<=1000000):n<=jq:=by rw[Qr]; lia
theorem zey{n:Nat}(h:n<=1000000):n < jq:=by rw[Qr]; lia
theorem zq8{n:Nat}(h:n<=1000000):n<=zeV:=by rw[show zeV=1000000 by unfold zeV; rfl]; exact h
theorem zbU{j:Int}(h0:-2000<=j)(h:j<=2000):zeK j=true:=by
 unfold zeK;refine Ng ?_;lia
theorem zoE{α:Type}{xs:List α}{i:Nat}{x:α}(h:xs[i]?=some x):atI xs (i:Int)=some x:=by
 have h2:=(j5.mp h).1;unfold atI ixN;rw[Ip_ (by lia),Ip_ (by lia),j9,jh,h]
theorem zjp{g:DG}{db:DS}(I:Nat->Sg->Prop):∀(xs:List T) (i:Nat) (s:Sg),I i s->(∀ j x s,xs[j]?=some x->I (i+j) s->∃ s1,g x s=some s1/\∃ s2,(db s1=some (.nx s2)∨db s1=some (.ct s2))/\I (i+j+1) s2)->
  ∃ s',zbn g db xs s=some (.nx s')/\I (i+xs.length) s'
 |[],i,s,h0,_=>⟨s,by unfold zbn; rfl,h0⟩
 |x::xs,i,s,h0,h=>by
  obtain⟨s1,h1,s2,h2,h3⟩:=h 0 x s rfl h0;obtain⟨s',h4,h5⟩:=zjp I xs (i+1) s2 h3 fun j y s e q=>by
   have z:=h (j+1) y s (by simpa using e)
   rw[show i+(j+1)=i+1+j by lia] at z
   exact z q
  refine⟨s',?_,by rw[jl,show i+(xs.length+1)=i+1+xs.length by lia]; exact h5⟩
  unfold zbn;rw[h1,j9];rcases h2 with h2 |h2<;>rw[h2,j9]<;>exact h4
theorem zfS(n:Nat)(x y:T):eqD (n+1) x y=eqS n x y:=by cases x<;>cases y<;>rfl
theorem zjs{n:Nat}{x y:T}{b:Bool}(h:scE x y=some b):eqD n x y=some b:=by
 cases n with
 |zero=>unfold eqD; exact h
 |succ n=>rw[zfS]; unfold eqS; cases x<;>cases y<;>simp[scE] at h<;>simpa[scE] using h
theorem zdA(n:Nat)(i j:Int):eqD n (.int i) (.int j)=some (i == j):=zjs rfl
theorem zl9(n:Nat)(i j:Bool):eqD n (.bl i) (.bl j)=some (i == j):=zjs rfl
theorem zgD(n:Nat)(i j:Str):eqD n (.str i) (.str j)=some (i == j):=zjs rfl
theorem zhB{α:Type}[DecidableEq α]{f:T->T->Option Bool}{enc:α->T}(h:∀ a b,f (enc a) (enc b)=some (decide (a=b))):∀(xs ys:List α),xs.length=ys.length->zgf f (xs.map enc) (ys.map enc)=some (decide (xs=ys))
 |[],[],_=>rfl
 |[],_::_,hl=>by simp at hl
 |_::_,[],hl=>by simp at hl
 |x::xs,y::ys,hl=>by
  rw[ju,ju];unfold zgf;rw[h,j9,zhB h xs ys (by simpa using hl),jv]
  refine congrArg some ?_
  by_cases h1:x=y<;>by_cases h2:xs=ys<;>simp[h1,h2]
theorem zgE{α:Type}[DecidableEq α]{n:Nat}{enc:α->T}(h:∀ a b,eqD n (enc a) (enc b)=some (decide (a=b)))(xs ys:List α):eqD (n+1) (.lst (xs.map enc)) (.lst (ys.map enc))=some (decide (xs=ys)):=by
 rw[zfS];unfold eqS;dsimp only;rw[ja,ja]
 by_cases hl:xs.length=ys.length
 ·rw[Ip_ hl,zhB h xs ys hl]
 ·rw[In_ hl,Df_ (fun z=>hl (by rw[z]))]
theorem zf0{n:Nat}(xs ys:List Str):eqD (n+1) (.lst (xs.map T.str)) (.lst (ys.map T.str))=some (decide (xs=ys)):=zgE (fun a b=>by rw[zgD]; refine congrArg some ?_; by_cases h:a=b<;>simp[h]) xs ys
theorem zc1(xs:List Str):zgW (xs.map T.str)=some (xs.map V.str):=by
 induction xs with
 |nil=>rfl
 |cons x xs ih=>rw[ju]; unfold zgW; rw[ih]; rfl
theorem zhi(x:Str)(xs:List Str):inV (.str x) (xs.map V.str)=decide (x∈xs):=by
 unfold inV;rw[Jq,ZK,Wy,decide_eq_true_iff];constructor
 ·rintro⟨y,hy,e⟩;have:y=x:=by simpa[eqV] using e
  exact this▸hy
 ·intro h;exact⟨x,h,by simp[eqV]⟩
theorem zgO(x:Str)(xs:List Str):(xs.map V.str).countP (fun u=>eqV u (.str x))=xs.count x:=by
 rw[List.countP_map,List.count_eq_countP];refine List.countP_congr fun y hy=>?_;simp[eqV]
theorem znp{f g:DS}{s s':Sg}{r:Option Fl}(h:f s=some (.nx s'))(k:g s'=r):zao f g s=r:=by
 unfold zao;rw[h,j9];exact k
theorem zno{f g:DS}{s s':Sg}{t:T}(h:f s=some (.rt t s')):zao f g s=some (.rt t s'):=by
 unfold zao;rw[h];rfl
theorem zl6{n:Nat}{d:DS}{ts:List T}{t:T}{s:Sg}(h:d (zay n ts)=some (.rt t s)):fnP n d ts=some t:=by unfold fnP; rw[h]
theorem zjo{fi:DI}{g:DG}{db:DS}{s s1 s2:Sg}{its:List T}(h:fi s=some (its,s1))(k:zbn g db its s1=some (.nx s2)):zf3 fi g db s=some (.nx s2):=by unfold zf3; rw[h,j9]; exact k
theorem zfx{lo:Int}{n j:Nat}{x:T}(h:(zat lo n)[j]?=some x):j < n/\x=.int (lo+j):=by
 unfold zat at h;rw[jc] at h;obtain⟨i,h1,h2⟩:=Qm h;have hj:j < n:=by simpa using (j5.mp h1).1
 rw[Qe hj] at h1;cases h1;exact⟨hj,h2.symm⟩
theorem zdh(lo:Int)(n:Nat):(zat lo n).length=n:=by unfold zat; simp
theorem zjy{α:Type}(xs:List α){t:Int}(h0:0<=t)(h:t<=xs.length):zcl xs none (some t)=xs.take t.toNat:=by
 unfold zcl HT.sIx;simp only[Yk,Wr];split
 ·lia
 ·rw[ZP (by lia)]
theorem zjz{α:Type}(xs:List α){t:Int}(h0:0<=t)(h:t<=xs.length):zcl xs (some t) none=xs.drop t.toNat:=by
 unfold zcl HT.sIx;dsimp only;split
 ·lia
 ·rw[ZP (by lia),Qn (by rw[jX]; lia)]
theorem zkB{α:Type}(xs:List α){t u:Int}(h0:0<=t)(h:t<=u)(hu:u<=xs.length):zcl xs (some t) (some u)=(xs.drop t.toNat).take (u.toNat - t.toNat):=by
 unfold zcl HT.sIx;dsimp only;split<;>split<;>first |lia |rw[ZP (by lia),ZP (by lia)]
def Run(d:DS)(s:Sg)(Q:Fl->Prop):Prop:=∃ r,d s=some r/\Q r
def zqD(P:Sg->Prop):Fl->Prop
 |.nx s=>P s
 |.ct s=>P s
 |_=>False
theorem zeJ{d:DS}{s:Sg}{Q:Fl->Prop}{r:Fl}(h:d s=some r)(k:Q r):Run d s Q:=⟨r,h,k⟩
theorem zeH{f g:DS}{s s':Sg}{Q:Fl->Prop}(h:f s=some (.nx s'))(k:Run g s' Q):Run (zao f g) s Q:=by
 obtain⟨r,h1,h2⟩:=k;exact⟨r,znp h h1,h2⟩
theorem zcq{fi:DI}{g:DG}{db d:DS}{s s1:Sg}{its:List T}{Q:Fl->Prop}(I:Nat->Sg->Prop)(h:fi s=some (its,s1))(h0:I 0 s1)
  (hs:∀ j x s,its[j]?=some x->I j s->∃ s1,g x s=some s1/\Run db s1 (zqD (I (j+1)))) (k:∀ s',I its.length s'->Run d s' Q):Run (zao (zf3 fi g db) d) s Q:=by
 obtain⟨s',h1,h2⟩:=zjp (g:=g) (db:=db) I its 0 s1 h0 fun j x s e q=>by
  rw[Zc] at q ⊢;obtain⟨s1,h1,r,h2,h3⟩:=hs j x s e q;refine⟨s1,h1,?_⟩;cases r with
  |nx s2=>exact⟨s2,.inl h2,h3⟩
  |ct s2=>exact⟨s2,.inr h2,h3⟩
  |bk s2=>exact h3.elim
  |rt t s2=>exact h3.elim
 rw[Zc] at h2;exact zeH (zjo h h1) (k s' h2)
theorem zdd{ft:DT}{db d:DS}{n:Nat}{s:Sg}{Q:Fl->Prop}(I:Sg->Prop)(μ:Sg->Nat)(hn:μ s < n)(h0:I s)(hs:∀ s,I s->∃ b s1,ft s=some (b,s1)/\if b=true then Run db s1 (zqD fun s2=>I s2/\μ s2 < μ s) else True)
  (k:∀ s0 s',I s0->ft s0=some (false,s')->Run d s' Q):Run (zao (zb7 ft db n) d) s Q:=by
 have key:∀ n s,μ s < n->I s->∃ s0 s',zb7 ft db n s=some (.nx s')/\I s0/\ft s0=some (false,s'):=by
  intro n
  induction n with
  |zero=>intro s hn; exact absurd hn (Z2 _)
  |succ n ih=>
   intro s hn h0;obtain⟨b,s1,h1,h2⟩:=hs s h0;unfold zb7;rw[h1,j9];dsimp only;cases b with
   |true=>
    rw[Ip_ rfl] at h2;obtain⟨r,h3,h4⟩:=h2;rw[Ip_ rfl,h3,j9];cases r with
    |nx s2=>exact ih s2 (by have:=h4.2; lia) h4.1
    |ct s2=>exact ih s2 (by have:=h4.2; lia) h4.1
    |bk s2=>exact h4.elim
    |rt t s2=>exact h4.elim
   |false=>exact⟨s,s1,by rw[In_ jr],h0,h1⟩
 obtain⟨s0,s',h1,h2,h3⟩:=key n s hn h0;exact zeH h1 (k s0 s' h2 h3)
theorem zcw{n:Nat}{d:DS}{ts:List T}{Q:T->Prop}(h:Run d (zay n ts) fun r=>∃ t s,r=.rt t s/\Q t):∃ t,fnP n d ts=some t/\Q t:=by
 obtain⟨r,h1,t,s,rfl,h2⟩:=h;exact⟨t,zl6 h1,h2⟩
structure Ev where
 P:jG
 w:Q7
 mg:Str->Option j7
 base:Zq
abbrev Cl[tk:TheK](v:Ev)(k:Nat)(x:Str)(ps:List Str)(sp:Sp):Prop:=Cal v.P v.w tk.K v.mg v.base k x ps sp
theorem scm{N P:List Str}{sc:Yz}(h1:sc.kind=.function:=by rfl)(h2:sc.isCoroutine=false:=by rfl)(h3:sc.isGenerator=false:=by rfl)(h4:N.Nodup:=by decide +kernel)(h5:N.take P.length=P:=by rfl)
  (h6:∀ x∈P,sc.names.lookup x=some .local∨sc.names.lookup x=some .cell:=by decide +kernel) (h7:∀ y∈sc.names,y.2≠.free:=by decide +kernel):FnScope N P sc:=⟨h1,h2,h3,h4,h5,h6,h7⟩
theorem Cal.up{P:jG}{w:Q7}{K:jd}{mg:Str->Option j7}{base:Zq}{j k:Nat}{x:Str}{ps:List Str}{sp:Sp}(h:Cal P w K mg base j x ps sp)(hjk:j<=k:=by decide):Cal P w K mg base k x ps sp:=h.mono hjk
section
variable [TheK]{f1 f2 f3 f4 f5 f6:DE}
theorem ar1:Ar (dAc f1 dAn) 1:=ar_ zoG
theorem ar2:Ar (dAc f1 (dAc f2 dAn)) 2:=ar_ ar1
theorem ar3:Ar (dAc f1 (dAc f2 (dAc f3 dAn))) 3:=ar_ ar2
end
section
variable [TheK]{e1 e2:Q0}{f0:DE}{fs:DA}{np i:Nat}{fn:List T->Option T}{fi:List T->Option (T × T)}
theorem qc(C:Cal X.prog X.w X.K X.mg X.base k x ps (spP .e np fn))(hr:Room k X.A)(hg:Gl X x)(ha:QA X (e::es) (cA M fs))(ar:Ar fs np)(hdb:(x == ("__debug__":Str))=false:=by decide)(he:jj (e::es) X.env=(false,eval e X.env)::jj es X.env:=by rfl)(hpl:(Zr pos (jj es X.env)).any (·.1)=false:=by rfl):QE X (.Call (.Name x p) (e::es) [] pos) (cE .e M (zal fn fs)):=by
 obtain⟨f,fd,F,hb,hk,hm⟩:=C;exact zlR F hr hg hm hk hb ha ar hdb he hpl
theorem qcN(C:Cal X.prog X.w X.K X.mg X.base k x ps (spP .n np fn))(hr:Room k X.A)(hg:Gl X x)(ha:QA X (e::es) (cA M fs))(ar:Ar fs np)(hdb:(x == ("__debug__":Str))=false:=by decide)(he:jj (e::es) X.env=(false,eval e X.env)::jj es X.env:=by rfl)(hpl:(Zr pos (jj es X.env)).any (·.1)=false:=by rfl):QE X (.Call (.Name x p) (e::es) [] pos) (cE .n M (zal fn fs)):=by
 obtain⟨f,fd,F,hb,hk,hm⟩:=C;exact zkf F hr hg hm hk hb ha ar hdb he hpl
theorem qcI(hi:M.contains i=true)(C:Cal X.prog X.w X.K X.mg X.base k x ps (spI .e (np+1) fi))(hr:Room k X.A)(hg:Gl X x)(h0:QE X e (zdM i))(ha:QA X es (cA M fs))(ar:Ar fs np)(hdb:(x == ("__debug__":Str))=false:=by decide)(he:jj (e::es) X.env=(false,eval e X.env)::jj es X.env:=by rfl)(hpl:(Zr pos (jj es X.env)).any (·.1)=false:=by rfl):QE X (.Call (.Name x p) (e::es) [] pos) (cE .e M (zfV fi i fs)):=by
 obtain⟨f,fd,F,hb,hk,hm⟩:=C;exact zkg hi F hr hg hm hk hb h0 ha ar hdb he hpl
end
section
variable [tk:TheK]{v:Ev}
theorem _root_.L3.Here.vP(k:Nat)(M':List Nat)(d:DS)(h:Here tk.K v.mg x st ps)(S:FnScope N ps (za1 st))(hb:N.Nodup->QBody tk v.P v.w v.mg v.base k x st N (cS .e [] [] M' [] d))(hN:ps.length<=N.length:=by decide):Cl v (k+1) x ps (spP .e ps.length (fnP N.length d)):=h.qP S (hb S.nd) hN
theorem _root_.L3.Here.vN(k:Nat)(M':List Nat)(d:DS)(h:Here tk.K v.mg x st ps)(S:FnScope N ps (za1 st))(hb:N.Nodup->QBody tk v.P v.w v.mg v.base k x st N (cS .n [] [] M' [] d))(hN:ps.length<=N.length:=by decide):Cl v (k+1) x ps (spP .n ps.length (zmQ N.length d)):=h.qN S (hb S.nd) hN
theorem _root_.L3.Here.vI(k:Nat)(M':List Nat)(d:DS)(h:Here tk.K v.mg x st ps)(S:FnScope N ps (za1 st))(hb:N.Nodup->QBody tk v.P v.w v.mg v.base k x st N (cS .e [0] [0] M' [] d))(hN:ps.length<=N.length:=by decide):Cl v (k+1) x ps (spI .e ps.length (fnI N.length d)):=h.qI S (hb S.nd) hN
end
def Fd(K:jd)(x:Str)(st:ZU):Prop:=∃(f:jo) (oc:j7) (od:Option jo) (sl:Array (Option j7)) (kV dc pm:j7) (an:Option jo) (cd ct:j7),Zd K jS x=some (some (.ref f))/\K.lookup f=some ⟨oc,od,.func (Qd x x (zaH st) (zax st) (za1 st) .none kV dc pm an cd ct),sl⟩/\ZX K cd x=true/\Qx K (.ref f)=true
section
variable {K:jd}{h:Zq}{mg:Str->Option j7}{p1 p2 p3 p4 p5 p6:Str}
theorem Fd.mk{f:jo}{oc:j7}{od:Option jo}{sl:Array (Option j7)}{kV dc pm:j7}{an:Option jo}{cd ct:j7}(a:Zd K jS x=some (some (.ref f)))(l:K.lookup f=some ⟨oc,od,.func (Qd x x (zaH st) (zax st) (za1 st) .none kV dc pm an cd ct),sl⟩)(c:ZX K cd x=true)(k:Qx K (.ref f)=true):Fd K x st:=⟨f,oc,od,sl,kV,dc,pm,an,cd,ct,a,l,c,k⟩
def Bd(x:Str)(st:ZU)(ps:List Str):Prop:=∀(kV doc pm:j7) (an:Option jo) (cdv ct:j7) (us:List j7),us.length=ps.length->YD (Qd x x (zaH st) (zax st) (za1 st) .none kV doc pm an cdv ct) ⟨us,[]⟩=pure (ps.zip us)
theorem Fd.here{ps:List Str}(X:K.In h)(G:h.Ns jS mg)(a:Fd K x st)(hb:Bd x st ps):Here K mg x st ps:=by
 obtain⟨f,oc,od,sl,kV,dc,pm,an,cd,ct,a,l,c,k⟩:=a;exact zmp X G hb a l c k
theorem bd1(h:∀(kV doc pm:j7) (an:Option jo) (cdv ct u1:j7),YD (Qd x x (zaH st) (zax st) (za1 st) .none kV doc pm an cdv ct) ⟨[u1],[]⟩=pure [(p1,u1)]):Bd x st [p1]:=fun a b c d e f us hl=>by
 cases us with
 |nil=>cases hl
 |cons u us=>cases us with
  |nil=>exact h a b c d e f u
  |cons _ _=>cases hl
theorem bd2(h:∀(kV doc pm:j7) (an:Option jo) (cdv ct u1 u2:j7),YD (Qd x x (zaH st) (zax st) (za1 st) .none kV doc pm an cdv ct) ⟨[u1,u2],[]⟩=pure [(p1,u1),(p2,u2)]):Bd x st [p1,p2]:=fun a b c d e f us hl=>by
 obtain⟨u1,u2,rfl⟩:∃ u1 u2,us=[u1,u2]:=by
  cases us with
  |nil=>cases hl
  |cons u us=>obtain⟨u2,rfl⟩:=N0.mp (Jm hl); exact⟨u,u2,rfl⟩
 exact h a b c d e f u1 u2
theorem zrE{us:List j7}(h:us.length=3):∃ u1 u2 u3,us=[u1,u2,u3]:=by
 match us,h with
 |[a,b,c],_=>exact⟨a,b,c,rfl⟩
theorem bd3(h:∀(kV doc pm:j7) (an:Option jo) (cdv ct u1 u2 u3:j7),YD (Qd x x (zaH st) (zax st) (za1 st) .none kV doc pm an cdv ct) ⟨[u1,u2,u3],[]⟩=pure [(p1,u1),(p2,u2),(p3,u3)]):Bd x st [p1,p2,p3]:=fun a b c d e f us hl=>by
 obtain⟨u1,u2,u3,rfl⟩:=zrE hl;exact h a b c d e f u1 u2 u3
theorem zmh{l:Y1}{w:Q7}{fa:jo}{N:List Str}{p:Str}{k:Nat}{d:DS}{M' Mb:List Nat}(X:K.In h)(G:h.Ns jS mg)(hfa:mg "law"=some (.ref fa))(a:Fd K "law" st)(sc:FnScope N [p] (za1 st))
  (hbt:∀(kV dc pm:j7) (an:Option jo) (cd ct v:j7),YD (Qd "law" "law" (zaH st) (zax st) (za1 st) .none kV dc pm an cd ct) ⟨[v],[]⟩=pure [(p,v)]) (hN:1<=N.length)
  (hd:∀ ns:List Int,fnP N.length d [.scr ns]=some (.bl true)) (hb:∀ base:Zq,QBody ⟨K⟩ l.prog w mg base k "law" st N (@cS ⟨K⟩ .e [] [] M' Mb d)) :
  ∃ fd:Zh,(∀(s:j8) (v:j7),W5 s fd ⟨[v],[]⟩ [(p,v)])/\∀ base:Zq,K.In base->base.Ns jS mg->FnOk l.prog w K mg base CX0 (k+1) fa fd [p] (zhK K):=by
 obtain⟨f,oc,od,sl,kV,dc,pm,an,cd,ct,a,ll,c,kk⟩:=a;have e:=hfa.symm.trans (Jh X G a);cases e;exact⟨Qd "law" "law" (zaH st) (zax st) (za1 st) .none kV dc pm an cd ct,fun s v=>.of_eq (hbt kV dc pm an cd ct v),fun base _ _=>zq9 (tk:=⟨K⟩) (zl5 (st:=st) ll c kk) sc (hb base) hN fun ns _=>hd ns⟩
end
theorem zp0{l:Y1}{q:jG}{loose:List Str}{XP:(Str->Option j7)->Zq->Prop}{YP:Q7->Zq->Prop}{d:DefRec}{K:Params->jd}{x:Str}{k:Nat}(hn:l.most=some 63)(hdf:d.params.defaults=[])(hk:k < 60)
  (hY:∀(w:Q7) (h:Zq),YP w h->(K w.params).In h)
  (F:∀(w:Q7) (mg:Str->Option j7) (fa:jo) (h:Zq),(K w.params).In h->h.Ns jS mg->mg d.name=some (.ref fa)->
   ∃ fd:Zh,(∀(s:j8) (u:j7),W5 s fd ⟨[u],[]⟩ [(x,u)])/\∀ base:Zq,(K w.params).In base->base.Ns jS mg->FnOk l.prog w (K w.params) mg base CX0 k fa fd [x] (zhK (K w.params))) :
  Jb q loose XP YP l.row.toRowW d [] (fun f vs=>J6 f vs):=
 L2.zlh (n:=63) (k:=k) (x:=x) (CX:=fun _=>CX0) (sp:=fun w=>zhK (K w.params)) hn (by decide) hdf (Room.mono (k:=60) ⟨rfl,by decide,by decide⟩ (by lia)) hY F (fun _ _ a ns hl hO hS=>⟨a,ns,rfl,hO,hS,hl,fun _=>rfl⟩) fun _ _ _ _ _ z=>z
end L3
namespace L3
open PySem PySem.Spec PyProof.Rows L2
variable [TheK]
def zcS:T->Option T
 |.lst ts=>(zcJ ts).bind fun ss=>if ss.length < 1000/\(Dw.za0 ss).length < 64 then some (.lst ((za9 (Dw.za0 ss)).map T.str)) else none
 |_=>none
section
variable {X:Cx}{M:List Nat}{e:Q0}{fe:DE}{p p2 pos pos2:Pos}
theorem zhN(hc:X.calm=true)(hg:Gl X "sorted")(hm:X.mg "sorted"=none)(hg2:Gl X "set")(hm2:X.mg "set"=none)(h:QE X e (cE .b M fe))(he2:jj [e] X.env=(false,eval e X.env)::jj [] X.env:=by rfl)(hpl2:(Zr pos2 (jj [] X.env)).any (·.1)=false:=by rfl)
  (he:jj [.Call (.Name "set" p2) [e] [] pos2] X.env=(false,eval (.Call (.Name "set" p2) [e] [] pos2) X.env)::jj [] X.env:=by rfl) (hpl:(Zr pos (jj [] X.env)).any (·.1)=false:=by rfl):QE X (.Call (.Name "sorted" p) [.Call (.Name "set" p2) [e] [] pos2] [] pos) (cE .n M (d1 zcS fe)):=
 ⟨weak (zbD (zg3 hc) hg hm zdE (zb0 (zdn (zjG hc) hg2 hm2 zld (zb0 h.un zbO he2) (by decide) (by decide) he2 hpl2) zbO he) (by decide) (by decide) he hpl) (by
 intro σ H Q h_;refine cE_ h_ fun F O s t s' R hf q=>?_;obtain⟨⟨p1,p2⟩,h1,h2⟩:=Qb hf;obtain⟨t',h3,h4⟩:=Qm h2;cases h4;obtain⟨ts,rfl⟩:∃ ts,p1=.lst ts:=by cases p1<;>first |exact⟨_,rfl⟩ |cases h3
 obtain⟨ss,h6,h7⟩:=Qb h3;split at h7
 ·rename_i hl;cases h7;refine⟨F,O,s,_,_,R,h1,fun v H1 S1 p1=>?_⟩;obtain⟨a,us,rfl,ha,ra⟩:=p1.view.lst;rw[zcN ra h6] at ha;refine⟨a,ss,rfl,SqL.of ha,hl.1,fun l hn=>⟨l,_,rfl,zab,zeZ ss,hl.2,fun r hr=>q _ _ ((S1.trans (.new hn _)).trans (.new hr _)) ?_⟩⟩;exact .mkN R (p1.1.plus hn _) (S1.trans (.new hn _)) hr fun C' hC=>.lst zab (zdf _)
 ·cases h7)⟩
end
end L3
namespace L3
open PySem PySem.Spec PyProof.Rows L2
def zdw:List T->Option (List Str)
 |[]=>some []
 |.lst (.str x::_)::ts=>(zdw ts).map (x::·)
 |_=>none
def zeh:T->Option T
 |.lst ts=>(zdw ts).bind fun hs=>if hs.length < 64/\hs.Nodup then some (.lst ((zcK (ts.zip hs)).map (·.1))) else none
 |_=>none
theorem zeg:∀ {ts:List T} {hs:List Str},zdw ts=some hs->ts.length=hs.length
 |[],hs,h=>by cases h; rfl
 |t::ts,hs,h=>by
  obtain⟨x,xs,rfl⟩:∃ x xs,t=.lst (.str x::xs):=by
   cases t with
   |lst us=>cases us with
    |nil=>cases h
    |cons u us=>cases u<;>first |exact⟨_,_,rfl⟩ |cases h
   |_=>cases h
  obtain⟨rs,h3,rfl⟩:=Qm h;simp[zeg h3]
theorem zmU{α β γ:Type}:∀(as:List α) (bs:List β) (cs:List γ),as.length=bs.length->((as.zip bs).zip cs).map (fun q=>(q.1.1,q.2))=as.zip cs/\((as.zip bs).zip cs).map (fun q=>(q.1.2,q.2))=bs.zip cs
 |[],[],cs,_=>by simp
 |a::as,b::bs,[],_=>by simp
 |a::as,b::bs,c::cs,h=>by
  have:=zmU as bs cs (by simpa using h)
  simp[this]
 |[],_::_,_,h=>by simp at h
 |_::_,[],_,h=>by simp at h
theorem zd5{α β:Type}(f:α->β)(ps:List (α × Str)):zcK (ps.map fun p=>(f p.1,p.2))=(zcK ps).map fun p=>(f p.1,p.2):=by
 unfold zcK;exact(List.map_mergeSort (r:=fun(a b:α × Str)=>leS a.2 b.2) (s:=fun(a b:β × Str)=>leS a.2 b.2) fun _ _ _ _=>rfl).symm
section
variable [TheK]
theorem zfM{C:jo->Prop}{H:Hp}:∀ {vs:List V} {ts:List T} {hs:List Str},Reps C H vs ts->zdw ts=some hs->∃ as:List jo,vs=as.map V.ref/\as.length=hs.length/\∀ p∈as.zip hs,∃ us,H p.1=some (.lst (V.str p.2::us))
 |[],[],hs,_,h=>by cases h; exact⟨[],rfl,rfl,fun p hp=>by simp at hp⟩
 |[],_::_,_,r,_=>by have:=r.1; simp at this
 |_::_,[],_,r,_=>by have:=r.1; simp at this
 |v::vs,t::ts,hs,r,h=>by
  obtain⟨x,xs,rfl⟩:∃ x xs,t=.lst (.str x::xs):=by
   cases t with
   |lst us=>cases us with
    |nil=>cases h
    |cons u us=>cases u<;>first |exact⟨_,_,rfl⟩ |cases h
   |_=>cases h
  obtain⟨rs,h3,rfl⟩:=Qm h;obtain⟨as,rfl,hl,hh⟩:=zfM r.tail h3;have hd:=r.head;cases hd with
  |@lst b us _ c hr hl' hc=>
   cases us with
   |nil=>simp at hl'
   |cons u us=>
    have e:=hc 0 u (.str x) rfl rfl;cases e;refine⟨b::as,rfl,by simp[hl],fun p hp=>?_⟩
    rcases jt.mp hp with e |hp
    ·subst e; exact⟨us,hr⟩
    ·exact hh p hp
theorem zlE:S1N (fun xs H Q=>∃(a:jo) (ps:List (jo × Str)),xs=[V.ref a]/\SqL TheK.K H a ((ps.map (·.1)).map V.ref)/\ps.length < 64/\(ps.map (·.2)).Nodup /\
  (∀ p∈ps,∃ vs,SqL TheK.K H p.1 (V.str p.2::vs))/\∀ l,H l=none->Q (.ref l) (upd H l (.lst (((zcK ps).map (·.1)).map V.ref)))) zeh:=by
 intro C H x tx t Q bx hg q;obtain⟨ts,rfl⟩:∃ ts,tx=.lst ts:=by cases tx<;>first |exact⟨_,rfl⟩ |cases hg
 obtain⟨hs,h1,h2⟩:=Qb hg;split at h2
 ·rename_i hn;cases h2;obtain⟨a,us,rfl,ha,ra⟩:=bx.lst;obtain⟨as,rfl,hl,hh⟩:=zfM ra h1;have ht:=zeg h1;have z1:(as.zip hs).map (·.1)=as:=List.map_fst_zip (by lia)
  have z2:(as.zip hs).map (·.2)=hs:=Wx (by lia)
  refine⟨a,as.zip hs,rfl,by rw[z1]; exact SqL.of ha,by simp; lia,by rw[z2]; exact hn.2,fun p hp=>?_,fun l hn'=>q l _ hn' fun C' hC=>.lst zab ?_⟩
  ·obtain⟨us,e⟩:=hh p hp;exact⟨us,SqL.of e⟩
  ·have zf:=zmU as ts hs (by lia)
   have e1:=zd5 (fun q:jo × T=>q.1) ((as.zip ts).zip hs);have e2:=zd5 (fun q:jo × T=>q.2) ((as.zip ts).zip hs);rw[zf.1] at e1;rw[zf.2] at e2;rw[e1,e2,jQ,jQ,jQ];refine(show Reps (fun c=>C c/\H c≠none) H _ _ from ⟨by simp,fun i v t h3 h4=>?_⟩).mono hC fun c o _ e=>by rw[za7 (za3 e hn')]; exact e
   rw[jc] at h3 h4;obtain⟨r,h5,rfl⟩:=Qm h3;rw[h5] at h4;obtain rfl:r.1.2=t:=je h4;have hm:=(zav _).mem_iff.mp (jN h5);have hm2:=gZ (a:=r.1) (b:=r.2) hm;obtain⟨j,hj⟩:=QF hm2.1;rw[List.getElem?_zip_eq_some] at hj;exact ra.there.2 j _ _ (by rw[jc,hj.1]; rfl) hj.2
 ·cases h2
variable {X:Cx}{M:List Nat}{e:Q0}{fe:DE}{p pos:Pos}
theorem zh5(hK:X.K=TheK.K)(hu:X.A.units+8 < gO)(hg:Gl X "sorted")(hm:X.mg "sorted"=none)(h:QE X e (cE .b M fe))(he:jj [e] X.env=(false,eval e X.env)::jj [] X.env:=by rfl)(hpl:(Zr pos (jj [] X.env)).any (·.1)=false:=by rfl):QE X (.Call (.Name "sorted" p) [e] [] pos) (cE .n M (d1 zeh fe)):=
 ⟨weak (zbD (hK▸zg2 hu) hg hm zdE (zb0 h.un zbO he) (by decide) (by decide) he hpl) (zmb zlE)⟩
end
theorem vdV(i:Nat)(s:Sg):dV i s=(s[i]?).join.map fun t=>(t,s):=rfl
theorem vdC(t:T)(s:Sg):dC t s=some (t,s):=rfl
theorem vd2(g:T->T->Option T)(fa fb:DE)(s:Sg):d2 g fa fb s=(fa s).bind fun p=>(fb p.2).bind fun q=>(g p.1 q.1).map fun t=>(t,q.2):=rfl
theorem zra(g:T->T->Option T)(i:Nat)(fb:DE)(s:Sg):d2v g i fb s=(s[i]?).join.bind fun _=>(fb s).bind fun q=>(q.2[i]?).join.bind fun x=>(g x q.1).map fun t=>(t,q.2):=rfl
theorem vdB(f:DE)(s:Sg):dB f s=(f s).bind fun p=>match p.1 with
 |.bl b=>some (b,p.2)
 |_=>none:=rfl
theorem zp4(f:DE)(s:Sg):zla f s=(f s).bind fun p=>(tru p.1).map fun b=>(b,p.2):=rfl
theorem zpc(f:DT)(s:Sg):zoV f s=(f s).map fun p=>(!p.1,p.2):=rfl
theorem zpb(f g:DE)(s:Sg):zqu f g s=(dB f s).bind fun p=>if p.1 then some (.bl true,p.2) else g p.2:=rfl
theorem zr7(s:Sg):dAn  s=some ([],s):=rfl
theorem zr8(f:DE)(g:DA)(s:Sg):dAc f g s=(f s).bind fun p=>(g p.2).map fun q=>(p.1::q.1,q.2):=rfl
theorem zpe(f:DA)(s:Sg):zhs f s=(f s).bind fun p=>if p.1.length<=jq then some (.lst p.1,p.2) else none:=rfl
theorem zp3(f:DA)(s:Sg):zmE f s=(f s).bind fun p=>if p.1.length<=jq then some (.tup p.1,p.2) else none:=rfl
theorem zr1(s:Sg):dOn  s=some (none,s):=rfl
theorem zr0(f:DE)(s:Sg):dOs f s=(f s).bind fun p=>match p.1 with
 |.int i=>some (some i,p.2)
 |_=>none:=rfl
theorem zqZ(g:T->Option Int->Option Int->Option T)(f:DE)(l h:DO)(s:Sg):dSl g f l h s=(f s).bind fun p=>(l p.2).bind fun q=>(h q.2).bind fun r=>(g p.1 q.1 r.1).map fun t=>(t,r.2):=rfl
theorem zp5(g:T->Option Int->Option Int->Option T)(i:Nat)(l h:DO)(s:Sg):zow g i l h s=(s[i]?).join.bind fun _=>(l s).bind fun q=>(h q.2).bind fun r=>(r.2[i]?).join.bind fun x=>(g x q.1 r.1).map fun t=>(t,r.2):=rfl
theorem zp7(f g:DS)(s:Sg):zao f g s=(f s).bind fun r=>match r with
 |.nx s'=>g s'
 |r=>some r:=rfl
theorem zn5(s:Sg):zb1  s=some (.nx s):=rfl
theorem zp6(i:Nat)(f:DE)(s:Sg):zaT i f s=(f s).bind fun p=>if i < p.2.length then some (.nx (p.2.set i (some p.1))) else none:=rfl
theorem zph(c:DT)(f g:DS)(s:Sg):zdN c f g s=(c s).bind fun p=>if p.1 then f p.2 else g p.2:=rfl
theorem zr6(f:DE)(s:Sg):dDo f s=(f s).map fun p=>.nx p.2:=rfl
theorem zn4(io:List Nat)(f:DE)(s:Sg):zap io f s=(f s).bind fun p=>if hasAll io p.2 then some (.rt p.1 p.2) else none:=rfl
theorem zpd(g:T->List T->Option (T × T))(i:Nat)(fa:DA)(s:Sg):zi8 g i fa s=(s[i]?).join.bind fun t0=>if zjd t0 then (fa s).bind fun p=>(p.2[i]?).join.bind fun t=>(g t p.1).map fun q=>(q.2,p.2.set i (some q.1)) else none:=rfl
theorem zn3(i:Nat)(fk fv:DE)(s:Sg):zfU i fk fv s=(fv s).bind fun p=>(p.2[i]?).join.bind fun _=>(fk p.2).bind fun q=>(q.2[i]?).join.bind fun t=>match t,q.1 with
 |.lst xs,.int k=>(ixN xs.length k).map fun j=>.nx (q.2.set i (some (.lst (xs.set j p.1))))
 |_,_=>none:=rfl
theorem zpi(i:Nat)(f:DE)(s:Sg):zqv i f s=(s[i]?).join.bind fun x=>(f s).bind fun p=>match x,p.1 with
 |.int a,.int b=>some (.nx (p.2.set i (some (.int (a+b)))))
 |_,_=>none:=rfl
theorem zqY(is:List Nat)(f:DE)(s:Sg):dUn is f s=(f s).bind fun p=>(zhf p.1).bind fun ts=>(zaU is ts p.2).map .nx:=rfl
theorem zpa(f:DA)(s:Sg):zjP f s=(f s).bind fun p=>match p.1 with
 |[.int j]=>if zeK j=true then some (zat 0 j.toNat,p.2) else none
 |_=>none:=rfl
theorem zp9(f:DA)(s:Sg):zox f s=(f s).bind fun p=>match p.1 with
 |[.int i,.int j]=>if zeK i=true/\zeK j=true then some (zat i (j - i).toNat,p.2) else none
 |_=>none:=rfl
theorem zr5(f:DA)(s:Sg):dEn f s=(f s).bind fun p=>match p.1 with
 |[.lst xs]=>some (zgF xs,p.2)
 |_=>none:=rfl
theorem zr4(i:Nat)(t:T)(s:Sg):dGn i t s=if i < s.length then some (s.set i (some t)) else none:=rfl
theorem zr3(is:List Nat)(t:T)(s:Sg):dGt is t s=match t with
 |.tup ts=>zaU is ts s
 |_=>none:=rfl
theorem zn6(fn:List T->Option T)(fa:DA)(s:Sg):zal fn fa s=(fa s).bind fun p=>(fn p.1).map fun t=>(t,p.2):=rfl
theorem zli(fn:List T->Option (T × T))(i:Nat)(fa:DA)(s:Sg):zfV fn i fa s=(s[i]?).join.bind fun _=>(fa s).bind fun p=>(p.2[i]?).join.bind fun t0=>(fn (t0::p.1)).map fun q=>(q.1,p.2.set i (some q.2)):=rfl
theorem vd1(g:T->Option T)(f:DE)(s:Sg):d1 g f s=(f s).bind fun p=>(g p.1).map fun t=>(t,p.2):=rfl
theorem zr9(g:Int->Int->Int)(fa:DA)(s:Sg):dA2 g fa s=(fa s).bind fun p=>match p.1 with
 |[.int i,.int j]=>some (.int (g i j),p.2)
 |_=>none:=rfl
theorem zrb(g:T->T->Option T)(fa fb:DE)(s:Sg):d2L g fa fb s=(fa s).bind fun p=>if zjd p.1 then (fb p.2).bind fun q=>(g p.1 q.1).map fun t=>(t,q.2) else none:=rfl
theorem zpg(f:DE)(s:Sg):zjQ f s=(f s).bind fun p=>match p.1 with
 |.lst xs=>some (xs,p.2)
 |.scr ns=>some (ns.map .int,p.2)
 |.tup xs=>some (xs,p.2)
 |.fd kvs=>some (kvs.map fun kv=>kT kv.1,p.2)
 |.str x=>some (x.cps.toList.map zjZ,p.2)
 |_=>none:=rfl
theorem zr2(f:DA)(s:Sg):dLR f s=(f s).bind fun p=>match p.1 with
 |[.int j]=>if zeK j=true then some (.lst (zat 0 j.toNat),p.2) else none
 |_=>none:=rfl
theorem zpf(i:Nat)(s:Sg):zi9 i s=match (s[i]?).join with
 |some (.lst xs)=>some (xs,s)
 |_=>none:=rfl
theorem zp8(f:DA)(s:Sg):zqt f s=(f s).bind fun p=>match p.1 with
 |[.int i,.int j,.int c]=>if rg3 i j c=true then some (zdP 2 2 ((j.toNat - 1) / 2),p.2) else none
 |_=>none:=rfl
theorem zp2(s:Sg):zjv s=some (true,s):=rfl
def nT(k:Nat):T:=.int (k:Int)
theorem vnT(k:Nat):nT k=.int (k:Int):=rfl
theorem zn8(i j:Int):zah (.int i) (.int j)=some (.int (i+j)):=rfl
theorem zkH{a b:List T}(h:a.length+b.length<=1000000):zah (.lst a) (.lst b)=some (.lst (a++b)):=by
 have q:a.length+b.length<=jq:=zaO h;simp only[zah,orG,zjO,zmx,q,if_true]
theorem zpx{a b:List T}(h:a.length+b.length<=1000000):zmx (.lst a) (.lst b)=some (.lst (a++b)):=by
 have q:a.length+b.length<=jq:=zaO h;simp only[zmx,q,if_true]
theorem zn7{a b:Str}(h:a.length+b.length<=1000000):zah (.str a) (.str b)=some (.str (a++b)):=by
 have q:a.length+b.length<=jq:=zaO h;simp only[zah,orG,zjO,q,if_true]
theorem vSb(i j:Int):gSb (.int i) (.int j)=some (.int (i - j)):=rfl
theorem zrh{i j:Int}(h:-1000000000000<=i/\i<=1000000000000∨-1000000000000<=j/\j<=1000000000000):zgC (.int i) (.int j)=some (.int (i*j)):=by
 have:zge i j=true:=by unfold zge; rw[Q4,decide_eq_true_iff,decide_eq_true_iff]; lia
 simp only[zgC,gI,this,if_true]
theorem zrq{i j:Int}(h:0 < j/\j<=1000000000):zhm (.int i) (.int j)=some (.int (i / j)):=by
 have:zmT i j=true:=Dt_ (by lia)
 simp only[zhm,gI,this,if_true]
theorem zri{i j:Int}(h:0 < j):zcT (.int i) (.int j)=some (.int (i%j)):=by
 have:zmS i j=true:=Dt_ h;simp only[zcT,gI,this,if_true]
theorem zrc(i:Int):zrJ (.int i)=some (.int (-i)):=rfl
theorem vLt(i j:Int):gLt (.int i) (.int j)=some (.bl (decide (i < j))):=rfl
theorem vLe(i j:Int):gLe (.int i) (.int j)=some (.bl (decide (i<=j))):=rfl
theorem vGt(i j:Int):gGt (.int i) (.int j)=some (.bl (decide (j < i))):=rfl
theorem vGe(i j:Int):gGe (.int i) (.int j)=some (.bl (decide (j<=i))):=rfl
theorem zro(i j:Int):gEq (.int i) (.int j)=some (.bl (decide (i=j))):=by simp only[gEq,zdA,jv]; rfl
theorem zrf(i j:Int):gNe (.int i) (.int j)=some (.bl (!decide (i=j))):=by simp only[gNe,zdA,jv]; rfl
theorem zrp(i j:Bool):gEq (.bl i) (.bl j)=some (.bl (i == j)):=by simp only[gEq,zl9,jv]
theorem zrg(i j:Bool):gNe (.bl i) (.bl j)=some (.bl (!(i == j))):=by simp only[gNe,zl9,jv]
theorem zrm(i j:Str):gEq (.str i) (.str j)=some (.bl (decide (i=j))):=by
 simp only[gEq,zgD,jv]
 by_cases h:i=j<;>simp[h]
theorem zrd(i j:Str):gNe (.str i) (.str j)=some (.bl (!decide (i=j))):=by
 simp only[gNe,zgD,jv]
 by_cases h:i=j<;>simp[h]
theorem znc(xs ys:List Str):gEq (.lst (xs.map T.str)) (.lst (ys.map T.str))=some (.bl (decide (xs=ys))):=by simp only[gEq,zf0,jv]
theorem zpq(xs ys:List Str):gNe (.lst (xs.map T.str)) (.lst (ys.map T.str))=some (.bl (!decide (xs=ys))):=by simp only[gNe,zf0,jv]
theorem zhq{n:Nat}(xs ys:List Nat):eqD (n+1) (.lst (xs.map nT)) (.lst (ys.map nT))=some (decide (xs=ys)):=zgE (fun a b=>by
 rw[vnT,vnT,zdA]; refine congrArg some ?_
 by_cases h:a=b
 ·subst h; simp
 ·rw[Df_ h]; simp; lia) xs ys
theorem zpw(xs ys:List Nat):gEq (.lst (xs.map nT)) (.lst (ys.map nT))=some (.bl (decide (xs=ys))):=by simp only[gEq,zhq,jv]
theorem zll(xs ys:List Nat):gNe (.lst (xs.map nT)) (.lst (ys.map nT))=some (.bl (!decide (xs=ys))):=by simp only[gNe,zhq,jv]
theorem zpu(xs:List T):zbP (.lst xs)=some (.int xs.length):=rfl
theorem zpr(xs:List T):zbP (.tup xs)=some (.int xs.length):=rfl
theorem zpv(xs:List (Key × T)):zbP (.dct xs)=some (.int xs.length):=rfl
theorem zpt(xs:List Int):zbP (.scr xs)=some (.int xs.length):=rfl
theorem zps{x:Str}(h:x.length<=1000000):zbP (.str x)=some (.int x.length):=by
 have q:x.length<=jq:=zaO h;simp only[zbP,q,if_true]
theorem zhA{α:Type}(xs:List α)(k:Nat):atI xs (k:Int)=xs[k]?:=by
 unfold atI ixN;rw[Ip_ (by lia)]
 split
 ·simp
 ·rename_i h;rw[Option.bind_none,eq_comm,Ym]; lia
theorem zff(xs:List T)(k:Nat):zau (.lst xs) (.int (k:Int))=xs[k]?:=by
 have:zau (.lst xs) (.int (k:Int))=orG gIx zmv (.lst xs) (.int (k:Int)):=rfl;rw[this]; unfold orG;have e:gIx (.lst xs) (.int (k:Int))=xs[k]?:=by show atI xs (k:Int)=_; exact zhA xs k
 rw[e];cases xs[k]?<;>rfl
theorem znb(xs:List T)(k:Nat):zau (.tup xs) (.int (k:Int))=xs[k]?:=by
 have:zau (.tup xs) (.int (k:Int))=orG gIx zmv (.tup xs) (.int (k:Int)):=rfl;rw[this]; unfold orG;have e:gIx (.tup xs) (.int (k:Int))=xs[k]?:=by show atI xs (k:Int)=_; exact zhA xs k
 rw[e];cases xs[k]?<;>rfl
theorem zln(kvs:List (Key × T))(x:Str):zau (.dct kvs) (.str x)=zbV kvs (.inr x):=by
 show (match (none:Option T) with |some t=>some t |none=>_)=_
 rfl
theorem zlo(kvs:List (Key × T))(x:Int):zau (.dct kvs) (.int x)=zbV kvs (.inl x):=rfl
theorem zpp(b:Bool):tru (.bl b)=some b:=rfl
theorem zpn(xs:List T):tru (.lst xs)=some (!xs.isEmpty):=rfl
theorem zpo(i:Int):tru (.int i)=some (i != 0):=rfl
theorem zna(xs:List T):zei (.lst xs)=some (.lst xs):=rfl
theorem zn9(xs:List T):zei (.tup xs)=some (.lst xs):=rfl
theorem zpy{xs:List Str}(x:Str)(h:xs.length<=1000000):zhc (.lst (xs.map T.str)) [.str x]=some (.lst ((xs++[x]).map T.str),.non):=by
 have q:(xs.map T.str).length < jq:=zey (by rw[ja]; exact h)
 simp only[zhc,q,if_true,Qq,ju,Zs]
theorem znd{xs:List Nat}(x:Nat)(h:xs.length<=1000000):zhc (.lst (xs.map nT)) [.int (x:Int)]=some (.lst ((xs++[x]).map nT),.non):=by
 have q:(xs.map nT).length < jq:=zey (by rw[ja]; exact h)
 simp only[zhc,q,if_true,Qq,ju,Zs,vnT]
theorem zne{xs:List T}(x:T)(h:xs.length<=1000000):zhc (.lst xs) [x]=some (.lst (xs++[x]),.non):=by
 have q:xs.length < jq:=zey h;simp only[zhc,q,if_true]
theorem zlj(x:Str)(xs:List Str):zb6 (.str x) (.lst (xs.map T.str))=some (.bl (!decide (x∈xs))):=by
 simp only[zb6,orG,zhl,zmu,toV,zc1,j9,jv,zhi]
theorem zrj(x:Str)(xs:List Str):zon (.str x) (.lst (xs.map T.str))=some (.bl (decide (x∈xs))):=by
 simp only[zon,orG,gIn,zmu,toV,zc1,j9,jv,zhi]
theorem zfh(xs:List Nat):zgW (xs.map nT)=some (xs.map fun(k:Nat)=>V.int (k:Int)):=by
 induction xs with
 |nil=>rfl
 |cons x xs ih=>rw[ju]; unfold zgW; rw[ih]; rfl
theorem zhj(x:Nat)(xs:List Nat):inV (.int (x:Int)) (xs.map fun(k:Nat)=>V.int (k:Int))=decide (x∈xs):=by
 unfold inV;rw[Jq,ZK,Wy,decide_eq_true_iff];constructor
 ·rintro⟨y,hy,e⟩;have:(y:Int)=x:=by simpa[eqV] using e
  have:y=x:=by lia
  exact this▸hy
 ·intro h;exact⟨x,h,by simp[eqV]⟩
theorem zrk(x:Nat)(xs:List Nat):zon (.int (x:Int)) (.lst (xs.map nT))=some (.bl (decide (x∈xs))):=by
 simp only[zon,orG,gIn,zmu,toV,zfh,j9,jv,zhj]
theorem zie(x:Nat)(xs:List Nat):zb6 (.int (x:Int)) (.lst (xs.map nT))=some (.bl (!decide (x∈xs))):=by
 simp only[zb6,orG,zhl,zmu,toV,zfh,j9,jv,zhj]
theorem zrl(x:Str)(kvs:List (Key × T)):zon (.str x) (.dct kvs)=some (.bl (zbV kvs (.inr x)).isSome):=rfl
theorem zlk(x:Str)(kvs:List (Key × T)):zb6 (.str x) (.dct kvs)=some (.bl (!(zbV kvs (.inr x)).isSome)):=rfl
theorem zlp(x:Str)(xs:List Str):zfP (.lst (xs.map T.str)) (.str x)=some (.int (xs.count x:Nat)):=by
 simp only[zfP,zc1,toV,j9,jv,zgO]
theorem zcH(x:Str):∀(xs:List Str),x∈xs->(xs.map V.str).findIdx? (fun u=>eqV u (.str x))=some (xs.idxOf x)
 |[],h=>by cases h
 |y::ys,h=>by
  rw[ju,List.findIdx?_cons,List.idxOf_cons]
  by_cases e:y=x
  ·subst e; simp[eqV]
  ·have e1:eqV (.str y) (.str x)=false:=by simp[eqV,e]
   have e2:(y == x)=false:=by simpa using e
   have hm:x∈ys:=by
    rcases jt.mp h with q |q
    ·exact absurd q.symm e
    ·exact q
   rw[e1,e2,zcH x ys hm];rfl
theorem zif{x:Str}{xs:List Str}(h:x∈xs):zej (.lst (xs.map T.str)) (.str x)=some (.int (xs.idxOf x:Nat)):=by
 simp only[zej,zc1,toV,j9,zcH x xs h,jv]
theorem zmZ(xs:List T):isi "list" (.lst xs)=some true:=by simp[isi]
theorem zn0(i:Int):isi "int" (.int i)=some true:=by simp[isi]
theorem zn1(i:Int):isi "bool" (.int i)=some false:=by simp[isi]
theorem zn2(b:Bool):isi "bool" (.bl b)=some true:=by simp[isi]
theorem zmX(xs:List T):isi "tuple" (.tup xs)=some true:=by simp[isi]
theorem zmY(x:Str):isi "str" (.str x)=some true:=by simp[isi]
theorem zi1(s:Sg):hasAll [] s=true:=rfl
theorem zhz(bs:List Bool):zoC (bs.map T.bl)=some bs:=by
 induction bs with
 |nil=>rfl
 |cons b bs ih=>rw[ju]; unfold zoC; rw[ih]; rfl
theorem zpA(bs:List Bool):zqR (.lst (bs.map T.bl))=some (.bl (bs.all id)):=by simp only[zqR,zhz,jv]
theorem zpz(bs:List Bool):zqQ (.lst (bs.map T.bl))=some (.bl (bs.any id)):=by simp only[zqQ,zhz,jv]
theorem zjc(xs:List T):zjd (.lst xs)=true:=rfl
theorem sz0:0<=jq:=Zx _
theorem sz1:1<=jq:=zaO (by lia)
theorem sz2:2<=jq:=zaO (by lia)
theorem sz3:3<=jq:=zaO (by lia)
theorem sz4:4<=jq:=zaO (by lia)
theorem rgN{k:Nat}(h:k<=2000):zeK (k:Int)=true:=zbU (by lia) (by lia)
theorem zj3{α:Type}{M:List Nat}{caps:List (Option Nat)}{fi:DI}{dg:DG}{ft:DT}{fe:DE}{s:Sg}(xs:List α)(enc:α->T)(b:α->Bool)(e:α->T)(hi:fi s=some (xs.map enc,s))(hl:xs.length<=1000000)
  (h:∀ x∈xs,∃ s1,dg (enc x) (zhy caps s)=some s1/\ft s1=some (b x,s1)/\(b x=true->fe s1=some (e x,s1))/\zar M caps s1 s=s):dLC M caps fi dg ft fe s=some (.lst ((xs.filter b).map e),s):=by
 have key:∀(ys:List α) (acc:List T),(∀ y∈ys,y∈xs)->zjN M caps dg ft fe (ys.map enc) acc s=some (acc++(ys.filter b).map e,s):=by
  intro ys
  induction ys with
  |nil=>intro acc _; unfold zjN; simp
  |cons y ys ih=>
   intro acc hy;obtain⟨s1,h1,h2,h3,h4⟩:=h y (hy y jC);rw[ju];unfold zjN;rw[h1,j9,h2,j9];have ih':=fun acc=>ih acc fun z hz=>hy z (jm _ hz);cases hb:b y with
   |true=>rw[Ip_ rfl,h3 hb,j9,h4,ih',QV,Ip_ hb,ju,Qw]; rfl
   |false=>rw[In_ jr,h4,ih',QV,In_ (by rw[hb]; exact jr)]
 unfold dLC;rw[hi,j9];have q:(xs.map enc).length<=zeV:=zq8 (by rw[ja]; exact hl)
 rw[Ip_ q,key xs [] (fun _ h=>h),jv];rfl
theorem zcs{α:Type}{M:List Nat}{caps:List (Option Nat)}{fi:DI}{dg:DG}{fe:DE}{s:Sg}(xs:List α)(enc:α->T)(e:α->T)(hi:fi s=some (xs.map enc,s))(hl:xs.length<=1000000)
  (h:∀ x∈xs,∃ s1,dg (enc x) (zhy caps s)=some s1/\fe s1=some (e x,s1)/\zar M caps s1 s=s):dLC M caps fi dg zjv fe s=some (.lst (xs.map e),s):=by
 have:=zj3 (M:=M) (caps:=caps) (fi:=fi) (dg:=dg) (ft:=zjv) (fe:=fe) (s:=s) xs enc (fun _=>true) e hi hl fun x hx=>by
  obtain⟨s1,h1,h2,h3⟩:=h x hx;exact⟨s1,h1,rfl,fun _=>h2,h3⟩
 rw[this,Y5.mpr (fun _ _=>rfl)]
theorem zky{α:Type}(xs:List α)(enc:α->T):zgF (xs.map enc)=xs.zipIdx.map fun p=>T.tup [.int (p.2:Nat),enc p.1]:=by
 unfold zgF;refine Ww (by simp) fun i h1 h2=>?_
 have hi:i < xs.length:=by simpa using h2
 rw[YO,Yf,YO,List.getElem_zipIdx,Q3,jc,j3 hi];simp
theorem zeM(m:Nat):zat 0 m=(jp m).map nT:=by
 unfold zat;refine Z4 fun i _=>?_;rw[Yg]; rfl
theorem zac{f g:DS}{s s':Sg}{Q:Fl->Prop}(h:f s=some (.nx s'))(k:Run g s' Q):Run (zao f g) s Q:=zeH h k
theorem zek{n:Nat}{d:DS}{ts:List T}{t:T}(h:Run d (zay n ts) fun r=>∃ s,r=.rt t s):fnP n d ts=some t:=by
 obtain⟨r,h1,s,rfl⟩:=h;exact zl6 h1
theorem zbT{d:DS}{s s':Sg}{t t':T}(h:d s=some (.rt t' s'))(k:t'=t):Run d s fun r=>∃ s,r=.rt t s:=⟨_,h,s',by rw[k]⟩
theorem zpl(s:Sg):zhy [] s=[]:=rfl
theorem zpk(cs:List (Option Nat))(s:Sg):zhy (none::cs) s=none::zhy cs s:=rfl
theorem zpj(j:Nat)(cs:List (Option Nat))(s:Sg):zhy (some j::cs) s=(s[j]?).join::zhy cs s:=rfl
theorem zk5{f g:DS}{s s':Sg}{t t':T}(h:f s=some (.rt t' s'))(k:t'=t):Run (zao f g) s fun r=>∃ s,r=.rt t s:=⟨_,zno h,s',by rw[k]⟩
theorem zaB{d:DS}{s s':Sg}{P:Sg->Prop}(h:d s=some (.nx s'))(k:P s'):Run d s (zqD P):=⟨_,h,k⟩
def zi7(P:Sg->Prop)(Q:Fl->Prop):Fl->Prop
 |.nx s=>P s
 |.ct s=>P s
 |.rt t s=>Q (.rt t s)
 |.bk _=>False
theorem zj2{g:DG}{db:DS}{Q:Fl->Prop}(I:Nat->Sg->Prop):∀(xs:List T) (i:Nat) (s:Sg),I i s->(∀ j x s,xs[j]?=some x->I (i+j) s->∃ s1,g x s=some s1/\Run db s1 (zi7 (I (i+j+1)) Q))->
  (∃ s',zbn g db xs s=some (.nx s')/\I (i+xs.length) s')∨∃ t s',zbn g db xs s=some (.rt t s')/\Q (.rt t s')
 |[],i,s,h0,_=>.inl ⟨s,by unfold zbn; rfl,h0⟩
 |x::xs,i,s,h0,h=>by
  obtain⟨s1,h1,r,h2,h3⟩:=h 0 x s rfl h0;have next:∀ s2,I (i+0+1) s2->(∃ s',zbn g db xs s2=some (.nx s')/\I (i+(xs.length+1)) s')∨∃ t s',zbn g db xs s2=some (.rt t s')/\Q (.rt t s'):=fun s2 q=>by
   have:=zj2 I xs (i+1) s2 q fun j y s e q'=>by
    have z:=h (j+1) y s (by simpa using e)
    rw[show i+(j+1)=i+1+j by lia] at z
    exact z q'
   rw[show i+(xs.length+1)=i+1+xs.length by lia]
   exact this
  rw[jl];cases r with
  |nx s2=>unfold zbn; rw[h1,j9,h2,j9]; exact next s2 h3
  |ct s2=>unfold zbn; rw[h1,j9,h2,j9]; exact next s2 h3
  |bk s2=>exact h3.elim
  |rt t s2=>exact .inr ⟨t,s2,by unfold zbn; rw[h1,j9,h2]; rfl,h3⟩
theorem zgY{fi:DI}{g:DG}{db d:DS}{s s1:Sg}{its:List T}{Q:Fl->Prop}(I:Nat->Sg->Prop)(h:fi s=some (its,s1))(h0:I 0 s1)
  (hs:∀ j x s,its[j]?=some x->I j s->∃ s1,g x s=some s1/\Run db s1 (zi7 (I (j+1)) Q)) (k:∀ s',I its.length s'->Run d s' Q):Run (zao (zf3 fi g db) d) s Q:=by
 rcases zj2 (g:=g) (db:=db) (Q:=Q) I its 0 s1 h0 (fun j x s e q=>by rw[Zc] at q ⊢; exact hs j x s e q) with ⟨s',h1,h2⟩ |⟨t,s',h1,h2⟩
 ·rw[Zc] at h2;exact zeH (zjo h h1) (k s' h2)
 ·refine⟨.rt t s',?_,h2⟩;unfold zao zf3;rw[h,j9,h1];rfl
theorem zeI{fi:DI}{g:DG}{db:DS}{s s1:Sg}{its:List T}{Q:Fl->Prop}(I:Nat->Sg->Prop)(h:fi s=some (its,s1))(h0:I 0 s1)
  (hs:∀ j x s,its[j]?=some x->I j s->∃ s1,g x s=some s1/\Run db s1 (zi7 (I (j+1)) Q)) (k:∀ s',I its.length s'->Q (.nx s')):Run (zf3 fi g db) s Q:=by
 rcases zj2 (g:=g) (db:=db) (Q:=Q) I its 0 s1 h0 (fun j x s e q=>by rw[Zc] at q ⊢; exact hs j x s e q) with ⟨s',h1,h2⟩ |⟨t,s',h1,h2⟩
 ·rw[Zc] at h2;exact⟨_,zjo h h1,k s' h2⟩
 ·refine⟨.rt t s',?_,h2⟩;unfold zf3;rw[h,j9,h1]
theorem ziR{d:DS}{s s':Sg}{P:Sg->Prop}{Q:Fl->Prop}(h:d s=some (.nx s'))(k:P s'):Run d s (zi7 P Q):=⟨_,h,k⟩
theorem zma{d:DS}{s s':Sg}{P:Sg->Prop}{Q:Fl->Prop}{t:T}(h:d s=some (.rt t s'))(k:Q (.rt t s')):Run d s (zi7 P Q):=⟨_,h,k⟩
theorem zp1(c:Nat):zjZ c=.str ⟨#[c]⟩:=rfl
end L3
namespace Dw
open PySem PySem.Spec PyProof.Rows L2 L3
theorem zhb(x:Str):∀(wd acc:List Str),x∈wd.foldl stp acc↔x∈acc∨x∈wd
 |[],acc=>by simp
 |y::wd,acc=>by
  rw[gj,zhb x wd,jt];unfold stp;split
  ·rename_i h;constructor
   ·rintro(q |q)
    ·exact .inl q
    ·exact .inr (.inr q)
   ·rintro(q |q |q)
    ·exact .inl q
    ·exact .inl (q▸h)
    ·exact .inr q
  ·rw[jV,jy];constructor
   ·rintro((q |q) |q)
    ·exact .inl q
    ·exact .inr (.inl q)
    ·exact .inr (.inr q)
   ·rintro(q |q |q)
    ·exact .inl (.inl q)
    ·exact .inl (.inr q)
    ·exact .inr q
theorem mem_firsts{x:Str}{wd:List Str}:x∈za0 wd↔x∈wd:=by unfold za0; rw[zhb]; simp
theorem zec:∀(wd acc:List Str),acc.Nodup->(wd.foldl stp acc).Nodup
 |[],acc,h=>h
 |y::wd,acc,h=>by
  rw[gj];refine zec wd _ ?_;unfold stp;split
  ·exact h
  ·rename_i q;rw[ZT];exact⟨h,by simp,fun a ha b hb e=>q (by rw[jy] at hb; subst hb; subst e; exact ha)⟩
theorem zb5(wd:List Str):(za0 wd).Nodup:=zec wd [] Nz
theorem zdz(wd:List Str):(za0 wd).length<=wd.length:=by have:=zel wd []; simpa[za0] using this
def zdu(i j:Nat)(ps:List Nat):List Nat:=ps.filter fun k=>decide (i < k)&&decide (k < j)
theorem zcx{wd:List Str}{i j:Nat}(y:Str)(hij:i < j)(hj:j < wd.length):(zle wd i j).count y=(zdu i j (za4 wd y)).length:=by
 rw[<-zbw];unfold za4 zdu zle;have hl:((wd.drop (i+1)).take (j - (i+1))).length=j - (i+1):=by rw[jK,jX]; lia
 rw[hl];have e:wd.length=(i+1)+((j - (i+1))+(wd.length - j)):=by lia
 rw[NY];have er:jp wd.length=jp (i+1)++((jp (j - (i+1))).map (fun x=>i+1+x)++(jp (wd.length - j)).map ((fun x=>i+1+x)∘fun x=>j - (i+1)+x)):=by
  conv=>lhs; rw[e]
  rw[g6 (n:=i+1),g6 (n:=j - (i+1)),Qq,jQ]
 rw[er,Q8,Q8];have e1:(jp (i+1)).filter (fun k=>(decide (i < k)&&decide (k < j))&&decide (wd[k]?=some y))=[]:=by
  refine Qo.mpr fun k hk=>?_;have:=jz.mp hk;rw[Df_ (by lia:¬ i < k),ZF,ZF]
  exact jr
 have e3:((jp (wd.length - j)).map ((fun x=>i+1+x)∘fun x=>j - (i+1)+x)).filter (fun k=>(decide (i < k)&&decide (k < j))&&decide (wd[k]?=some y))=[]:=by
  refine Qo.mpr fun k hk=>?_;obtain⟨m,hm,rfl⟩:=jH.mp hk;have:¬ ((fun x=>i+1+x)∘fun x=>j - (i+1)+x) m < j:=by
   show ¬ i+1+(j - (i+1)+m) < j;lia
  rw[Df_ this,WX,ZF];exact jr
 rw[e1,e3,ZM,QM,gh,ja];refine congrArg Y0 (gE fun k hk=>?_);have hk':=jz.mp hk;show _=((decide (i < i+1+k)&&decide (i+1+k < j))&&decide (wd[i+1+k]?=some y));rw[Dt_ (by lia:i < i+1+k),Dt_ (by lia:i+1+k < j),ZH,Ip_ hk',gu]
 rfl
theorem zaF{wd:List Str}{x:Str}{k:Nat}(h:k∈za4 wd x):wd[k]?=some x:=of_decide_eq_true (Qc.mp h).2
theorem zgA{i j k l:Nat}(h1:i < j)(h2:k < l)(a:i≠k)(b:i≠l)(c:j≠k)(d:j≠l):decide ((zdu i j [k,l]).length=1)=decide ((zdu k l [i,j]).length=1):=by
 have f:∀ p q r s:Nat,(zdu p q [r,s]).length=(if p < r/\r < q then 1 else 0)+(if p < s/\s < q then 1 else 0):=fun p q r s=>by
  unfold zdu
  by_cases h:p < r/\r < q<;>by_cases h':p < s/\s < q<;>simp[QV,h,h']
 rw[f,f,ZK,decide_eq_true_iff,decide_eq_true_iff];split<;>split<;>split<;>split<;>lia
theorem zgN{wd:List Str}{x y:Str}{i j k l:Nat}(hx:za4 wd x=[i,j])(hy:za4 wd y=[k,l]):decide ((zle wd i j).count y=1)=decide ((zle wd k l).count x=1):=by
 obtain⟨a,b⟩:=zb3 hx;obtain⟨c,d⟩:=zb3 hy;rw[zcx y a b,zcx x c d,hx,hy]
 by_cases h:x=y
 ·subst h;rw[hx] at hy;injection hy with e1 e2;injection e2 with e2 _;subst e1 e2;rfl
 ·have mx:∀ p∈[i,j],wd[p]?=some x:=fun p hp=>zaF (hx▸hp);have my:∀ p∈[k,l],wd[p]?=some y:=fun p hp=>zaF (hy▸hp);have ne:∀ p∈[i,j],∀ q∈[k,l],p≠q:=fun p hp q hq e=>h (je ((mx p hp).symm.trans (e▸my q hq)));exact zgA a c (ne i (by simp) k (by simp)) (ne i (by simp) l (by simp)) (ne j (by simp) k (by simp)) (ne j (by simp) l (by simp))
def crs(wd:List Str)(x y:Str):Bool:=match za4 wd x with
 |[i,j]=>decide ((zle wd i j).count y=1)
 |_=>false
theorem zhv{wd:List Str}{x:Str}{i j:Nat}(h:za4 wd x=[i,j])(y:Str):crs wd x y=decide ((zle wd i j).count y=1):=by unfold crs; rw[h]
theorem zd3:∀(wd ns:List Str),ns.Nodup->(∀ x∈wd,x∈ns)->wd.length=(ns.map fun x=>wd.count x).sum
 |[],ns,_,_=>by
  have:(ns.map fun x=>([]:List Str).count x)=ns.map fun _=>0:=Z4 fun x _=>by simp
  have z:∀ l:List Str,(l.map fun _=>0).sum=0:=fun l=>by
   induction l with
   |nil=>rfl
   |cons n l ih=>rw[ju,gv,ih]
  rw[this,z];rfl
 |y::wd,ns,hn,h=>by
  have ih:=zd3 wd ns hn fun x hx=>h x (jm _ hx);have key:∀(ns:List Str),ns.Nodup->(ns.map fun x=>(y::wd).count x).sum=(ns.map fun x=>wd.count x).sum+if y∈ns then 1 else 0:=by
   intro ns
   induction ns with
   |nil=>intro _; rfl
   |cons n ns ihn=>
    intro hn;rw[Qy] at hn;rw[ju,gv,ju,gv,ihn hn.2,Zm]
    by_cases e:y=n
    ·subst e;rw[Ip_ (by simp),In_ hn.1,Ip_ (by simp)]; lia
    ·rw[In_ (by simpa using e)]
     by_cases e2:y∈ns
     ·rw[Ip_ e2,Ip_ (jm _ e2)]; lia
     ·rw[In_ e2,In_ (by simp[e,e2])]; lia
  rw[key ns hn,Ip_ (h y jC),<-ih,jl]
theorem zer{wd:List Str}(h:∀ x∈wd,wd.count x=2):wd.length=2*(za0 wd).length:=by
 have:=zd3 wd (za0 wd) (zb5 wd) fun x hx=>mem_firsts.mpr hx;rw[this];have e:=Z4 fun x hx=>h x (mem_firsts.mp hx);rw[e];generalize za0 wd=l
 induction l with
 |nil=>rfl
 |cons a l ih=>rw[ju,gv,ih,jl]; lia
theorem zcF(x:Str):∀(A R:List Str),x∉A->za4 (A++R) x=(za4 R x).map (A.length+·):=by
 intro A R h;unfold za4;rw[js,g6,Q8,gh];have e:(jp A.length).filter (fun j=>decide ((A++R)[j]?=some x))=[]:=by
  refine Qo.mpr fun k hk=>?_;have hk:=jz.mp hk;rw[jR hk,decide_eq_true_iff];exact fun z=>h (jN z)
 rw[e,ZM]
 congr 1
 refine gE fun k _=>?_;show decide ((A++R)[A.length+k]?=some x)=_;rw[Q2 (by lia),YK]
theorem zdm(x:Str)(R:List Str):za4 (x::R) x=0::(za4 R x).map (1+·):=by
 unfold za4;rw[jl,Nat.add_comm,g6,Q8,gh];have e1:(jp 1).filter (fun j=>decide ((x::R)[j]?=some x))=[0]:=by simp[List.range_succ]
 rw[e1,List.singleton_append]
 congr 2
 refine gE fun k _=>?_;show decide ((x::R)[1+k]?=some x)=_;rw[Nat.add_comm,gs]
theorem zgq{x:Str}{R:List Str}(h:x∉R):za4 R x=[]:=by
 refine Qo.mpr fun k hk=>?_;rw[decide_eq_true_iff];exact fun z=>h (jN z)
theorem zfC{wd:List Str}{x:Str}(h:wd.count x=2):∃ A B C,wd=A++x::(B++x::C)/\x∉A/\x∉B/\x∉C:=by
 have h1:x∈wd:=ZJ.mp (by lia)
 obtain⟨A,R,rfl,hA⟩:=Y9 h1;rw[jU,Nu,jM.mpr hA] at h;have h2:x∈R:=ZJ.mp (by lia)
 obtain⟨B,C,rfl,hB⟩:=Y9 h2;rw[jU,Nu,jM.mpr hB] at h;exact⟨A,B,C,rfl,hA,hB,jM.mp (by lia)⟩
theorem zaq{A B C:List Str}{x:Str}(hA:x∉A)(hB:x∉B)(hC:x∉C)(y:Str):crs (A++x::(B++x::C)) x y=decide (B.count y=1):=by
 have e:za4 (A++x::(B++x::C)) x=[A.length,A.length+(1+B.length)]:=by
  rw[zcF x A _ hA,zdm,zcF x B _ hB,zdm,zgq hC];simp
 rw[zhv e]
 congr 2
 unfold zle;rw[show A.length+1=(A++[x]).length by simp,show A++x::(B++x::C)=(A++[x])++(B++x::C) by simp,WY]
 rw[show A.length+(1+B.length) - (A++[x]).length=B.length by simp; lia,WZ]
theorem zfX{A B C:List Str}{x y:Str}(h:x≠y):(A++x::(B++x::C)).count y=A.count y+(B.count y+C.count y):=by
 rw[jU,Nh h,jU,Nh h]
theorem zjB{z:Str}{w:List Str}{x y:Str}(hx:(z::w).count x=2)(hy:(z::w).count y=2):crs (w++[z]) x y=crs (z::w) x y:=by
 obtain⟨A,B,C,e,hA,hB,hC⟩:=zfC hx;rw[e] at hy;cases A with
 |nil=>
  cases e;have e3:B++z::C++[z]=B++z::(C++z::[]):=by simp
  rw[e3,zaq hB hC (by simp),show z::(B++z::C)=[]++z::(B++z::C) from rfl,zaq (by simp) hB hC]
  by_cases h:z=y
  ·subst h;rw[jM.mpr hB,jM.mpr hC]
  ·rw[zfX h] at hy;rw[J0] at hy
   by_cases q:B.count y=1
   ·rw[Dt_ q,Dt_ (by lia)]
   ·rw[Df_ q,Df_ (by lia)]
 |cons a A=>
  have e:z::w=a::(A++x::(B++x::C)):=e;cases e;have hzx:z≠x:=fun q=>hA (by rw[q]; simp)
  have e3:A++x::(B++x::C)++[z]=A++x::(B++x::(C++[z])):=by simp
  rw[e3,zaq (fun q=>hA (jm _ q)) hB (fun q=>by
   rcases jV.mp q with q |q
   ·exact hC q
   ·exact hzx (jy.mp q).symm)]
  rw[show z::(A++x::(B++x::C))=(z::A)++x::(B++x::C) from rfl,zaq hA hB hC]
theorem zhu{x y:Str}:∀(P Q:List Str),(P++Q).count x=2->(P++Q).count y=2->crs (Q++P) x y=crs (P++Q) x y
 |[],Q,_,_=>by rw[QM,ZM]
 |z::P,Q,hx,hy=>by
  have c:∀ u,(P++(Q++[z])).count u=(z::P++Q).count u:=fun u=>by
   simp only[jU,Wz,Zm,J0]; lia
  have ih:=zhu P (Q++[z]) (by rw[c]; exact hx) (by rw[c]; exact hy)
  have t1:=zjB (z:=z) (w:=P++Q) hx hy;rw[show Q++z::P=Q++[z]++P by simp,ih,<-Qw,t1]
  rfl
theorem zkD{wd:List Str}{x y:Str}(hx:wd.count x=2):crs wd.reverse x y=crs wd x y:=by
 obtain⟨A,B,C,rfl,hA,hB,hC⟩:=zfC hx;have e:(A++x::(B++x::C)).reverse=C.reverse++x::(B.reverse++x::A.reverse):=by simp
 rw[e,zaq (by simpa using hC) (by simpa using hB) (by simpa using hA),zaq hA hB hC,List.count_reverse]
theorem zaL{wd:List Str}{x:Str}(h:wd.count x=2):∃ i j,za4 wd x=[i,j]:=by
 have hl:=zbw wd x;rw[h] at hl
 match h:za4 wd x,hl with
 |[i,j],_=>exact⟨i,j,rfl⟩
def cut(w:List Str)(st n:Nat):List Str:=(w.drop st).take n
def clo(l:List Str):Bool:=decide (l.length=2*(za0 l).length)
def Two(l:List Str):Prop:=∀ x∈l,l.count x=2
theorem zbZ{w:List Str}{st n:Nat}(h:st+n<=w.length):(cut w st n).length=n:=by unfold cut; rw[jK,jX]; lia
theorem zmG{w:List Str}{st n a k:Nat}(h:a+k<=n):cut (cut w st n) a k=cut w (st+a) k:=by
 unfold cut;rw[List.drop_take,List.take_take,Yq]
 congr 1
 lia
theorem Two.clo{l:List Str}(h:Two l):clo l=true:=Dt_ (zer h)
theorem zjK:∀ {l:List Nat},(∀ k∈l,k<=2)->l.sum=2*l.length->∀ k∈l,k=2
 |[],_,_,k,hk=>by simp at hk
 |a::l,h,e,k,hk=>by
  have h1:=h a (by simp)
  have h2:l.sum<=2*l.length:=by
   clear e hk
   have h':∀ k∈l,k<=2:=fun k hk=>h k (jm _ hk)
   clear h h1
   induction l with
   |nil=>simp
   |cons b l ih=>
    have:=h' b (by simp)
    have:=ih fun k hk=>h' k (jm _ hk);rw[gv,jl]; lia
  rw[gv,jl] at e;rcases jt.mp hk with q |q
  ·lia
  ·exact zjK (fun k hk=>h k (jm _ hk)) (by lia) k q
theorem zdY{l:List Str}(h2:∀ x∈l,l.count x<=2)(h:clo l=true):Two l:=fun x hx=>by
 have e:=zd3 l (za0 l) (zb5 l) fun x hx=>mem_firsts.mpr hx;have e2:=of_decide_eq_true h;refine zjK (l:=(za0 l).map fun x=>l.count x) (fun k hk=>?_) (by rw[<-e,e2,ja]) _ (jH.mpr ⟨x,mem_firsts.mpr hx,rfl⟩)
 obtain⟨y,hy,rfl⟩:=jH.mp hk;exact h2 y (mem_firsts.mp hy)
def zjM(w:List Str)(n:Nat):Prop:=∀ size start,2<=size->size%2=0->size < n->start+size<=w.length->clo (cut w start size)=false
structure Short (w:List Str) (st n:Nat):Prop where
 le:st+n<=w.length
 is:(st=0/\n=w.length)∨(2<=n/\n%2=0/\n < w.length/\clo (cut w st n)=true)
 no:zjM w n
def zc2(w:List Str)(st n:Nat):List Str:=w.take st++w.drop (st+n)
theorem zdD{w:List Str}{st n:Nat}(x:Str):w.count x=(zc2 w st n).count x+(cut w st n).count x:=by
 have e:w=w.take st++(cut w st n++w.drop (st+n)):=by
  unfold cut;rw[<-Yq,jP,jP]
 conv=>lhs; rw[e]
 unfold zc2;rw[jU,jU,jU];lia
theorem zh0{w:List Str}{st n:Nat}(h:st+n<=w.length):(zc2 w st n).length+n=w.length:=by
 unfold zc2;rw[js,jK,jX]; lia
theorem Short.pos{w:List Str}{st n:Nat}(s:Short w st n)(h:w≠[]):0 < n:=by
 have:0 < w.length:=NE.mpr h;rcases s.is with q |q<;>lia
theorem Short.two{w:List Str}{st n:Nat}(s:Short w st n)(h:Two w):Two (cut w st n)/\Two (zc2 w st n):=by
 have hp:Two (cut w st n):=by
  rcases s.is with ⟨h1,h2⟩ |q
  ·subst h1 h2;unfold cut;rw[Yk,YT]; exact h
  ·refine zdY (fun x hx=>?_) q.2.2.2;have:=zdD (w:=w) (st:=st) (n:=n) x
   by_cases hm:x∈w
   ·rw[h x hm] at this; lia
   ·rw[jM.mpr hm] at this; lia
 refine⟨hp,fun x hx=>?_⟩;have e:=zdD (w:=w) (st:=st) (n:=n) x;have hpos:=ZJ.mpr hx;have hw:x∈w:=ZJ.mp (by lia)
 rw[h x hw] at e
 by_cases hc:x∈cut w st n
 ·rw[hp x hc] at e; lia
 ·rw[jM.mpr hc] at e; lia
theorem Short.whole{w:List Str}{st n:Nat}(s:Short w st n):zjM (cut w st n) (cut w st n).length:=fun size start h1 h2 h3 h4=>by
 rw[zbZ s.le] at h3 h4;rw[zmG h4];exact s.no size _ h1 h2 h3 (by have:=s.le; lia)
inductive Parts:List Str->List (Nat × List Str)->Prop
 |nil:Parts [] []
 |cons {w:List Str} {st n:Nat} {ps:List (Nat × List Str)} (h:w≠[]) (s:Short w st n) (p:Parts (zc2 w st n) ps):Parts w ((st,cut w st n)::ps)
theorem Parts.le{w:List Str}{ps:List (Nat × List Str)}(h:Parts w ps):ps.length<=w.length/\∀ p∈ps,p.1<=w.length/\p.2.length<=w.length:=by
 induction h with
 |nil=>exact⟨jg _,fun p hp=>by simp at hp⟩
 |@cons w st n ps h s p ih=>
  have e:=zh0 s.le;have:=s.pos h;have:=s.le;refine⟨by rw[jl]; have:=ih.1; lia,fun q hq=>?_⟩
  rcases jt.mp hq with rfl |hq
  ·exact⟨by dsimp only; lia,by dsimp only; rw[zbZ s.le]; lia⟩
  ·have:=ih.2 q hq; lia
def zoI(w:List Str):Prop:=∀ a n,1<=n->n < w.length->a+n<=w.length->¬ Two (cut w a n)
theorem zfW{w:List Str}{a n:Nat}(x:Str):(cut w a n).count x<=w.count x:=by
 have:=zdD (w:=w) (st:=a) (n:=n) x;lia
theorem zib{w:List Str}(h:Two w):zjM w w.length↔zoI w:=by
 constructor
 ·intro hn a n h1 h2 h3 ht;have e:=zer ht;rw[zbZ h3] at e;have:=hn n a (by lia) (by lia) h2 h3
  rw[ht.clo] at this; cases this
 ·intro hw size start h1 h2 h3 h4;cases hc:clo (cut w start size) with
  |false=>rfl
  |true=>
   refine absurd (zdY (fun x hx=>?_) hc) (hw start size (by lia) h3 h4)
   have hm:=gS (QH hx);have:=zfW (w:=w) (a:=start) (n:=size) x;rw[h x hm] at this; exact this
theorem zjE{w:List Str}{A n:Nat}(y:Str)(h:A+n<=w.length):(cut w A n).count y=((za4 w y).filter fun k=>decide (A<=k)&&decide (k < A+n)).length:=by
 rw[<-zbw];unfold za4;rw[zbZ h,NY];have er:jp w.length=jp A++((jp n).map (fun x=>A+x)++(jp (w.length - (A+n))).map ((fun x=>A+x)∘fun x=>n+x)):=by
  conv=>lhs; rw[show w.length=A+(n+(w.length - (A+n))) by lia]
  rw[g6 (n:=A),g6 (n:=n),Qq,jQ]
 rw[er,Q8,Q8];have e1:(jp A).filter (fun k=>(decide (A<=k)&&decide (k < A+n))&&decide (w[k]?=some y))=[]:=by
  refine Qo.mpr fun k hk=>?_;have:=jz.mp hk;rw[Df_ (by lia:¬ A<=k),ZF,ZF]
  exact jr
 have e3:((jp (w.length - (A+n))).map ((fun x=>A+x)∘fun x=>n+x)).filter (fun k=>(decide (A<=k)&&decide (k < A+n))&&decide (w[k]?=some y))=[]:=by
  refine Qo.mpr fun k hk=>?_;obtain⟨m,hm,rfl⟩:=jH.mp hk;have:¬ ((fun x=>A+x)∘fun x=>n+x) m < A+n:=by
   show ¬ A+(n+m) < A+n;lia
  rw[Df_ this,WX,ZF];exact jr
 rw[e1,e3,ZM,QM,gh,ja];refine congrArg Y0 (gE fun k hk=>?_);have hk':=jz.mp hk;show _=((decide (A<=A+k)&&decide (A+k < A+n))&&decide (w[A+k]?=some y));rw[Dt_ (by lia:A<=A+k),Dt_ (by lia:A+k < A+n)]
 unfold cut;rw[ZH,Ip_ hk',gu];rfl
structure At (w:List Str) (p:Nat) (y:Str) (lo hi:Nat):Prop where
 is:w[p]?=some y
 pl:za4 w y=[lo,hi]
theorem At.facts{w:List Str}{p lo hi:Nat}{y:Str}(a:At w p y lo hi):lo < hi/\hi < w.length/\(p=lo∨p=hi):=by
 obtain⟨h1,h2⟩:=zb3 a.pl;have hp:p∈za4 w y:=Qc.mpr ⟨jz.mpr (j5.mp a.is).1,Dt_ a.is⟩;rw[a.pl] at hp;exact⟨h1,h2,by simpa using hp⟩
theorem zqz{w:List Str}(h:Two w){p:Nat}(hp:p < w.length):∃ y lo hi,At w p y lo hi:=by
 obtain⟨i,j,e⟩:=zaL (h w[p] (QU hp));exact⟨w[p],i,j,j3 hp,e⟩
theorem At.count{w:List Str}{p lo hi A n:Nat}{y:Str}(a:At w p y lo hi)(h:A+n<=w.length):(cut w A n).count y=(if A<=lo/\lo < A+n then 1 else 0)+(if A<=hi/\hi < A+n then 1 else 0):=by
 rw[zjE y h,a.pl]
 by_cases h1:A<=lo/\lo < A+n<;>by_cases h2:A<=hi/\hi < A+n<;>simp[QV,h1,h2]
theorem zkI{w:List Str}(hw:Two w){A n:Nat}(h:A+n<=w.length)(q:∀ p y lo hi,A<=p->p < A+n->At w p y lo hi->A<=lo/\hi < A+n):Two (cut w A n):=fun x hx=>by
 obtain⟨k,hk⟩:=List.mem_iff_getElem?.mp hx;have hkn:k < n:=by
  have:=(j5.mp hk).1
  rwa [zbZ h] at this
 unfold cut at hk;rw[ZH,Ip_ hkn,gu] at hk;obtain⟨y,lo,hi,a⟩:=zqz hw (p:=A+k) (by lia)
 have e:=je (a.is.symm.trans hk);subst e;have f:=a.facts;have:=q (A+k) y lo hi (by lia) (by lia) a
 rw[a.count h,Ip_ (by lia),Ip_ (by lia)]
end Dw
namespace Dw
abbrev F2:=Fin 2
section
variable {n:Nat}{i j nm:Nat->Nat}{hd:Nat->Bool}
def io(i j:Nat->Nat)(u k:Nat):F2:=if i u < k/\k<=j u then 1 else 0
def n2(k:Nat):F2:=Fin.ofNat 2 k
end
end Dw
set_option maxHeartbeats 1000000
set_option maxHeartbeats 4000000
namespace L3
open PySem PySem.Spec PyProof.Rows L2
section
variable [TheK]{X:Cx}{M:List Nat}
theorem qV(i:Nat){x:Str}{pos:Pos}(hN:X.N[i]?=some x:=by rfl)(hv:Vis X.env.scope x:=by first |exact jT rfl |exact gx (jT rfl) |exact gx (gx rfl))(hd:(x == ("__debug__":Str))=false:=by decide)(hcd:(x == ("__classdict__":Str))=false:=by decide)(hi:M.contains i=false:=by rfl):QE X (.Name x pos) (cE .e M (dV i)):=qv_ hi (qpv i hN hv hd hcd)
theorem qib{i:Int}{j:Nat}{pos:Pos}:QE X (.Constant (.int i) j pos) (cE .b M (dC (.int i))):=qeb qi_
end
end L3
namespace Dw
open PySem PySem.Spec PyProof.Rows L2 L3
def top(i:Nat):ZU:=gF.main.body.getD i (.Pass ⟨0,0,0,0⟩)
variable {v:Ev}
abbrev nQ0 : Str := "_law_word_here"
abbrev nQ1 : Str := "_law_cell_here"
abbrev nQ2 : Str := "_law_many"
abbrev nQ3 : Str := "_law_start"
abbrev nQ4 : Str := "_law_script"
abbrev nQ5 : Str := "_law_k"
abbrev nQ6 : Str := "_law_names_here"
abbrev nQ7 : Str := "_law_turn"
abbrev nQ8 : Str := "_law_bag_here"
abbrev nQ9 : Str := "_law_most"
abbrev zoR : Str := "_law_back"
abbrev zeG:ZU:=top 5
theorem zis:FnScope [nQ4,nQ5] [nQ4,nQ5] (za1 zeG):=scm
def zf2:DS:=(zao (zdN (dB (d2 gLt (dV 1) (d1 zbP (dV 0)))) (zap [] (d2 zau (dV 0) (dV 1))) zb1)
  (zap [] (dC (.int 0))))
def zba:List T->Option T:=fnP 2 zf2
abbrev zfa[TheK](v:Ev)(k:Nat):Prop:=Cl v k "_law_cell" [nQ4,nQ5] (spP .e 2 zba)
theorem ziX[tk:TheK](h:Here tk.K v.mg "_law_cell" zeG [nQ4,nQ5])(m_len:v.mg "len"=none):zfa v 1:=by
 refine(h.vP 0 [] zf2 zis fun nd f cdv A outer s H E hr=>?_ :);have hu:=zi0 hr
 exact(qs_ (M':=[]) (zcL (M':=[]) (znz (qV 1) (qeb (zaZ rfl rfl m_len (qeb (qV 0))))) (za5 (zai (zbe rfl hu (qV 0) (qeb (qV 1)) (fun _ _=>rfl)))) zaS)
  (za5 (zai qi_)))
abbrev zeD:ZU:=top 6
theorem zfs:FnScope [nQ1,nQ7,nQ2,"_law_blent"] [nQ1,nQ7,nQ2] (za1 zeD):=scm
def zf1:DS:=(zao (zaT 3 (d2 zcT (d2 zgC (d2 zah (d2 zcT (dV 0) (dC (.int 2147483647))) (dC (.int 7))) (d2 zah (dC (.int 48271)) (d2 zgC (dC (.int 7919)) (dV 1)))) (dC (.int 2147483647))))
  (zap [] (d2 zcT (d2 zhm (d2 zcT (d2 zgC (dV 3) (dC (.int 16807))) (dC (.int 2147483647))) (dC (.int 8))) (dV 2))))
def zag:List T->Option T:=fnP 4 zf1
abbrev zci[TheK](v:Ev)(k:Nat):Prop:=Cl v k "_law_pick" [nQ1,nQ7,nQ2] (spP .e 3 zag)
theorem ziU[tk:TheK](h:Here tk.K v.mg "_law_pick" zeD [nQ1,nQ7,nQ2]):zci v 1:=by
 refine(h.vP 0 [] zf1 zfs fun nd f cdv A outer s H E hr=>?_ :);have sc:=zfs
 exact(qs_ (M':=[]) (zae (M':=[]) (za6 (i:=3) sc.nd rfl (jT rfl) (zaY (zc4 (zaa (zaY (qV 0) qib) qib) (qeb (zaa qi_ (qeb (zc4 qi_ (qeb (qV 1))))))) qib)))
  (za5 (zai (zaY (zdl (zaY (zc4 (qV 3) qib) qib) qib) (qeb (qV 2))))))
abbrev zdc:ZU:=top 10
theorem zhL:FnScope [nQ1,nQ9] [nQ1,nQ9] (za1 zdc):=scm
def zcf:DS:=(zao (zdN (dB (d2 gEq (zal zag (dAc (dV 0) (dAc (dC (.int 14)) (dAc (dC (.int 4)) dAn)))) (dC (.int 0)))) (zap [] (zal zag (dAc (dV 0) (dAc (dC (.int 15)) (dAc (d2 zah (dV 1) (dC (.int 1))) dAn))))) zb1)
  (zap [] (zal zag (dAc (dV 0) (dAc (dC (.int 16)) (dAc (d2 zah (dA2 zoS (dAc (dV 1) (dAc (dC (.int 8)) dAn))) (dC (.int 1))) dAn))))))
def zbH:List T->Option T:=fnP 2 zcf
abbrev zdJ[TheK](v:Ev)(k:Nat):Prop:=Cl v k "_law_count" [nQ1,nQ9] (spP .e 2 zbH)
theorem zhT[tk:TheK](h:Here tk.K v.mg "_law_count" zdc [nQ1,nQ9])(pd:zci v 1)(m_min:v.mg "min"=none):zdJ v 2:=by
 refine(h.vP 1 [] zcf zhL fun nd f cdv A outer s H E hr=>?_ :);have hu8:=zdv hr
 exact(qs_ (M':=[]) (zcL (M':=[]) (zk9 hu8 (qc pd hr rfl (qa_ (qV 0) (qa_ qi_ (qa_ qi_ za2))) ar3) qib) (za5 (zai (qc pd hr rfl (qa_ (qV 0) (qa_ qi_ (qa_ (zaa (qV 1) qib) za2))) ar3))) zaS)
  (za5 (zai (qc pd hr rfl (qa_ (qV 0) (qa_ qi_ (qa_ (zaa (zlQ rfl rfl m_min zoB (qa_ (qV 1) (qa_ qi_ za2))) qib) za2))) ar3))))
abbrev zdb:ZU:=top 9
theorem ze9:FnScope [nQ1,nQ2,"_law_letters","_law_base",nQ5,"_law_spot","_law_first","_law_made","_law_far",nQ7] [nQ1,nQ2] (za1 zdb):=scm
def zce:DS:=(zao (zaT 2 (dC (.str "abcdefghijklmnopqrstuvwxyz")))
  (zao (zaT 3 (dC (.str "")))
  (zao (zf3 (zjP (dAc (zal zag (dAc (dV 0) (dAc (dC (.int 1)) (dAc (dC (.int 7)) dAn)))) dAn)) (dGn 4)
  (zaT 3 (d2 zah (dV 3) (d2 zau (dV 2) (zal zag (dAc (dV 0) (dAc (d2 zah (dC (.int 2)) (dV 4)) (dAc (dC (.int 26)) dAn))))))))
  (zao (zaT 5 (zal zag (dAc (dV 0) (dAc (dC (.int 10)) (dAc (d2 zah (d1 zbP (dV 3)) (dC (.int 1))) dAn)))))
  (zao (zaT 6 (zal zag (dAc (dV 0) (dAc (dC (.int 11)) (dAc (dC (.int 26)) dAn)))))
  (zao (zaT 7 (zhs dAn))
  (zao (zdN (dB (d2 gEq (zal zag (dAc (dV 0) (dAc (dC (.int 12)) (dAc (dC (.int 4)) dAn)))) (dC (.int 0)))) (zaT 7 (dLC [7] [none,some 3] (zox (dAc (dC (.int 1)) (dAc (d2 zah (d1 zbP (dV 3)) (dC (.int 1))) dAn))) (dGn 0) zjv (dSl zbL (dV 1) dOn (dOs (dV 0))))) zb1)
  (zao (zf3 (zjP (dAc (dV 1) dAn)) (dGn 4)
  (zao (zaT 8 (d2 zah (d2 zau (dV 2) (d2 zcT (d2 zah (dV 6) (d2 zgC (dC (.int 5)) (dV 4))) (dC (.int 26)))) (d2 zau (dV 2) (d2 zcT (d2 zah (dV 6) (d2 zhm (dV 4) (dC (.int 26)))) (dC (.int 26))))))
  (zdN (dB (d2 zb6 (d2 zah (d2 zah (dSl zbL (dV 3) dOn (dOs (dV 5))) (dV 8)) (dSl zbL (dV 3) (dOs (dV 5)) dOn)) (dV 7))) (dDo (zi8 zhc 7 (dAc (d2 zah (d2 zah (dSl zbL (dV 3) dOn (dOs (dV 5))) (dV 8)) (dSl zbL (dV 3) (dOs (dV 5)) dOn)) dAn))) zb1)))
  (zao (zaT 9 (zal zag (dAc (dV 0) (dAc (dC (.int 13)) (dAc (d2 zah (dV 1) (dC (.int 1))) dAn)))))
  (zap [] (d2 zah (dSl zbL (zow gSl 7 dOn (dOs (dV 1))) (dOs (dV 9)) dOn) (dSl zbL (zow gSl 7 dOn (dOs (dV 1))) dOn (dOs (dV 9))))))))))))))
def zcv:List T->Option T:=fnP 10 zce
abbrev zdI[TheK](v:Ev)(k:Nat):Prop:=Cl v k "_law_names" [nQ1,nQ2] (spP .e 2 zcv)
theorem zhS[tk:TheK](h:Here tk.K v.mg "_law_names" zdb [nQ1,nQ2])(pd:zci v 1)(m_range:v.mg "range"=none)(m_len:v.mg "len"=none):zdI v 2:=by
 refine(h.vP 1 [] zce ze9 fun nd f cdv A outer s H E hr=>?_ :);have sc:=ze9;have hu:=zi0 hr;have hu8:=zdv hr
 exact(qs_ (M':=[]) (zae (M':=[]) (za6 (i:=2) sc.nd rfl (jT rfl) ziC))
  (qs_ (M':=[]) (zae (M':=[]) (za6 (i:=3) sc.nd rfl (gx rfl) ziC))
  (qs_ (M':=[]) (zc3 (zbd Qg rfl (zbt rfl m_range (qa_ (qc pd hr rfl (qa_ (qV 0) (qa_ qi_ (qa_ qi_ za2))) ar3) za2)) (zbu (zaf (i:=4) sc.nd rfl (jT rfl)))
  (za5 (zae (M':=[]) (za6 (i:=3) sc.nd rfl (gx rfl) (zaa (qV 3) (qeb (zbe rfl hu (qV 2) (qeb (qc pd hr rfl (qa_ (qV 0) (qa_ (zaa qi_ (qeb (qV 4))) (qa_ qi_ za2))) ar3)) (fun _ _=>rfl)))))))))
  (qs_ (M':=[]) (zae (M':=[]) (za6 (i:=5) sc.nd rfl (jT rfl) (qc pd hr rfl (qa_ (qV 0) (qa_ qi_ (qa_ (zaa (zaZ rfl rfl m_len (qeb (qV 3))) qib) za2))) ar3)))
  (qs_ (M':=[]) (zae (M':=[]) (za6 (i:=6) sc.nd rfl (jT rfl) (qc pd hr rfl (qa_ (qV 0) (qa_ qi_ (qa_ qi_ za2))) ar3)))
  (qs_ (M':=[7]) (zaX (M':=[7]) (za6 (i:=7) sc.nd rfl (jT rfl) (zbN za2)))
  (qs_ (M':=[7]) (zcL (M':=[7]) (zk9 hu8 (qc pd hr rfl (qa_ (qV 0) (qa_ qi_ (qa_ qi_ za2))) ar3) qib) (za5 (zaX (M':=[7]) (zpV (Mi:=[]) rfl (zbQ (i:=0)) zdX (zdj (i:=7) sc.nd rfl rfl (N:=["_law_k","_law_base"]) (caps:=[none,some 3]) rfl (ziA rfl m_range (qa_ qi_ (qa_ (zaa (zaZ rfl rfl m_len (qeb (qV 3))) qib) za2))) (fun _ _ _ _ _=>(zaf (i:=0) (show (["_law_k","_law_base"]:List Str).Nodup by decide +kernel) rfl (jT rfl))) zbg (fun _ _ _ _ _=>zbB) (fun _ _ _ _ _=>(zaJ rfl (qV 1) zaw (zak (qV 0)))))))) zaS)
  (qs_ (M':=[7]) (zc3 (zbd Qg rfl (zbt rfl m_range (qa_ (qV 1) za2)) (zbu (zaf (i:=4) sc.nd rfl (jT rfl)))
  (qs_ (M':=[7]) (zae (M':=[7]) (za6 (i:=8) sc.nd rfl (jT rfl) (zaa (zbe rfl hu (qV 2) (qeb (zaY (zaa (qV 6) (qeb (zc4 qi_ (qeb (qV 4))))) qib)) (fun _ _=>rfl)) (qeb (zbe rfl hu (qV 2) (qeb (zaY (zaa (qV 6) (qeb (zdl (qV 4) qib))) qib)) (fun _ _=>rfl))))))
  (za5 (zcL (M':=[7]) (zdi hu (zaa (zaa (zaJ rfl (qV 3) zaw (zak (qV 5))) (qeb (qV 8))) (qeb (zaJ rfl (qV 3) (zak (qV 5)) zaw))) (zh6 rfl (qpv 7)) (by with_unfolding_all rfl)) (za5 (zix (.inl rfl) (zbv rfl (zbs jO QN QP zb9 (qpv 7) (qa_ (zaa (zaa (zaJ rfl (qV 3) zaw (zak (qV 5))) (qeb (qV 8))) (qeb (zaJ rfl (qV 3) (zak (qV 5)) zaw))) za2))))) zaS)))))
  (qs_ (M':=[7]) (zae (M':=[7]) (za6 (i:=9) sc.nd rfl (jT rfl) (qc pd hr rfl (qa_ (qV 0) (qa_ qi_ (qa_ (zaa (qV 1) qib) za2))) ar3)))
  (za5 (zai (zaa (zaJ rfl (qne (zkR rfl rfl (qpv 7) zaw (zak (qV 1)))) (zak (qV 9)) zaw) (qeb (zaJ rfl (qne (zkR rfl rfl (qpv 7) zaw (zak (qV 1)))) zaw (zak (qV 9))))))))))))))))
abbrev zgk:ZU:=top 7
theorem zk3:FnScope [nQ1] [nQ1] (za1 zgk):=scm
def zgH:DS:=(zap [] (zhs (dAc (d2 zgC (d2 zhm (dV 0) (dC (.int 2))) (d2 zcT (dV 0) (dC (.int 2)))) (dAc (d2 zcT (d2 zhm (dV 0) (dC (.int 2))) (dC (.int 2147483647))) dAn))))
def zcU:List T->Option T:=zmQ 1 zgH
abbrev zgT[TheK](v:Ev)(k:Nat):Prop:=Cl v k "_law_bag" [nQ1] (spP .n 1 zcU)
theorem zkn[tk:TheK](h:Here tk.K v.mg "_law_bag" zgk [nQ1]):zgT v 1:=by
 refine(h.vN 0 [] zgH zk3 fun nd f cdv A outer s H E hr=>?_ :);exact(za5 (zlM (zbN (qa_ (zc4 (zdl (qV 0) qib) (qeb (zaY (qV 0) qib))) (qa_ (zaY (zdl (qV 0) qib) qib) za2)))))
abbrev zeF:ZU:=top 8
theorem zfu:FnScope [nQ8,nQ2,"_law_found"] [nQ8,nQ2] (za1 zeF):=scm
def zcY:DS:=(zao (zdN (dB (d2 gGt (d2v zau 0 (dC (.int 0))) (dC (.int 0)))) (zao (zaT 2 (d2 zcT (d2v zau 0 (dC (.int 0))) (dV 1)))
  (zao (zfU 0 (dC (.int 0)) (d2 zhm (d2v zau 0 (dC (.int 0))) (dV 1)))
  (zap [0] (dV 2)))) zb1)
  (zao (zfU 0 (dC (.int 1)) (d2 zcT (d2 zah (d2 zgC (d2v zau 0 (dC (.int 1))) (dC (.int 48271))) (dC (.int 4099))) (dC (.int 2147483647))))
  (zap [0] (d2 zcT (d2 zhm (d2 zcT (d2 zgC (d2v zau 0 (dC (.int 1))) (d2 zah (d2 zhm (d2v zau 0 (dC (.int 1))) (dC (.int 65536))) (dC (.int 7)))) (dC (.int 2147483629))) (dC (.int 32))) (dV 1)))))
def zbA:List T->Option (T × T):=fnI 3 zcY
abbrev zf9[TheK](v:Ev)(k:Nat):Prop:=Cl v k "_law_draw" [nQ8,nQ2] (spI .e 2 zbA)
theorem ziW[tk:TheK](h:Here tk.K v.mg "_law_draw" zeF [nQ8,nQ2]):zf9 v 1:=by
 refine(h.vI 0 [] zcY zfu fun nd f cdv A outer s H E hr=>?_ :);have sc:=zfu;have hu:=zi0 hr
 exact(qs_ (M':=[0]) (zcL (M':=[0]) (zpU (zbC rfl rfl hu (qpv 0) qib (fun _ _=>rfl)) qib) (qs_ (M':=[0]) (zae (M':=[0]) (za6 (i:=2) sc.nd rfl (jT rfl) (zaY (zbC rfl rfl hu (qpv 0) qib (fun _ _=>rfl)) (qeb (qV 1)))))
  (qs_ (M':=[0]) (zeO rfl (zdk (zdl (zbC rfl rfl hu (qpv 0) qib (fun _ _=>rfl)) (qeb (qV 1))) (zeQ (qpv 0) qi_ zcO)))
  (za5 (zai (qV 2))))) zaS)
  (qs_ (M':=[0]) (zeO rfl (zdk (zaY (zaa (zc4 (zbC rfl rfl hu (qpv 0) qib (fun _ _=>rfl)) qib) qib) qib) (zeQ (qpv 0) qi_ zcO)))
  (za5 (zai (zaY (zdl (zaY (zc4 (zbC rfl rfl hu (qpv 0) qib (fun _ _=>rfl)) (qeb (zaa (zdl (zbC rfl rfl hu (qpv 0) qib (fun _ _=>rfl)) qib) qib))) qib) qib) (qeb (qV 1)))))))
abbrev zeB:ZU:=top 11
theorem zfr:FnScope [nQ1,nQ6,nQ8,"_law_free","_law_made","_law_name","_law_at","_law_far"] [nQ1,nQ6] (za1 zeB):=scm
def zcV:DS:=(zao (zaT 2 (zal zcU (dAc (dV 0) dAn)))
  (zao (zaT 3 (dLR (dAc (d2 zgC (dC (.int 2)) (d1 zbP (dV 1))) dAn)))
  (zao (zaT 4 (dLC [2,3] [none] (zi9 3) (dGn 0) zjv (dC (.str ""))))
  (zao (zf3 (zjQ (dV 1)) (dGn 5)
  (zao (zaT 6 (zi8 zbx 3 (dAc (dC (.int 0)) dAn)))
  (zao (zaT 7 (zi8 zbx 3 (dAc (zfV zbA 2 (dAc (d1 zbP (dV 3)) dAn)) dAn)))
  (zao (zfU 4 (dV 6) (dV 5))
  (zfU 4 (dV 7) (dV 5))))))
  (zap [] (dV 4))))))
def zc9:List T->Option T:=fnP 8 zcV
abbrev zf6[TheK](v:Ev)(k:Nat):Prop:=Cl v k "_law_word" [nQ1,nQ6] (spP .e 2 zc9)
theorem ziS[tk:TheK](h:Here tk.K v.mg "_law_word" zeB [nQ1,nQ6])(pC:zgT v 1)(pI:zf9 v 1)(m_list:v.mg "list"=none)(m_range:v.mg "range"=none)(m_len:v.mg "len"=none):zf6 v 2:=by
 refine(h.vP 1 [] zcV zfr fun nd f cdv A outer s H E hr=>?_ :);have sc:=zfr
 exact(qs_ (M':=[2]) (zaX (M':=[2]) (za6 (i:=2) sc.nd rfl (jT rfl) (qcN pC hr rfl (qa_ (qV 0) za2) ar1)))
  (qs_ (M':=[2,3]) (zaX (M':=[2,3]) (za6 (i:=3) sc.nd rfl (jT rfl) (zcE rfl rfl m_list rfl m_range (qa_ (zc4 qi_ (qeb (zaZ rfl rfl m_len (qeb (qV 1))))) za2))))
  (qs_ (M':=[2,3,4]) (zaX (M':=[2,3,4]) (zkP (i0:=3) (Mi:=[]) rfl rfl rfl rfl (zbQ (i:=0)) zdX (zdj (i:=4) sc.nd rfl rfl (N:=["_law_at"]) (caps:=[none]) rfl (zeP (qpv 3)) (fun _ _ _ _ _=>(zaf (i:=0) (show (["_law_at"]:List Str).Nodup by decide +kernel) rfl (jT rfl))) zbg (fun _ _ _ _ _=>zbB) (fun _ _ _ _ _=>ziC))))
  (qs_ (M':=[2,3,4]) (zc3 (zbd Qg rfl (zea rfl (qV 1)) (zbu (zaf (i:=5) sc.nd rfl (jT rfl)))
  (qs_ (M':=[2,3,4]) (zae (M':=[2,3,4]) (za6 (i:=6) sc.nd rfl (jT rfl) (zeS rfl (zbs jO gL gM zeU (qpv 3) (qa_ qi_ za2)))))
  (qs_ (M':=[2,3,4]) (zae (M':=[2,3,4]) (za6 (i:=7) sc.nd rfl (jT rfl) (zeS rfl (zbs jO gL gM zeU (qpv 3) (qa_ (qcI rfl pI hr rfl (qpv 2) (qa_ (zaZ rfl rfl m_len (zh6 rfl (qpv 3))) za2) ar1) za2)))))
  (qs_ (M':=[2,3,4]) (zeO rfl (zdk (qV 5) (zeQ (qpv 4) (qV 6) zcO)))
  (za5 (zeO rfl (zdk (qV 5) (zeQ (qpv 4) (qV 7) zcO)))))))))
  (za5 (zh3 (M':=[2,3]) (zai (qV 4))))))))
abbrev zda:ZU:=top 13
theorem ze8:FnScope [nQ0,"_law_known","_law_name"] [nQ0] (za1 zda):=scm
def zcd:DS:=(zao (zaT 1 (zhs dAn))
  (zao (zf3 (zjQ (dV 0)) (dGn 2)
  (zdN (dB (d2 zb6 (dV 2) (dV 1))) (dDo (zi8 zhc 1 (dAc (dV 2) dAn))) zb1))
  (zap [] (dV 1))))
def zbG:List T->Option T:=fnP 3 zcd
abbrev zcj[TheK](v:Ev)(k:Nat):Prop:=Cl v k "_law_order" [nQ0] (spP .e 1 zbG)
theorem zhR[tk:TheK](h:Here tk.K v.mg "_law_order" zda [nQ0]):zcj v 1:=by
 refine(h.vP 0 [] zcd ze8 fun nd f cdv A outer s H E hr=>?_ :);have sc:=ze8;have hu:=zi0 hr
 exact(qs_ (M':=[1]) (zaX (M':=[1]) (za6 (i:=1) sc.nd rfl (jT rfl) (zbN za2)))
  (qs_ (M':=[1]) (zc3 (zbd Qg rfl (zea rfl (qV 0)) (zbu (zaf (i:=2) sc.nd rfl (jT rfl)))
  (za5 (zcL (M':=[1]) (zdi hu (qV 2) (zh6 rfl (qpv 1)) (by with_unfolding_all rfl)) (za5 (zix (.inl rfl) (zbv rfl (zbs jO QN QP zb9 (qpv 1) (qa_ (qV 2) za2))))) zaS))))
  (za5 (zh3 (M':=[]) (zai (qV 1))))))
abbrev zd8:ZU:=top 14
theorem ze6:FnScope [nQ0,"_law_known","_law_masks","_law_name",nQ3,"_law_inner","_law_mask",nQ5,"_law_other"] [nQ0] (za1 zd8):=scm
def zcb:DS:=(zao (zaT 1 (zal zbG (dAc (dV 0) dAn)))
  (zao (zaT 2 (zhs dAn))
  (zao (zf3 (zjQ (dV 1)) (dGn 3)
  (zao (zaT 4 (d2L zej (dV 0) (dV 3)))
  (zao (zaT 5 (dSl zbL (dV 0) (dOs (d2 zah (dV 4) (dC (.int 1)))) dOn))
  (zao (zaT 5 (dSl zbL (dV 5) dOn (dOs (d2L zej (dV 5) (dV 3)))))
  (zao (zaT 6 (dC (.int 0)))
  (zao (zf3 (dEn (dAc (dV 1) dAn)) (dGt [7,8])
  (zdN (dB (d2 gEq (d2L zfP (dV 5) (dV 8)) (dC (.int 1)))) (zaT 6 (d2 zoU (dV 6) (d2 zoT (dC (.int 1)) (dV 7)))) zb1))
  (dDo (zi8 zhc 2 (dAc (dV 6) dAn)))))))))
  (zap [] (dV 2)))))
def zcu:List T->Option T:=fnP 9 zcb
abbrev zdG[TheK](v:Ev)(k:Nat):Prop:=Cl v k "_law_table" [nQ0] (spP .e 1 zcu)
theorem zhP[tk:TheK](h:Here tk.K v.mg "_law_table" zd8 [nQ0])(pg:zcj v 1)(m_enumerate:v.mg "enumerate"=none):zdG v 2:=by
 refine(h.vP 1 [] zcb ze6 fun nd f cdv A outer s H E hr=>?_ :);have sc:=ze6;have hu8:=zdv hr
 exact(qs_ (M':=[]) (zae (M':=[]) (za6 (i:=1) sc.nd rfl (jT rfl) (qc pg hr rfl (qa_ (qV 0) za2) ar1)))
  (qs_ (M':=[2]) (zaX (M':=[2]) (za6 (i:=2) sc.nd rfl (jT rfl) (zbN za2)))
  (qs_ (M':=[2]) (zc3 (zbd Qg rfl (zea rfl (qV 1)) (zbu (zaf (i:=3) sc.nd rfl (jT rfl)))
  (qs_ (M':=[2]) (zae (M':=[2]) (za6 (i:=4) sc.nd rfl (jT rfl) (zh7 (zbs jO YL YM zfG (qV 0) (zeR (qeb (qV 3)) zgp)))))
  (qs_ (M':=[2]) (zae (M':=[2]) (za6 (i:=5) sc.nd rfl (jT rfl) (zaJ rfl (qV 0) (zak (zaa (qV 4) qib)) zaw)))
  (qs_ (M':=[2]) (zae (M':=[2]) (za6 (i:=5) sc.nd rfl (jT rfl) (zaJ rfl (qV 5) zaw (zak (zh7 (zbs jO YL YM zfG (qV 5) (zeR (qeb (qV 3)) zgp)))))))
  (qs_ (M':=[2]) (zae (M':=[2]) (za6 (i:=6) sc.nd rfl (jT rfl) qi_))
  (qs_ (M':=[2]) (zc3 (zbd Qg rfl (zlP rfl m_enumerate (qa_ (qV 1) za2)) (znC (K:=tk.K) (is:=[7,8]) (n:=2) (ziy rfl (zaR (zaf (i:=7) sc.nd rfl (jT rfl)) (zaR (zaf (i:=8) sc.nd rfl (jT rfl)) zcQ))))
  (za5 (zcL (M':=[2]) (zk9 hu8 (zke (zbs jO PySem.F.slot_list_count PySem.F.type_list_count zj0 (qV 5) (zeR (qeb (qV 8)) zgp))) qib) (za5 (zae (M':=[2]) (za6 (i:=6) sc.nd rfl (jT rfl) (znH (qV 6) (qeb (znE qi_ (qeb (qV 7)))))))) zaS))))
  (za5 (zix (.inl rfl) (zbv rfl (zbs jO QN QP zb9 (qpv 2) (qa_ (qV 6) za2))))))))))))
  (za5 (zh3 (M':=[]) (zai (qV 2)))))))
abbrev zeE:ZU:=top 16
theorem zft:FnScope [nQ0,"_law_known","_law_masks","_law_groups","_law_left","_law_group","_law_at","_law_near"] [nQ0] (za1 zeE):=scm
def zcX:DS:=(zao (zaT 1 (zal zbG (dAc (dV 0) dAn)))
  (zao (zaT 2 (zal zcu (dAc (dV 0) dAn)))
  (zao (zaT 3 (zhs dAn))
  (zao (zaT 4 (dLR (dAc (d1 zbP (dV 1)) dAn)))
  (zao (zb7 (dB (d2v gNe 4 (zhs dAn)))
  (zao (zaT 5 (zhs (dAc (zi8 zbx 4 (dAc (dC (.int 0)) dAn)) dAn)))
  (zao (zaT 6 (dC (.int 0)))
  (zao (zb7 (dB (d2 gLt (dV 6) (d1 zbP (dV 5))))
  (zao (zaT 7 (dLC [3,4] [none,some 2,some 5,some 6] (zi9 4) (dGn 0) (dB (d2 gEq (d2 zjn (d2 zom (d2 zau (dV 1) (d2 zau (dV 2) (dV 3))) (dV 0)) (dC (.int 1))) (dC (.int 1)))) (dV 0)))
  (zao (zaT 5 (d2 zah (dV 5) (dV 7)))
  (zao (zaT 4 (dLC [3,4] [none,some 7] (zi9 4) (dGn 0) (dB (d2 zb6 (dV 0) (dV 1))) (dV 0)))
  (zqv 6 (dC (.int 1)))))) 100)
  (dDo (zi8 zhc 3 (dAc (d1 zdx (dLC [3,4] [none,some 1] (zjQ (dV 5)) (dGn 0) zjv (d2 zau (dV 1) (dV 0)))) dAn)))))) 100)
  (zap [] (d1 zeh (dV 3))))))))
def zdy:List T->Option T:=fnP 8 zcX
abbrev zf8[TheK](v:Ev)(k:Nat):Prop:=Cl v k "_law_hung" [nQ0] (spP .e 1 zdy)
theorem ziV[tk:TheK](h:Here tk.K v.mg "_law_hung" zeE [nQ0])(pg:zcj v 2)(pP:zdG v 2)(m_list:v.mg "list"=none)(m_range:v.mg "range"=none)(m_len:v.mg "len"=none)(m_sorted:v.mg "sorted"=none):zf8 v 3:=by
 refine(h.vP 2 [] zcX zft fun nd f cdv A outer s H E hr=>?_ :);have sc:=zft;have hu:=zi0 hr;have hu8:=zdv hr
 exact(qs_ (M':=[]) (zae (M':=[]) (za6 (i:=1) sc.nd rfl (gx rfl) (qc pg hr rfl (qa_ (qV 0) za2) ar1)))
  (qs_ (M':=[]) (zae (M':=[]) (za6 (i:=2) sc.nd rfl (gx rfl) (qc pP hr rfl (qa_ (qV 0) za2) ar1)))
  (qs_ (M':=[3]) (zaX (M':=[3]) (za6 (i:=3) sc.nd rfl (jT rfl) (zbN za2)))
  (qs_ (M':=[3,4]) (zaX (M':=[3,4]) (za6 (i:=4) sc.nd rfl (jT rfl) (zcE rfl rfl m_list rfl m_range (qa_ (zaZ rfl rfl m_len (qeb (qV 1))) za2))))
  (qs_ (M':=[3,4]) (zeN 100 Qg (zny rfl hu8 (qpv 4) (qnb (zbN za2)))
  (qs_ (M':=[3,4]) (zae (M':=[3,4]) (za6 (i:=5) sc.nd rfl (gx rfl) (qne (zbN (qa_ (zeS rfl (zbs jO gL gM zeU (qpv 4) (qa_ qi_ za2))) za2)))))
  (qs_ (M':=[3,4]) (zae (M':=[3,4]) (za6 (i:=6) sc.nd rfl (gx rfl) qi_))
  (qs_ (M':=[3,4]) (zeN 100 Qg (znz (qV 6) (qeb (zaZ rfl rfl m_len (qeb (qV 5)))))
  (qs_ (M':=[3,4]) (zae (M':=[3,4]) (za6 (i:=7) sc.nd rfl (gx rfl) (qne (znG (i0:=4) (Mi:=[]) rfl rfl rfl rfl (zbQ (i:=0)) (fun _ _ _ h=>h) (zfz (N:=["_law_other","_law_masks","_law_group","_law_at"]) (caps:=[none,some 2,some 5,some 6]) rfl (zeP (qpv 4)) (fun _ _ _ _ _=>(zaf (i:=0) (show (["_law_other","_law_masks","_law_group","_law_at"]:List Str).Nodup by decide +kernel) rfl (jT rfl))) zbg (fun _ _ _ _ _=>(zh4 (zk9 hu8 (zlS (znD (zbe rfl hu (qV 1) (qeb (zbe rfl hu (qV 2) (qeb (qV 3)) (fun _ _=>rfl))) (fun _ _=>rfl)) (qeb (qV 0))) qib) qib))) (fun _ _ _ _ _=>(qV 0)))))))
  (qs_ (M':=[3,4]) (zae (M':=[3,4]) (za6 (i:=5) sc.nd rfl (gx rfl) (zaa (qV 5) (qeb (qV 7)))))
  (qs_ (M':=[3,4]) (zaX (M':=[3,4]) (zkP (i0:=4) (Mi:=[]) rfl rfl rfl rfl (zbQ (i:=0)) (fun _ _ _ h=>h) (zdj (i:=4) sc.nd rfl rfl (N:=["_law_other","_law_near"]) (caps:=[none,some 7]) rfl (zeP (qpv 4)) (fun _ _ _ _ _=>(zaf (i:=0) (show (["_law_other","_law_near"]:List Str).Nodup by decide +kernel) rfl (jT rfl))) zbg (fun _ _ _ _ _=>(zh4 (zdi hu (qV 0) (qeb (qV 1)) (by with_unfolding_all rfl)))) (fun _ _ _ _ _=>(qV 0)))))
  (za5 (znB rfl (zlN (i:=6) sc.nd rfl (gx rfl) qi_ zoj)))))))
  (za5 (zix (.inl rfl) (zbv rfl (zbs jO QN QP zb9 (qpv 3) (qa_ (qne (ziD rfl rfl m_sorted (qnb (zkc (Mi:=[]) rfl (zbQ (i:=0)) zdX (zfz (N:=["_law_k","_law_known"]) (caps:=[none,some 1]) rfl (zea rfl (qV 5)) (fun _ _ _ _ _=>(zaf (i:=0) (show (["_law_k","_law_known"]:List Str).Nodup by decide +kernel) rfl (jT rfl))) zbg (fun _ _ _ _ _=>zbB) (fun _ _ _ _ _=>(zbe rfl hu (qV 1) (qeb (qV 0)) (fun _ _=>rfl)))))))) za2)))))))))
  (za5 (zai (qne (zh5 rfl hu8 rfl m_sorted (zh6 rfl (qpv 3)))))))))))
abbrev zbc:ZU:=top 3
theorem zdR:FnScope ["part"] ["part"] (za1 zbc):=scm
def zaW:DS:=(zap [] (d2 gEq (d1 zbP (dV 0)) (d2 zgC (dC (.int 2)) (d1 zeY (dV 0)))))
def zaP:List T->Option T:=fnP 1 zaW
abbrev zbk[TheK](v:Ev)(k:Nat):Prop:=Cl v k "is_closed" ["part"] (spP .e 1 zaP)
theorem zdT[tk:TheK](h:Here tk.K v.mg "is_closed" zbc ["part"])(m_len:v.mg "len"=none)(m_set:v.mg "set"=none):zbk v 1:=by
 refine(h.vP 0 [] zaW zdR fun nd f cdv A outer s H E hr=>?_ :);have hu8:=zdv hr;exact(za5 (zai (zkd hu8 (zaZ rfl rfl m_len (qeb (qV 0))) (qeb (zc4 qi_ (qeb (ziE rfl rfl rfl m_len rfl m_set (qeb (qV 0)))))))))
abbrev zaD:ZU:=top 2
theorem zaV:FnScope ["word","size","start"] ["word"] (za1 zaD):=scm
def zas:DS:=(zao (zf3 (zqt (dAc (dC (.int 2)) (dAc (d1 zbP (dV 0)) (dAc (dC (.int 2)) dAn)))) (dGn 1)
  (zf3 (zjP (dAc (d2 zah (d2 gSb (d1 zbP (dV 0)) (dV 1)) (dC (.int 1))) dAn)) (dGn 2)
  (zdN (zla (zal zaP (dAc (dSl zbL (dV 0) (dOs (dV 2)) (dOs (d2 zah (dV 2) (dV 1)))) dAn))) (zap [] (zmE (dAc (dV 2) (dAc (d2 zah (dV 2) (dV 1)) dAn)))) zb1)))
  (zap [] (zmE (dAc (dC (.int 0)) (dAc (d1 zbP (dV 0)) dAn)))))
def zaA:List T->Option T:=fnP 3 zas
abbrev zaE[TheK](v:Ev)(k:Nat):Prop:=Cl v k "shortest_closed" ["word"] (spP .e 1 zaA)
theorem zbK[tk:TheK](h:Here tk.K v.mg "shortest_closed" zaD ["word"])(pW:zbk v 1)(m_range:v.mg "range"=none)(m_len:v.mg "len"=none):zaE v 2:=by
 refine(h.vP 1 [] zas zaV fun nd f cdv A outer s H E hr=>?_ :);have sc:=zaV
 exact(qs_ (M':=[]) (zc3 (zbd Qg rfl (ziz rfl m_range (qa_ qi_ (qa_ (zaZ rfl rfl m_len (qeb (qV 0))) (qa_ qi_ za2)))) (zbu (zaf (i:=1) sc.nd rfl (jT rfl)))
  (za5 (zc3 (zbd Qg rfl (zbt rfl m_range (qa_ (zaa (zkQ (zaZ rfl rfl m_len (qeb (qV 0))) (qeb (qV 1))) qib) za2)) (zbu (zaf (i:=2) sc.nd rfl (jT rfl)))
  (za5 (zcL (M':=[]) (zfy (qeb (qc pW hr rfl (qa_ (zaJ rfl (qV 0) (zak (qV 2)) (zak (zaa (qV 2) (qeb (qV 1))))) za2) ar1))) (za5 (zai (ziB (qa_ (qV 2) (qa_ (zaa (qV 2) (qeb (qV 1))) za2))))) zaS)))))))
  (za5 (zai (ziB (qa_ qi_ (qa_ (zaZ rfl rfl m_len (qeb (qV 0))) za2))))))
abbrev zcp:ZU:=top 1
theorem zd7:FnScope ["word","pieces","rest","start","stop"] ["word"] (za1 zcp):=scm
def zbI:DS:=(zao (zaT 1 (zhs dAn))
  (zao (zaT 2 (dV 0))
  (zao (zb7 (zla (dV 2))
  (zao (dUn [3,4] (zal zaA (dAc (dV 2) dAn)))
  (zao (dDo (zi8 zhc 1 (dAc (zmE (dAc (dV 3) (dAc (dSl zbL (dV 2) (dOs (dV 3)) (dOs (dV 4))) dAn))) dAn)))
  (zaT 2 (d2 zah (dSl zbL (dV 2) dOn (dOs (dV 3))) (dSl zbL (dV 2) (dOs (dV 4)) dOn))))) 100)
  (zap [] (dV 1)))))
def zbh:List T->Option T:=fnP 5 zbI
abbrev zcA[TheK](v:Ev)(k:Nat):Prop:=Cl v k "parted" ["word"] (spP .e 1 zbh)
theorem zgs[tk:TheK](h:Here tk.K v.mg "parted" zcp ["word"])(pK:zaE v 2):zcA v 3:=by
 refine(h.vP 2 [] zbI zd7 fun nd f cdv A outer s H E hr=>?_ :);have sc:=zd7
 exact(qs_ (M':=[1]) (zaX (M':=[1]) (za6 (i:=1) sc.nd rfl (jT rfl) (zbN za2)))
  (qs_ (M':=[1]) (zae (M':=[1]) (za6 (i:=2) sc.nd rfl (jT rfl) (qV 0)))
  (qs_ (M':=[1]) (zeN 100 Qg (zfy (qeb (qV 2)))
  (qs_ (M':=[1]) (znA (is:=[3,4]) (n:=2) (K:=tk.K) (zdk (qc pK hr rfl (qa_ (qV 2) za2) ar1) (zpW (zlO rfl (zaR (zaf (i:=3) sc.nd rfl (jT rfl)) (zaR (zaf (i:=4) sc.nd rfl (jT rfl)) zcQ))) (ziy rfl (zaR (zaf (i:=3) sc.nd rfl (jT rfl)) (zaR (zaf (i:=4) sc.nd rfl (jT rfl)) zcQ))))) rfl rfl rfl)
  (qs_ (M':=[1]) (zix (.inl rfl) (zbv rfl (zbs jO QN QP zb9 (qpv 1) (qa_ (ziB (qa_ (qV 3) (qa_ (zaJ rfl (qV 2) (zak (qV 3)) (zak (qV 4))) za2))) za2))))
  (za5 (zae (M':=[1]) (za6 (i:=2) sc.nd rfl (jT rfl) (zaa (zaJ rfl (qV 2) zaw (zak (qV 3))) (qeb (zaJ rfl (qV 2) (zak (qV 4)) zaw)))))))))
  (za5 (zh3 (M':=[]) (zai (qV 1)))))))
abbrev zeC:ZU:=top 17
theorem zir:FnScope [nQ0] [nQ0] (za1 zeC):=scm
def zcW:DS:=(zap [] (d1 zeh (dLC [] [none,none] (zjQ (zal zbh (dAc (d1 zei (dV 0)) dAn))) (dGt [0,1]) zjv (d1 zcS (dV 1)))))
def zca:List T->Option T:=fnP 1 zcW
abbrev zf7[TheK](v:Ev)(k:Nat):Prop:=Cl v k "_law_sets" [nQ0] (spP .e 1 zca)
theorem ziT[tk:TheK](h:Here tk.K v.mg "_law_sets" zeC [nQ0])(pT:zcA v 3)(m_sorted:v.mg "sorted"=none)(m_list:v.mg "list"=none)(m_set:v.mg "set"=none):zf7 v 4:=by
 refine(h.vP 3 [] zcW zir fun nd f cdv A outer s H E hr=>?_ :);have hu8:=zdv hr;exact(za5 (zai (qne (zh5 rfl hu8 rfl m_sorted (qnb (zkc (Mi:=[]) rfl (znh (K:=tk.K) (is:=[0,1]) (n:=2)) zdX (zfz (N:=["_law_at","_law_piece"]) (caps:=[none,none]) (g:=zjl tk.K 2 (gsN [0,1])) rfl (zea rfl (qc pT hr rfl (qa_ (qne (zkb rfl rfl rfl m_list (qeb (qV 0)))) za2) ar1)) (fun _ _ _ _ _=>(zka (K:=tk.K) rfl rfl (zaR (zaf (i:=0) (show (["_law_at","_law_piece"]:List Str).Nodup by decide +kernel) rfl (jT rfl)) (zaR (zaf (i:=1) (show (["_law_at","_law_piece"]:List Str).Nodup by decide +kernel) rfl (jT rfl)) zcQ)))) zmi (fun _ _ _ _ _=>zbB) (fun _ _ _ _ _=>(qne (zhN rfl rfl m_sorted rfl m_set (qeb (qV 1))))))))))))
abbrev zbS:ZU:=top 12
theorem zcC:FnScope [nQ0,nQ3,zoR,nQ2] [nQ0,nQ3,zoR] (za1 zbS):=scm
def zbi:DS:=(zao (zaT 3 (d1 zbP (dV 0)))
  (zao (zdN (zla (dV 2)) (zap [] (dLC [] [none,some 0,some 3,some 1] (zjP (dAc (dV 3) dAn)) (dGn 0) zjv (d2 zau (dV 1) (d2 zcT (d2 gSb (dV 3) (dV 0)) (dV 2))))) zb1)
  (zap [] (dLC [] [none,some 0,some 3,some 1] (zjP (dAc (dV 3) dAn)) (dGn 0) zjv (d2 zau (dV 1) (d2 zcT (d2 zah (dV 3) (dV 0)) (dV 2)))))))
def zbz:List T->Option T:=fnP 4 zbi
abbrev zc0[TheK](v:Ev)(k:Nat):Prop:=Cl v k "_law_reading" [nQ0,nQ3,zoR] (spP .e 3 zbz)
theorem zfF[tk:TheK](h:Here tk.K v.mg "_law_reading" zbS [nQ0,nQ3,zoR])(m_len:v.mg "len"=none)(m_range:v.mg "range"=none):zc0 v 1:=by
 refine(h.vP 0 [] zbi zcC fun nd f cdv A outer s H E hr=>?_ :);have sc:=zcC;have hu:=zi0 hr
 exact(qs_ (M':=[]) (zae (M':=[]) (za6 (i:=3) sc.nd rfl (gx rfl) (zaZ rfl rfl m_len (qeb (qV 0)))))
  (qs_ (M':=[]) (zcL (M':=[]) (zfy (qeb (qV 2))) (za5 (zai (qne (zkc (Mi:=[]) rfl (zbQ (i:=0)) zdX (zfz (N:=["_law_k","_law_word_here","_law_many","_law_start"]) (caps:=[none,some 0,some 3,some 1]) rfl (zbt rfl m_range (qa_ (qV 3) za2)) (fun _ _ _ _ _=>(zaf (i:=0) (show (["_law_k","_law_word_here","_law_many","_law_start"]:List Str).Nodup by decide +kernel) rfl (jT rfl))) zbg (fun _ _ _ _ _=>zbB) (fun _ _ _ _ _=>(zbe rfl hu (qV 1) (qeb (zaY (zkQ (qV 3) (qeb (qV 0))) (qeb (qV 2)))) (fun _ _=>rfl)))))))) zaS)
  (za5 (zai (qne (zkc (Mi:=[]) rfl (zbQ (i:=0)) zdX (zfz (N:=["_law_k","_law_word_here","_law_many","_law_start"]) (caps:=[none,some 0,some 3,some 1]) rfl (zbt rfl m_range (qa_ (qV 3) za2)) (fun _ _ _ _ _=>(zaf (i:=0) (show (["_law_k","_law_word_here","_law_many","_law_start"]:List Str).Nodup by decide +kernel) rfl (jT rfl))) zbg (fun _ _ _ _ _=>zbB) (fun _ _ _ _ _=>(zbe rfl hu (qV 1) (qeb (zaY (zaa (qV 3) (qeb (qV 0))) (qeb (qV 2)))) (fun _ _=>rfl))))))))))
abbrev zd9:ZU:=top 18
theorem ze7:FnScope [nQ0,nQ3,"_law_due"] [nQ0,nQ3] (za1 zd9):=scm
def zcc:DS:=(zao (zaT 2 (zal zdy (dAc (dV 0) dAn)))
  (zao (zdN (dB (d2 gNe (zal zca (dAc (dV 0) dAn)) (dV 2))) (zap [] (dC (.bl false))) zb1)
  (zap [] (zqu (d2 gEq (dV 0) (zhs dAn)) (d2 gEq (zal zca (dAc (zal zbz (dAc (dV 0) (dAc (dV 1) (dAc (d2 gEq (d2 zcT (dV 1) (dC (.int 2))) (dC (.int 1))) dAn)))) dAn)) (dV 2))))))
def zbF:List T->Option T:=fnP 3 zcc
abbrev zdH[TheK](v:Ev)(k:Nat):Prop:=Cl v k "_law_right" [nQ0,nQ3] (spP .e 2 zbF)
theorem zhQ[tk:TheK](h:Here tk.K v.mg "_law_right" zd9 [nQ0,nQ3])(pO:zf8 v 4)(ph:zf7 v 4)(pF:zc0 v 4):zdH v 5:=by
 refine(h.vP 4 [] zcc ze7 fun nd f cdv A outer s H E hr=>?_ :);have sc:=ze7;have hu8:=zdv hr
 exact(qs_ (M':=[]) (zae (M':=[]) (za6 (i:=2) sc.nd rfl (jT rfl) (qc pO hr rfl (qa_ (qV 0) za2) ar1)))
  (qs_ (M':=[]) (zcL (M':=[]) (zpT hu8 (qc ph hr rfl (qa_ (qV 0) za2) ar1) (qeb (qV 2))) (za5 (zai zkh)) zaS)
  (za5 (zai (zpX (zkd hu8 (qV 0) (qnb (zbN za2))) (znF (zkd hu8 (qc ph hr rfl (qa_ (qc pF hr rfl (qa_ (qV 0) (qa_ (qV 1) (qa_ (zkd hu8 (zaY (qV 1) qib) qib) za2))) ar3) za2) ar1) (qeb (qV 2)))))))))
abbrev zlG:ZU:=top 19
theorem zkM:FnScope [nQ4,"_law_begin","_law_head",nQ2,nQ6,nQ0,"_law_other","_law_at"] [nQ4] (za1 zlG):=scm
def zkz:DS:=(zao (zf3 (zjQ (zhs (dAc (dC (.int 0)) (dAc (dC (.int 3)) dAn)))) (dGn 1)
  (zao (zaT 2 (zal zba (dAc (dV 0) (dAc (dV 1) dAn))))
  (zao (zaT 3 (zal zbH (dAc (dV 2) (dAc (dC (.int 27)) dAn))))
  (zao (zaT 4 (zal zcv (dAc (dV 2) (dAc (d2 zah (dV 3) (dC (.int 3))) dAn))))
  (zao (zaT 5 (zal zc9 (dAc (zal zba (dAc (dV 0) (dAc (d2 zah (dV 1) (dC (.int 1))) dAn))) (dAc (dSl zbL (dV 4) dOn (dOs (dV 3))) dAn))))
  (zao (zaT 6 (zal zc9 (dAc (zal zba (dAc (dV 0) (dAc (d2 zah (dV 1) (dC (.int 2))) dAn))) (dAc (dSl zbL (dSl zbL (dV 4) (dOs (dV 3)) dOn) dOn (dOs (d2 zah (dC (.int 1)) (zal zag (dAc (dV 2) (dAc (dC (.int 20)) (dAc (dC (.int 3)) dAn))))))) dAn))))
  (zao (zaT 7 (zal zag (dAc (dV 2) (dAc (dC (.int 21)) (dAc (d2 zah (d1 zbP (dV 5)) (dC (.int 1))) dAn)))))
  (zao (zdN (zoV (zla (zal zbF (dAc (dV 5) (dAc (zal zag (dAc (dV 2) (dAc (dC (.int 22)) (dAc (d2 zah (d1 zbP (dV 5)) (dC (.int 1))) dAn)))) dAn))))) (zap [] (dC (.bl false))) zb1)
  (zdN (zoV (zla (zal zbF (dAc (d2 zah (d2 zah (dSl zbL (dV 5) dOn (dOs (dV 7))) (dV 6)) (dSl zbL (dV 5) (dOs (dV 7)) dOn)) (dAc (zal zag (dAc (dV 2) (dAc (dC (.int 23)) (dAc (d2 zah (d1 zbP (dV 5)) (dC (.int 2))) dAn)))) dAn))))) (zap [] (dC (.bl false))) zb1)))))))))
  (zap [] (dC (.bl true))))
def zoq:List T->Option T:=fnP 8 zkz
theorem zqy[tk:TheK](pe:zfa v 5)(pM:zdJ v 5)(pB:zdI v 5)(pk:zf6 v 5)(pd:zci v 5)(pi:zdH v 5)(m_len:v.mg "len"=none)  :QBody tk v.P v.w v.mg v.base 5 "law" zlG [nQ4,"_law_begin","_law_head",nQ2,nQ6,nQ0,"_law_other","_law_at"] (cS .e [] [] [] [] zkz):=by
 intro f cdv A outer s H E hr;have sc:=zkM
 exact(qs_ (M':=[]) (zc3 (zbd Qg rfl (zea rfl (qne (zbN (qa_ qi_ (qa_ qi_ za2))))) (zbu (zaf (i:=1) sc.nd rfl (jT rfl)))
  (qs_ (M':=[]) (zae (M':=[]) (za6 (i:=2) sc.nd rfl (jT rfl) (qc pe hr rfl (qa_ (qV 0) (qa_ (qV 1) za2)) ar2)))
  (qs_ (M':=[]) (zae (M':=[]) (za6 (i:=3) sc.nd rfl (jT rfl) (qc pM hr rfl (qa_ (qV 2) (qa_ qi_ za2)) ar2)))
  (qs_ (M':=[]) (zae (M':=[]) (za6 (i:=4) sc.nd rfl (jT rfl) (qc pB hr rfl (qa_ (qV 2) (qa_ (zaa (qV 3) qib) za2)) ar2)))
  (qs_ (M':=[]) (zae (M':=[]) (za6 (i:=5) sc.nd rfl (jT rfl) (qc pk hr rfl (qa_ (qc pe hr rfl (qa_ (qV 0) (qa_ (zaa (qV 1) qib) za2)) ar2) (qa_ (zaJ rfl (qV 4) zaw (zak (qV 3))) za2)) ar2)))
  (qs_ (M':=[]) (zae (M':=[]) (za6 (i:=6) sc.nd rfl (jT rfl) (qc pk hr rfl (qa_ (qc pe hr rfl (qa_ (qV 0) (qa_ (zaa (qV 1) qib) za2)) ar2) (qa_ (zaJ rfl (zaJ rfl (qV 4) (zak (qV 3)) zaw) zaw (zak (zaa qi_ (qeb (qc pd hr rfl (qa_ (qV 2) (qa_ qi_ (qa_ qi_ za2))) ar3))))) za2)) ar2)))
  (qs_ (M':=[]) (zae (M':=[]) (za6 (i:=7) sc.nd rfl (jT rfl) (qc pd hr rfl (qa_ (qV 2) (qa_ qi_ (qa_ (zaa (zaZ rfl rfl m_len (qeb (qV 5))) qib) za2))) ar3)))
  (qs_ (M':=[]) (zcL (M':=[]) (zkO (zfy (qeb (qc pi hr rfl (qa_ (qV 5) (qa_ (qc pd hr rfl (qa_ (qV 2) (qa_ qi_ (qa_ (zaa (zaZ rfl rfl m_len (qeb (qV 5))) qib) za2))) ar3) za2)) ar2)))) (za5 (zai zkh)) zaS)
  (za5 (zcL (M':=[]) (zkO (zfy (qeb (qc pi hr rfl (qa_ (zaa (zaa (zaJ rfl (qV 5) zaw (zak (qV 7))) (qeb (qV 6))) (qeb (zaJ rfl (qV 5) (zak (qV 7)) zaw))) (qa_ (qc pd hr rfl (qa_ (qV 2) (qa_ qi_ (qa_ (zaa (zaZ rfl rfl m_len (qeb (qV 5))) qib) za2))) ar3) za2)) ar2)))) (za5 (zai zkh)) zaS)))))))))))
  (za5 (zai zkh)))
end Dw
set_option maxHeartbeats 1000000
namespace Dw
open PySem L2 L3
theorem zaM(c turn many:Int)(h0:0<=turn)(h1:turn<=1000)(hm:0 < many):∃ z:Int,zag [.int c,.int turn,.int many]=some (.int z)/\0<=z/\z < many:=by
 have m1:zge (c%2147483647+7) (48271+7919*turn)=true:=by unfold zge; rw[Q4,decide_eq_true_iff]; left; lia
 have m2:zge 7919 turn=true:=by unfold zge; rw[Q4,decide_eq_true_iff]; left; lia
 have m3:zge ((c%2147483647+7)*(48271+7919*turn)%2147483647) 16807=true:=by unfold zge; rw[Q4,decide_eq_true_iff]; left; lia
 refine⟨(c%2147483647+7)*(48271+7919*turn)%2147483647*16807%2147483647 / 8%many,?_,Z5 _ (by lia),QQ _ hm⟩
 unfold zag fnP zf1;simp[zao,zaT,zap,dV,dC,d2,zcT,zgC,zhm,zah,orG,zjO,gI,zay,hasAll,zmS,zmT,m1,m2,m3,hm]
theorem zgQ(ns:List Int)(k:Nat):zba [.scr ns,.int k]=some (.int (ns.getD k 0)):=by
 unfold zba fnP zf2
 by_cases h:k < ns.length
 ·have e:atI ns (k:Int)=some ns[k]:=zoE (j3 h);simp[zao,zb1,zdN,zap,dV,dC,d2,d1,dB,gLt,zoo,zbP,zau,orG,gIx,zay,hasAll,h,e]
 ·simp[zao,zb1,zdN,zap,dV,dC,d2,d1,dB,gLt,zoo,zbP,zau,orG,gIx,zay,hasAll,h]
structure Bag2 where
 (a b:Int)
def Bag2.t(x:Bag2):T:=.lst [.int x.a,.int x.b]
structure Bag2.Ok (x:Bag2):Prop where
 b0:0<=x.b
 b1:x.b < 2147483647
theorem zmK(n:Int):∃ x:Bag2,zcU [.int n]=some x.t/\x.Ok:=by
 have m1:zge (n / 2) (n%2)=true:=by unfold zge; rw[Q4,decide_eq_true_iff,decide_eq_true_iff]; right; lia
 have q2:2<=jq:=zaO (by lia)
 refine⟨⟨n / 2*(n%2),n / 2%2147483647⟩,?_,⟨Z5 _ (by lia),QQ _ (by lia)⟩⟩
 simp[zcU,zmQ,zgH,zay,zap,zhs,dAc,dAn,d2,dV,dC,zgC,zhm,zcT,gI,zmT,zmS,m1,hasAll,q2,Bag2.t]
theorem zmC{x:Bag2}(h:x.Ok)(n:Int)(hn:0 < n)(hn2:n < 1073741824):∃(z:Int) (y:Bag2),zbA [x.t,.int n]=some (.int z,y.t)/\y.Ok/\0<=z/\z < n:=by
 have h0:=h.b0;have h1:=h.b1;have m1:zge x.b 48271=true:=by unfold zge; rw[Q4,decide_eq_true_iff]; left; lia
 have m2:zge ((x.b*48271+4099)%2147483647) ((x.b*48271+4099)%2147483647 / 65536+7)=true:=by unfold zge; rw[Q4,decide_eq_true_iff]; left; lia
 by_cases hp:0 < x.a
 ·refine⟨x.a%n,⟨x.a / n,x.b⟩,?_,⟨h0,h1⟩,Z5 _ (by lia),QQ _ hn⟩
  unfold zbA fnI zcY Bag2.t;simp[zao,zb1,zdN,zaT,zfU,zap,dV,dC,d2,d2v,d1,dB,gGt,gI1,zau,orG,gIx,zcT,zhm,gI,zmS,zmT,zay,hasAll,atI,ixN,hp,hn,hn2]
 ·refine⟨(x.b*48271+4099)%2147483647*((x.b*48271+4099)%2147483647 / 65536+7)%2147483629 / 32%n,⟨x.a,(x.b*48271+4099)%2147483647⟩,?_,⟨Z5 _ (by lia),QQ _ (by lia)⟩,Z5 _ (by lia),QQ _ hn⟩
  unfold zbA fnI zcY Bag2.t;simp[zao,zb1,zdN,zaT,zfU,zap,dV,dC,d2,d2v,d1,dB,gGt,gI1,zau,orG,gIx,zcT,zhm,zgC,zah,zjO,gI,zmS,zmT,zay,hasAll,atI,ixN,hp,m1,m2,hn,hn2]
theorem zjD(c:Int){M:Nat}(hM:M<=30)(h8:8<=M):∃ m:Nat,zbH [.int c,.int M]=some (.int m)/\m<=M:=by
 obtain⟨z,e,_,_⟩:=zaM c 14 4 (by decide) (by decide) (by decide)
 obtain⟨z1,e1,a1,b1⟩:=zaM c 15 ((M:Int)+1) (by decide) (by decide) (by lia)
 obtain⟨z2,e2,a2,b2⟩:=zaM c 16 9 (by decide) (by decide) (by decide)
 have hmin:zoS (M:Int) 8=8:=by unfold zoS; split<;>lia
 unfold zbH
 by_cases h:z=0
 ·refine⟨z1.toNat,?_,by lia⟩
  rw[Y6 a1];simp[fnP,zcf,zao,zb1,zdN,zap,dV,dC,d2,dB,gEq,zal,dAc,dAn,zah,orG,zjO,zay,hasAll,e,e1,zdA,h]
 ·refine⟨z2.toNat,?_,by lia⟩
  rw[Y6 a2];simp[fnP,zcf,zao,zb1,zdN,zap,dV,dC,d2,dB,gEq,zal,dAc,dAn,zah,orG,zjO,dA2,hmin,zay,hasAll,e,e2,zdA,h]
end Dw
local macro_rules | `(tactic| simp? [$args,*]) => `(tactic| simp (disch := (first | lia | (simp only [List.length_map, List.length_append, List.length_cons, List.length_nil, List.length_reverse, List.length_range, List.length_set, List.length_take, List.length_drop, List.length_zipIdx]; lia))) only [L3.vdV, L3.vdC, L3.vd2, L3.zra, L3.vdB, L3.zp4, L3.zpc, L3.zpb, L3.zr7, L3.zr8, L3.zpe, L3.zp3, L3.zr1, L3.zr0, L3.zqZ, L3.zp5, L3.zp7, L3.zn5, L3.zp6, L3.zph, L3.zr6, L3.zn4, L3.zpd, L3.zn3, L3.zpi, L3.zqY, L3.zpa, L3.zp9, L3.zr5, L3.zr4, L3.zr3, L3.zn6, L3.zli, L3.vd1, L3.zr9, L3.zrb, L3.zpg, L3.zr2, L3.zpf, L3.zp8, L3.zp2, L3.vnT, L3.zn8, L3.zkH, L3.zpx, L3.vSb, L3.zrh, L3.zrq, L3.zri, L3.zrc, L3.vLt, L3.vLe, L3.vGt, L3.vGe, L3.zro, L3.zrf, L3.zrp, L3.zrg, L3.zrm, L3.zrd, L3.znc, L3.zpq, L3.zpw, L3.zll, L3.zpu, L3.zpr, L3.zpv, L3.zpt, L3.zff, L3.znb, L3.zln, L3.zlo, L3.zpp, L3.zpn, L3.zpo, L3.zna, L3.zn9, L3.zpy, L3.znd, L3.zlj, L3.zrj, L3.zrk, L3.zie, L3.zrl, L3.zlk, L3.zlp, L3.zmZ, L3.zn0, L3.zn1, L3.zn2, L3.zmX, L3.zmY, L3.zi1, L3.zpl, L3.zpk, L3.zpj, L3.zpA, L3.zpz, L3.zjc, L3.zp1, L3.sz0, L3.sz1, L3.sz2, L3.sz3, L3.sz4, List.getElem?_cons_zero, List.getElem?_cons_succ, L3.zmk, Option.bind_some, Option.map_some, List.set_cons_succ, List.set_cons_zero, List.length_cons, List.length_nil, List.length_map, if_true, if_false, Bool.not_true, Bool.not_false, decide_true, decide_false, Bool.false_eq_true, L3.zaU, L3.zhf, Nat.reduceAdd, Nat.reduceLT, Int.zero_add, $args,*])
namespace Dw
open PySem L2 L3
theorem zfR{α β:Type}(f:α->β):∀(l:List α) (n:Nat),(l.map f).eraseIdx n=(l.eraseIdx n).map f
 |[],_=>rfl
 |_::_,0=>rfl
 |a::l,n+1=>congrArg (f a::·) (zfR f l n)
theorem ziG{xs:List T}{i:Int}{y:T}(h0:0<=i)(h1:i<=1000000)(h:xs[i.toNat]?=some y):zbx (.lst xs) [.int i]=some (.lst (xs.eraseIdx i.toNat),y):=by
 simp[zbx,h0,h1,h]
theorem zl2{n j:Nat}(h:j < n):ixN n (j:Int)=some j:=by simp[ixN,h]
theorem zc6:∀ {l:List Nat} {n:Nat},l.Nodup->(h:n < l.length)->l[n]∉l.eraseIdx n
 |[],_,_,h=>absurd h (Z2 _)
 |a::l,0,hd,_=>by rw[Qy] at hd; exact hd.1
 |a::l,n+1,hd,h=>by
  rw[Qy] at hd;have h':n < l.length:=by simpa using h
  rw[List.getElem_cons_succ,List.eraseIdx_cons_succ,jt];rintro(z |z)
  ·exact hd.1 (z▸QU h')
  ·exact zc6 hd.2 h' z
def nmO(names:List Str):Option Nat->Str
 |none=>gJ ""
 |some k=>names.getD k Qi
theorem zgU(c:Int){names:List Str}(hn:names.length<=30)(hd:names.Nodup)(hN:∀ x∈names,zck x):∃ wd:List Str,zc9 [.int c,.lst (names.map T.str)]=some (.lst (wd.map T.str))/\GoodWord wd/\wd.length=2*names.length/\∀ x∈wd,x∈names:=by
 obtain⟨B,eb,ob⟩:=zmK c;have hr:zeK (2*((names.length:Nat):Int))=true:=zbU (by lia) (by lia)
 have e2:(2*((names.length:Nat):Int)).toNat=2*names.length:=by lia
 obtain⟨t,e,wd,rfl,gw⟩:=zcw (n:=8) (d:=zcV) (ts:=[.int c,.lst (names.map T.str)]) (Q:=fun t=>∃ wd:List Str,t=.lst (wd.map T.str)/\GoodWord wd/\wd.length=2*names.length/\∀ x∈wd,x∈names) (by
  unfold zcV;show Run _ [some (.int c),some (.lst (names.map T.str)),none,none,none,none,none,none] _;refine zac (by simp?[eb]<;>rfl) (zac (by simp?[hr,e2,zeM]<;>rfl) ?_)
  have l1:=zcs (M:=[2,3]) (caps:=[none]) (fi:=zi9 3) (dg:=dGn 0) (fe:=dC (.str "")) (s:=[some (.int c),some (.lst (names.map T.str)),some B.t,some (.lst ((jp (2*names.length)).map nT)),none,none,none,none]) (jp (2*names.length)) nT (fun _=>.str "") (by simp?[]) (by simp; lia) (fun z _=>⟨[some (nT z)],rfl,rfl,rfl⟩)
  have l2:(jp (2*names.length)).map (fun _=>T.str "")=((Yj (2*names.length) none).map (nmO names)).map T.str:=by
   rw[NZ,NZ];refine(List.eq_replicate_iff (a:=T.str (gJ ""))).mpr ⟨by simp,fun b hb=>?_⟩
   obtain⟨_,_,h⟩:=jH.mp hb;exact h.symm
  rw[l2] at l1;refine zac (by simp?[l1]<;>rfl) ?_
  refine zcq (its:=names.map T.str) (fun i s=>∃(y:Bag2) (fr:List Nat) (pl:List (Option Nat)) (a b d:Option T),s=[some (.int c),some (.lst (names.map T.str)),some y.t,some (.lst (fr.map nT)),some (.lst ((pl.map (nmO names)).map T.str)),a,b,d]/\y.Ok/\fr.length+2*i=2*names.length/\fr.Nodup/\(∀ k∈fr,pl[k]?=some none)/\Half pl names.length i)
   (by simp?[]<;>rfl) ⟨B,_,_,_,_,_,rfl,ob,by simp,gQ,fun k hk=>by rw[YF,Ip_ (jz.mp hk)],Half.start _⟩ ?_ ?_
  ·rintro i z s hz ⟨y,fr,pl,a,b,d,rfl,oy,hl,hnd,hlt,hh⟩;rw[jc] at hz;obtain⟨x,hx,rfl⟩:=Qm hz;have hi:i < names.length:=(j5.mp hx).1;refine⟨_,by simp?[]<;>rfl,?_⟩
   match fr,hl,hnd,hlt with
   |[],hl,_,_=>exact absurd hl (by simp; lia)
   |k0::fr,hl,hnd,hlt=>
   rw[jl] at hl;rw[Qy] at hnd;have hk0:=hlt k0 (jC ..);obtain⟨u,y',eu,o',a',b'⟩:=zmC oy (fr.length:Int) (by lia) (by lia)
   have hu:u.toNat < fr.length:=by lia
   have hk1:=hlt fr[u.toNat] (jm _ (QU hu));have hne:k0≠fr[u.toNat]:=fun z=>hnd.1 (z▸QU hu);have hlen:=hh.len;have q0:k0 < pl.length:=(j5.mp hk0).1;have q1:fr[u.toNat] < pl.length:=(j5.mp hk1).1;have p0:zbx (.lst ((k0::fr).map nT)) [.int 0]=some (.lst (fr.map nT),nT k0):=ziG (by decide) (by decide) rfl
   have p1:zbx (.lst (fr.map nT)) [.int u]=some (.lst ((fr.eraseIdx u.toNat).map nT),nT fr[u.toNat]):=by
    have:=ziG (xs:=fr.map nT) (y:=nT fr[u.toNat]) a' (by lia) (by rw[jc,j3 hu]; rfl)
    rw[this,zfR]
   have hxn:x=nmO names (some i):=by
    show x=names.getD i Qi;rw[zby hi];exact(je ((j3 hi).symm.trans hx)).symm
   have i0:=zl2 (n:=pl.length) q0;have i1:=zl2 (n:=pl.length) q1;refine zac (by simp?[p0]<;>rfl) ?_
   refine zac (by simp?[eu,p1]<;>rfl) ?_
   refine zac (by simp?[i0]<;>rfl) ?_
   refine zaB (by simp?[jZ,i1]<;>rfl) ⟨y',fr.eraseIdx u.toNat,(pl.set k0 (some i)).set fr[u.toNat] (some i),some (.str x),some (.int (k0:Int)),some (.int ((fr[u.toNat]:Nat):Int)),?_,o',?_,hnd.2.sublist (List.eraseIdx_sublist _ _),fun k hk=>?_,?_⟩
   ·rw[Ni,Ni,Ni,Ni,<-hxn]
   ·rw[List.length_eraseIdx_of_lt hu]; lia
   ·have hk':k∈fr:=List.mem_of_mem_eraseIdx hk;have n0:k0≠k:=fun z=>hnd.1 (z▸hk');have n1:fr[u.toNat]≠k:=fun z=>by
     rw[<-z] at hk;exact zc6 hnd.2 hu hk
    rw[jf n1,jf n0];exact hlt k (jm _ hk')
   ·exact hh.next hi hk1 hk0 (Zu hne)
  ·rintro s ⟨y,fr,pl,a,b,d,rfl,oy,hl,hnd,hlt,hh⟩;rw[ja] at hh;obtain⟨ps,hp,rfl⟩:=hh.done;have hg:=zgB hn rfl hd hN hp;refine⟨_,by simp?[]<;>rfl,_,_,rfl,_,rfl,?_,?_,fun x hx=>?_⟩
   ·rw[jQ]; exact hg
   ·rw[ja,ja,hp.len]
   ·rw[jQ] at hx;obtain⟨k,hk,rfl⟩:=jH.mp hx;have hk':=hp.lt k hk;show names.getD k Qi∈names;rw[zby hk']
    exact QU hk')
 exact⟨wd,e,gw⟩
end Dw
set_option maxHeartbeats 2000000
namespace Dw
open PySem L2 L3
theorem zgK{α β:Type}(f:α->β)(xs:List α)(lo hi:Option Int):zcl (xs.map f) lo hi=(zcl xs lo hi).map f:=by
 unfold zcl;rw[ja,Je,Jd]
theorem zbW{z:Int}(h0:0<=z)(h:z < 26):zau (.str letters) (.int z)=some (.str (Sx [97+z.toNat])):=by
 simp only[zau,orG,gIx,zgy,if_true,zhW h0 h,jv];rfl
theorem zcR(l m:List Nat)(h:l.length+m.length<=1000):zah (.str (Sx l)) (.str (Sx m))=some (.str (Sx (l++m))):=by
 rw[zn7 (by rw[zdK,zdK]; lia),zoJ]
def zqE(l:List Nat):Prop:=∀ c∈l,97<=c/\c<=122
theorem zj1{l:List Nat}(h:zqE l)(h1:1<=l.length)(h8:l.length<=8):zck (Sx l):=by
 unfold zck;rw[zdK,zgc];exact⟨h1,h8,h⟩
def zi5(base:List Nat)(spot f:Nat)(k:Nat):List Nat:=base.take spot++[97+(f+5*k)%26,97+(f+k / 26)%26]++base.drop spot
theorem zkx{base:List Nat}{spot f j k:Nat}(hj:j < 31)(hk:k < 31)(h:zi5 base spot f j=zi5 base spot f k):j=k:=by
 unfold zi5 at h;rw[Qw,Qw] at h;have h2:=List.append_cancel_left h;simp only[Wz,ZM,List.cons.injEq] at h2;obtain⟨e1,e2,_⟩:=h2;have e3:j / 26=k / 26:=by omega
 clear e2 h
 omega
theorem zmy{base:List Nat}{spot f k:Nat}(hb:zqE base)(hl:base.length<=6):zck (Sx (zi5 base spot f k)):=by
 have hlen:(zi5 base spot f k).length=base.length+2:=by
  unfold zi5;simp only[js,jK,jX,jl,N9];lia
 refine zj1 (fun c hc=>?_) (by lia) (by lia)
 unfold zi5 at hc;simp only[jV,jt,YQ,or_false] at hc;rcases hc with (q |q |q) |q
 ·exact hb c (QH q)
 ·lia
 ·lia
 ·exact hb c (gS q)
theorem zh8{α:Type}[DecidableEq α]:∀ {l m:List α},l.Nodup->(∀ x∈l,x∈m)->l.length<=m.length
 |[],m,_,_=>Zx _
 |a::l,m,hd,h=>by
  rw[Qy] at hd;have ha:=h a jC;have ih:=zh8 (l:=l) (m:=m.erase a) hd.2 fun x hx=>(Nr (fun(z:x=a)=>hd.1 (z▸hx))).mpr (h x (jm _ hx));rw[Yw ha] at ih;have:=N1 ha;rw[jl];lia
structure Made (base:List Nat) (spot f:Nat) (k:Nat) (mk:List Str):Prop where
 nd:mk.Nodup
 nm:∀ x∈mk,zck x
 has:∀ j,j < k->Sx (zi5 base spot f j)∈mk
 len:mk.length<=6+k
theorem Made.enough{base:List Nat}{spot f k:Nat}{mk:List Str}(h:Made base spot f k mk)(hk:k<=31):k<=mk.length:=by
 have hnd:((jp k).map fun j=>Sx (zi5 base spot f j)).Nodup:=by
  refine Wm _ (R:=fun a b=>a≠b/\a < 31/\b < 31) (fun a b ⟨n,ha,hb⟩ z=>n (zkx ha hb (zlg z))) ?_;refine Q9 (R:=fun a b=>a≠b) (fun {a b} ha hb n=>⟨n,by have:=jz.mp ha; lia,by have:=jz.mp hb; lia⟩) gQ
 have:=zh8 hnd (m:=mk) (fun x hx=>by
  obtain⟨j,hj,rfl⟩:=jH.mp hx
  exact h.has j (jz.mp hj))
 simpa using this
theorem ziZ(c:Int){m:Nat}(hm:m<=30):∃ names:List Str,zcv [.int c,.int m]=some (.lst (names.map T.str))/\names.length=m/\names.Nodup/\∀ x∈names,zck x:=by
 obtain⟨z1,e1,a1,b1⟩:=zaM c 1 7 (by decide) (by decide) (by decide)
 obtain⟨z6,e6,a6,b6⟩:=zaM c 11 26 (by decide) (by decide) (by decide)
 obtain⟨z7,e7,a7,b7⟩:=zaM c 12 4 (by decide) (by decide) (by decide)
 obtain⟨z9,e9,a9,b9⟩:=zaM c 13 ((m:Int)+1) (by decide) (by decide) (by lia)
 obtain⟨f,rfl⟩:∃ f:Nat,z6=(f:Int):=⟨z6.toNat,by lia⟩
 obtain⟨tn,rfl⟩:∃ tn:Nat,z9=(tn:Int):=⟨z9.toNat,by lia⟩
 obtain⟨t,e,wd,rfl,gw⟩:=zcw (n:=10) (d:=zce) (ts:=[.int c,.int m]) (Q:=fun t=>∃ wd:List Str,t=.lst (wd.map T.str)/\wd.length=m/\wd.Nodup/\∀ x∈wd,zck x) (by
  unfold zce;show Run _ [some (.int c),some (.int m),none,none,none,none,none,none,none,none] _;refine zac (s':=[some (.int c),some (.int m),some (.str letters),none,none,none,none,none,none,none]) rfl ?_;refine zac (s':=[some (.int c),some (.int m),some (.str letters),some (.str (Sx [])),none,none,none,none,none,none]) rfl ?_;refine zcq (its:=zat 0 z1.toNat) (fun i s=>∃(l:List Nat) (a:Option T),s=[some (.int c),some (.int m),some (.str letters),some (.str (Sx l)),a,none,none,none,none,none]/\l.length=i/\zqE l)
   (by simp?[e1,zbU (j:=z1) (by lia) (by lia)]<;>rfl) ⟨_,_,rfl,rfl,fun c hc=>by cases hc⟩ ?_ ?_
  ·rintro i z s hz ⟨l,a,rfl,hl,hlo⟩;obtain⟨hi,rfl⟩:=zfx hz;obtain⟨z2,e2,a2,b2⟩:=zaM c (2+(i:Int)) 26 (by lia) (by lia) (by decide)
   refine⟨_,by simp?[]<;>rfl,?_⟩
   refine zaB (by simp?[e2,zbW a2 b2,zcR l [97+z2.toNat] (by simp; lia)]<;>rfl) ⟨_,_,rfl,by simp[hl],fun c hc=>?_⟩
   rcases jV.mp hc with q |q
   ·exact hlo c q
   ·have:c=97+z2.toNat:=by simpa using q
    lia
  rintro s ⟨l,a,rfl,hl,hlo⟩;rw[zdh] at hl;obtain⟨z5,e5,a5,b5⟩:=zaM c 10 ((l.length:Int)+1) (by decide) (by decide) (by lia)
  obtain⟨sp,rfl⟩:∃ sp:Nat,z5=(sp:Int):=⟨z5.toNat,by lia⟩
  have lS:l.length<=jq:=zaO (by lia)
  have gl:zbP (.str (Sx l))=some (.int l.length):=by rw[zps (by rw[zdK]; lia),zdK]
  refine zac (by simp?[gl,e5]<;>rfl) (zac (by simp?[e6]<;>rfl) ?_)
  refine zac (s':=[some (.int c),some (.int m),some (.str letters),some (.str (Sx l)),a,some (.int sp),some (.int f),some (.lst (([]:List Str).map T.str)),none,none]) (by simp?[]<;>rfl) ?_
  have sl:∀ k:Nat,k<=l.length->zbL (.str (Sx l)) none (some (k:Int))=some (.str (Sx (l.take k))):=fun k hk=>by
   have:=zqB l (j:=(k:Int)) (by lia) (by lia)
   simp only[zbL,zmr,zdK,lS,if_true,this,jh]
  have sf:∀ k:Nat,k<=l.length->zbL (.str (Sx l)) (some (k:Int)) none=some (.str (Sx (l.drop k))):=fun k hk=>by
   have:=zmN l (j:=(k:Int)) (by lia) (by lia)
   simp only[zbL,zmr,zdK,lS,if_true,this,jh]
  obtain⟨mk,emk,hmk⟩:∃ mk:List Str,zdN (dB (d2 gEq (zal zag (dAc (dV 0) (dAc (dC (.int 12)) (dAc (dC (.int 4)) dAn)))) (dC (.int 0)))) (zaT 7 (dLC [7] [none,some 3] (zox (dAc (dC (.int 1)) (dAc (d2 zah (d1 zbP (dV 3)) (dC (.int 1))) dAn))) (dGn 0) zjv (dSl zbL (dV 1) dOn (dOs (dV 0))))) zb1 [some (.int c),some (.int m),some (.str letters),some (.str (Sx l)),a,some (.int sp),some (.int f),some (.lst (([]:List Str).map T.str)),none,none]=some (.nx [some (.int c),some (.int m),some (.str letters),some (.str (Sx l)),a,some (.int sp),some (.int f),some (.lst (mk.map T.str)),none,none])/\Made l sp f 0 mk:=by
   by_cases h7:z7=0
   ·have r12:zeK 1=true/\zeK ((l.length:Int)+1)=true:=⟨zbU (by decide) (by decide),zbU (by lia) (by lia)⟩
    have e3:((l.length:Int)+1 - 1).toNat=l.length:=by lia
    have er:zat 1 l.length=(jp l.length).map fun k=>nT (k+1):=by
     unfold zat;refine Z4 fun k _=>?_;rw[vnT]; congr 1; lia
    have l1:=zcs (M:=[7]) (caps:=[none,some 3]) (fi:=zox (dAc (dC (.int 1)) (dAc (d2 zah (d1 zbP (dV 3)) (dC (.int 1))) dAn))) (dg:=dGn 0) (fe:=dSl zbL (dV 1) dOn (dOs (dV 0))) (s:=[some (.int c),some (.int m),some (.str letters),some (.str (Sx l)),a,some (.int sp),some (.int f),some (.lst (([]:List Str).map T.str)),none,none]) (jp l.length) (fun k=>nT (k+1)) (fun k=>.str (Sx (l.take (k+1)))) (by simp?[gl,r12,and_self,e3,er]) (by simp; lia) (by
     intro k hk;have hk':=jz.mp hk;refine⟨_,by simp?[]<;>rfl,?_,rfl⟩
     simp?[sl (k+1) (by lia)])
    have l2:(jp l.length).map (fun k=>T.str (Sx (l.take (k+1))))=((jp l.length).map fun k=>Sx (l.take (k+1))).map T.str:=by rw[jQ]; rfl
    rw[l2] at l1;refine⟨(jp l.length).map fun k=>Sx (l.take (k+1)),by simp?[e7,Dt_ h7,l1]<;>rfl,⟨?_,fun x hx=>?_,fun j hj=>absurd hj (Z2 _),by simp; lia⟩⟩
    ·refine Wm _ (R:=fun a b=>a≠b/\a < l.length/\b < l.length) (fun a b ⟨n,ha,hb⟩ z=>n ?_) (Q9 (R:=fun a b=>a≠b) (fun {a b} ha hb n=>⟨n,jz.mp ha,jz.mp hb⟩) gQ);have:=congrArg Y0 (zlg z);rw[jK,jK] at this;lia
    ·obtain⟨k,hk,rfl⟩:=jH.mp hx;have hk':=jz.mp hk;exact zj1 (fun c hc=>hlo c (QH hc)) (by rw[jK]; lia) (by rw[jK]; lia)
   ·exact⟨[],by simp?[e7,Df_ h7]<;>rfl,⟨Nz,(fun x hx=>by cases hx),(fun j hj=>absurd hj (Z2 _)),by simp⟩⟩
  refine zac emk ?_;refine zcq (its:=zat 0 m) (fun i s=>∃(mk:List Str) (a g:Option T),s=[some (.int c),some (.int m),some (.str letters),some (.str (Sx l)),a,some (.int sp),some (.int f),some (.lst (mk.map T.str)),g,none]/\Made l sp f i mk)
   (by simp?[rgN (k:=m) (by lia),jh]<;>rfl) ⟨_,_,_,rfl,hmk⟩ ?_ ?_
  ·rintro i z s hz ⟨mk,a,g,rfl,hmk⟩;obtain⟨hi,rfl⟩:=zfx hz;refine⟨_,by simp?[]<;>rfl,?_⟩
   have x1:=zbW (z:=((f:Int)+5*(i:Int))%26) (by lia) (by lia)
   have x2:=zbW (z:=((f:Int)+(i:Int) / 26)%26) (by lia) (by lia)
   have n1:(((f:Int)+5*(i:Int))%26).toNat=(f+5*i)%26:=by lia
   have n2:(((f:Int)+(i:Int) / 26)%26).toNat=(f+i / 26)%26:=by lia
   rw[n1] at x1;rw[n2] at x2;have pl:=zcR [97+(f+5*i)%26] [97+(f+i / 26)%26] (by simp)
   refine zac (by simp?[x1,x2,pl]<;>rfl) ?_
   have q1:=zcR (l.take sp) ([97+(f+5*i)%26]++[97+(f+i / 26)%26]) (by simp; lia)
   have q2:=zcR (l.take sp++([97+(f+5*i)%26]++[97+(f+i / 26)%26])) (l.drop sp) (by simp; lia)
   have hfar:l.take sp++([97+(f+5*i)%26]++[97+(f+i / 26)%26])++l.drop sp=zi5 l sp f i:=rfl;rw[hfar] at q2;have hlen:=hmk.len
   by_cases hin:Sx (zi5 l sp f i)∈mk
   ·refine zaB (by simp?[sl sp (by lia),sf sp (by lia),q1,q2,Dt_ hin]<;>rfl) ⟨_,_,_,rfl,⟨hmk.nd,hmk.nm,fun j hj=>?_,by lia⟩⟩
    by_cases e:j=i
    ·exact e▸hin
    ·exact hmk.has j (by lia)
   ·refine zaB (by simp?[sl sp (by lia),sf sp (by lia),q1,q2,Df_ hin]<;>rfl) ⟨mk++[Sx (zi5 l sp f i)],_,_,rfl,⟨?_,fun x hx=>?_,fun j hj=>?_,by simp; lia⟩⟩
    ·rw[ZT];exact⟨hmk.nd,by simp,fun a ha b hb e=>hin (by rw[jy] at hb; subst hb; subst e; exact ha)⟩
    ·rcases jV.mp hx with q |q
     ·exact hmk.nm x q
     ·have:x=Sx (zi5 l sp f i):=by simpa using q
      rw[this]; exact zmy hlo (by lia)
    ·by_cases e:j=i
     ·exact e▸jJ _ (by simp)
     ·exact QD _ (hmk.has j (by lia))
  rintro s ⟨mk,a,g,rfl,hmk⟩;rw[zdh] at hmk;have hen:=hmk.enough (by lia)
  have hlen:=hmk.len;refine zac (by simp?[e9]<;>rfl) ?_
  have c1:gSl (.lst (mk.map T.str)) none (some (m:Int))=some (.lst ((mk.take m).map T.str)):=by
   show some (T.lst (zcl (mk.map T.str) none (some (m:Int))))=_;rw[zgK,zjy mk (by lia) (by lia),jh]
  have lt:(mk.take m).length=m:=by rw[jK]; lia
  have c2:zbL (.lst ((mk.take m).map T.str)) (some (tn:Int)) none=some (.lst (((mk.take m).drop tn).map T.str)):=by
   show some (T.lst (zcl ((mk.take m).map T.str) (some (tn:Int)) none))=_;rw[zgK,zjz (mk.take m) (by lia) (by lia),jh]
  have c3:zbL (.lst ((mk.take m).map T.str)) none (some (tn:Int))=some (.lst (((mk.take m).take tn).map T.str)):=by
   show some (T.lst (zcl ((mk.take m).map T.str) none (some (tn:Int))))=_;rw[zgK,zjy (mk.take m) (by lia) (by lia),jh]
  have pp:((mk.take m).drop tn++(mk.take m).take tn).Perm (mk.take m):=(gN).trans (by rw[jP])
  refine⟨_,by simp?[c1,c2,c3,<-Qq]<;>rfl,_,_,rfl,_,rfl,?_,?_,fun x hx=>?_⟩
  ·rw[pp.length_eq,lt]
  ·exact pp.nodup_iff.mpr (hmk.nd.sublist (gB _ _))
  ·exact hmk.nm x (QH (pp.mem_iff.mp hx)))
 exact⟨wd,e,gw⟩
end Dw
set_option maxHeartbeats 1000000
namespace Dw
open PySem L2 L3
def rdL(wd:List Str)(st:Int)(b:Bool):List Str:=(jp wd.length).map fun(k:Nat)=>wd.getD ((if b then st - k else st+k)%wd.length).toNat Qi
theorem zeL(wd:List Str)(st:Int)(b:Bool):(rdL wd st b).length=wd.length:=by unfold rdL; simp
theorem zgx{wd:List Str}(h:wd.length<=1000)(st:Int)(b:Bool):zbz [.lst (wd.map T.str),.int st,.bl b]=some (.lst ((rdL wd st b).map T.str)):=by
 have hr:zeK ((wd.length:Nat):Int)=true:=rgN (by lia)
 first |refine zek ?_ |refine fnPn_eq ?_
 show Run zbi [some (.lst (wd.map T.str)),some (.int st),some (.bl b),none] _;unfold zbi;refine zac (by simp?[]<;>rfl) ?_
 have key:∀(x:Int),0 < (wd.length:Int)->(wd.map T.str)[(x%wd.length).toNat]?=some (T.str (wd.getD (x%wd.length).toNat Qi)):=fun x h0=>by
  have h1:=Z5 x (b:=(wd.length:Int)) (by lia)
  have h2:=QQ x h0;have h3:(x%wd.length).toNat < wd.length:=by lia
  rw[jc,j3 h3,zby h3]; rfl
 have item:∀(x:Int),0 < (wd.length:Int)->zau (.lst (wd.map T.str)) (.int (x%wd.length))=some (T.str (wd.getD (x%wd.length).toNat Qi)):=fun x h0=>by
  have h1:=Z5 x (b:=(wd.length:Int)) (by lia)
  rw[<-key x h0,<-zff,Y6 h1]
 cases b with
 |false=>
  have e:=zcs (M:=[]) (caps:=[none,some 0,some 3,some 1]) (fi:=zjP (dAc (dV 3) dAn)) (dg:=dGn 0) (fe:=d2 zau (dV 1) (d2 zcT (d2 zah (dV 3) (dV 0)) (dV 2))) (s:=[some (.lst (wd.map T.str)),some (.int st),some (.bl false),some (.int wd.length)]) (jp wd.length) nT (fun k=>T.str (wd.getD ((st+(k:Int))%wd.length).toNat Qi)) (by simp?[hr,zeM,jh]) (by simp; lia) (by
   intro k hk;have h0:0 < (wd.length:Int):=by have:=jz.mp hk; lia
   refine⟨_,by simp?[]<;>rfl,?_,rfl⟩
   simp?[h0,item _ h0])
  refine zac (by simp?[]<;>rfl) (zbT (by simp?[e]<;>rfl) ?_)
  unfold rdL;rw[jQ]; rfl
 |true=>
  have e:=zcs (M:=[]) (caps:=[none,some 0,some 3,some 1]) (fi:=zjP (dAc (dV 3) dAn)) (dg:=dGn 0) (fe:=d2 zau (dV 1) (d2 zcT (d2 gSb (dV 3) (dV 0)) (dV 2))) (s:=[some (.lst (wd.map T.str)),some (.int st),some (.bl true),some (.int wd.length)]) (jp wd.length) nT (fun k=>T.str (wd.getD ((st - (k:Int))%wd.length).toNat Qi)) (by simp?[hr,zeM,jh]) (by simp; lia) (by
   intro k hk;have h0:0 < (wd.length:Int):=by have:=jz.mp hk; lia
   refine⟨_,by simp?[]<;>rfl,?_,rfl⟩
   simp?[h0,item _ h0])
  refine zk5 (by simp?[e]<;>rfl) ?_
  unfold rdL;rw[jQ]; rfl
theorem zdZ:∀(l:List Str),zcJ (l.map T.str)=some l
 |[]=>rfl
 |k::l=>by show (zcJ (l.map T.str)).map (k::·)=_; rw[zdZ l]; rfl
theorem zlm{l:List Str}(h:l.length < 1000):zeY (.lst (l.map T.str))=some (.int ((za0 l).length:Nat)):=by
 simp only[zeY,zdZ,j9];exact Ip_ h
theorem zqw{α:Type}(xs:List α)(k:Nat):zcl xs none (some (k:Int))=xs.take k:=by
 unfold zcl;rw[HT.sIx_nat,HT.sIx_none,Yk,Wr]
 by_cases h:k<=xs.length
 ·rw[ZP h]
 ·rw[WA (by lia),YT,Qn (by lia)]
theorem zmH{α:Type}(xs:List α)(k:Nat):zcl xs (some (k:Int)) none=xs.drop k:=by
 unfold zcl;rw[HT.sIx_nat,HT.sIx_none]
 by_cases h:k<=xs.length
 ·rw[ZP h,Qn (by rw[jX]; lia)]
 ·rw[WA (by lia),Nat.sub_self,List.take_zero,List.drop_of_length_le (by lia)]
theorem zjA{α β:Type}(f:α->β)(xs:List α)(lo hi:Option Int):zcl (xs.map f) lo hi=(zcl xs lo hi).map f:=by
 unfold zcl;simp
theorem zid(w:List Str)(k:Nat):zbL (.lst (w.map T.str)) none (some (k:Int))=some (.lst ((w.take k).map T.str)):=by
 show some (T.lst (zcl (w.map T.str) none (some (k:Int))))=_;rw[zjA,zqw]
theorem zeq(w:List Str)(k:Nat):zbL (.lst (w.map T.str)) (some (k:Int)) none=some (.lst ((w.drop k).map T.str)):=by
 show some (T.lst (zcl (w.map T.str) (some (k:Int)) none))=_;rw[zjA,zmH]
theorem zkG{w:List Str}{st n:Nat}(h:st+n<=w.length){u:Int}(hu:u=((st+n:Nat):Int)):zbL (.lst (w.map T.str)) (some (st:Int)) (some u)=some (.lst ((cut w st n).map T.str)):=by
 show some (T.lst (zcl (w.map T.str) (some (st:Int)) (some u)))=_;subst hu;rw[zjA,zkB w (by lia) (by lia) (by lia),jh,jh,YK]; rfl
theorem zfL{l:List Str}(h:l.length<=60):zaP [.lst (l.map T.str)]=some (.bl (clo l)):=by
 refine zek ?_;show Run zaW [some (.lst (l.map T.str))] _;unfold zaW clo;have hf:=zdz l;refine zbT (by simp?[zlm (show l.length < 1000 by lia)]<;>rfl) ?_
 by_cases q:l.length=2*(za0 l).length
 ·rw[Dt_ q,Dt_ (by lia)]
 ·rw[Df_ q,Df_ (by lia)]
theorem znu{n:Nat}(h:n<=100):rg3 2 (n:Int) 2=true:=by
 show (Nat.ble n 100&&(decide ((2:Int)=2)&&decide ((2:Int)=2)))=true;rw[Ng h]; rfl
theorem zlx{n k:Nat}{z:T}(h:(zdP 2 2 n)[k]?=some z):k < n/\z=.int ((2+2*k:Nat):Int):=by
 unfold zdP at h;rw[jc] at h;obtain⟨j,h1,h2⟩:=Qm h;have hk:k < n:=by simpa using (j5.mp h1).1
 rw[Qe hk] at h1;injection h1 with h1;subst h1;refine⟨hk,?_⟩;rw[<-h2,show ((2+2*k:Nat):Int)=2+(k:Int)*2 by lia]
theorem znt{n k:Nat}{z:T}(h:(zat 0 n)[k]?=some z):k < n/\z=.int (k:Int):=by
 unfold zat at h;rw[jc] at h;obtain⟨j,h1,h2⟩:=Qm h;have hk:k < n:=by simpa using (j5.mp h1).1
 rw[Qe hk] at h1;injection h1 with h1;subst h1;exact⟨hk,by rw[<-h2,Yg]⟩
def shQ(w:List Str)(r:Fl):Prop:=∃ t s,r=.rt t s/\∃ st n:Nat,t=.tup [.int (st:Int),.int ((st+n:Nat):Int)]/\Short w st n
theorem zk2{w:List Str}(hl:w.length<=60){m:Nat}(hm2:2<=m)(hm0:m%2=0)(hm:m < w.length)(hno:zjM w m)(b:Option T)(I:Sg->Prop)(hI:∀ b,(∀ start,start+m<=w.length->clo (cut w start m)=false)->I [some (.lst (w.map T.str)),some (.int (m:Int)),b]):Run (zf3 (zjP (dAc (d2 zah (d2 gSb (d1 zbP (dV 0)) (dV 1)) (dC (.int 1))) dAn)) (dGn 2)
  (zdN (zla (zal zaP (dAc (dSl zbL (dV 0) (dOs (dV 2)) (dOs (d2 zah (dV 2) (dV 1)))) dAn))) (zap [] (zmE (dAc (dV 2) (dAc (d2 zah (dV 2) (dV 1)) dAn)))) zb1)) [some (.lst (w.map T.str)),some (.int (m:Int)),b] (zi7 I (shQ w)):=by
 have h1:zeK ((w.length:Int) - (m:Int)+1)=true:=zbU (by lia) (by lia)
 have h2:((w.length:Int) - (m:Int)+1).toNat=w.length - m+1:=by lia
 refine zeI (its:=zat 0 (w.length - m+1)) (fun j s=>(∀ start,start < j->clo (cut w start m)=false)/\∃ b,s=[some (.lst (w.map T.str)),some (.int (m:Int)),b]) (by simp?[h1,h2]<;>rfl) ⟨fun _ h=>absurd h (Z2 _),_,rfl⟩ ?_ ?_
 ·rintro j z s hz ⟨hj,b,rfl⟩;obtain⟨hjn,rfl⟩:=znt hz;refine⟨_,by simp?[]<;>rfl,?_⟩
  have hle:j+m<=w.length:=by lia
  have sl:=zkG (w:=w) (st:=j) (n:=m) hle (u:=(j:Int)+(m:Int)) (by lia)
  have cl:=zfL (l:=cut w j m) (by rw[zbZ hle]; lia)
  cases hc:clo (cut w j m) with
  |true=>
   rw[hc] at cl;refine zma (by simp?[sl,cl]<;>rfl) ⟨_,_,rfl,j,m,by rw[WS j],hle,.inr ⟨hm2,hm0,hm,hc⟩,hno⟩
  |false=>
   rw[hc] at cl;refine ziR (by simp?[sl,cl]<;>rfl) ⟨fun start hst=>?_,_,rfl⟩
   by_cases q:start=j
   ·rw[q]; exact hc
   ·exact hj start (by lia)
 ·rintro s ⟨hj,b,rfl⟩;rw[zdh] at hj;exact hI b fun start h=>hj start (by lia)
theorem zgh{w:List Str}(hl:w.length<=60):∃ st n:Nat,zaA [.lst (w.map T.str)]=some (.tup [.int (st:Int),.int ((st+n:Nat):Int)])/\Short w st n:=by
 have hr:=znu (n:=w.length) (by lia)
 obtain⟨t,e,st,n,rfl,hS⟩:=zcw (n:=3) (d:=zas) (ts:=[.lst (w.map T.str)]) (Q:=fun t=>∃ st n:Nat,t=.tup [.int (st:Int),.int ((st+n:Nat):Int)]/\Short w st n) (by
  show Run _ [some (.lst (w.map T.str)),none,none] _;unfold zas;refine zgY (its:=zdP 2 2 ((w.length - 1) / 2)) (fun k s=>zjM w (2+2*k)/\∃ a b,s=[some (.lst (w.map T.str)),a,b]) (by simp?[hr,jh]<;>rfl) ⟨fun size start h1 h2 h3=>by lia,_,_,rfl⟩ ?_ ?_
  ·rintro k z s hz ⟨hno,a,b,rfl⟩;obtain⟨hk,rfl⟩:=zlx hz;refine⟨_,by simp?[]<;>rfl,?_⟩
   refine zk2 hl (m:=2+2*k) (by lia) (by lia) (by lia) hno b _ fun b hj=>⟨fun size start h1 h2 h3 h4=>?_,_,_,rfl⟩
   by_cases q:size=2+2*k
   ·subst q; exact hj start h4
   ·exact hno size start h1 h2 (by lia) h4
  ·rintro s ⟨hno,a,b,rfl⟩;have ln:(zdP 2 2 ((w.length - 1) / 2)).length=(w.length - 1) / 2:=by unfold zdP; simp
   rw[ln] at hno;have q:zap [] (zmE (dAc (dC (.int 0)) (dAc (d1 zbP (dV 0)) dAn))) [some (.lst (w.map T.str)),a,b]=some (.rt (.tup [.int 0,.int (w.length:Int)]) [some (.lst (w.map T.str)),a,b]):=by
    simp?[]
   refine zeJ q ⟨_,_,rfl,0,w.length,by rw[Zc]; rfl,by lia,.inl ⟨rfl,rfl⟩,fun size start h1 h2 h3 h4=>hno size start h1 h2 (by lia) h4⟩)
 exact⟨st,n,e,hS⟩
def zbl(p:Nat × List Str):T:=.tup [.int (p.1:Int),.lst (p.2.map T.str)]
def zrD:T->Nat
 |.lst xs=>xs.length
 |_=>0
def zrF(s:Sg):Nat:=zrD ((s[2]?).join.getD .non)
theorem ziP{w:List Str}(hl:w.length<=60):∃ ps,zbh [.lst (w.map T.str)]=some (.lst (ps.map zbl))/\Parts w ps:=by
 obtain⟨t,e,ps,rfl,hp⟩:=zcw (n:=5) (d:=zbI) (ts:=[.lst (w.map T.str)]) (Q:=fun t=>∃ ps:List (Nat × List Str),t=.lst (ps.map zbl)/\Parts w ps) (by
  show Run _ [some (.lst (w.map T.str)),none,none,none,none] _;unfold zbI;refine zac (by simp?[]<;>rfl) (zac (by simp?[]<;>rfl) ?_)
  refine zdd (fun s=>∃(r:List Str) (ps0:List (Nat × List Str)) (a b:Option T),s=[some (.lst (w.map T.str)),some (.lst (ps0.map zbl)),some (.lst (r.map T.str)),a,b]/\r.length+ps0.length<=60/\∀ ps,Parts r ps->Parts w (ps0++ps)) zrF ?_ ⟨w,[],none,none,rfl,by simpa using hl,fun ps h=>h⟩ ?_ ?_
  ·show (w.map T.str).length < 100;rw[ja]; lia
  ·rintro s ⟨r,ps0,a,b,rfl,hr,hP⟩
   by_cases h0:r=[]
   ·subst h0;exact⟨false,_,by simp?[]<;>rfl,by simp⟩
   ·obtain⟨st,n,es,hs⟩:=zgh (w:=r) (by lia)
    have hle:=hs.le;have hn:=hs.pos h0;have hrl:=zh0 hs.le;refine⟨true,[some (.lst (w.map T.str)),some (.lst (ps0.map zbl)),some (.lst (r.map T.str)),a,b],?_,?_⟩
    ·cases r with
     |nil=>exact absurd rfl h0
     |cons x r=>rfl
    ·rw[Ip_ rfl];have sl:=zkG (w:=r) (st:=st) (n:=n) hle (u:=((st+n:Nat):Int)) rfl;have s1:=zid r st;have s2:=zeq r (st+n);have la:(r.take st).length+(r.drop (st+n)).length<=60:=by rw[jK,jX]; lia
     refine zac (s':=[some (.lst (w.map T.str)),some (.lst (ps0.map zbl)),some (.lst (r.map T.str)),some (.int (st:Int)),some (.int ((st+n:Nat):Int))]) (by simp?[es]<;>rfl) ?_
     refine zac (s':=[some (.lst (w.map T.str)),some (.lst ((ps0++[(st,cut r st n)]).map zbl)),some (.lst (r.map T.str)),some (.int (st:Int)),some (.int ((st+n:Nat):Int))]) (by simp?[sl,zne,Qq,ju,Zs,zbl]<;>rfl) ?_
     refine zaB (s':=[some (.lst (w.map T.str)),some (.lst ((ps0++[(st,cut r st n)]).map zbl)),some (.lst ((zc2 r st n).map T.str)),some (.int (st:Int)),some (.int ((st+n:Nat):Int))]) (by simp?[s1,s2,zc2,Qq]<;>rfl) ⟨⟨zc2 r st n,ps0++[(st,cut r st n)],_,_,rfl,by rw[js,Z9]; lia,fun ps hp=>?_⟩,?_⟩
     ·rw[Qw];exact hP _ (.cons h0 hs hp)
     ·show ((zc2 r st n).map T.str).length < (r.map T.str).length;rw[ja,ja]; lia
  ·rintro s0 s' ⟨r,ps0,a,b,rfl,hr,hP⟩ hf;have h0:r=[]:=by
    cases r with
    |nil=>rfl
    |cons x r=>cases hf
   subst h0;cases hf;have q:zap [] (dV 1) [some (.lst (w.map T.str)),some (.lst (ps0.map zbl)),some (.lst (([]:List Str).map T.str)),a,b]=some (.rt (.lst (ps0.map zbl)) [some (.lst (w.map T.str)),some (.lst (ps0.map zbl)),some (.lst (([]:List Str).map T.str)),a,b]):=by simp?[]
   refine zeJ q ⟨_,_,rfl,ps0,rfl,?_⟩;have:=hP [] .nil
   rwa [QM] at this)
 exact⟨ps,e,hp⟩
inductive Hang (w:List Str) (x:Str):Str->Prop
 |here:Hang w x x
 |step {y z:Str} (h:Hang w x y) (c:crs w y z=true):Hang w x z
theorem zbj{w:List Str}{x y:Str}(h:crs w x y=true):y∈w:=by
 unfold crs at h;split at h
 ·rename_i i j e;have h:=of_decide_eq_true h;have:y∈zle w i j:=ZJ.mp (by lia)
  exact gS (QH this)
 ·cases h
theorem zcZ{w:List Str}(h:Two w){x y:Str}(hx:x∈w)(hy:y∈w):crs w x y=crs w y x:=by
 obtain⟨i,j,h1⟩:=zaL (h x hx);obtain⟨k,l,h2⟩:=zaL (h y hy);rw[zhv h1,zhv h2,zgN h1 h2]
theorem Hang.mem{w:List Str}{x y:Str}(hx:x∈w)(h:Hang w x y):y∈w:=by
 cases h with
 |here=>exact hx
 |step h c=>exact zbj c
theorem zjC{w:List Str}{x y:Str}{l k c d:Nat}(hx:za4 w x=[l,k])(hy:za4 w y=[c,d]):crs w x y=true↔((l < c/\c < k)/\¬ (l < d/\d < k))∨(¬ (l < c/\c < k)/\(l < d/\d < k)):=by
 obtain⟨a,b⟩:=zb3 hx;rw[zhv hx,decide_eq_true_iff,zcx y a b,hy];unfold zdu
 by_cases h1:l < c/\c < k<;>by_cases h2:l < d/\d < k<;>simp[QV,h1,h2]
theorem zjr(P:Nat->Prop):∀ n,(∃ i,i < n/\P i)->∃ i,i < n/\P i/\∀ k,i < k->k < n->¬ P k
 |0,⟨i,h,_⟩=>absurd h (Z2 _)
 |n+1,⟨i,h,p⟩=>by
  by_cases q:P n
  ·exact⟨n,by lia,q,fun k h1 h2=>by lia⟩
  ·have:i≠n:=fun z=>q (z▸p);obtain⟨j,h1,h2,h3⟩:=zjr P n ⟨i,by lia,p⟩
   exact⟨j,by lia,h2,fun k h4 h5 h6=>by
    by_cases e:k=n
    ·exact q (e▸h6)
    ·exact h3 k h4 (by lia) h6⟩
theorem zl7(P:Nat->Prop)(j:Nat)(h:P j):∃ i,P i/\i<=j/\∀ k,k < i->¬ P k:=by
 induction j using Nat.strongRecOn with
 |ind j ih=>
  by_cases q:∃ k,k < j/\P k
  ·obtain⟨k,h1,h2⟩:=q;obtain⟨i,h3,h4,h5⟩:=ih k h1 h2;exact⟨i,h3,by lia,h5⟩
  ·exact⟨j,h,jg _,fun k h1 h2=>q ⟨k,h1,h2⟩⟩
section
variable {C:List Str}(hT:Two C){x:Str}(hx:x∈C)
include hT hx
theorem zqS{z:Str}(hz:z∈C)(nz:¬ Hang C x z){lo hi:Nat}(pz:za4 C z=[lo,hi]){a:Str}(ha:Hang C x a):∀ l k u v,za4 C a=[l,k]->za4 C x=[u,v]->((lo < l/\l < hi)↔(lo < u/\u < hi))/\((lo < k/\k < hi)↔(lo < l/\l < hi)):=by
 have nc:∀ {a:Str},Hang C x a->∀ l k,za4 C a=[l,k]->((lo < k/\k < hi)↔(lo < l/\l < hi)):=fun {a} ha l k pa=>by
  have:¬ crs C z a=true:=fun c=>nz (.step ha (by rw[zcZ hT (ha.mem hx) hz]; exact c))
  rw[zjC pz pa] at this;lia
 have ne:∀ {a:Str},Hang C x a->∀ p q,p∈za4 C a->q∈za4 C z->p≠q:=fun {a} ha p q hp hq e=>by
  subst e;have:=(zaF hp).symm.trans (zaF hq);injection this with this;exact nz (this▸ha)
 induction ha with
 |here=>intro l k u v h1 h2; rw[h1] at h2; cases h2; exact⟨Iff.rfl,nc .here _ _ h1⟩
 |@step b a hb c ih=>
  intro l k u v h1 h2;obtain⟨i,j,h3⟩:=zaL (hT b (hb.mem hx));have e:=ih i j u v h3 h2;refine⟨?_,nc (.step hb c) _ _ h1⟩;rw[<-e.1];have f:=nc (.step hb c) _ _ h1;have cc:=(zjC h3 h1).mp c;have n1:=ne hb i lo (by rw[h3]; simp) (by rw[pz]; simp)
  have n2:=ne hb i hi (by rw[h3]; simp) (by rw[pz]; simp)
  have n3:=ne hb j lo (by rw[h3]; simp) (by rw[pz]; simp)
  have n4:=ne hb j hi (by rw[h3]; simp) (by rw[pz]; simp)
  have e2:=e.2;lia
theorem zqr{z:Str}(hz:z∈C)(nz:¬ Hang C x z){lo hi:Nat}(pz:za4 C z=[lo,hi]){p q:Nat}{a b:Str}(hp:C[p]?=some a)(ha:Hang C x a)(hq:C[q]?=some b)(hb:Hang C x b):((lo < p/\p < hi)↔(lo < q/\q < hi))/\p≠lo/\p≠hi/\q≠lo/\q≠hi:=by
 obtain⟨u,v,hu⟩:=zaL (hT x hx);obtain⟨l,k,h1⟩:=zaL (hT a (ha.mem hx));obtain⟨l',k',h2⟩:=zaL (hT b (hb.mem hx));have d1:=zqS hT hx hz nz pz ha l k u v h1 hu;have d2:=zqS hT hx hz nz pz hb l' k' u v h2 hu;have f1:=(At.mk hp h1).facts;have f2:=(At.mk hq h2).facts;have ne:∀ {r:Nat} {c:Str},C[r]?=some c->Hang C x c->r≠lo/\r≠hi:=fun {r c} h hc=>by
  refine⟨fun e=>nz ?_,fun e=>nz ?_⟩
  ·have:C[lo]?=some z:=zaF (by rw[pz]; simp)
   rw[<-e,h] at this;exact je this▸hc
  ·have:C[hi]?=some z:=zaF (by rw[pz]; simp)
   rw[<-e,h] at this;exact je this▸hc
 have n1:=ne hp ha;have n2:=ne hq hb;refine⟨?_,n1.1,n1.2,n2.1,n2.2⟩;rcases f1.2.2 with e |e<;>rcases f2.2.2 with e' |e'<;>subst e<;>subst e'<;>lia
theorem zhF(hW:zoI C){y:Str}(hy:y∈C):Hang C x y:=Classical.byContradiction fun ny=>by
 let P:Nat->Prop:=fun k=>∃ z,C[k]?=some z/\Hang C x z
 obtain⟨q0,hq0⟩:=QF hy;obtain⟨i0,hi0⟩:=QF hx;have p0:P i0:=⟨x,hi0,.here⟩;have lt:∀ {k:Nat},P k->k < C.length:=fun⟨z,h,_⟩=>(j5.mp h).1;have nq:¬ P q0:=fun⟨z,h,hz⟩=>by rw[hq0] at h; exact ny (je h▸hz)
 have lq:=(j5.mp hq0).1;have key:∀ {p:Nat} {z:Str} {lo hi:Nat},At C p z lo hi->¬ Hang C x z->∀ {i j:Nat},P i->P j->((lo < i/\i < hi)↔(lo < j/\j < hi))/\i≠lo/\i≠hi/\j≠lo/\j≠hi:=fun {p z lo hi} a nz {i j} ⟨b,h1,h2⟩ ⟨c,h3,h4⟩=>zqr hT hx (jN a.is) nz a.pl h1 h2 h3 h4
 by_cases hin:(∃ i,i < q0/\P i)/\∃ j,q0 < j/\P j
 ·obtain⟨i,h1,h2,h3⟩:=zjr P q0 hin.1;obtain⟨j',hj'⟩:=hin.2;obtain⟨j,h4,_,h5⟩:=zl7 (fun k=>q0 < k/\P k) j' hj';have lj:=lt h4.2;refine hW (i+1) (j - (i+1)) (by lia) (by lia) (by lia) (zkI hT (by lia) fun p z lo hi h6 h7 a=>?_)
  have nz:¬ Hang C x z:=fun hz=>by
   have hP:P p:=⟨z,a.is,hz⟩;rcases gD p q0 with e |e |e
   ·exact h3 p (by lia) e hP
   ·exact nq (e▸hP)
   ·exact h5 p (by lia) ⟨e,hP⟩
  have d:=key a nz h2 h4.2;have f:=a.facts;lia
 ·obtain⟨f,h1,h2,h3⟩:=zl7 P i0 p0;obtain⟨l,h4,h5,h6⟩:=zjr P C.length ⟨i0,lt p0,p0⟩;have fl:f<=l:=gP fun z=>h3 l z h5;have out:q0 < f∨l < q0:=by
   rcases gD q0 f with e |e |e
   ·exact .inl e
   ·exact absurd (e▸h1) nq
   ·rcases gD l q0 with e' |e' |e'
    ·exact .inr e'
    ·exact absurd (e'▸h5) nq
    ·exact absurd ⟨⟨f,e,h1⟩,⟨l,e',h5⟩⟩ hin
  refine hW f (l+1 - f) (by lia) (by lia) (by lia) (zkI hT (by lia) fun p z lo hi h7 h8 a=>?_)
  have g:=a.facts
  by_cases hz:Hang C x z
  ·have plo:P lo:=⟨z,zaF (by rw[a.pl]; simp),hz⟩
   have phi:P hi:=⟨z,zaF (by rw[a.pl]; simp),hz⟩
   have a1:f<=lo:=gP fun z=>h3 lo z plo;have a2:hi<=l:=gP fun z=>h6 hi z (lt phi) phi;lia
  ·have d:=key a hz h1 h5;lia
end
theorem zf4(w:List Str)(st n:Nat):w=w.take st++(cut w st n++w.drop (st+n)):=by
 unfold cut;rw[<-Yq,jP,jP]
theorem zgM{w:List Str}{st n:Nat}(hw:Two w)(hc:Two (cut w st n)){x:Str}(hx:x∈cut w st n)(y:Str):crs w x y=crs (cut w st n) x y:=by
 have e:=zf4 w st n;have hc2:=hc x hx;generalize cut w st n=C at *;have hw2:w.count x=2:=hw x (by rw[e]; simp[hx])
 obtain⟨A,B,D,rfl,hA,hB,hD⟩:=zfC hc2;rw[zaq hA hB hD];have h0:=hw2;rw[e,jU,jU,hc2] at h0;have n1:x∉w.take st:=jM.mp (by lia)
 have n2:x∉w.drop (st+n):=jM.mp (by lia)
 generalize w.take st=P at e n1;generalize w.drop (st+n)=S at e n2;rw[show w=(P++A)++x::(B++x::(D++S)) by rw[e]; simp]
 exact zaq (by simp[n1,hA]) hB (by simp[n2,hD]) y
theorem zde{w:List Str}{st n:Nat}(hw:Two w)(hc:Two (cut w st n)):zc2 w st n=w.filter fun z=>decide (z∉cut w st n):=by
 have e:=zf4 w st n;have dj:∀ z∈cut w st n,z∉w.take st/\z∉w.drop (st+n):=fun z hz=>by
  have h1:=hc z hz;have h2:=hw z (by rw[e]; simp[hz])
  rw[e,jU,jU,h1] at h2;exact⟨jM.mp (by lia),jM.mp (by lia)⟩
 have f:∀ p:Str->Bool,w.filter p=(w.take st).filter p++((cut w st n).filter p++(w.drop (st+n)).filter p):=fun p=>by
  conv=>lhs; rw[e]
  rw[Q8,Q8]
 have fA:(w.take st).filter (fun z=>decide (z∉cut w st n))=w.take st:=Y5.mpr fun z hz=>Dt_ fun h=>(dj z h).1 hz;have fD:(w.drop (st+n)).filter (fun z=>decide (z∉cut w st n))=w.drop (st+n):=Y5.mpr fun z hz=>Dt_ fun h=>(dj z h).2 hz;have fM:(cut w st n).filter (fun z=>decide (z∉cut w st n))=[]:=Qo.mpr fun z hz=>by simpa using hz
 rw[f,fA,fD,fM];rfl
theorem zkC{w:List Str}{p:Str->Bool}{x y:Str}(hx:w.count x=2)(px:p x=true)(py:p y=true):crs (w.filter p) x y=crs w x y:=by
 obtain⟨A,B,C,rfl,hA,hB,hC⟩:=zfC hx;have e:(A++x::(B++x::C)).filter p=A.filter p++x::(B.filter p++x::C.filter p):=by
  rw[Q8,QV,Ip_ px,Q8,QV,Ip_ px]
 rw[zaq hA hB hC,e,zaq (fun h=>hA (Qc.mp h).1) (fun h=>hB (Qc.mp h).1) (fun h=>hC (Qc.mp h).1),List.count_filter py]
theorem zbf{w:List Str}{st n:Nat}(hw:Two w)(hc:Two (cut w st n))(z:Str):z∈zc2 w st n↔z∈w/\z∉cut w st n:=by
 rw[zde hw hc,Qc,decide_eq_true_iff]
theorem zhk{w:List Str}{st n:Nat}(hw:Two w)(hc:Two (cut w st n)){x:Str}(hx:x∈cut w st n)(y:Str):Hang w x y↔Hang (cut w st n) x y:=by
 constructor
 ·intro h
  induction h with
  |here=>exact .here
  |step h c ih=>exact .step ih (by rw[<-zgM hw hc (ih.mem hx)]; exact c)
 ·intro h
  induction h with
  |here=>exact .here
  |step h c ih=>exact .step ih (by rw[zgM hw hc (h.mem hx)]; exact c)
theorem zjk{w:List Str}{st n:Nat}(hw:Two w)(hc:Two (cut w st n)){x:Str}(hx:x∈zc2 w st n)(y:Str):Hang w x y↔Hang (zc2 w st n) x y:=by
 have same:∀ y z,y∈zc2 w st n->z∈zc2 w st n->crs (zc2 w st n) y z=crs w y z:=fun y z hy hz=>by
  have h1:=(zbf hw hc y).mp hy;have h2:=(zbf hw hc z).mp hz;rw[zde hw hc];exact zkC (hw y h1.1) (Dt_ h1.2) (Dt_ h2.2)
 constructor
 ·intro h
  induction h with
  |here=>exact .here
  |@step y z h c ih=>
   have hy:=ih.mem hx;have hy':=(zbf hw hc y).mp hy
   have hz:z∈zc2 w st n:=(zbf hw hc z).mpr ⟨zbj c,fun q=>hy'.2 (by
    rw[zcZ hw hy'.1 (zbj c),zgM hw hc q] at c
    exact zbj c)⟩
   exact .step ih (by rw[same y z hy hz]; exact c)
 ·intro h
  induction h with
  |here=>exact .here
  |@step y z h c ih=>exact .step ih (by rw[<-same y z (h.mem hx) (zbj c)]; exact c)
structure Hcl (w:List Str) (L:List (List Str)):Prop where
 nd:∀ l∈L,l.Nodup
 ne:∀ l∈L,l≠[]
 cls:∀ l∈L,∀ x∈l,x∈w/\∀ y,y∈l↔Hang w x y
 cov:∀ x∈w,∃ l∈L,x∈l
 dis:L.Pairwise fun a b=>∀ x∈a,x∉b
theorem ziO{w:List Str}{ps:List (Nat × List Str)}(h:Parts w ps):Two w->Hcl w (ps.map fun p=>za0 p.2):=by
 induction h with
 |nil=>intro _; exact⟨fun l h=>by simp at h,fun l h=>by simp at h,fun l h=>by simp at h,fun l h=>by simp at h,.nil⟩
 |@cons w st n ps h s p ih=>
  intro t;obtain⟨t1,t2⟩:=s.two t;have c:=ih t2;have hW:=(zib t1).mp s.whole;have hn:=s.pos h;have cl:cut w st n≠[]:=fun z=>by have:=zbZ s.le; rw[z] at this; simp at this; lia
  have mw:∀ x,x∈cut w st n->x∈w:=fun x hx=>by rw[zf4 w st n]; simp[hx]
  refine⟨fun l hl=>?_,fun l hl=>?_,fun l hl x hx=>?_,fun x hx=>?_,?_⟩
  ·rcases jt.mp hl with rfl |hl
   ·exact zb5 _
   ·exact c.nd l hl
  ·rcases jt.mp hl with rfl |hl
   ·obtain⟨y,hy⟩:=g7 _ cl;exact fun z=>by have:=mem_firsts.mpr hy; rw[show za0 (cut w st n)=[] from z] at this; cases this
   ·exact c.ne l hl
  ·rcases jt.mp hl with rfl |hl
   ·have hx:=mem_firsts.mp hx;refine⟨mw x hx,fun y=>⟨fun hy=>?_,fun hy=>?_⟩⟩
    ·exact(zhk t t1 hx y).mpr (zhF t1 hx hW (mem_firsts.mp hy))
    ·exact mem_firsts.mpr (((zhk t t1 hx y).mp hy).mem hx)
   ·obtain⟨h1,h2⟩:=c.cls l hl x hx;exact⟨((zbf t t1 x).mp h1).1,fun y=>by rw[h2 y,zjk t t1 h1]⟩
  ·by_cases q:x∈cut w st n
   ·exact⟨za0 (cut w st n),by simp,mem_firsts.mpr q⟩
   ·obtain⟨l,h1,h2⟩:=c.cov x ((zbf t t1 x).mpr ⟨hx,q⟩);exact⟨l,jm _ h1,h2⟩
  ·rw[ju,Yh];exact⟨fun l hl x hx hx'=>((zbf t t1 x).mp (c.cls l hl x hx').1).2 (mem_firsts.mp hx),c.dis⟩
theorem Hcl.same{w w':List Str}{L L':List (List Str)}(c:Hcl w L)(c':Hcl w' L')(hh:∀ x y,x∈w->(Hang w x y↔Hang w' x y))(hm:∀ x,x∈w->x∈w'):∀ l,l∈L.map za9->l∈L'.map za9:=fun l hl=>by
 obtain⟨a,ha,rfl⟩:=jH.mp hl;obtain⟨x,hx⟩:=g7 _ (c.ne a ha);obtain⟨h1,h2⟩:=c.cls a ha x hx;obtain⟨b,hb,hxb⟩:=c'.cov x (hm x h1);refine jH.mpr ⟨b,hb,zew ((Ya (c'.nd b hb) (c.nd a ha)).mpr fun y=>?_)⟩;rw[(c'.cls b hb x hxb).2 y,h2 y,hh x y h1]
theorem Hcl.nodup{w:List Str}{L:List (List Str)}(c:Hcl w L):(L.map za9).Nodup:=by
 unfold Nm;rw[Zp];refine Q9 (fun {a b} ha hb h e=>?_) c.dis;obtain⟨x,hx⟩:=g7 _ (c.ne a ha);refine h x hx ((zan b).mem_iff.mp ?_);rw[<-e];exact(zan a).mem_iff.mpr hx
theorem Hcl.perm{w w':List Str}{L L':List (List Str)}(c:Hcl w L)(c':Hcl w' L')(hh:∀ x y,x∈w->(Hang w x y↔Hang w' x y))(hm:∀ x,x∈w↔x∈w'):(L.map za9).Perm (L'.map za9):=
 (Ya c.nodup c'.nodup).mpr fun l=>⟨c.same c' hh (fun x h=>(hm x).mp h) l,c'.same c (fun x y h=>(hh x y ((hm x).mpr h)).symm) (fun x h=>(hm x).mpr h) l⟩
theorem zms(a b:Nat):zoU (.int (a:Int)) (.int (b:Int))=some (.int ((a ||| b:Nat):Int)):=by
 show some (T.int (gg (a:Int) (b:Int)))=_;have:gg (a:Int) (b:Int)=((a ||| b:Nat):Int):=by
  have nn:∀ c:Nat,gG (gG (c:Int))=(c:Int):=fun c=>by unfold gG; lia
  have ng:∀ c:Nat,¬ (0:Int)<=gG (c:Int):=fun c=>by unfold gG; lia
  unfold gg ZW;rw[Df_ (ng a),Df_ (ng b)];dsimp only;rw[nn,nn,nn,jh,jh]
 rw[this]
theorem zkv{k:Nat}(hk:k<=100):zoT (.int 1) (.int (k:Int))=some (.int ((2 ^ k:Nat):Int)):=by
 have:zqX 1 (k:Int)=true:=Dt_ (by
  refine⟨by lia,by lia,?_⟩
  decide)
 simp only[zoT,gI,this,if_true];rw[jh,Int.one_mul]
 congr 2
theorem zed{wd:List Str}(h:wd.length<=60):zbG [.lst (wd.map T.str)]=some (.lst ((za0 wd).map T.str)):=by
 refine zek ?_;show Run zcd [some (.lst (wd.map T.str)),none,none] _;unfold zcd;refine zac (s':=[some (.lst (wd.map T.str)),some (.lst ((za0 (wd.take 0)).map T.str)),none]) (by simp?[]<;>rfl) ?_
 refine zcq (its:=wd.map T.str) (fun j s=>∃ a,s=[some (.lst (wd.map T.str)),some (.lst ((za0 (wd.take j)).map T.str)),a]) (by simp?[]<;>rfl) ⟨_,rfl⟩ ?_ ?_
 ·rintro j z s hz ⟨a,rfl⟩;rw[jc] at hz;obtain⟨x,hx,rfl⟩:=Qm hz;have hF:=zbY hx;have l0:=zdz (wd.take j);rw[jK] at l0;refine⟨_,by simp?[]<;>rfl,?_⟩
  by_cases hin:x∈za0 (wd.take j)
  ·exact zaB (by simp?[hin]<;>rfl) ⟨some (.str x),by rw[hF]; unfold stp; rw[Ip_ hin]⟩
  ·exact zaB (by simp?[hin]<;>rfl) ⟨some (.str x),by rw[hF]; unfold stp; rw[In_ hin]⟩
 ·rintro s ⟨a,rfl⟩;rw[ja,YT];exact zbT (by simp?[]<;>rfl) rfl
structure Tbl (w:List Str) (n:Nat) (ms:List Nat):Prop where
 len:ms.length=n
 at_:∀(i m:Nat) (x:Str),ms[i]?=some m->(za0 w)[i]?=some x->∀(j:Nat) (y:Str),(za0 w)[j]?=some y->m.testBit j=crs w x y
theorem zhX{wd:List Str}(g:GoodWord wd):∃ ms,zcu [.lst (wd.map T.str)]=some (.lst (ms.map nT))/\Tbl wd (za0 wd).length ms:=by
 have hl:=g.len;have hf2:=zer g.two
 obtain⟨t,e,ms,rfl,hp⟩:=zcw (n:=9) (d:=zcb) (ts:=[.lst (wd.map T.str)]) (Q:=fun t=>∃ ms:List Nat,t=.lst (ms.map nT)/\Tbl wd (za0 wd).length ms) (by
  show Run _ [some (.lst (wd.map T.str)),none,none,none,none,none,none,none,none] _;unfold zcb;have eo:=zed hl;refine zac (s':=[some (.lst (wd.map T.str)),some (.lst ((za0 wd).map T.str)),none,none,none,none,none,none,none]) (by simp?[eo]<;>rfl) ?_
  refine zac (s':=[some (.lst (wd.map T.str)),some (.lst ((za0 wd).map T.str)),some (.lst (([]:List Nat).map nT)),none,none,none,none,none,none]) (by simp?[]<;>rfl) ?_
  refine zcq (its:=(za0 wd).map T.str) (fun i s=>∃(ms:List Nat) (a b c d e f:Option T),s=[some (.lst (wd.map T.str)),some (.lst ((za0 wd).map T.str)),some (.lst (ms.map nT)),a,b,c,d,e,f]/\Tbl wd i ms) (by simp?[]<;>rfl) ⟨[],_,_,_,_,_,_,rfl,rfl,fun i m x h=>by simp at h⟩ ?_ ?_
  ·rintro i z s hz ⟨ms,a,b,c,d,e,f,rfl,hT⟩;rw[jc] at hz;obtain⟨x,hx,rfl⟩:=Qm hz;have hi:=(j5.mp hx).1;have hxm:=mem_firsts.mp (jN hx);obtain⟨A,B,C,ew,hA,hB,hC⟩:=zfC (g.two x hxm);have cr:=zaq (A:=A) (B:=B) (C:=C) hA hB hC;rw[<-ew] at cr;refine⟨[some (.lst (wd.map T.str)),some (.lst ((za0 wd).map T.str)),some (.lst (ms.map nT)),some (.str x),b,c,d,e,f],rfl,?_⟩;have lw:wd.length=A.length+(1+(B.length+(1+C.length))):=by rw[ew]; simp; lia
   have i1:=zif hxm;rw[show wd.idxOf x=A.length by rw[ew,Wn,In_ hA]; simp] at i1
   have s1:=zeq wd (A.length+1);rw[show wd.drop (A.length+1)=B++x::C by rw[ew,<-Yq,WY]; rfl,show ((A.length+1:Nat):Int)=(A.length:Int)+1 by lia] at s1
   have i2:=zif (x:=x) (xs:=B++x::C) (by simp)
   rw[show (B++x::C).idxOf x=B.length by rw[Wn,In_ hB]; simp] at i2
   have s2:=zid (B++x::C) B.length;rw[WZ] at s2;refine zac (s':=[some (.lst (wd.map T.str)),some (.lst ((za0 wd).map T.str)),some (.lst (ms.map nT)),some (.str x),some (.int (A.length:Int)),c,d,e,f]) (by simp?[i1]<;>rfl) ?_
   refine zac (s':=[some (.lst (wd.map T.str)),some (.lst ((za0 wd).map T.str)),some (.lst (ms.map nT)),some (.str x),some (.int (A.length:Int)),some (.lst ((B++x::C).map T.str)),d,e,f]) (by simp?[s1]<;>rfl) ?_
   refine zac (s':=[some (.lst (wd.map T.str)),some (.lst ((za0 wd).map T.str)),some (.lst (ms.map nT)),some (.str x),some (.int (A.length:Int)),some (.lst (B.map T.str)),d,e,f]) (by simp?[i2,s2]<;>rfl) ?_
   refine zac (s':=[some (.lst (wd.map T.str)),some (.lst ((za0 wd).map T.str)),some (.lst (ms.map nT)),some (.str x),some (.int (A.length:Int)),some (.lst (B.map T.str)),some (.int ((0:Nat):Int)),e,f]) (by simp?[]<;>rfl) ?_
   refine zcq (its:=(za0 wd).zipIdx.map fun p=>T.tup [.int (p.2:Nat),.str p.1]) (fun j s=>∃(m:Nat) (e f:Option T),s=[some (.lst (wd.map T.str)),some (.lst ((za0 wd).map T.str)),some (.lst (ms.map nT)),some (.str x),some (.int (A.length:Int)),some (.lst (B.map T.str)),some (.int (m:Int)),e,f]/\∀ k,m.testBit k=(decide (k < j)&&(((za0 wd)[k]?).map fun y=>crs wd x y).getD false)) (by simp?[zky]<;>rfl) ⟨0,_,_,rfl,fun k=>by simp⟩ ?_ ?_
   ·rintro j z s hz ⟨m,e,f,rfl,hm⟩;rw[jc] at hz;obtain⟨p,hp,rfl⟩:=Qm hz;rw[List.getElem?_zipIdx] at hp;obtain⟨y,hy,rfl⟩:=Qm hp;have hj:=(j5.mp hy).1;refine⟨[some (.lst (wd.map T.str)),some (.lst ((za0 wd).map T.str)),some (.lst (ms.map nT)),some (.str x),some (.int (A.length:Int)),some (.lst (B.map T.str)),some (.int (m:Int)),some (.int (j:Int)),some (.str y)],by rw[Zc]; rfl,?_⟩
    have c1:=cr y
    by_cases q:B.count y=1
    ·rw[Dt_ q] at c1;refine zaB (s':=[some (.lst (wd.map T.str)),some (.lst ((za0 wd).map T.str)),some (.lst (ms.map nT)),some (.str x),some (.int (A.length:Int)),some (.lst (B.map T.str)),some (.int ((m ||| 2 ^ j:Nat):Int)),some (.int (j:Int)),some (.str y)]) (by simp?[Dt_ (show ((B.count y:Nat):Int)=1 by lia),zkv (k:=j) (by lia),zms]) ⟨_,_,_,rfl,fun k=>?_⟩
     rw[Nat.testBit_or,hm k,Nat.testBit_two_pow]
     by_cases e1:j=k
     ·subst e1; rw[hy]; simp[c1]
     ·by_cases e2:k < j
      ·simp[e1,e2,show k < j+1 by lia]
      ·simp[e1,e2,show ¬ k < j+1 by lia]
    ·rw[Df_ q] at c1;refine zaB (s':=[some (.lst (wd.map T.str)),some (.lst ((za0 wd).map T.str)),some (.lst (ms.map nT)),some (.str x),some (.int (A.length:Int)),some (.lst (B.map T.str)),some (.int (m:Int)),some (.int (j:Int)),some (.str y)]) (by simp?[Df_ (show ¬ ((B.count y:Nat):Int)=1 by lia)]) ⟨_,_,_,rfl,fun k=>?_⟩
     rw[hm k]
     by_cases e1:j=k
     ·subst e1; rw[hy]; simp[c1]
     ·by_cases e2:k < j
      ·simp[e2,show k < j+1 by lia]
      ·simp[e2,show ¬ k < j+1 by lia]
   ·rintro s ⟨m,e,f,rfl,hm⟩;have lm:=hT.len;rw[ja,List.length_zipIdx] at hm;refine zaB (s':=[some (.lst (wd.map T.str)),some (.lst ((za0 wd).map T.str)),some (.lst ((ms++[m]).map nT)),some (.str x),some (.int (A.length:Int)),some (.lst (B.map T.str)),some (.int (m:Int)),e,f]) (by simp?[znd]<;>rfl) ⟨_,_,_,_,_,_,_,rfl,by simp[lm],fun i' m' x' h1 h2 j y hy=>?_⟩
    by_cases q:i' < ms.length
    ·rw[jR q] at h1;exact hT.at_ i' m' x' h1 h2 j y hy
    ·have e1:i'=ms.length:=by
      have:=(j5.mp h1).1;simp at this;lia
     subst e1;rw[Q2 (jg _)] at h1;simp at h1;subst h1;rw[lm,hx] at h2;cases h2;have:=(j5.mp hy).1;rw[hm j,hy];simp;lia
  ·rintro s ⟨ms,a,b,c,d,e,f,rfl,hT⟩;rw[ja] at hT;have q:zap [] (dV 2) [some (.lst (wd.map T.str)),some (.lst ((za0 wd).map T.str)),some (.lst (ms.map nT)),a,b,c,d,e,f]=some (.rt (.lst (ms.map nT)) [some (.lst (wd.map T.str)),some (.lst ((za0 wd).map T.str)),some (.lst (ms.map nT)),a,b,c,d,e,f]):=by simp?[]
   exact zeJ q ⟨_,_,rfl,ms,rfl,hT⟩)
 exact⟨ms,e,hp⟩
theorem Hang.trans{w:List Str}{x y z:Str}(h:Hang w x y)(h':Hang w y z):Hang w x z:=by
 induction h' with
 |here=>exact h
 |step _ c ih=>exact .step ih c
theorem Hang.symm{w:List Str}(hw:Two w){x y:Str}(hx:x∈w)(h:Hang w x y):Hang w y x:=by
 induction h with
 |here=>exact .here
 |@step y z h c ih=>exact(Hang.step .here (by rw[zcZ hw (zbj c) (h.mem hx)]; exact c)).trans ih
def nm(w:List Str)(i:Nat):Str:=(za0 w).getD i Qi
theorem zgu{w:List Str}{i:Nat}(h:i < (za0 w).length):(za0 w)[i]?=some (nm w i):=by
 unfold nm;rw[Q3,j3 h];rfl
theorem zha{w:List Str}{i:Nat}(h:i < (za0 w).length):nm w i∈w:=mem_firsts.mp (jN (zgu h))
theorem zkX{w:List Str}{i j:Nat}(hi:i < (za0 w).length)(hj:j < (za0 w).length)(e:nm w i=nm w j):i=j:=by
 have h1:=zgu hi;have h2:=zgu hj;rw[e,<-h2,j3 hi,j3 hj] at h1;exact(g8 (zb5 w)).mp (je h1)
theorem zo6{w:List Str}{x:Str}(h:x∈w):∃ i,i < (za0 w).length/\nm w i=x:=by
 obtain⟨i,hi⟩:=QF (mem_firsts.mpr h);have l:=(j5.mp hi).1;exact⟨i,l,je ((zgu l).symm.trans hi)⟩
def tL(l:List Str):T:=.lst (l.map T.str)
def zmf:T->Nat
 |.lst xs=>xs.length
 |_=>0
def zqa:T->Nat
 |.int i=>i.toNat
 |_=>0
def slT(s:Sg)(k:Nat):T:=(s[k]?).join.getD .non
def mu1(s:Sg):Nat:=zmf (slT s 4)+zmf (slT s 5) - zqa (slT s 6)
def mu2(s:Sg):Nat:=zmf (slT s 4)
structure Grow (w:List Str) (g0:Nat) (L0 grp left:List Nat) (k:Nat):Prop where
 perm:(grp++left).Perm (g0::L0)
 hang:∀ i∈grp,Hang w (nm w g0) (nm w i)
 proc:∀ q,q < k->∀ i,grp[q]?=some i->∀ j∈left,crs w (nm w i) (nm w j)=false
 le:k<=grp.length
 fst:g0∈grp
theorem Grow.next{w:List Str}{g0:Nat}{L0 grp left:List Nat}{k i:Nat}(h:Grow w g0 L0 grp left k)(hi:grp[k]?=some i) :
  Grow w g0 L0 (grp++left.filter fun j=>crs w (nm w i) (nm w j)) (left.filter fun j=>!crs w (nm w i) (nm w j)) (k+1):=by
 have hk:=(j5.mp hi).1;refine⟨?_,fun j hj=>?_,fun q hq i' hi' j hj=>?_,by rw[js]; lia,QD _ h.fst⟩
 ·rw[Qw];exact((List.filter_append_perm _ left).append_left grp).trans h.perm
 ·rcases jV.mp hj with q |q
  ·exact h.hang j q
  ·exact .step (h.hang i (jN hi)) (Qc.mp q).2
 ·obtain⟨h1,h2⟩:=Qc.mp hj;rw[jR (by lia)] at hi'
  by_cases e:q=k
  ·subst e;rw[hi] at hi';cases hi';simpa using h2
  ·exact h.proc q (by lia) i' hi' j h1
structure Out (w:List Str) (L:List (List Str)) (left:List Nat):Prop where
 nd:∀ l∈L,l.Nodup
 ne:∀ l∈L,l≠[]
 cls:∀ l∈L,∀ x∈l,x∈w/\∀ y,y∈l↔Hang w x y
 cov:∀ x∈w,(∃ l∈L,x∈l)∨∃ j∈left,nm w j=x
 dis:L.Pairwise fun a b=>∀ x∈a,x∉b
 ln:left.Nodup
 lt:∀ j∈left,j < (za0 w).length
 sep:∀ l∈L,∀ j∈left,nm w j∉l
 clo:∀ j∈left,∀ y,crs w (nm w j) y=true->∃ i∈left,nm w i=y
theorem Out.start{w:List Str}:Out w [] (jp (za0 w).length) where
 nd:=fun l h=>nomatch h
 ne:=fun l h=>nomatch h
 cls:=fun l h=>nomatch h
 cov:=fun x hx=>by
  obtain⟨i,h1,h2⟩:=zo6 hx;exact .inr ⟨i,jz.mpr h1,h2⟩
 dis:=.nil
 ln:=gQ
 lt:=fun j hj=>jz.mp hj
 sep:=fun l h=>nomatch h
 clo:=fun j hj y c=>by
  obtain⟨i,h1,h2⟩:=zo6 (zbj c);exact⟨i,jz.mpr h1,h2⟩
theorem Out.done{w:List Str}{L:List (List Str)}(h:Out w L []):Hcl w L:=⟨h.nd,h.ne,h.cls,fun x hx=>(h.cov x hx).resolve_right fun z=>(match z with |⟨_,q,_⟩=>nomatch q),h.dis⟩
theorem Out.next{w:List Str}(hw:Two w){L:List (List Str)}{g0:Nat}{L0 grp left:List Nat}(o:Out w L (g0::L0))(h:Grow w g0 L0 grp left grp.length):Out w (L++[grp.map (nm w)]) left:=by
 have mem:∀ j,j∈g0::L0↔j∈grp∨j∈left:=fun j=>by rw[<-h.perm.mem_iff,jV]
 have ltg:∀ j∈grp,j < (za0 w).length:=fun j hj=>o.lt j ((mem j).mpr (.inl hj));have ltl:∀ j∈left,j < (za0 w).length:=fun j hj=>o.lt j ((mem j).mpr (.inr hj));have nd2:(grp++left).Nodup:=h.perm.nodup_iff.mpr o.ln;rw[ZT] at nd2;have g0m:g0 < (za0 w).length:=o.lt g0 (by simp)
 have no:∀ i∈grp,∀ j∈left,crs w (nm w i) (nm w j)=false:=fun i hi j hj=>by
  obtain⟨q,hq⟩:=QF hi;exact h.proc q (j5.mp hq).1 i hq j hj
 have close:∀ i∈grp,∀ y,crs w (nm w i) y=true->y∈grp.map (nm w):=fun i hi y c=>by
  obtain⟨j,h1,rfl⟩:=o.clo i ((mem i).mpr (.inl hi)) y c;rcases(mem j).mp h1 with q |q
  ·exact jH.mpr ⟨j,q,rfl⟩
  ·rw[no i hi j q] at c; cases c
 have gne:grp≠[]:=List.ne_nil_of_mem h.fst;refine⟨fun l hl=>?_,fun l hl=>?_,fun l hl x hx=>?_,fun x hx=>?_,?_,nd2.2.1,ltl,fun l hl j hj=>?_,fun j hj y c=>?_⟩
 ·rcases jV.mp hl with q |q
  ·exact o.nd l q
  ·obtain rfl:=jy.mp q;unfold Nm;rw[Zp];exact Q9 (fun {a b} ha hb hn e=>hn (zkX (ltg a ha) (ltg b hb) e)) nd2.1
 ·rcases jV.mp hl with q |q
  ·exact o.ne l q
  ·obtain rfl:=jy.mp q;simpa using gne
 ·rcases jV.mp hl with q |q
  ·exact o.cls l q x hx
  ·obtain rfl:=jy.mp q;obtain⟨i,hi,rfl⟩:=jH.mp hx;refine⟨zha (ltg i hi),fun y=>⟨fun hy=>?_,fun hy=>?_⟩⟩
   ·obtain⟨j,hj,rfl⟩:=jH.mp hy;exact((h.hang i hi).symm hw (zha g0m)).trans (h.hang j hj)
   ·induction hy with
    |here=>exact hx
    |step _ c ih=>
     obtain⟨j,hj,rfl⟩:=jH.mp ih;exact close j hj _ c
 ·rcases o.cov x hx with ⟨l,h1,h2⟩ |⟨j,h1,h2⟩
  ·exact .inl ⟨l,QD _ h1,h2⟩
  ·rcases(mem j).mp h1 with q |q
   ·exact .inl ⟨_,jJ _ (jy.mpr rfl),jH.mpr ⟨j,q,h2⟩⟩
   ·exact .inr ⟨j,q,h2⟩
 ·rw[List.pairwise_append];refine⟨o.dis,by simp,fun a ha b hb x hx hx'=>?_⟩
  obtain rfl:=jy.mp hb;obtain⟨j,hj,rfl⟩:=jH.mp hx';exact o.sep a ha j ((mem j).mpr (.inl hj)) hx
 ·rcases jV.mp hl with q |q
  ·exact o.sep l q j ((mem j).mpr (.inr hj))
  ·obtain rfl:=jy.mp q;intro hz;obtain⟨i,hi,e⟩:=jH.mp hz;have:=zkX (ltg i hi) (ltl j hj) e;exact nd2.2.2 i hi j hj this
 ·obtain⟨i,h1,rfl⟩:=o.clo j ((mem j).mpr (.inr hj)) y c;rcases(mem i).mp h1 with q |q
  ·rw[zcZ hw (zha (ltl j hj)) (zha (ltg i q)),no i q j hj] at c; cases c
  ·exact⟨i,q,rfl⟩
theorem zoD{m j:Nat}{b:Bool}(h:m.testBit j=b):zjn (.int ((m / 2 ^ j:Nat):Int)) (.int 1)=some (.int (if b then 1 else 0)):=by
 show some (T.int (ZW ((m / 2 ^ j:Nat):Int) ((1:Nat):Int)))=_;unfold ZW;rw[Dt_ (Yd (m / 2 ^ j)),Dt_ (Yd 1)];dsimp only;rw[jh,jh,Nat.and_one_is_mod];rw[Nat.testBit_eq_decide_div_mod_eq] at h;subst h
 by_cases q:m / 2 ^ j%2=1
 ·simp[q]
 ·have:m / 2 ^ j%2=0:=by lia
  simp[this]
theorem zfN(a k:Nat):zom (.int (a:Int)) (.int (k:Int))=some (.int ((a / 2 ^ k:Nat):Int)):=by
 have:zqW (a:Int) (k:Int)=true:=Dt_ (by lia)
 simp only[zom,gI,this,if_true];rw[jh]
 congr 2
theorem zcn:∀(l:List Str),zcJ (l.map T.str)=some l
 |[]=>rfl
 |k::l=>by show (zcJ (l.map T.str)).map (k::·)=_; rw[zcn l]; rfl
theorem zjT{l:List Str}(h:l.length < 64):zdx (.lst (l.map T.str))=some (.lst ((za9 l).map T.str)):=by
 simp only[zdx,zcn];exact Ip_ h
def hdS(l:List Str):Str:=l.headD Qi
def zdQ(L:List (List Str)):List (List Str):=(zcK (L.map fun l=>(l,hdS l))).map (·.1)
theorem zef:∀ {L:List (List Str)},(∀ l∈L,l≠[])->zdw (L.map tL)=some (L.map hdS)
 |[],_=>rfl
 |l::L,h=>by
  cases l with
  |nil=>exact absurd rfl (h [] (by simp))
  |cons x l=>
   show (zdw (L.map tL)).map (x::·)=_
   rw[zef fun l hl=>h l (jm _ hl)];rfl
theorem zkF{L:List (List Str)}(hne:∀ l∈L,l≠[])(hl:L.length < 64)(hn:(L.map hdS).Nodup):zeh (.lst (L.map tL))=some (.lst ((zdQ L).map tL)):=by
 show (zdw (L.map tL)).bind _=_;rw[zef hne,j9,Ip_ ⟨by rw[ja]; exact hl,hn⟩]
 have e:(L.map tL).zip (L.map hdS)=(L.map fun l=>(l,hdS l)).map fun p=>(tL p.1,p.2):=by
  rw[jQ]
  clear hne hl hn
  induction L with
  |nil=>rfl
  |cons l L ih=>rw[ju,ju,List.zip_cons_cons,ih]; rfl
 rw[e,zd5 tL];unfold zdQ;rw[jQ,jQ];rfl
theorem zco{L L':List (List Str)}(hp:L.Perm L')(hn:(L.map hdS).Nodup):zdQ L=zdQ L':=by
 unfold zdQ
 congr 1
 refine Zo (le:=fun a b=>leS a.2 b.2=true) (fun a b ha hb h h'=>?_) (zex _) (zex _) ((zav _).trans ((hp.map _).trans (zav _).symm));have e:=zb4 h h';have ha':=(zav _).mem_iff.mp ha;have hb':=(hp.map fun l=>(l,hdS l)).mem_iff.mpr ((zav _).mem_iff.mp hb);obtain⟨i,hi⟩:=QF ha';obtain⟨j,hj⟩:=QF hb';rw[jc] at hi hj;obtain⟨l,hl,rfl⟩:=Qm hi;obtain⟨l',hl',rfl⟩:=Qm hj;have li:=(j5.mp hl).1;have lj:=(j5.mp hl').1;have e1:(L.map hdS)[i]?=(L.map hdS)[j]?:=by rw[jc,jc,hl,hl']; exact congrArg some e
 rw[j3 (by simpa using li),j3 (by simpa using lj)] at e1
 have:=(g8 hn).mp (je e1);subst this;rw[hl] at hl';cases hl';rfl
theorem Hcl.heads{w:List Str}{L:List (List Str)}(c:Hcl w L):((L.map za9).map hdS).Nodup/\∀ l∈L.map za9,l≠[]:=by
 have ne:∀ l∈L,za9 l≠[]:=fun l hl z=>c.ne l hl (by
  have:=(zan l).length_eq;rw[z] at this
  exact QX.mp this.symm)
 have hm:∀ l∈L,hdS (za9 l)∈l:=fun l hl=>by
  have:=ne l hl;refine(zan l).mem_iff.mp ?_;cases e:za9 l with
  |nil=>exact absurd e this
  |cons x r=>exact jC ..
 refine⟨?_,fun l hl=>?_⟩
 ·rw[jQ];unfold Nm;rw[Zp];exact Q9 (fun {a b} ha hb h e=>h _ (hm a ha) (by have e:hdS (za9 a)=hdS (za9 b):=e; rw[e]; exact hm b hb)) c.dis
 ·obtain⟨a,ha,rfl⟩:=jH.mp hl;exact ne a ha
theorem zj5{wd:List Str}(g:GoodWord wd):∃ L:List (List Str),zdy [.lst (wd.map T.str)]=some (.lst ((zdQ (L.map za9)).map tL))/\Hcl wd L/\L.length<=30:=by
 have hl:=g.len;have hf2:=zer g.two;obtain⟨ms,em,hM⟩:=zhX g;have lm:=hM.len;have eo:=zed hl
 obtain⟨t,e,L,rfl,hC,hL⟩:=zcw (n:=8) (d:=zcX) (ts:=[.lst (wd.map T.str)]) (Q:=fun t=>∃ L:List (List Str),t=.lst ((zdQ (L.map za9)).map tL)/\Hcl wd L/\L.length<=30) (by
  show Run _ [some (.lst (wd.map T.str)),none,none,none,none,none,none,none] _;unfold zcX;have rg:=zbU (j:=((za0 wd).length:Int)) (by lia) (by lia)
  refine zac (s':=[some (.lst (wd.map T.str)),some (.lst ((za0 wd).map T.str)),none,none,none,none,none,none]) (by simp?[eo]<;>rfl) ?_
  refine zac (s':=[some (.lst (wd.map T.str)),some (.lst ((za0 wd).map T.str)),some (.lst (ms.map nT)),none,none,none,none,none]) (by simp?[em]<;>rfl) ?_
  refine zac (s':=[some (.lst (wd.map T.str)),some (.lst ((za0 wd).map T.str)),some (.lst (ms.map nT)),some (.lst ((([]:List (List Str)).map za9).map tL)),none,none,none,none]) (by simp?[]<;>rfl) ?_
  have er:zat 0 (za0 wd).length=(jp (za0 wd).length).map nT:=by
   unfold zat;exact Z4 fun k _=>by rw[vnT,Yg]
  refine zac (s':=[some (.lst (wd.map T.str)),some (.lst ((za0 wd).map T.str)),some (.lst (ms.map nT)),some (.lst ((([]:List (List Str)).map za9).map tL)),some (.lst ((jp (za0 wd).length).map nT)),none,none,none]) (by simp?[rg,jh,er]<;>rfl) ?_
  refine zdd (fun s=>∃(L:List (List Str)) (left:List Nat) (a b c:Option T),s=[some (.lst (wd.map T.str)),some (.lst ((za0 wd).map T.str)),some (.lst (ms.map nT)),some (.lst ((L.map za9).map tL)),some (.lst (left.map nT)),a,b,c]/\Out wd L left/\L.length+left.length<=30) mu2 ?_ ⟨[],_,_,_,_,rfl,Out.start,by simp; lia⟩ ?_ ?_
  ·show ((jp (za0 wd).length).map nT).length < 100;simp; lia
  ·rintro s ⟨L,left,a,b,c,rfl,hO,hLl⟩;cases left with
   |nil=>exact⟨false,[some (.lst (wd.map T.str)),some (.lst ((za0 wd).map T.str)),some (.lst (ms.map nT)),some (.lst ((L.map za9).map tL)),some (.lst (([]:List Nat).map nT)),a,b,c],rfl,by simp⟩
   |cons g0 L0=>
    have ne:=zll (g0::L0) [];rw[Zs,Df_ (WB _ _)] at ne;refine⟨true,[some (.lst (wd.map T.str)),some (.lst ((za0 wd).map T.str)),some (.lst (ms.map nT)),some (.lst ((L.map za9).map tL)),some (.lst ((g0::L0).map nT)),a,b,c],by simp?[ne]<;>rfl,?_⟩
    rw[Ip_ rfl];have p0:zbx (.lst ((g0::L0).map nT)) [.int 0]=some (.lst (L0.map nT),nT g0):=ziG (by decide) (by decide) rfl
    refine zac (s':=[some (.lst (wd.map T.str)),some (.lst ((za0 wd).map T.str)),some (.lst (ms.map nT)),some (.lst ((L.map za9).map tL)),some (.lst (L0.map nT)),some (.lst ([g0].map nT)),b,c]) (by simp?[p0]<;>rfl) ?_
    refine zac (s':=[some (.lst (wd.map T.str)),some (.lst ((za0 wd).map T.str)),some (.lst (ms.map nT)),some (.lst ((L.map za9).map tL)),some (.lst (L0.map nT)),some (.lst ([g0].map nT)),some (.int ((0:Nat):Int)),c]) (by simp?[]<;>rfl) ?_
    have hLl':L0.length<=30:=by rw[jl] at hLl; lia
    refine zdd (fun s=>∃(grp left:List Nat) (k:Nat) (c:Option T),s=[some (.lst (wd.map T.str)),some (.lst ((za0 wd).map T.str)),some (.lst (ms.map nT)),some (.lst ((L.map za9).map tL)),some (.lst (left.map nT)),some (.lst (grp.map nT)),some (.int (k:Int)),c]/\Grow wd g0 L0 grp left k) mu1 ?_ ⟨[g0],L0,0,c,rfl,by simp,fun i hi=>by rw[jy.mp hi]; exact .here,fun q h=>absurd h (Z2 _),Zx _,by simp⟩ ?_ ?_
    ·show (L0.map nT).length+([g0].map nT).length - _ < 100;simp; lia
    ·rintro s ⟨grp,left,k,c,rfl,hG⟩;have hpl:=hG.perm.length_eq;rw[js,jl] at hpl;have ltg:∀ j∈grp,j < (za0 wd).length:=fun j hj=>hO.lt j (hG.perm.mem_iff.mp (QD _ hj));have ltl:∀ j∈left,j < (za0 wd).length:=fun j hj=>hO.lt j (hG.perm.mem_iff.mp (jJ _ hj))
     by_cases hk:k < grp.length
     ·refine⟨true,[some (.lst (wd.map T.str)),some (.lst ((za0 wd).map T.str)),some (.lst (ms.map nT)),some (.lst ((L.map za9).map tL)),some (.lst (left.map nT)),some (.lst (grp.map nT)),some (.int (k:Int)),c],by simp?[Dt_ (show (k:Int) < (grp.length:Int) by lia)],?_⟩
      rw[Ip_ rfl];obtain⟨i,hi⟩:∃ i,grp[k]?=some i:=⟨_,j3 hk⟩;have li:=ltg i (jN hi);obtain⟨m,hm⟩:∃ m,ms[i]?=some m:=⟨_,j3 (by lia)⟩
      have i1:zau (.lst (grp.map nT)) (.int (k:Int))=some (.int (i:Int)):=by rw[zff,jc,hi]; rfl
      have i2:zau (.lst (ms.map nT)) (.int (i:Int))=some (.int (m:Int)):=by rw[zff,jc,hm]; rfl
      have e1:=zj3 (M:=[3,4]) (caps:=[none,some 2,some 5,some 6]) (fi:=zi9 4) (dg:=dGn 0) (ft:=dB (d2 gEq (d2 zjn (d2 zom (d2 zau (dV 1) (d2 zau (dV 2) (dV 3))) (dV 0)) (dC (.int 1))) (dC (.int 1)))) (fe:=dV 0) (s:=[some (.lst (wd.map T.str)),some (.lst ((za0 wd).map T.str)),some (.lst (ms.map nT)),some (.lst ((L.map za9).map tL)),some (.lst (left.map nT)),some (.lst (grp.map nT)),some (.int (k:Int)),c]) left nT (fun j=>crs wd (nm wd i) (nm wd j)) nT (by simp?[]) (by lia) (by
       intro j hj;refine⟨[some (nT j),some (.lst (ms.map nT)),some (.lst (grp.map nT)),some (.int (k:Int))],rfl,?_,fun _=>rfl,rfl⟩;have tb:=zoD (hM.at_ i m (nm wd i) hm (zgu li) j (nm wd j) (zgu (ltl j hj)));cases hb:crs wd (nm wd i) (nm wd j) with
       |true=>rw[hb,Ip_ rfl] at tb; simp?[i1,i2,zfN,tb]
       | false=>rw[hb,In_ jr] at tb; simp?[i1,i2,zfN,tb]<;>rfl)
      have lf:(left.filter fun j=>crs wd (nm wd i) (nm wd j)).length<=left.length:=List.length_filter_le _ _;refine zac (s':=[some (.lst (wd.map T.str)),some (.lst ((za0 wd).map T.str)),some (.lst (ms.map nT)),some (.lst ((L.map za9).map tL)),some (.lst (left.map nT)),some (.lst (grp.map nT)),some (.int (k:Int)),some (.lst ((left.filter fun j=>crs wd (nm wd i) (nm wd j)).map nT))]) (by simp?[e1]) ?_
      refine zac (s':=[some (.lst (wd.map T.str)),some (.lst ((za0 wd).map T.str)),some (.lst (ms.map nT)),some (.lst ((L.map za9).map tL)),some (.lst (left.map nT)),some (.lst ((grp++left.filter fun j=>crs wd (nm wd i) (nm wd j)).map nT)),some (.int (k:Int)),some (.lst ((left.filter fun j=>crs wd (nm wd i) (nm wd j)).map nT))]) (by simp?[zkH (show (grp.map nT).length+((left.filter fun j=>crs wd (nm wd i) (nm wd j)).map nT).length<=1000000 by rw[ja,ja]; lia),Qq]) ?_
      have e2:=zj3 (M:=[3,4]) (caps:=[none,some 7]) (fi:=zi9 4) (dg:=dGn 0) (ft:=dB (d2 zb6 (dV 0) (dV 1))) (fe:=dV 0) (s:=[some (.lst (wd.map T.str)),some (.lst ((za0 wd).map T.str)),some (.lst (ms.map nT)),some (.lst ((L.map za9).map tL)),some (.lst (left.map nT)),some (.lst ((grp++left.filter fun j=>crs wd (nm wd i) (nm wd j)).map nT)),some (.int (k:Int)),some (.lst ((left.filter fun j=>crs wd (nm wd i) (nm wd j)).map nT))]) left nT (fun j=>!crs wd (nm wd i) (nm wd j)) nT (by simp?[]) (by lia) (by
       intro j hj;refine⟨[some (nT j),some (.lst ((left.filter fun j=>crs wd (nm wd i) (nm wd j)).map nT))],rfl,?_,fun _=>rfl,rfl⟩;have ni:=zie j (left.filter fun j=>crs wd (nm wd i) (nm wd j))
       rw[show decide (j∈left.filter fun j=>crs wd (nm wd i) (nm wd j))=crs wd (nm wd i) (nm wd j) by
        rw[ZK,decide_eq_true_iff,Qc]; exact⟨fun h=>h.2,fun h=>⟨hj,h⟩⟩] at ni
       simp?[ni])
      refine zac (s':=[some (.lst (wd.map T.str)),some (.lst ((za0 wd).map T.str)),some (.lst (ms.map nT)),some (.lst ((L.map za9).map tL)),some (.lst ((left.filter fun j=>!crs wd (nm wd i) (nm wd j)).map nT)),some (.lst ((grp++left.filter fun j=>crs wd (nm wd i) (nm wd j)).map nT)),some (.int (k:Int)),some (.lst ((left.filter fun j=>crs wd (nm wd i) (nm wd j)).map nT))]) (by simp?[e2]) ?_
      have hN:=hG.next hi
      have hpl2:=hN.perm.length_eq;rw[js,jl] at hpl2;refine zaB (s':=[some (.lst (wd.map T.str)),some (.lst ((za0 wd).map T.str)),some (.lst (ms.map nT)),some (.lst ((L.map za9).map tL)),some (.lst ((left.filter fun j=>!crs wd (nm wd i) (nm wd j)).map nT)),some (.lst ((grp++left.filter fun j=>crs wd (nm wd i) (nm wd j)).map nT)),some (.int ((k+1:Nat):Int)),some (.lst ((left.filter fun j=>crs wd (nm wd i) (nm wd j)).map nT))]) (by simp?[]<;>rfl) ⟨⟨_,_,_,_,rfl,hN⟩,?_⟩
      show ((left.filter fun j=>!crs wd (nm wd i) (nm wd j)).map nT).length+((grp++left.filter fun j=>crs wd (nm wd i) (nm wd j)).map nT).length - ((k+1:Nat):Int).toNat < (left.map nT).length+(grp.map nT).length - (k:Int).toNat;rw[ja,ja,ja,ja,jh,jh];lia
     ·exact⟨false,[some (.lst (wd.map T.str)),some (.lst ((za0 wd).map T.str)),some (.lst (ms.map nT)),some (.lst ((L.map za9).map tL)),some (.lst (left.map nT)),some (.lst (grp.map nT)),some (.int (k:Int)),c],by simp?[Df_ (show ¬ (k:Int) < (grp.length:Int) by lia)],by simp⟩
    ·rintro s0 s' ⟨grp,left,k,c,rfl,hG⟩ hf;have hle:=hG.le;have hk:k=grp.length:=by
      by_cases hk:k < grp.length
      ·have:dB (d2 gLt (dV 6) (d1 zbP (dV 5))) [some (.lst (wd.map T.str)),some (.lst ((za0 wd).map T.str)),some (.lst (ms.map nT)),some (.lst ((L.map za9).map tL)),some (.lst (left.map nT)),some (.lst (grp.map nT)),some (.int (k:Int)),c]=some (true,[some (.lst (wd.map T.str)),some (.lst ((za0 wd).map T.str)),some (.lst (ms.map nT)),some (.lst ((L.map za9).map tL)),some (.lst (left.map nT)),some (.lst (grp.map nT)),some (.int (k:Int)),c]):=by simp?[Dt_ (show (k:Int) < (grp.length:Int) by lia)]
       rw[this] at hf;cases hf
      ·lia
     subst hk;have hf2:dB (d2 gLt (dV 6) (d1 zbP (dV 5))) [some (.lst (wd.map T.str)),some (.lst ((za0 wd).map T.str)),some (.lst (ms.map nT)),some (.lst ((L.map za9).map tL)),some (.lst (left.map nT)),some (.lst (grp.map nT)),some (.int (grp.length:Int)),c]=some (false,[some (.lst (wd.map T.str)),some (.lst ((za0 wd).map T.str)),some (.lst (ms.map nT)),some (.lst ((L.map za9).map tL)),some (.lst (left.map nT)),some (.lst (grp.map nT)),some (.int (grp.length:Int)),c]):=by simp?[Df_ (show ¬ (grp.length:Int) < (grp.length:Int) by lia)]
     rw[hf2] at hf;cases hf;have hpl:=hG.perm.length_eq;rw[js,jl] at hpl;rw[jl] at hLl;have gl:0 < grp.length:=N1 hG.fst
     have e3:=zcs (M:=[3,4]) (caps:=[none,some 1]) (fi:=zjQ (dV 5)) (dg:=dGn 0) (fe:=d2 zau (dV 1) (dV 0)) (s:=[some (.lst (wd.map T.str)),some (.lst ((za0 wd).map T.str)),some (.lst (ms.map nT)),some (.lst ((L.map za9).map tL)),some (.lst (left.map nT)),some (.lst (grp.map nT)),some (.int (grp.length:Int)),c]) grp nT (fun j=>T.str (nm wd j)) (by simp?[]) (by lia) (by
      intro j hj;have lj:=hO.lt j (hG.perm.mem_iff.mp (QD _ hj));have i3:zau (.lst ((za0 wd).map T.str)) (.int (j:Int))=some (.str (nm wd j)):=by rw[zff,jc,zgu lj]; rfl
      exact⟨[some (nT j),some (.lst ((za0 wd).map T.str))],rfl,by simp?[i3],rfl⟩)
     rw[show grp.map (fun j=>T.str (nm wd j))=(grp.map (nm wd)).map T.str by rw[jQ]; rfl] at e3
     have so:=zjT (l:=grp.map (nm wd)) (by rw[ja]; lia)
     refine zaB (s':=[some (.lst (wd.map T.str)),some (.lst ((za0 wd).map T.str)),some (.lst (ms.map nT)),some (.lst (((L++[grp.map (nm wd)]).map za9).map tL)),some (.lst (left.map nT)),some (.lst (grp.map nT)),some (.int (grp.length:Int)),c]) (by simp?[e3,so,zne,Qq,ju,Zs,tL]<;>rfl) ⟨⟨_,_,_,_,_,rfl,hO.next g.two hG,by rw[js,Z9]; lia⟩,?_⟩
     show (left.map nT).length < ((g0::L0).map nT).length;rw[ja,ja,jl];lia
  ·rintro s0 s' ⟨L,left,a,b,c,rfl,hO,hLl⟩ hf;have h0:left=[]:=by
    cases left with
    |nil=>rfl
    |cons g0 L0=>
     have ne:=zll (g0::L0) [];rw[Zs,Df_ (WB _ _)] at ne;have:dB (d2v gNe 4 (zhs dAn)) [some (.lst (wd.map T.str)),some (.lst ((za0 wd).map T.str)),some (.lst (ms.map nT)),some (.lst ((L.map za9).map tL)),some (.lst ((g0::L0).map nT)),a,b,c]=some (true,[some (.lst (wd.map T.str)),some (.lst ((za0 wd).map T.str)),some (.lst (ms.map nT)),some (.lst ((L.map za9).map tL)),some (.lst ((g0::L0).map nT)),a,b,c]):=by simp?[ne]<;>rfl
     rw[this] at hf;cases hf
   subst h0;cases hf;have hC:=hO.done;have vs:=zkF hC.heads.2 (by simp at hLl; simp; lia) hC.heads.1
   have q:zap [] (d1 zeh (dV 3)) [some (.lst (wd.map T.str)),some (.lst ((za0 wd).map T.str)),some (.lst (ms.map nT)),some (.lst ((L.map za9).map tL)),some (.lst (([]:List Nat).map nT)),a,b,c]=some (.rt (.lst ((zdQ (L.map za9)).map tL)) [some (.lst (wd.map T.str)),some (.lst ((za0 wd).map T.str)),some (.lst (ms.map nT)),some (.lst ((L.map za9).map tL)),some (.lst (([]:List Nat).map nT)),a,b,c]):=by simp?[vs]
   exact zeJ q ⟨_,_,rfl,L,rfl,hC,by simp at hLl; lia⟩)
 exact⟨L,e,hC,hL⟩
theorem zfJ{wd:List Str}(g:GoodWord wd):∃ L:List (List Str),zca [.lst (wd.map T.str)]=some (.lst ((zdQ (L.map za9)).map tL))/\Hcl wd L:=by
 have hl:=g.len;obtain⟨ps,ep,hP⟩:=ziP hl;have hC:=ziO hP g.two;have hle:=hP.le;refine⟨_,?_,hC⟩
 have e1:=zcs (M:=[]) (caps:=[none,none]) (fi:=zjQ (zal zbh (dAc (d1 zei (dV 0)) dAn))) (dg:=dGt [0,1]) (fe:=d1 zcS (dV 1)) (s:=[some (.lst (wd.map T.str))]) ps zbl (fun p=>tL (za9 (za0 p.2))) (by simp?[ep]) (by lia) (by
  intro p hp;have lp:=(hle.2 p hp).2;have lf:=zdz p.2;have g3:zcS (.lst (p.2.map T.str))=some (.lst ((za9 (za0 p.2)).map T.str)):=by
   show (zcJ (p.2.map T.str)).bind _=_;rw[zcn,j9,Ip_ ⟨by lia,by lia⟩]
  refine⟨[some (.int (p.1:Int)),some (.lst (p.2.map T.str))],rfl,?_,rfl⟩
  simp?[g3,tL])
 rw[show ps.map (fun p=>tL (za9 (za0 p.2)))=((ps.map fun p=>za0 p.2).map za9).map tL by rw[jQ,jQ]; rfl] at e1
 have vs:=zkF hC.heads.2 (by rw[ja,ja]; lia) hC.heads.1
 refine zek ?_;show Run zcW [some (.lst (wd.map T.str))] _;unfold zcW;exact zbT (by simp?[e1,vs]<;>rfl) rfl
theorem zjj{w w':List Str}(hm:∀ x,x∈w↔x∈w')(hc:∀ x y,x∈w->y∈w->crs w' x y=crs w x y){x:Str}(y:Str)(hx:x∈w):Hang w x y↔Hang w' x y:=by
 constructor
 ·intro h
  induction h with
  |here=>exact .here
  |step h c ih=>exact .step ih (by rw[hc _ _ (h.mem hx) (zbj c)]; exact c)
 ·intro h
  induction h with
  |here=>exact .here
  |step h c ih=>exact .step ih (by rw[<-hc _ _ (ih.mem hx) ((hm _).mpr (zbj c))]; exact c)
theorem zk7{wd:List Str}(h0:0 < wd.length)(st:Int):∃ r,r<=wd.length/\rdL wd st false=wd.drop r++wd.take r:=by
 have h1:=Z5 st (b:=(wd.length:Int)) (by lia)
 have h2:=QQ st (b:=(wd.length:Int)) (by lia)
 obtain⟨r,hr⟩:∃ r:Nat,st%(wd.length:Int)=(r:Int):=⟨(st%wd.length).toNat,by lia⟩
 refine⟨r,by lia,Wo fun k=>?_⟩
 unfold rdL
 by_cases hk:k < wd.length
 ·rw[jc,Qe hk];have e:((if false=true then st - (k:Int) else st+k)%(wd.length:Int)).toNat=(r+k)%wd.length:=by
   rw[In_ jr,<-Int.emod_add_emod,hr,<-WS,<-Int.natCast_emod,jh]
  show some (wd.getD ((if false=true then st - (k:Int) else st+k)%(wd.length:Int)).toNat Qi)=_
  rw[e]
  by_cases q:r+k < wd.length
  ·rw[WC q,jR (by rw[jX]; lia),gu,zby q,j3 q]
  ·have q2:r+k - wd.length < wd.length:=by lia
   rw[Nat.mod_eq_sub_mod (by lia),WC q2,Q2 (by rw[jX]; lia),jX,ZH,Ip_ (by lia),show k - (wd.length - r)=r+k - wd.length by lia,zby q2,j3 q2]
 ·rw[Zb (by simp; lia),Zb (by simp; lia)]
theorem zlL{wd:List Str}(h0:0 < wd.length)(st:Int):rdL wd st true=(rdL wd (st+1) false).reverse:=by
 refine Wo fun k=>?_
 by_cases hk:k < wd.length
 ·rw[List.getElem?_reverse (by rw[zeL]; exact hk),zeL]
  unfold rdL;rw[jc,jc,Qe hk,Qe (by lia)]
  show some (wd.getD ((if true=true then st - (k:Int) else st+k)%(wd.length:Int)).toNat Qi)=some (wd.getD ((if false=true then st+1 - ((wd.length - 1 - k:Nat):Int) else st+1+((wd.length - 1 - k:Nat):Int))%(wd.length:Int)).toNat Qi)
  rw[Ip_ rfl,In_ jr,show st+1+((wd.length - 1 - k:Nat):Int)=st - (k:Int)+(wd.length:Int) by lia,Int.add_emod_right]
 ·rw[Zb (by rw[zeL]; lia),Zb (by rw[List.length_reverse,zeL]; lia)]
theorem zk8{wd:List Str}(g:GoodWord wd)(h0:0 < wd.length)(st:Int)(b:Bool):GoodWord (rdL wd st b)/\(∀ x,x∈wd↔x∈rdL wd st b)/\∀ x y,x∈wd->y∈wd->crs (rdL wd st b) x y=crs wd x y:=by
 have key:∀ st,(rdL wd st false).Perm wd/\∀ x y,x∈wd->y∈wd->crs (rdL wd st false) x y=crs wd x y:=fun st=>by
  obtain⟨r,hr,e⟩:=zk7 h0 st;refine⟨by rw[e]; exact gN.trans (by rw[jP]),fun x y hx hy=>?_⟩
  have:=zhu (x:=x) (y:=y) (wd.take r) (wd.drop r) (by rw[jP]; exact g.two x hx) (by rw[jP]; exact g.two y hy)
  rw[jP] at this;rw[e,this]
 have all:(rdL wd st b).Perm wd/\∀ x y,x∈wd->y∈wd->crs (rdL wd st b) x y=crs wd x y:=by
  cases b with
  |false=>exact key st
  |true=>
   obtain⟨k1,k2⟩:=key (st+1);rw[zlL h0];refine⟨(List.reverse_perm _).trans k1,fun x y hx hy=>?_⟩;rw[zkD (by rw[k1.count_eq]; exact g.two x hx),k2 x y hx hy]
 refine⟨⟨fun x hx=>g.name x (all.1.mem_iff.mp hx),fun x hx=>?_,by rw[all.1.length_eq]; exact g.len⟩,fun x=>all.1.mem_iff.symm,all.2⟩
 rw[all.1.count_eq];exact g.two x (all.1.mem_iff.mp hx)
theorem zl8{n:Nat}(xs ys:List (List Str)):eqD (n+2) (.lst (xs.map tL)) (.lst (ys.map tL))=some (decide (xs=ys)):=zgE (fun a b=>zf0 a b) xs ys
theorem zre(xs ys:List (List Str)):gNe (.lst (xs.map tL)) (.lst (ys.map tL))=some (.bl (!decide (xs=ys))):=by simp only[gNe,zl8,jv]
theorem zrn(xs ys:List (List Str)):gEq (.lst (xs.map tL)) (.lst (ys.map tL))=some (.bl (decide (xs=ys))):=by simp only[gEq,zl8,jv]
theorem zgZ{wd:List Str}(g:GoodWord wd)(st:Nat):zbF [.lst (wd.map T.str),.int (st:Int)]=some (.bl true):=by
 obtain⟨L,eh,hC,_⟩:=zj5 g;obtain⟨L1,es,hC1⟩:=zfJ g;have p1:=hC1.perm hC (fun x y _=>Iff.rfl) fun x=>Iff.rfl;rw[zco p1 hC1.heads.1] at es;generalize eX:zdQ (L.map za9)=X at eh es;have n1:=zre X X;rw[Dt_ rfl] at n1;have q1:=zrn X X;rw[Dt_ rfl] at q1;refine zek ?_;show Run zcc [some (.lst (wd.map T.str)),some (.int (st:Int)),none] _;unfold zcc;refine zac (s':=[some (.lst (wd.map T.str)),some (.int (st:Int)),some (.lst (X.map tL))]) (by simp?[eh]<;>rfl) ?_
 refine zac (s':=[some (.lst (wd.map T.str)),some (.int (st:Int)),some (.lst (X.map tL))]) (by simp?[es,n1]<;>rfl) ?_
 by_cases h0:wd=[]
 ·subst h0;exact zbT (by simp?[]<;>rfl) rfl
 ·have hp:0 < wd.length:=NE.mpr h0;have e0:=znc wd [];rw[Zs,Df_ h0] at e0;have er:=zgx (wd:=wd) (by have:=g.len; lia) (st:Int) (decide ((st:Int)%2=1))
  obtain⟨gr,hm,hc⟩:=zk8 g hp (st:Int) (decide ((st:Int)%2=1));obtain⟨L2,es2,hC2⟩:=zfJ gr;have p2:=hC2.perm hC1 (fun x y hx=>(zjj hm hc y ((hm x).mpr hx)).symm) fun x=>(hm x).symm;rw[zco p2 hC2.heads.1,zco p1 hC1.heads.1,eX] at es2;exact zbT (by simp?[e0,er,es2,q1]<;>rfl) rfl
theorem zku{wd w2:List Str}(g:GoodWord wd)(g2:GoodWord w2)(dj:∀ x∈wd,x∉w2)(k:Nat)(hl:wd.length+w2.length<=60):GoodWord (wd.take k++w2++wd.drop k):=by
 have pm:(wd.take k++w2++wd.drop k).Perm (wd++w2):=by
  have h1:(wd.take k++w2++wd.drop k).Perm (wd.take k++(wd.drop k++w2)):=by rw[Qw]; exact Nf _ gN
  rw[<-Qw,jP] at h1;exact h1
 refine⟨fun x hx=>?_,fun x hx=>?_,by rw[pm.length_eq,js]; exact hl⟩
 ·rcases jV.mp (pm.mem_iff.mp hx) with q |q
  ·exact g.name x q
  ·exact g2.name x q
 ·rw[pm.count_eq,jU];rcases jV.mp (pm.mem_iff.mp hx) with q |q
  ·rw[g.two x q,jM.mpr (dj x q)]
  ·rw[g2.two x q,jM.mpr fun z=>dj x z q]
theorem zgt{names:List Str}(h:names.Nodup)(k n:Nat):∀ x∈names.take k,x∉(names.drop k).take n:=fun x hx hx2=>by
 rw[<-jP k names,ZT] at h;exact h.2.2 x hx x (QH hx2) rfl
theorem zoa(ns:List Int):zoq [.scr ns]=some (.bl true):=by
 refine zek ?_;show Run zkz [some (.scr ns),none,none,none,none,none,none,none] _;unfold zkz;refine zgY (its:=[T.int 0,T.int 3]) (fun _ s=>∃ a b c d e f g,s=[some (.scr ns),a,b,c,d,e,f,g]) (by simp?[]<;>rfl) ⟨_,_,_,_,_,_,_,rfl⟩ ?_ ?_
 ·rintro j z s hz ⟨a,b,c,d,e,f,g,rfl⟩;obtain⟨k,rfl⟩:∃ k:Nat,z=.int k:=by
   match j,hz with
   |0,hz=>exact⟨0,by injection hz with hz; exact hz.symm⟩
   |1,hz=>exact⟨3,by injection hz with hz; exact hz.symm⟩
   |j+2,hz=>simp at hz
  refine⟨_,by simp?[]<;>rfl,?_⟩
  have ec:=zgQ ns k;have ec1:=zgQ ns (k+1);rw[show (((k+1:Nat)):Int)=(k:Int)+1 from by lia] at ec1
  have ec2:=zgQ ns (k+2);rw[show (((k+2:Nat)):Int)=(k:Int)+2 from by lia] at ec2
  generalize ns.getD k 0=hd at ec;generalize ns.getD (k+1) 0=h1 at ec1;generalize ns.getD (k+2) 0=h2 at ec2;obtain⟨m,em,hm⟩:=zjD hd (M:=27) (by decide) (by decide)
  rw[show ((27:Nat):Int)=27 from rfl] at em;refine zac (s':=[some (.scr ns),some (.int (k:Int)),some (.int hd),c,d,e,f,g]) (by simp?[ec]<;>rfl) ?_
  refine zac (s':=[some (.scr ns),some (.int (k:Int)),some (.int hd),some (.int (m:Int)),d,e,f,g]) (by simp?[em]<;>rfl) ?_
  obtain⟨names,en,ln,nd,nn⟩:=ziZ hd (m:=m+3) (by lia)
  rw[show (((m+3:Nat)):Int)=(m:Int)+3 from by lia] at en
  have lt:(names.take m).length=m:=by rw[jK]; lia
  obtain⟨wd,ew,gw,lw,mw⟩:=zgU h1 (names:=names.take m) (by lia) (nd.sublist (gB _ _)) fun x hx=>nn x (QH hx)
  have s1:=zid names m;have s2:=zeq names m;obtain⟨z1,e1,a1,b1⟩:=zaM hd 20 3 (by decide) (by decide) (by decide)
  obtain⟨n1,rfl⟩:∃ n1:Nat,z1=(n1:Int):=⟨z1.toNat,by lia⟩
  have s3:=zid (names.drop m) (1+n1);rw[show (((1+n1:Nat)):Int)=1+(n1:Int) from by lia] at s3
  have lm:((names.drop m).take (1+n1)).length<=3:=by rw[jK]; lia
  have sb:((names.drop m).take (1+n1)).Sublist names:=(gB _ _).trans (List.drop_sublist _ _);obtain⟨w2,ew2,g2,l2,m2⟩:=zgU h2 (names:=(names.drop m).take (1+n1)) (by lia) (nd.sublist sb) fun x hx=>nn x (sb.subset hx)
  have hwl:=gw.len;obtain⟨z2,e2,a2,b2⟩:=zaM hd 21 ((wd.length:Int)+1) (by lia) (by lia) (by lia)
  obtain⟨n2,rfl⟩:∃ n2:Nat,z2=(n2:Int):=⟨z2.toNat,by lia⟩
  have gi:=zku gw g2 (fun x hx hx2=>zgt nd _ _ x (mw x hx) (m2 x hx2)) n2 (by lia)
  have t1:=zid wd n2;have t2:=zeq wd n2;have lt1:(wd.take n2).length<=60:=by rw[jK]; lia
  have lt2:(wd.drop n2).length<=60:=by rw[jX]; lia
  have w2l:w2.length<=6:=by lia
  refine zac (s':=[some (.scr ns),some (.int (k:Int)),some (.int hd),some (.int (m:Int)),some (.lst (names.map T.str)),e,f,g]) (by simp?[en]<;>rfl) ?_
  refine zac (s':=[some (.scr ns),some (.int (k:Int)),some (.int hd),some (.int (m:Int)),some (.lst (names.map T.str)),some (.lst (wd.map T.str)),f,g]) (by simp?[ec1,s1,ew]<;>rfl) ?_
  refine zac (s':=[some (.scr ns),some (.int (k:Int)),some (.int hd),some (.int (m:Int)),some (.lst (names.map T.str)),some (.lst (wd.map T.str)),some (.lst (w2.map T.str)),g]) (by simp?[ec2,e1,s2,s3,ew2]<;>rfl) ?_
  refine zac (s':=[some (.scr ns),some (.int (k:Int)),some (.int hd),some (.int (m:Int)),some (.lst (names.map T.str)),some (.lst (wd.map T.str)),some (.lst (w2.map T.str)),some (.int (n2:Int))]) (by simp?[e2]<;>rfl) ?_
  obtain⟨z3,e3,a3,b3⟩:=zaM hd 22 ((wd.length:Int)+1) (by lia) (by lia) (by lia)
  obtain⟨n3,rfl⟩:∃ n:Nat,z3=(n:Int):=⟨z3.toNat,by lia⟩
  obtain⟨z4,e4,a4,b4⟩:=zaM hd 23 ((wd.length:Int)+2) (by lia) (by lia) (by lia)
  obtain⟨n4,rfl⟩:∃ n:Nat,z4=(n:Int):=⟨z4.toNat,by lia⟩
  have ri:=zgZ gi n4;rw[Qq,Qq] at ri;refine zac (s':=[some (.scr ns),some (.int (k:Int)),some (.int hd),some (.int (m:Int)),some (.lst (names.map T.str)),some (.lst (wd.map T.str)),some (.lst (w2.map T.str)),some (.int (n2:Int))]) (by simp?[e3,zgZ gw n3]) ?_
  exact ziR (s':=[some (.scr ns),some (.int (k:Int)),some (.int hd),some (.int (m:Int)),some (.lst (names.map T.str)),some (.lst (wd.map T.str)),some (.lst (w2.map T.str)),some (.int (n2:Int))]) (by simp?[t1,t2,js,e4,ri]) ⟨_,_,_,_,_,_,_,rfl⟩
 ·rintro s ⟨a,b,c,d,e,f,g,rfl⟩;exact zbT (by simp?[]<;>rfl) rfl
end Dw
namespace Dw
open PySem PySem.Spec PyProof.Rows L2 L3
set_option maxHeartbeats 1000000 in
theorem zoH{l:Y1}{w:Q7}{K:jd}{h:Zq}{mg:Str->Option j7}{fa:jo}(X:K.In h)(G:h.Ns jS mg)(hfa:mg "law"=some (.ref fa))
  (a1:Fd K "_law_cell" zeG)
  (a2:Fd K "_law_pick" zeD)
  (a3:Fd K "_law_count" zdc)
  (a4:Fd K "_law_names" zdb)
  (a5:Fd K "_law_bag" zgk)
  (a6:Fd K "_law_draw" zeF)
  (a7:Fd K "_law_word" zeB)
  (a8:Fd K "_law_order" zda)
  (a9:Fd K "_law_table" zd8)
  (a10:Fd K "_law_hung" zeE)
  (a11:Fd K "is_closed" zbc)
  (a12:Fd K "shortest_closed" zaD)
  (a13:Fd K "parted" zcp)
  (a14:Fd K "_law_sets" zeC)
  (a15:Fd K "_law_reading" zbS)
  (a16:Fd K "_law_right" zd9)
  (a17:Fd K "law" zlG)
  (z1:Zd K jS "len"=some none)
  (z2:Zd K jS "min"=some none)
  (z3:Zd K jS "range"=some none)
  (z4:Zd K jS "list"=some none)
  (z5:Zd K jS "enumerate"=some none)
  (z6:Zd K jS "sorted"=some none)
  (z7:Zd K jS "set"=some none)
  : ∃ fd:Zh,(∀(s:j8) (v:j7),W5 s fd ⟨[v],[]⟩ [("_law_script",v)])/\∀ base:Zq,K.In base->base.Ns jS mg->FnOk l.prog w K mg base CX0 6 fa fd ["_law_script"] (L3.zhK K):=by
 have m_len:=QR X G z1;have m_min:=QR X G z2;have m_range:=QR X G z3;have m_list:=QR X G z4;have m_enumerate:=QR X G z5;have m_sorted:=QR X G z6;have m_set:=QR X G z7;refine zmh (M':=[]) (Mb:=[]) X G hfa a17 zkM (fun _ _ _ _ _ _ _=>rfl) (by decide) zoa fun base=>?_
 letI:TheK:=⟨K⟩
 let v:Ev:=⟨l.prog,w,mg,base⟩
 have pQ:zfa v 1:=ziX (a1.here X G (bd2 fun _ _ _ _ _ _ _ _=>rfl)) m_len;have pf:zci v 1:=ziU (a2.here X G (bd3 fun _ _ _ _ _ _ _ _ _=>rfl));have pq:zdJ v 2:=zhT (a3.here X G (bd2 fun _ _ _ _ _ _ _ _=>rfl)) pf.up m_min;have pR:zdI v 2:=zhS (a4.here X G (bd2 fun _ _ _ _ _ _ _ _=>rfl)) pf.up m_range m_len;have pN:zgT v 1:=zkn (a5.here X G (bd1 fun _ _ _ _ _ _ _=>rfl));have pJ:zf9 v 1:=ziW (a6.here X G (bd2 fun _ _ _ _ _ _ _ _=>rfl));have pE:zf6 v 2:=ziS (a7.here X G (bd2 fun _ _ _ _ _ _ _ _=>rfl)) pN.up pJ.up m_list m_range m_len;have pj:zcj v 1:=zhR (a8.here X G (bd1 fun _ _ _ _ _ _ _=>rfl));have pD:zdG v 2:=zhP (a9.here X G (bd1 fun _ _ _ _ _ _ _=>rfl)) pj.up m_enumerate;have pA:zf8 v 3:=ziV (a10.here X G (bd1 fun _ _ _ _ _ _ _=>rfl)) pj.up pD.up m_list m_range m_len m_sorted;have pS:zbk v 1:=zdT (a11.here X G (bd1 fun _ _ _ _ _ _ _=>rfl)) m_len m_set;have pU:zaE v 2:=zbK (a12.here X G (bd1 fun _ _ _ _ _ _ _=>rfl)) pS.up m_range m_len;have pV:zcA v 3:=zgs (a13.here X G (bd1 fun _ _ _ _ _ _ _=>rfl)) pU.up;have pG:zf7 v 4:=ziT (a14.here X G (bd1 fun _ _ _ _ _ _ _=>rfl)) pV.up m_sorted m_list m_set;have pH:zc0 v 1:=zfF (a15.here X G (bd3 fun _ _ _ _ _ _ _ _ _=>rfl)) m_len m_range;have pL:zdH v 5:=zhQ (a16.here X G (bd2 fun _ _ _ _ _ _ _ _=>rfl)) pA.up pG.up pH.up;exact zqy (v:=v) pQ.up pq.up pR.up pE.up pf.up pL.up m_len
end Dw
namespace PySem.W.Fast
theorem tw8624351880774291475:True:=⟨⟩
theorem tw12919669481963352091:True:=⟨⟩
theorem tw18155401366944660334:True:=⟨⟩
theorem tw13355274611082878349:True:=⟨⟩
theorem tw8581054116694578986:True:=⟨⟩
theorem tw11392037408225897797:True:=⟨⟩
theorem tw9612173061521564777:True:=⟨⟩
theorem tw6690264069209452889:True:=⟨⟩
theorem tw14505395829768945281:True:=⟨⟩
theorem tw26248163906810759:True:=⟨⟩
theorem tw17193105598764089547:True:=⟨⟩
theorem tw16966855406081371435:True:=⟨⟩
theorem tw12524480666643194402:True:=⟨⟩
theorem tw4520335070833052206:True:=⟨⟩
theorem tw875552462302154325:True:=⟨⟩
theorem tw18341042273539898540:True:=⟨⟩
theorem tw8861737850033666991:True:=⟨⟩
theorem tw3671143541719988181:True:=⟨⟩
theorem tw13151275184828798723:True:=⟨⟩
theorem tw11186169809744559247:True:=⟨⟩
theorem tw1318042449892164382:True:=⟨⟩
theorem tw10354454138657381574:True:=⟨⟩
theorem tw7472956003978225617:True:=⟨⟩
theorem tw12103983997753895184:True:=⟨⟩
theorem tw14491046526644782134:True:=⟨⟩
theorem tw2860212926063844647:True:=⟨⟩
theorem tw15913413099840491211:True:=⟨⟩
theorem tw8257688943212880241:True:=⟨⟩
theorem tw17207417022523172091:True:=⟨⟩
theorem tw12720761052471632963:True:=⟨⟩
theorem tw6886010026415969750:True:=⟨⟩
theorem tw15368707419995317685:True:=⟨⟩
end PySem.W.Fast
open PySem PySem.W PyProof.Rows
set_option maxRecDepth 100000 in
set_option maxHeartbeats 0 in
theorem PySem.Challenge.cw_drawnword_k34_whole_pieces_hang_together_holds : PySem.Challenge.rw_drawnword_k34_whole_pieces_hang_together.Holds := by
 w_on; o_law; k_head; (case hw=>w_witness2)
 k_fill
 refine L3.zp0 (l:=PySem.Challenge.rw_drawnword_k34_whole_pieces_hang_together) (x:="_law_script") (k:=6) rfl rfl (by decide) (fun w h Y=>PySem.W.kIn_of Y) ?F
 case F=>
  intro w mg fa h KX G hmg
  refine' Dw.zoH KX G hmg (.mk ?_ ?_ ?_ ?_) (.mk ?_ ?_ ?_ ?_) (.mk ?_ ?_ ?_ ?_) (.mk ?_ ?_ ?_ ?_) (.mk ?_ ?_ ?_ ?_) (.mk ?_ ?_ ?_ ?_) (.mk ?_ ?_ ?_ ?_) (.mk ?_ ?_ ?_ ?_) (.mk ?_ ?_ ?_ ?_) (.mk ?_ ?_ ?_ ?_) (.mk ?_ ?_ ?_ ?_) (.mk ?_ ?_ ?_ ?_) (.mk ?_ ?_ ?_ ?_) (.mk ?_ ?_ ?_ ?_) (.mk ?_ ?_ ?_ ?_) (.mk ?_ ?_ ?_ ?_) (.mk ?_ ?_ ?_ ?_) ?_ ?_ ?_ ?_ ?_ ?_ ?_
  all_goals try k_is
