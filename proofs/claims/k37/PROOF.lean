import PyProof.Rows.All
import Wide.All
import OpenK.AllK
import Wide.FinOn
import Lean
import PyProof.EqAt
import PyProof.EqKinds
import PyProof.TupleCall
import PyProof.EnumMake
import PyProof.EnumFor
import PyProof.NeKinds
import PyProof.EnumStmt
import PyProof.DictCompW
import KE.KDictList
import KE.KRevSl
import PyProof.ListRange
import PyProof.ConsumeWalk
import PyProof.SumWalk
import PyProof.MinMaxWalk
import PyProof.DictWalks
import PyProof.StrWalks
import PyProof.Rows.SortStr
import PyProof.Rows.SortShell
import PyProof.Rows.SortWalk
import PyProof.StrBlockG
import PyProof.StrLawsTight
import PyProof.Rows.RuleB_and
import PyProof.Rows.RuleB_or
import PyProof.Rows.SetFrom
import PyProof.SetRoads
import PyProof.Rows.SumAny
import KE.KRevIter
import PyProof.Rows.Range3
import KE.KDictLaws
import PyProof.ConsumeS
import PyProof.ZipIter
import PyProof.ListNew
import PyProof.Draws
import PyProof.SeqI3
import OpenK.KRaise
import PyProof.ExcBaseAll.ValueError
import PyProof.RulesAs
import OpenK.KDescr
import KE.KIsAll
import PyProof.ExcArgs
import PyProof.InstSpecial
import PyProof.ExcClass2
import PyProof.InstStore
import PyProof.InstStoreFacts
import PyProof.AutoSeq1
import PyProof.CallStr
import OpenK.KOwn
import PyProof.StrLawsChain
import PySem.Challenge.RW_drawnword_k37_pairs_taken_out
open List renaming getElem?_eq_getElem->j3,length_map->j5,getElem?_eq_some_iff->j9,getElem?_set_ne->jd,getElem?_map->jf,length_append->jk,mem_singleton->jm,mem_append_left->jo,length_cons->jp,size_toArray->jq,map_cons->jr,all_eq_true->js,range->jt,mem_cons->ju,mem_append->jv,mem_cons_of_mem->jw,mem_append_right->jx,map_append->jy,mem_map->jB,getElem?_set_self->jG,mem_of_getElem?->jJ,mem_range->jR,nodup_append->jT,getD_eq_getElem?_getD->jW,mem_cons_self->jX,mem_filter->jZ,length_set->Q0,map_map->Q1,take_of_length_le->Q2,dropLast_concat_getLast->Q5,getElem?_append_left->Q6,length_take->Q7,append_nil->Q8,getElem?_append_right->Qc,append_assoc->Qh,nodup_cons->Qp,getElem_mem->Qz,length_drop->QL,take_length->QM,filterMap_cons->QQ,reverse_cons->QU,map_congr_left->QX,find?_cons->QZ,take_append_drop->Z0,any_cons->Z6,not_mem_nil->Zd,length_singleton->Ze,length_filter_le->Zf,filter_append->Zg,drop_eq_getElem_cons->Zj,mem_of_mem_take->Zk,length_range->Zn,foldl_cons->Zo,map_nil->Zr,lookup_cons->Zz,filter_cons->ZA,length_replicate->ZH,length_nil->ZJ,count_cons->ZK,take_succ->ZU,nodup_nil->ZX,mem_nil_iff->g9,getElem?_range->ge,length_erase_of_mem->gq,mem_filterMap->gs,of_mem_zip->gx,getElem?_replicate->gy,count_eq_zero->gA,contains_cons->gE,getElem?_cons_succ->gF,range_succ_eq_map->gH,length_eq_one_iff->gJ,filter_eq_nil_iff->gK,replicate->gQ,eq_nil_of_length_eq_zero->gU,getLast?_eq_some_getLast->gV,mem_erase_of_ne->gY,getLast?_append->Y0,all_cons->Y2,length->Y5,forIn_cons->Y7,getElem_of_mem->Yc,append_of_mem->Yj,mem_or_eq_of_mem_set->Yp,getElem?_eq_none_iff->Yq,take_sublist->Yu,eq_of_mem_replicate->Yy,getElem?_set->Yz,filter_congr->YE,eraseIdx_cons_succ->YQ,sum_cons->N0,getElem_inj->N1,drop_length->N2,zipIdx_cons->N6,any_eq_true->N7,nodup_range->N8,pairwise_lt_range->Nf,length_pos_of_mem->Nh,dropLast_eq_take->Nz,map_set->NG,pairwise_append->NR,drop_zero->NU,length_reverse->NY,length_pos_iff->W5,getElem_range->Wh,getElem?_take->Wi,map_drop->Wj,map_take->Wk,filter_filter->Ws,getElem?_drop->Wt,map_replicate->Wu,foldl_append->WG,ext_getElem?->WM,pairwise_map->WN,find?_isSome->WP,all_map->WT,set_set->WW,any_map->WX,countP_cons->J1,getElem_map->J3,take_append->J4,filter_map->Jk,zipIdx_nil->Jl,nil_append->Jq,count_set->Jr,forIn_nil->Js,range_add->Jv
open PySem renaming wpAny_bind->j4,Value->j6,Shared->ja,starEach->je,wpAny_pure->jg,Addr->ji,sizeLine->jn,mainGlobals->jC,Program->jE,wpAny->jF,model->jH,wpAny_mono->jO,Around->Q3,Expr->Q4,World->Qa,wpAny_holding->Qe,assignEach->Qi,foldedSetIterable->Qq,wpAny_loadPart_at->Qr,Heap->Qs,Stmt->Qw,behindInMarks->Qy,backTo->QB,bootBuiltins->QK,FuncData->QN,compareOp->QP,wpAny_truthy_bool->QR,wpAny_standAt->Z5,wpAny_execs_nil->Z7,wpAny_isSubtype_exc->Zb,wpAny_newFunctionEnv_cells->Zc,wpAny_setField_rec->Zh,wpAny_passesOwn->Zl,wpAny_comprehension_free->Zm,sizeLine_eq->Zs,mem_of_lookup->Zt,wpAny_getItem_str_slice->Zu,swapsWith->Zy,sysModules->ZB,wpAny_Call_Name_kw->ZF,letOwnedTupleGo->ZG,codeAny_call_function->ZI,codeAny_call_builtin->ZS,wpAny_seqItems->ZV,wpAny_execs_cons->ZY,codeAny->gc,wpAny_field->gf,IsPair->gk,Scope->gr,binaryOp->gv,scanBound->gB,cLine->gG,sliceBounds->gL,excClassObj->gN,GenState->gO,assign->gR,codeAny_mono->gT,wpAny_loadName_local->gW,wpAny_updateSeq_pair->gZ,bindArgs->Y1,holding->Y4,post_val_or_str->Y8,codeAny_builtin->Y9,wpAny_setEntries_of->Ya,tupleKind_room_in1->Yg,recursionLimit->Yn,wpAny_assign_Name->Ys,wpAny_pyIter_list->Yt,slot_list_getitem->Yv,wpAny_getItem_list_slice->Yw,wpAny_setState_of->YA,isInstance->YD,NameKind->YM,attributeBase->YO,Builtin->YT,wpAny_onRaise->YV,wpAny_callSpecial?_slot->YW,wpAny_askSetting->N3,wpAny_call_entry->N4,wpAny_isInstance->N5,wpAny_pyNext_list_item->N9,wpAny_isTrue_Compare1->Nk,wpAny_pyNext_list_end->Nl,BindsTo->Nm,cellsFrom->Nn,Arguments->No,codeAny_func->Np,noteFrame->Nt,exec_Assign_Name_used->Nu,wpAny_setAddHashed_of->NA,wpAny_nextOf_list_end->NC,codeAny_handlers_test->NE,wpAny_Name->NH,wpAny_call->NI,wpAny_newFunctionEnv->NM,pyNext->NS,subscripted->NX,wpAny_handleBy_cons->NZ,tupleKind->W8,evalPart_none->We,wpAny_forIn_array'->Wm,setWalkUnseen->Wn,IsZip->Wo,PlainAttrs->Wz,call_meets->WA,valueAt->WB,callerA->WC,wpAny_newObj_type->WE,wpAny_pyIter_enum->WF,wpAny_setEpoch_of->WH,excMatches->WK,Result->WQ,seqIndex_neg->WR,compEnvC->Ja,SetTable->Jc,isTrue->Je,PassesOwn->Jf,getItem->Jh,seqIndex_of->Ji,wpAny_letGo->Jm,ClassData->Jp,boot_len->Ju,builtinsNs->Jy,typeLookup->JA,typeIs_str->JB,call->JC,wpAny_rule->JD,intKind->JG,standAt->JH,relabel->JJ,compPost->JL,OwnTail->JO,OsState->JP,Paired->JW,Within->JX,Model->JY,again->U0,atKey->U2,bindL->U7,bindC->U8,Draws->Ua
open Option renaming bind_some->j7,map_some->jP,isSome_iff_exists->gg,isSome_map->gM,getD_none->WZ
open PySem.W renaming Frag->j8,fnOf->jU,nsIn->jV,keepIn->jY,mg_none_of->Qt,kia_one->Qv,codeIn->QF,hideAll_get->Zv,mg_of->Zw,cellsFrom_some->ZE,codeRec_of->gz,kitOne->gP,OpenLaw->Y6,looks_findIn->Yi,findIn->Ym,methodObj->Yr,instObj->Ni,lookIn->NT,mroIn->Wb,callWith_K->Wd,isNs_of_in->Wq,tail_of_in->Wr,kitx_list->Wv,kitx_dict->Ww,plainGet->WY,findIn->Jn,looks_mroIn->Jo,WalkO->JI,excIn->JQ,clsIn->JR,mroIn->Ub
open PySem.Heap renaming get?_push_of_some->jb,lt_size->jh,get?_push_size->jN,SameBut->Qd,size_push->ZT,ExtBut->YR,get?_update_other->Nb,get?_update_self->Nq,get?_none_of_le->NL,get?_update_ne->W3,MadeExcOf->Jt,FlyingW->U3
open Option.some renaming inj->jc
open Nat renaming le_refl->jj,ne_of_lt->jI,lt_of_lt_of_le->jQ,le_trans->Q9,lt_irrefl->Qk,lt_succ_of_lt->QV,zero_add->Z1,zero_le->Z8,le_of_ble_eq_true->ZL,lt_succ_self->ZZ,le_succ->gd,ne_of_gt->gS,min_eq_left->Yd,lt_of_le_of_lt->Yh,le_of_lt->Nj,not_lt_zero->Nw,le_succ_of_le->WL,le_of_not_lt->J0,mod_eq_of_lt->J9
open PySem.Str renaming empty->jz,ofString->NB
open Or renaming inl->jA,inr->ZP
open Bool renaming and_eq_true->jD,false_ne_true->jK,false_eq_true->Z2,or_eq_true->Z9,eq_iff_iff->Zp,false_and->Yl,and_false->Yo,or_true->ND,and_eq_true_iff->NQ,false_or->Wg,not_true->JN,true_and->JS,and_comm->JU,true_or->U1
open PySem.PassesOwn renaming never->jL
open PySem.F renaming plainAttrs_list->jM,slot_list_append->Qn,type_list_append->Qo,excBase_ValueError->Z4,called_set->ZM,slot_list_pop->ZN,type_list_pop->ZO,slot_zip_next->Yb,slot_list_extend->YF,type_list_extend->YG,typeOf_object_class->NF,excAttr_ValueError->NP,store_ValueError->Wp,args_zip_next_1->WI,entry_zip_next->J2
open PySem.Value renaming ref->jS,isStrOf->QH,str->Zx,none->Y3,builtin->YY,notImplemented->NO,isInt->NV,int->Jd,bool->Jw,type->Jx,float->U5
open PyProof.Rows renaming callWith_type1->Qf,envOfC->QJ,AllBare->YK,subscriptTail->YN,subscriptTail_builtinR->Na,Subscript_->Wy,IntsAre->Jj,boot_range->Jz
open ForInStep renaming yield->Qg
open Int renaming toNat_natCast->Qj,emod_lt_of_pos->Z3,emod_nonneg->Zq,toNat_of_nonneg->Ye,emod_eq_of_lt->YI,zero_add->Nv,natCast_emod->J8,emod_self->JV
open PySem.NameKind renaming free->Ql,cell->JK
open False renaming elim->Qu
open Array renaming length_toList->QC,getElem?_eq_none->Ng,getElem?_toList->Nr,find?_toList->Wa,toList->JZ
open PySem.Builtin.SmallTypes renaming ownedTupleIsFree->QD,nextOf->QY,ownedTupleHandOut->ZW
open PySem.Builtin.Frozenset renaming unchanged->Za,isAnySet->ZQ,addrOf->YC,slot1->YU,intersection->WV,updateFrom->Jb,baseOf->JE,sizeOf->JF
open Sum renaming inr->Zi,inl->NW
open True renaming intro->ZC
open Ne renaming symm->ZD
open PySem.Around renaming frames_deeper->ZR,under_plainId->NN
open Sum.inr renaming inj->gb
open PySem.Builtin.List renaming listTooLong->gh
open PyProof.Rows.F renaming plain_set_update_loop->gC,entry_set_update_loop->YS
open PySem.Code renaming quiet_builtin->gD
open PySem.Calls renaming evalArgs_plain->gX,Name_function_global->Yf,callWith_builtin->Nc,spliced_cons->Wc,spliced_nil->Wx
open PySem.Challenge renaming pw_drawnword_k37_pairs_taken_out->Yk
open PySem.Txt renaming slice->Yx
open PySem.Heap.SetOf renaming typeIs->YB
open List.Pairwise renaming imp_of_mem->YH,sublist->Ny,nil->WD,map->WO,imp->Uf
open PySem.Paired renaming length->YJ,snoc->U9
open PySem.Builtin.Range renaming rangeSize->YL
open PySem.Heap.UpToSlots renaming of_keeps->YX
open Classical renaming propDecidable->YZ
open List.Perm renaming append_left->Nx
open PySem.Obj renaming mapSeq->NJ
open PUnit renaming unit->NK
open PySem.Builtin.Int renaming intBits->W4
open PySem.SeqAt.EqAt renaming int_str->W6,str_int->W7
open PySem.Data renaming cell->W9,fields->Jg,seq->Uc
open PySem.Heap.IsSliceOf renaming new->Wf
open PySem.Draws renaming list->WJ
open Nat.succ renaming inj->WS
open PySem.pickOrder renaming go->WU
open PySem.Shared renaming TypeIs->JM
open Prod renaming snd->JT,fst->Ud
open Sum.inl renaming inj->U4
open PySem.IsRange renaming new->U6
open PySem.W.WShape renaming has->Ue
set_option Elab.async false
set_option linter.all false
set_option maxRecDepth 100000
theorem Qb{α β:Type _}{x:Option α}{f:α->Option β}{b:β}(h:x.bind f=some b):∃ a,x=some a/\f a=some b:=Option.bind_eq_some_iff.mp h
theorem Qm{α β:Type _}{x:Option α}{f:α->β}{b:β}(h:x.map f=some b):∃ a,x=some a/\f a=b:=Option.map_eq_some_iff.mp h
theorem Df_{p:Prop}[Decidable p](h:¬p):decide p=false:=decide_eq_false h
theorem Dt_{p:Prop}[Decidable p](h:p):decide p=true:=decide_eq_true h
theorem Ip_{c:Prop}{h:Decidable c}(hc:c){α:Sort _}{t e:α}:ite c t e=t:=if_pos hc
theorem In_{c:Prop}{h:Decidable c}(hc:¬c){α:Sort _}{t e:α}:ite c t e=e:=if_neg hc
namespace L2
open PySem PySem.Spec PyProof.Rows
variable {P:jE}{w:Qa}{H H':Hp}{h h':Qs}{a:ji}{X:Cx}{pc:List (ji × Obj)}{s:ja}{b e:Q4}{ta tb:TE}{pos:Pos}{σ:St}{es:List Q4}{t:TA}
abbrev Key:=Sum Int Str
def zk6:Key->j6->Bool
 |.inl k,v=>NV k v
 |.inr x,v=>QH x v
def zxj(w:Qa):Key->Int
 |.inl k=>hashInt k
 |.inr x=>hashStr w x
theorem zaC:∀ {k:Key} {v:j6},zk6 k v=true->(∃ i t,k=NW i/\v=Jd i t)∨(∃ x t,k=Zi x/\v=Zx x t)
 |.inl i,v,h=>by
  obtain⟨t,e⟩:=Value.isInt_shape (k:=i) (v:=v) h;exact .inl ⟨i,t,rfl,e⟩
 |.inr x,v,h=>by
  obtain⟨t,e⟩:=Value.isStrOf_shape (x:=x) (v:=v) h;exact .inr ⟨x,t,rfl,e⟩
theorem zng(i:Int)(t:Tok):zk6 (.inl i) (.int i t)=true:=by simp[zk6,NV]
theorem znf(x:Str)(t:Tok):zk6 (.inr x) (.str x t)=true:=by simp[zk6,QH]
theorem ztj(a b:Int):decide ((NW a:Key)=NW b)=(a == b):=by
 by_cases e:a=b
 ·subst e; simp
 ·have h:¬ (NW a:Key)=NW b:=fun q=>e (U4 q);rw[Df_ h];exact(beq_eq_false_iff_ne.mpr e).symm
theorem ztg(a b:Str):decide ((Zi a:Key)=Zi b)=decide (a=b):=by
 by_cases e:a=b
 ·subst e; simp
 ·have h:¬ (Zi a:Key)=Zi b:=fun q=>e (gb q);rw[Df_ h,Df_ e]
theorem zti(a:Int)(b:Str):decide ((NW a:Key)=Zi b)=false:=Df_ (fun q=>nomatch q)
theorem zth(a:Str)(b:Int):decide ((Zi a:Key)=NW b)=false:=Df_ (fun q=>nomatch q)
def zb9(prog:jE)(w:Qa):PySem.KeyKind prog w Key where
 is:=zk6
 hash:=zxj w
 inj:=fun v a b ha hb=>by
  rcases zaC ha with ⟨i,t,rfl,rfl⟩ |⟨x,t,rfl,rfl⟩
  ·rcases zaC hb with ⟨j,u,rfl,e⟩ |⟨y,u,rfl,e⟩
   ·injection e with e1 _; rw[e1]
   ·exact nomatch e
  ·rcases zaC hb with ⟨j,u,rfl,e⟩ |⟨y,u,rfl,e⟩
   ·exact nomatch e
   ·injection e with e1 _; rw[e1]
 byValue:=fun k v h=>by
  rcases zaC h with ⟨i,t,rfl,rfl⟩ |⟨x,t,rfl,rfl⟩<;>rfl
 pyHash:=fun hv h=>by
  rcases zaC hv with ⟨i,t,rfl,rfl⟩ |⟨x,t,rfl,rfl⟩
  ·exact wpAny_pyHash_int h
  ·exact wpAny_pyHash_str h
 eqBool:=fun hu hv h=>by
  rcases zaC hu with ⟨i,t,rfl,rfl⟩ |⟨x,t,rfl,rfl⟩
  ·rcases zaC hv with ⟨j,u,rfl,rfl⟩ |⟨y,u,rfl,rfl⟩
   ·rw[ztj] at h; exact wpAny_eqBool_int h
   ·rw[zti] at h; exact W6 i t y u _ _ _ _ h
  ·rcases zaC hv with ⟨j,u,rfl,rfl⟩ |⟨y,u,rfl,rfl⟩
   ·rw[zth] at h; exact W7 x t j u _ _ _ _ h
   ·rw[ztg] at h; exact wpAny_eqBool_str h
 «strs»:=fun k x t v h=>by
  rcases zaC h with ⟨i,u,rfl,e⟩ |⟨y,u,rfl,e⟩
  ·exact nomatch e
  ·injection e with e1 _;subst e1;cases v<;>rfl
theorem zk0(prog:jE)(w:Qa)(i:Int)(t:Tok):(zb9 prog w).is (.inl i) (.int i t)=true:=zng i t
theorem zjZ(prog:jE)(w:Qa)(x:Str)(t:Tok):(zb9 prog w).is (.inr x) (.str x t)=true:=znf x t
inductive V where
 |non |bl (b:Bool) |int (i:Int) |str (x:Str) |byt (b:Array UInt8) |flt (b:UInt64) |ref (a:ji) |ty (n:String)
 deriving DecidableEq
def RelV:V->j6->Prop
 |.non,u=>u=Y3
 |.bl b,u=>u=Jw b
 |.int i,u=>∃ t,u=Jd i t
 |.str x,u=>∃ t,u=Zx x t
 |.byt b,u=>∃ t,u=Value.bytes b t
 |.flt b,u=>∃ t,u=U5 b t
 |.ref a,u=>u=jS a
 |.ty n,u=>u=Jx n
abbrev Vals:List V->List j6->Prop:=JW RelV
theorem Vals.length{xs:List V}{us:List j6}(r:Vals xs us):xs.length=us.length:=YJ r
theorem Vals.get:∀ {xs:List V} {us:List j6} {i:Nat} {x:V},Vals xs us->xs[i]?=some x->∃ u,us[i]?=some u/\RelV x u
 |_,_,_,_,.nil,e=>by simp at e
 |_,_,0,_,.cons r _,e=>by simp at e; subst e; exact⟨_,rfl,r⟩
 |_,_,i+1,x,.cons _ t,e=>by
  obtain⟨u,h1,h2⟩:=Vals.get (i:=i) (x:=x) t (by simpa using e)
  exact⟨u,by simpa using h1,h2⟩
theorem Vals.set{x:V}{u:j6}(r:RelV x u):∀ {xs:List V} {us:List j6} (i:Nat),Vals xs us->Vals (xs.set i x) (us.set i u)
 |_,_,_,.nil=>.nil
 |_,_,0,.cons _ t=>.cons r t
 |_,_,i+1,.cons q t=>.cons q (Vals.set r i t)
theorem Vals.append:∀ {xs ys:List V} {us ws:List j6},Vals xs us->Vals ys ws->Vals (xs++ys) (us++ws)
 |_,_,_,_,.nil,s=>s
 |_,_,_,_,.cons r t,s=>.cons r (Vals.append t s)
theorem Vals.take:∀ {xs:List V} {us:List j6} (n:Nat),Vals xs us->Vals (xs.take n) (us.take n)
 |_,_,0,_=>.nil
 |_,_,_+1,.nil=>.nil
 |_,_,n+1,.cons r t=>.cons r (Vals.take n t)
theorem Vals.drop:∀ {xs:List V} {us:List j6} (n:Nat),Vals xs us->Vals (xs.drop n) (us.drop n)
 |_,_,0,r=>r
 |_,_,_+1,.nil=>.nil
 |_,_,n+1,.cons _ t=>Vals.drop n t
def RelO:Option V->Option j6->Prop
 |some v,some u=>RelV v u
 |none,none=>True
 |_,_=>False
def KV{κ:Type}:List (κ × V)->List (κ × j6)->Prop:=JW fun(p:κ × V) (q:κ × j6)=>p.1=q.1/\RelV p.2 q.2
def kV:Key->V
 |.inl i=>.int i
 |.inr x=>.str x
inductive HO where
 /-- a list -/
 |lst (xs:List V)
 /-- a tuple (never changes) -/
 |tup (xs:List V)
 /-- a dict whose keys are ints and texts; one whose keys are tuples of ints and texts (the empty one is both) -/
 |dK (kvs:List (Key × V)) |dT (kvs:List (List Key × V))
 /-- a set of ints: its members,its size -/
 |set (S:Int->Bool) (n:Nat)
 /-- an instance of the class at C,its dict at dx,its attributes -/
 |ins (C dx:ji) (fs:List (Str × V))
 /-- the dict of the instance at x -/
 |own (x:ji)
 /-- the dict of an exception -/
 |xd (fs:List (Str × V))
 /-- a bound method,f of x -/
 |met (f x:ji)
 /-- a range object lo,lo+1,.. below hi -/
 |rng (lo hi:Int)
 /-- a thing that is known to the object (the script; a dict while a loop walks it): read,never written while it is so -/
 |frz (o:Obj) (u:HO)
 /-- a code object's table -/
 |tbl (ps:Array j6)
 /-- any other thing,by what is true of its one object (a def of one's own: SetO a S n:=HO.ext fun h=>..) -/
 |ext (φ:Qs->Prop)
abbrev Hp:=ji->Option HO
def upd(H:Hp)(a:ji)(o:HO):Hp:=fun b=>if b=a then some o else H b
theorem zad{H:Hp}{a:ji}{o:HO}:upd H a o a=some o:=by unfold upd; rw[Ip_ rfl]
theorem za6{H:Hp}{a b:ji}{o:HO}(h:b≠a):upd H a o b=H b:=by unfold upd; rw[In_ h]
theorem zvu{H:Hp}{a b:ji}{o u:HO}(h:H a=some o)(h':H b=some u)(d:o≠u):a≠b:=by
 intro e; subst e; rw[h] at h'; exact d (jc h')
theorem zaa{H:Hp}{a b:ji}{o:HO}(h:H a=some o)(h':H b=none):a≠b:=by
 intro e; subst e; rw[h] at h'; cases h'
section
variable (P:jE)(w:Qa)
def ObjOk(H:Hp)(h:Qs)(a:ji):HO->Prop
 |.lst xs=>xs.length<=jn/\∃(its:List j6) (n:Nat),Vals xs its/\h.get? a=some { cls:=.type "list",data:=.seq its.toArray n }
 |.tup xs=>xs.length<=jn/\∃ its:List j6,Vals xs its/\IsTup h a its.toArray
 |.dK kvs=>kvs.length<=jn/\(a == ZB)=false/\∃ vs,KV kvs vs/\h.DictOf (zb9 P w) a vs
 |.dT kvs=>kvs.length<=jn/\(a == ZB)=false/\∃ xs:List (List Key × ji × j6),
   JW (fun(p:List Key × V) (q:List Key × ji × j6)=>p.1=q.1/\H q.2.1=some (.tup (p.1.map kV))/\RelV p.2 q.2.2) kvs xs /\
   ∃ o es ep,h.get? a=some o/\o.ExactDict/\o.data=.dict es ep/\es.toList=xs.map (entryOfKey (W8 (zb9 P w)))/\(xs.map (·.1)).Nodup
 |.set S n=>h.SetOf (JG P w) a S n
 |.ins C dx fs=>H dx=some (.own a)/\fs.length<=1000/\dx≠a/\h.get? a=some (Ni C dx) /\
   ∃ mA,h.Ns1 dx mA/\(∀ f,RelO (fs.lookup f) (mA f))/\JX mA (fs.map (·.1))
 |.own _=>∃ o,h.get? a=some o
 |.xd fs=>∃ mA,h.Ns1 a mA/\∀ f,RelO (fs.lookup f) (mA f)
 |.rng lo hi=>∃ t u v,h.get? a=some { cls:=.type "range",data:=.fields #[.int lo t,.int hi u,.int 1 v] }
 |.frz o u=>h.get? a=some o/\ObjOk H h a u
 |.tbl ps=>h.get? a=some { cls:=.none,data:=.fields ps }
 |.met f x=>h.get? a=some (Yr (.ref f) (.ref x))
 |.ext φ=>φ h/\(∃ o,h.get? a=some o)/\∀ h1 h2:Qs,φ h1->(∀ o,h1.get? a=some o->h2.get? a=some o)->φ h2
def HOk(H:Hp)(h:Qs):Prop:=∀ a o,H a=some o->ObjOk P w H h a o
end
section
variable {o:HO}
theorem ObjOk.lt(x:ObjOk P w H h a o):a < h.objs.size:=by
 cases o with
 |lst xs=>obtain⟨_,_,_,_,e⟩:=x; exact jh e
 |tup xs=>obtain⟨_,_,_,p⟩:=x; exact p.lt
 |dK kvs=>obtain⟨_,_,_,_,o,_,_,e,_⟩:=x; exact jh e
 |dT kvs=>obtain⟨_,_,_,_,o,_,_,e,_⟩:=x; exact jh e
 |set S n=>obtain⟨o,_,_,_,e,_⟩:=x; exact jh e
 |ins C dx fs=>obtain⟨_,_,_,e,_⟩:=x; exact jh e
 |own y=>obtain⟨_,e⟩:=x; exact jh e
 |xd fs=>obtain⟨_,⟨_,_,_,e,_⟩,_⟩:=x; exact jh e
 |rng lo hi=>obtain⟨_,_,_,e⟩:=x; exact jh e
 |frz ob u=>obtain⟨e,_⟩:=x; exact jh e
 |tbl ps=>exact jh (show h.get? a=some _ from x)
 |met f y=>exact jh (show h.get? a=some _ from x)
 |ext φ=>obtain⟨_,⟨_,e⟩,_⟩:=x; exact jh e
theorem Paired.mapP{α β:Type}{F G:α->β->Prop}:∀ {l₁:List α} {l₂:List β},JW F l₁ l₂->(∀ a b,F a b->G a b)->JW G l₁ l₂
 |_,_,.nil,_=>.nil
 |_,_,.cons r t,f=>.cons (f _ _ r) (Paired.mapP t f)
theorem ObjOk.stay(x:ObjOk P w H h a o)(k:∀ b u,(b=a∨H b=some (.own a))->h.get? b=some u->h'.get? b=some u)
  (ho:∀ b,H b=some (.own a)->H' b=some (.own a)) (ht:∀ b xs,H b=some (.tup xs)->H' b=some (.tup xs)):ObjOk P w H' h' a o:=by
 induction o with
 |lst xs=>obtain⟨z,its,n,r,e⟩:=x; exact⟨z,its,n,r,k _ _ (.inl rfl) e⟩
 |tup xs=>obtain⟨z,its,r,ob,e,c⟩:=x; exact⟨z,its,r,ob,k _ _ (.inl rfl) e,c⟩
 |dK kvs=>obtain⟨z,y,vs,r,ob,es,ep,e,c⟩:=x; exact⟨z,y,vs,r,ob,es,ep,k _ _ (.inl rfl) e,c⟩
 |dT kvs=>
  obtain⟨z,y,xs,r,ob,es,ep,e,c⟩:=x;exact⟨z,y,xs,Paired.mapP r fun p q z=>⟨z.1,ht _ _ z.2.1,z.2.2⟩,ob,es,ep,k _ _ (.inl rfl) e,c⟩
 |set S n=>obtain⟨ob,es,ep,t,e,c⟩:=x; exact⟨ob,es,ep,t,k _ _ (.inl rfl) e,c⟩
 |ins C dx fs=>
  obtain⟨d,z,ne,e,mA,⟨od,es,ep,e2,c⟩,r⟩:=x;exact⟨ho _ d,z,ne,k _ _ (.inl rfl) e,mA,⟨od,es,ep,k _ _ (.inr d) e2,c⟩,r⟩
 |own y=>obtain⟨ob,e⟩:=x; exact⟨ob,k _ _ (.inl rfl) e⟩
 |xd fs=>obtain⟨mA,⟨od,es,ep,e,c⟩,r⟩:=x; exact⟨mA,⟨od,es,ep,k _ _ (.inl rfl) e,c⟩,r⟩
 |rng lo hi=>obtain⟨t,u,v,e⟩:=x; exact⟨t,u,v,k _ _ (.inl rfl) e⟩
 |frz ob u ih=>obtain⟨e,q⟩:=x; exact⟨k _ _ (.inl rfl) e,ih q⟩
 |tbl ps=>
  have e:h.get? a=some { cls:=.none,data:=.fields ps }:=x;show h'.get? a=some { cls:=.none,data:=.fields ps };exact k a _ (.inl rfl) e
 |met f y=>
  have e:h.get? a=some (Yr (.ref f) (.ref y)):=x;show h'.get? a=some (Yr (.ref f) (.ref y));exact k a _ (.inl rfl) e
 |ext φ=>obtain⟨p,⟨o,e⟩,st⟩:=x; exact⟨st _ _ p fun o q=>k _ _ (.inl rfl) q,⟨o,k _ _ (.inl rfl) e⟩,st⟩
theorem HOk.lt(x:HOk P w H h)(e:H a=some o):a < h.objs.size:=(x a o e).lt
theorem HOk.fresh(x:HOk P w H h)(e:h.objs.size<=a):H a=none:=by
 cases q:H a with
 |none=>rfl
 |some u=>exact absurd (jQ (x.lt q) e) (Qk _)
theorem HOk.kept(x:HOk P w H h)(k:∀ b u,h.get? b=some u->h'.get? b=some u):HOk P w H h':=fun a o e=>
 (x a o e).stay (fun b u _ q=>k b u q) (fun _ q=>q) fun _ _ q=>q
theorem HOk.laid(x:HOk P w H h)(k:∀ b u,h.get? b=some u->h'.get? b=some u)(hp:h.objs.size<=a)(new:ObjOk P w (upd H a o) h' a o):HOk P w (upd H a o) h':=fun b u e=>by
 have hn:=x.fresh hp
 by_cases hb:b=a
 ·subst hb; rw[zad] at e; cases e; exact new
 ·rw[za6 hb] at e;exact(x b u e).stay (fun c v _ q=>k c v q) (fun c q=>by rw[za6 (zaa q hn)]; exact q) fun c xs q=>by rw[za6 (zaa q hn)]; exact q
end
def Rd(H:Hp)(a:ji)(u:HO):Prop:=H a=some u∨∃ o,H a=some (.frz o u)
theorem Rd.ok{P:jE}{w:Qa}{H:Hp}{h:Qs}{a:ji}{u:HO}(r:Rd H a u)(x:HOk P w H h):ObjOk P w H h a u:=by
 rcases r with r |⟨o,r⟩
 ·exact x a u r
 ·obtain⟨_,q⟩:=x a _ r;exact q
def Mut:Option HO->Prop
 |some (.lst _)=>True
 |some (.dK _)=>True
 |some (.dT _)=>True
 |some (.set _ _)=>True
 |some (.ins _ _ _)=>True
 |some (.ext _)=>True
 |_=>False
section
variable {x e:ji}{o':HO}
theorem HOk.write(ok:HOk P w H h)(mu:Mut (H x))(he:e=x∨H e=some (.own x))(k:∀ b u,b≠e->h.get? b=some u->h'.get? b=some u)(heo:∃ u,h'.get? e=some u)
  (new:ObjOk P w (upd H x o') h' x o'):HOk P w (upd H x o') h':=fun b u q=>by
 have nown:∀ c y,H c=some (.own y)->c≠x:=fun c y r z=>by subst z; rw[r] at mu; exact mu
 have ntup:∀ c xs,H c=some (.tup xs)->c≠x:=fun c xs r z=>by subst z; rw[r] at mu; exact mu
 by_cases hb:b=x
 ·subst hb; rw[zad] at q; cases q; exact new
 ·rw[za6 hb] at q
  by_cases hbe:b=e
  ·have q':H b=some (.own x):=by
    rcases he with z |z
    ·exact absurd (hbe.trans z) hb
    ·rw[hbe]; exact z
   rw[q] at q'; cases q';obtain⟨v,hv⟩:=heo;exact⟨v,by rw[hbe]; exact hv⟩
  ·refine(ok b u q).stay (fun c v hc r=>k c v ?_ r) (fun c r=>by rw[za6 (nown c b r)]; exact r) fun c xs r=>by rw[za6 (ntup c xs r)]; exact r
   rcases hc with rfl |hc
   ·exact hbe
   ·rintro rfl;rcases he with z |z
    ·exact nown c b hc z
    ·rw[hc] at z; cases z; exact hb rfl
end
structure Un (fs ex:List ji) (H H':Hp) (h h':Qs):Prop where
 keep:∀ b o,h.get? b=some o->H b=none->b∉fs->b∉ex->h'.get? b=some o
 slot:∀ b o,h.get? b=some o->H b=none->b∈fs->b∉ex->∃ sl,h'.get? b=some { o with slots:=sl }
 free:∀ b o,h.get? b=some o->H b=none->b∉ex->H' b=none
 there:∀ b o,h.get? b=some o->b∉ex->∃ o',h'.get? b=some o'
 tups:∀ b xs,H b=some (.tup xs)->H' b=some (.tup xs)
 frzs:∀ b o u,H b=some (.frz o u)->H' b=some (.frz o u)
 tbls:∀ b ps,H b=some (.tbl ps)->∃ more,H' b=some (.tbl (ps++more))
section
variable {fs fs' ex ex':List ji}{H1 H2:Hp}{h1 h2:Qs}{x e:ji}{o:HO}
theorem Un.any(u:Un fs ex H H1 h h1){b:ji}{ob:Obj}(q:h.get? b=some ob)(n:H b=none)(hx:b∉ex):∃ sl,h1.get? b=some { ob with slots:=sl }:=by
 by_cases hb:b∈fs
 ·exact u.slot b ob q n hb hx
 ·exact⟨ob.slots,u.keep b ob q n hb hx⟩
theorem Un.kept(k:∀ b u,h.get? b=some u->h'.get? b=some u):Un fs ex H H h h':=
 ⟨fun b ob q _ _ _=>k b ob q,fun b ob q _ _ _=>⟨ob.slots,k b ob q⟩,fun _ _ _ n _=>n,fun b ob q _=>⟨ob,k b ob q⟩,fun _ _ q=>q,fun _ _ _ q=>q,fun _ ps q=>⟨#[],by rw[q]; simp⟩⟩
theorem Un.refl:Un fs ex H H h h:=Un.kept fun _ _ q=>q
theorem Un.laid(k:∀ b u,h.get? b=some u->h'.get? b=some u)(hp:h.objs.size<=a)(hn:H a=none):Un fs ex H (upd H a o) h h' where
 keep:=fun b u q _ _ _=>k b u q
 slot:=fun b u q _ _ _=>⟨u.slots,k b u q⟩
 free:=fun b u q n _=>by rw[za6 (jI (jQ (jh q) hp))]; exact n
 there:=fun b u q _=>⟨u,k b u q⟩
 tups:=fun b xs q=>by rw[za6 (zaa q hn)]; exact q
 frzs:=fun b u xs q=>by rw[za6 (zaa q hn)]; exact q
 tbls:=fun b ps q=>⟨#[],by rw[za6 (zaa q hn),q]; simp⟩
theorem Un.write(mu:Mut (H x))(he:e=x∨H e=some (.own x))(k:∀ b u,b≠e->h.get? b=some u->h'.get? b=some u)(heo:∃ u,h'.get? e=some u):Un fs ex H (upd H x o) h h':=by
 have hx:∀ b,H b=none->b≠x:=fun b n z=>by subst z; rw[n] at mu; exact mu
 have hb:∀ b,H b=none->b≠e:=fun b n z=>by
  subst z;rcases he with r |r
  ·exact hx b n r
  ·rw[n] at r; cases r
 have hm:∀ b u,H b=some u->¬ Mut (some u)->b≠x:=fun b u q nm z=>by subst z; rw[q] at mu; exact nm mu
 refine⟨fun b u q n _ _=>k b u (hb b n) q,fun b u q n _ _=>⟨u.slots,k b u (hb b n) q⟩,fun b u q n _=>by rw[za6 (hx b n)]; exact n,fun b u q _=>?_,
  fun b xs q=>by rw[za6 (hm b _ q fun z=>z)]; exact q,fun b u xs q=>by rw[za6 (hm b _ q fun z=>z)]; exact q,fun b ps q=>⟨#[],by rw[za6 (hm b _ q fun z=>z),q]; simp⟩⟩
 by_cases hbe:b=e
 ·subst hbe; exact heo
 ·exact⟨u,k b u hbe q⟩
end
def trk(h:Qs)(H:Hp):List ji:=(jt h.objs.size).filter fun a=>(H a).isSome
def zoG(h:Qs)(H:Hp):Qs:=PySem.W.hideAll h (trk h H)
theorem znn(h:Qs)(H:Hp):(zoG h H).objs.size=h.objs.size:=PySem.W.hideAll_size _ _
theorem zoF{h:Qs}{H:Hp}{b:ji}{o:Obj}(e:h.get? b=some o)(n:H b=none):(zoG h H).get? b=some o:=
 PySem.W.hideAll_get _ e fun hm=>by
  have q:(H b).isSome=true:=(jZ.mp hm).2;rw[n] at q; simp at q
theorem zqU{h:Qs}{H:Hp}{b:ji}{o:Obj}(e:(zoG h H).get? b=some o):h.get? b=some o/\H b=none:=by
 have e':h.get? b=some o:=PySem.W.of_hideAll (trk h H) e;refine⟨e',?_⟩;cases q:H b with
 |none=>rfl
 |some x=>
  have hm:b∈trk h H:=jZ.mpr ⟨jR.mpr (jh e'),by simp[q]⟩
  have z:(zoG h H).get? b=none:=PySem.W.hideAll_none (trk h H) hm;rw[z] at e; cases e
structure Mod (K:j8) (mg:Str->Option j6) (base:Qs):Prop where
 kin:K.In base
 glob:base.Ns jC mg
 blt:∃ mb,base.Ns Jy mb/\∀ x:Str,x≠"__name__"->mb x=QK x
 nolimit:base.NoLimit
structure Cx where
 prog:jE
 w:Qa
 K:j8
 mg:Str->Option j6
 base:Qs
 A:Q3
 N:List Str
 s₀:ja
 H₀:Hp
 env:Env
 outer:List Env
 stack:List Env
 ex:List ji
 fn:Str->Bool
 calm:Bool
 pn:List (ji × Obj)
 xe:j6->ja->Prop
def frs(l:List Env):List ji:=l.filterMap (·.frame)
abbrev Cx.fs(X:Cx):List ji:=frs X.outer
def Vis(sc:gr)(x:Str):Prop:=sc.names.lookup x=some .local∨sc.names.lookup x=some .cell∨sc.names.lookup x=some .free
def Loc(sc:gr)(x:Str):Prop:=sc.names.lookup x=some .local∨sc.names.lookup x=some .cell
def zxr(env:Env)(h:Qs)(m:Str->Option j6)(x:Str)(u:j6):Prop:=
 (env.kindOf x=some .local/\m x=some u)∨((env.kindOf x=some .cell∨env.kindOf x=some .free)/\∃ c,env.cells.lookup x=some c/\h.IsCell c (some u))
structure Cx.Ok (X:Cx):Prop where
 mod:Mod X.K X.mg X.base
 kind:X.env.scope.kind=.function
 glob:X.env.globals=jC
 blt:X.env.builtins=Jy
 above:X.s₀.heap.objs.size<=X.env.locals
 inj:∀ x y c,X.env.cells.lookup x=some c->X.env.cells.lookup y=some c->x=y
 has:∀ x,(X.env.kindOf x=some .cell∨X.env.kindOf x=some .free)->∃ c,X.env.cells.lookup x=some c
 cab:∀ x c,X.fn x=true->X.env.cells.lookup x=some c->X.s₀.heap.objs.size<=c
 hd:X.calm=true->X.A.handled=none
 frames:X.A.frames=some X.stack
 stk:X.stack=X.outer∨(X.stack=X.env::X.outer/\X.env.frame=some X.env.locals)
 exf:∀ b∈X.ex,b≠X.env.locals/\∀ x c,X.env.cells.lookup x=some c->c≠b
 bs:∀ b o,X.base.get? b=some o->X.s₀.heap.get? b=some o/\X.H₀ b=none
 bsz:X.base.objs.size<=X.s₀.heap.objs.size
 noex:∀ b o,X.base.get? b=some o->b∉X.ex
 exfs:∀ b∈X.ex,b∉X.fs
 funs:X.s₀.heap.FunFrames X.base X.outer
 frf:∀ b∈X.fs,X.H₀ b=none
structure Inv (X:Cx) (pc:List (ji × Obj)) (σ:List (Option V)) (H:Hp) (s:ja):Prop where
 ok:X.Ok
 os:s.os=X.s₀.os
 bare:YK s.gens
 base:Un X.fs X.ex X.H₀ H X.s₀.heap s.heap
 loc:∃ m,s.heap.Ns X.env.locals m/\∀(i:Nat) (x:Str) (v:V),X.N[i]?=some x->σ[i]?=some (some v)->Vis X.env.scope x->∃ u,RelV v u/\zxr X.env s.heap m x u
 cell:∀ x c,X.env.cells.lookup x=some c->∃ v,s.heap.IsCell c v
 free:H X.env.locals=none
 freeC:∀ x c,X.env.cells.lookup x=some c->H c=none
 pin:∀ p∈X.pn++pc,s.heap.get? p.1=some p.2/\H p.1=none/\p.1≠X.env.locals/\p.1∉X.fs/\∀ v,p.2.data≠.cell v
 hok:HOk X.prog X.w H s.heap
 len:σ.length=X.N.length
section
variable {σ:List (Option V)}
theorem Cx.Ok.nofr(ok:X.Ok){b:ji}{o:Obj}(e:X.base.get? b=some o):b∉X.fs:=fun hb=>by
 have:=(ok.funs.mem hb).1;rw[e] at this; cases this
theorem Inv.bs(I:Inv X pc σ H s):∀ b o,X.base.get? b=some o->s.heap.get? b=some o/\H b=none:=fun b o e=>
 ⟨I.base.keep b o (I.ok.bs b o e).1 (I.ok.bs b o e).2 (I.ok.nofr e) (I.ok.noex b o e),I.base.free b o (I.ok.bs b o e).1 (I.ok.bs b o e).2 (I.ok.noex b o e)⟩
theorem Inv.bk(I:Inv X pc σ H s):∀ b o,X.base.get? b=some o->s.heap.get? b=some o:=fun b o e=>(I.bs b o e).1
theorem Inv.mod(I:Inv X pc σ H s):Mod X.K X.mg X.base:=I.ok.mod
theorem Inv.kIn(I:Inv X pc σ H s):X.K.In s.heap:=I.ok.mod.kin.keeps I.bk
theorem Inv.lt(I:Inv X pc σ H s):X.env.locals < s.heap.objs.size:=let ⟨_,hn,_⟩:=I.loc; hn.lt
theorem Inv.sz(I:Inv X pc σ H s):X.s₀.heap.objs.size<=s.heap.objs.size:=Q9 I.ok.above (Nj I.lt)
theorem Inv.nofs(I:Inv X pc σ H s){a:ji}(h:s.heap.objs.size<=a):a∉X.fs:=fun hb=>by
 obtain⟨_,o,ho,_⟩:=I.ok.funs.mem hb;exact absurd (jQ (jh ho) (Q9 I.sz h)) (Qk _)
theorem Inv.cne(I:Inv X pc σ H s):∀ x c,X.env.cells.lookup x=some c->c≠X.env.locals:=fun x c e z=>by
 obtain⟨v,o,ho,hd⟩:=I.cell x c e;obtain⟨m,⟨o',es,ep,ho',hd',_⟩,_⟩:=I.loc;rw[z,ho'] at ho; cases ho; rw[hd'] at hd; cases hd
theorem Inv.funs(I:Inv X pc σ H s):s.heap.FunFrames X.base X.outer:=by
 have all:∀(l:List Env),(∀ b∈frs l,b∈X.fs)->X.s₀.heap.FunFrames X.base l->s.heap.FunFrames X.base l:=by
  intro l
  induction l with
  |nil=>intro _ _; trivial
  |cons env r ih=>
   intro hs hl;obtain⟨hk,⟨L,o,hf,hn,ho,hd⟩,hr⟩:=hl;have hL:L∈X.fs:=hs L (by unfold frs; rw[QQ,hf]; exact jX)
   obtain⟨sl,e⟩:=I.base.slot L o ho (I.ok.frf L hL) hL fun z=>I.ok.exfs L z hL;exact⟨hk,⟨L,_,hf,hn,e,hd⟩,ih (fun b hb=>hs b (by unfold frs; rw[QQ,hf]; exact jw _ hb)) hr⟩
 exact all X.outer (fun _ hb=>hb) I.ok.funs
theorem Inv.stack(I:Inv X pc σ H s):s.heap.FunFrames X.base X.stack:=by
 rcases I.ok.stk with e |⟨e,hf⟩
 ·rw[e]; exact I.funs
 ·rw[e];obtain⟨m,hn,_⟩:=I.loc;refine .cons (by rw[I.ok.kind]; decide) hf hn ?_ I.funs
  exact NL (Q9 I.ok.bsz I.ok.above)
theorem Inv.stkSub(I:Inv X pc σ H s):∀ b∈frs X.stack,b∈X.env.locals::X.fs:=fun b hb=>by
 rcases I.ok.stk with e |⟨e,hf⟩
 ·rw[e] at hb; exact jw _ hb
 ·rw[e] at hb;unfold frs at hb;rw[QQ,hf] at hb;exact hb
theorem Inv.stkFree(I:Inv X pc σ H s):∀ b∈frs X.stack,H b=none:=fun b hb=>by
 rcases ju.mp (I.stkSub b hb) with e |hb
 ·rw[e]; exact I.free
 ·obtain⟨_,o,ho,_⟩:=I.ok.funs.mem hb;exact I.base.free b o ho (I.ok.frf b hb) fun z=>I.ok.exfs b z hb
theorem Inv.step{g':Array gO}{t':Nat}{d':Drawn}{ch:List ji}(I:Inv X pc σ H s)
  (hch:∀ b∈ch,(b∈X.ex∨X.s₀.heap.objs.size<=b)/\b≠X.env.locals/\(∀ x c,X.env.cells.lookup x=some c->c≠b)/\∀ p∈X.pn++pc,p.1≠b)
  (keep:∀ b o,b≠X.env.locals->b∉X.fs->b∉ch->s.heap.get? b=some o->H b=none->h'.get? b=some o)
  (slot:∀ b o,b≠X.env.locals->b∈X.fs->b∉ch->s.heap.get? b=some o->H b=none->∃ sl,h'.get? b=some { o with slots:=sl }) (free:∀ b o,b∉ch->s.heap.get? b=some o->H b=none->H' b=none)
  (there:∀ b o,b∉ch->s.heap.get? b=some o->∃ o',h'.get? b=some o')
  (tups:∀ b xs,H b=some (.tup xs)->H' b=some (.tup xs)) (frzs:∀ b o u,H b=some (.frz o u)->H' b=some (.frz o u)) (tbls:∀ b ps,H b=some (.tbl ps)->∃ more,H' b=some (.tbl (ps++more)))
  (ns:∀ m,s.heap.Ns X.env.locals m->h'.Ns X.env.locals m) (hok:HOk X.prog X.w H' h') (hg:YK g') :
  Inv X pc σ H' { s with heap:=h',gens:=g',drawn:=d',toks:=t' }:=by
 have neL:∀ b o,X.s₀.heap.get? b=some o->b≠X.env.locals:=fun b o e=>jI (jQ (jh e) I.ok.above);have neC:∀ b o,X.s₀.heap.get? b=some o->b∉X.ex->b∉ch:=fun b o e hx hb=>by
  rcases(hch b hb).1 with z |z
  ·exact hx z
  ·exact absurd (jQ (jh e) z) (Qk _)
 have cellK:∀ x c,X.env.cells.lookup x=some c->∀ v,s.heap.IsCell c v->h'.IsCell c v:=fun x c e v ⟨o,ho,hd⟩=>by
  have nch:c∉ch:=fun z=>(hch c z).2.2.1 x c e rfl
  by_cases hc:c∈X.fs
  ·obtain⟨sl,q⟩:=slot c o (I.cne x c e) hc nch ho (I.freeC x c e);exact⟨_,q,hd⟩
  ·exact⟨o,keep c o (I.cne x c e) hc nch ho (I.freeC x c e),hd⟩
 refine⟨I.ok,I.os,hg,⟨fun b o e n hb hx=>?_,fun b o e n hb hx=>?_,fun b o e n hx=>?_,fun b o e hx=>?_,fun b xs e=>tups b xs (I.base.tups b xs e),fun b o xs e=>frzs b o xs (I.base.frzs b o xs e),fun b ps e=>?_⟩,?_,fun x c e=>?_,?_,fun x c e=>?_,fun p hp=>?_,hok,I.len⟩
 ·exact keep b o (neL b o e) hb (neC b o e hx) (I.base.keep b o e n hb hx) (I.base.free b o e n hx)
 ·obtain⟨sl,e1⟩:=I.base.slot b o e n hb hx;obtain⟨sl',e2⟩:=slot b _ (neL b o e) hb (neC b o e hx) e1 (I.base.free b o e n hx);exact⟨sl',e2⟩
 ·obtain⟨o',e1⟩:=I.base.there b o e hx;exact free b o' (neC b o e hx) e1 (I.base.free b o e n hx)
 ·obtain⟨o',e1⟩:=I.base.there b o e hx;exact there b o' (neC b o e hx) e1
 ·obtain⟨m1,e1⟩:=I.base.tbls b ps e;obtain⟨m2,e2⟩:=tbls b _ e1;exact⟨m1++m2,by rw[e2,Array.append_assoc]⟩
 ·obtain⟨m,hn,hl⟩:=I.loc;refine⟨m,ns m hn,fun i x v e1 e2 e3=>?_⟩;obtain⟨u,r,l⟩:=hl i x v e1 e2 e3;refine⟨u,r,?_⟩;rcases l with l |⟨k,c,e,z⟩
  ·exact .inl l
  ·exact .inr ⟨k,c,e,cellK x c e _ z⟩
 ·obtain⟨v,z⟩:=I.cell x c e;exact⟨v,cellK x c e v z⟩
 ·obtain⟨m,⟨o,_,_,ho,_⟩,_⟩:=I.loc;exact free _ o (fun z=>(hch _ z).2.1 rfl) ho I.free
 ·obtain⟨v,o,ho,hd⟩:=I.cell x c e;exact free c o (fun z=>(hch c z).2.2.1 x c e rfl) ho (I.freeC x c e)
 ·obtain⟨e,n,ne,nf,d⟩:=I.pin p hp;have nch:p.1∉ch:=fun z=>(hch p.1 z).2.2.2 p hp rfl;exact⟨keep p.1 p.2 ne nf nch e n,free p.1 p.2 nch e n,ne,nf,d⟩
theorem Inv.un{t':Nat}(I:Inv X pc σ H s)(u:Un X.fs [] H H' s.heap h')(hok:HOk X.prog X.w H' h'):Inv X pc σ H' { s with heap:=h',toks:=t' }:=by
 obtain⟨m,⟨o,es,ep,ho,r⟩,_⟩:=id I.loc;obtain⟨sl,hL⟩:=u.any ho I.free (by simp)
 exact I.step (g':=s.gens) (d':=s.drawn) (ch:=[]) (fun _ z=>nomatch z) (fun b o _ hb _ e n=>u.keep b o e n hb (by simp)) (fun b o _ hb _ e n=>u.slot b o e n hb (by simp)) (fun b o _ e n=>u.free b o e n (by simp)) (fun b o _ e=>u.there b o e (by simp)) u.tups u.frzs u.tbls (fun m' hm=>by
  obtain⟨o',es',ep',ho',r'⟩:=hm;rw[ho] at ho'; cases ho'
  exact⟨_,es',ep',hL,r'⟩) hok I.bare
theorem Inv.call{g':Array gO}{t':Nat}{d':Drawn}{ch:List ji}(I:Inv X pc σ H s)(u:Un (frs X.stack) ch H H' s.heap h')(hok:HOk X.prog X.w H' h')(hg:YK g')
  (hch:∀ b∈ch,(b∈X.ex∨X.s₀.heap.objs.size<=b)/\b≠X.env.locals/\(∀ x c,X.env.cells.lookup x=some c->c≠b)/\∀ p∈X.pn++pc,p.1≠b) :
  Inv X pc σ H' { s with heap:=h',gens:=g',drawn:=d',toks:=t' }:=by
 obtain⟨m,⟨o,es,ep,ho,r⟩,_⟩:=id I.loc;obtain⟨sl,hL⟩:=u.any ho I.free fun z=>(hch _ z).2.1 rfl
 exact I.step (ch:=ch) hch (fun b o hL hb hc e n=>u.keep b o e n (fun z=>(ju.mp (I.stkSub b z)).elim hL hb) hc) (fun b o _ _ hc e n=>u.any e n hc) (fun b o hc e n=>u.free b o e n hc) (fun b o hc e=>u.there b o e hc) u.tups u.frzs u.tbls (fun m' hm=>by
  obtain⟨o',es',ep',ho',r'⟩:=hm;rw[ho] at ho'; cases ho'
  exact⟨_,es',ep',hL,r'⟩) hok hg
theorem Inv.turned{t':Nat}{it:ji}(I:Inv X pc σ H s)(k:∀ b o,b≠it->s.heap.get? b=some o->h'.get? b=some o)(hn:H it=none)(hL:it≠X.env.locals)
  (h1:it∈X.ex∨X.s₀.heap.objs.size<=it) (h2:∀ x c,X.env.cells.lookup x=some c->c≠it) (h3:∀ p∈X.pn++pc,p.1≠it):Inv X pc σ H { s with heap:=h',toks:=t' }:=by
 have nit:∀ b u,H b=some u->b≠it:=fun b u e z=>by rw[z,hn] at e; cases e
 refine I.step (g':=s.gens) (d':=s.drawn) (ch:=[it]) (fun b hb=>?_) (fun b o _ _ hc e _=>k b o (fun z=>hc (by simp[z])) e) (fun b o _ _ hc e _=>⟨o.slots,k b o (fun z=>hc (by simp[z])) e⟩) (fun _ _ _ _ n=>n)
  (fun b o hc e=>⟨o,k b o (fun z=>hc (by simp[z])) e⟩) (fun _ _ e=>e) (fun _ _ _ e=>e) (fun b ps e=>⟨#[],by rw[e]; simp⟩) (fun m hm=>?_) (fun b u e=>?_) I.bare
 ·have e:b=it:=by simpa using hb
  subst e;exact⟨h1,hL,h2,h3⟩
 ·obtain⟨o,es,ep,ho,r⟩:=hm;exact⟨o,es,ep,k _ o (ZD hL) ho,r⟩
 ·refine(I.hok b u e).stay (fun c v hc q=>k c v ?_ q) (fun _ q=>q) fun _ _ q=>q;rcases hc with z |z
  ·rw[z]; exact nit b u e
  ·exact nit c _ z
theorem Inv.tok(I:Inv X pc σ H s)(t:Nat):Inv X pc σ H { s with toks:=t }:=I.un (h':=s.heap) (t':=t) Un.refl I.hok
theorem Inv.kept{t':Nat}(I:Inv X pc σ H s)(k:∀ b u,s.heap.get? b=some u->h'.get? b=some u):Inv X pc σ H { s with heap:=h',toks:=t' }:=I.un (Un.kept k) (I.hok.kept k)
theorem Inv.laid{a:ji}{o:HO}{t':Nat}(I:Inv X pc σ H s)(k:∀ b u,s.heap.get? b=some u->h'.get? b=some u)(hp:s.heap.objs.size<=a)(new:ObjOk X.prog X.w (upd H a o) h' a o) :
  Inv X pc σ (upd H a o) { s with heap:=h',toks:=t' }:=I.un (Un.laid k hp (I.hok.fresh hp)) (I.hok.laid k hp new)
theorem Inv.write{x e:ji}{o:HO}{t':Nat}(I:Inv X pc σ H s)(mu:Mut (H x))(he:e=x∨H e=some (.own x))(k:∀ b u,b≠e->s.heap.get? b=some u->h'.get? b=some u)(heo:∃ u,h'.get? e=some u)
  (new:ObjOk X.prog X.w (upd H x o) h' x o):Inv X pc σ (upd H x o) { s with heap:=h',toks:=t' }:=I.un (Un.write mu he k heo) (I.hok.write mu he k heo new)
theorem Inv.pins_of{pins':List (ji × Obj)}(I:Inv X pc σ H s)(h:∀ p∈pins',s.heap.get? p.1=some p.2/\H p.1=none/\p.1≠X.env.locals/\p.1∉X.fs/\∀ v,p.2.data≠.cell v):Inv X pins' σ H s:=
 ⟨I.ok,I.os,I.bare,I.base,I.loc,I.cell,I.free,I.freeC,fun p hp=>(jv.mp hp).elim (fun z=>I.pin p (jo _ z)) (h p),I.hok,I.len⟩
theorem zkS{N:List Str}(hN:N.Nodup){i j:Nat}{x:Str}(a:N[i]?=some x)(b:N[j]?=some x):i=j:=by
 obtain⟨h1,e1⟩:=j9.mp a;obtain⟨h2,e2⟩:=j9.mp b;exact(N1 hN).mp (e1.trans e2.symm)
theorem zeQ{M:JY}{A:Q3}{E:j6->ja->Prop}{i:Nat}{x:Str}{v:V}{u:j6}{Q:Unit->ja->Prop}(I:Inv X pc σ H s)(hN:X.N.Nodup)(hi:X.N[i]?=some x)(hx:Loc X.env.scope x)(r:RelV v u)
  (h:∀ s',Inv X pc (σ.set i (some v)) H s'->(∃ a,Qd a s.heap s'.heap/\(a=X.env.locals∨X.env.cells.lookup x=some a))->Q () s') (hf:X.fn x=true∨X.env.scope.names.lookup x=some .local:=by first |exact .inl rfl |exact .inr rfl |assumption):jF M A (storeName X.env x u) Q E s:=by
 obtain⟨m,hn,hl⟩:=id I.loc;have hcls:(X.env.scope.kind == .class||(X.env.scope.kind == .module&&X.env.locals != X.env.globals))=false:=by rw[I.ok.kind]; rfl
 have hiσ:i < σ.length:=by rw[I.len]; exact(j9.mp hi).1
 have cne:=I.cne;have tracked:∀ {a:ji} {h':Qs},(∃ o,s.heap.get? a=some o/\H a=none)->Qd a s.heap h'->HOk X.prog X.w H h':=fun {a h'} ha hs b ob e=>by
  obtain⟨_,_,hfree⟩:=ha;refine(I.hok b ob e).stay (fun c w' hc q=>(hs.2 c ?_).trans q) (fun _ q=>q) fun _ _ q=>q;rintro rfl;rcases hc with rfl |hc
  ·rw[hfree] at e; cases e
  ·rw[hfree] at hc; cases hc
 rcases hx with hk |hk
 ·refine wpAny_storeName_local hk hn (fun h' hn' hs=>?_) hcls;obtain⟨oL,_,_,hoL,_⟩:=id hn;refine h _ ⟨I.ok,I.os,I.bare,⟨fun b o e n hb hx=>?_,fun b o e n hb hx=>?_,I.base.free,fun b o e hx=>?_,I.base.tups,I.base.frzs,I.base.tbls⟩,⟨_,hn',fun j y v' e1 e2 e3=>?_⟩,fun y c e=>?_,I.free,I.freeC,fun p hp=>?_,tracked ⟨oL,hoL,I.free⟩ hs,by simpa using I.len⟩ ⟨_,hs,.inl rfl⟩
  ·exact(hs.2 b (jI (jQ (jh e) I.ok.above))).trans (I.base.keep b o e n hb hx)
  ·obtain⟨sl,e1⟩:=I.base.slot b o e n hb hx;exact⟨sl,(hs.2 b (jI (jQ (jh e) I.ok.above))).trans e1⟩
  ·obtain⟨o',e1⟩:=I.base.there b o e hx;exact⟨o',(hs.2 b (jI (jQ (jh e) I.ok.above))).trans e1⟩
  ·by_cases hj:j=i
   ·subst hj;rw[hi] at e1; cases e1;rw[jG hiσ] at e2;cases e2;exact⟨u,r,.inl ⟨hk,by simp⟩⟩
   ·rw[jd (ZD hj)] at e2;obtain⟨u',r',q⟩:=hl j y v' e1 e2 e3;refine⟨u',r',?_⟩;rcases q with ⟨k,e⟩ |⟨k,c,e,z⟩
    ·refine .inl ⟨k,?_⟩;have:y≠x:=fun e=>hj (zkS hN e1 (e▸hi));simp[this,e]
    ·exact .inr ⟨k,c,e,z.sameBut hs (cne y c e)⟩
  ·obtain⟨w',z⟩:=I.cell y c e;exact⟨w',z.sameBut hs (cne y c e)⟩
  ·obtain⟨e,n,ne,nf,d⟩:=I.pin p hp;exact⟨(hs.2 p.1 ne).trans e,n,ne,nf,d⟩
 ·have hfn:X.fn x=true:=by
   rcases hf with z |z
   ·exact z
   ·rw[z] at hk; cases hk
  obtain⟨c,hc⟩:=I.ok.has x (.inl hk);obtain⟨w',z⟩:=I.cell x c hc;refine wpAny_storeName_cell I.ok.kind hk hc z (fun h' hc' hs=>?_);obtain⟨oc,hoc,hocd⟩:=id z;refine h { s with heap:=h' } ⟨I.ok,I.os,I.bare,⟨fun b o e n hb hx=>?_,fun b o e n hb hx=>?_,I.base.free,fun b o e hx=>?_,I.base.tups,I.base.frzs,I.base.tbls⟩,⟨m,hn.sameBut hs (ZD (cne x c hc)),fun j y v' e1 e2 e3=>?_⟩,fun y c' e=>?_,I.free,I.freeC,fun p hp=>?_,tracked ⟨oc,hoc,I.freeC x c hc⟩ hs,by simpa using I.len⟩ ⟨c,hs,.inr hc⟩
  ·exact(hs.2 b (jI (jQ (jh e) (I.ok.cab x c hfn hc)))).trans (I.base.keep b o e n hb hx)
  ·obtain⟨sl,e1⟩:=I.base.slot b o e n hb hx;exact⟨sl,(hs.2 b (jI (jQ (jh e) (I.ok.cab x c hfn hc)))).trans e1⟩
  ·obtain⟨o',e1⟩:=I.base.there b o e hx;exact⟨o',(hs.2 b (jI (jQ (jh e) (I.ok.cab x c hfn hc)))).trans e1⟩
  ·by_cases hj:j=i
   ·subst hj;rw[hi] at e1; cases e1;rw[jG hiσ] at e2;cases e2;exact⟨u,r,.inr ⟨.inl hk,c,hc,hc'⟩⟩
   ·rw[jd (ZD hj)] at e2;obtain⟨u',r',q⟩:=hl j y v' e1 e2 e3;refine⟨u',r',?_⟩;rcases q with q |⟨k,c',e,z'⟩
    ·exact .inl q
    ·refine .inr ⟨k,c',e,z'.sameBut hs ?_⟩;rintro rfl;exact hj (zkS hN e1 (I.ok.inj _ _ _ e hc▸hi))
  ·by_cases hcc:c'=c
   ·subst hcc; exact⟨_,hc'⟩
   ·obtain⟨w2,z2⟩:=I.cell y c' e;exact⟨w2,z2.sameBut hs hcc⟩
  ·obtain⟨e,n,ne,nf,d⟩:=I.pin p hp;refine⟨(hs.2 p.1 ?_).trans e,n,ne,nf,d⟩;intro q;rw[q,hoc] at e;have q':oc=p.2:=jc e;exact d w' (by rw[<-q']; exact hocd)
theorem zkD{M:JY}{A:Q3}{E:j6->ja->Prop}{i:Nat}{x:Str}{v:V}{u:j6}{Q:Unit->ja->Prop}(I:Inv X pc σ H s)(hN:X.N.Nodup)(hi:X.N[i]?=some x)(hx:Loc X.env.scope x)(r:RelV v u)
  (h:∀ s',Inv X pc (σ.set i (some v)) H s'->Q () s') (hf:X.fn x=true∨X.env.scope.names.lookup x=some .local:=by first |exact .inl rfl |exact .inr rfl |assumption):jF M A (storeName X.env x u) Q E s:=
 zeQ I hN hi hx r (fun s' I' _=>h s' I') hf
theorem Inv.call'{s':ja}{ch:List ji}(I:Inv X pc σ H s)(ho:s'.os=s.os)(u:Un (frs X.stack) ch H H' s.heap s'.heap)(hok:HOk X.prog X.w H' s'.heap)(hg:YK s'.gens)
  (hch:∀ b∈ch,(b∈X.ex∨X.s₀.heap.objs.size<=b)/\b≠X.env.locals/\(∀ x c,X.env.cells.lookup x=some c->c≠b)/\∀ p∈X.pn++pc,p.1≠b):Inv X pc σ H' s':=by
 obtain⟨h',g',d',t',o'⟩:=s';have e:o'=s.os:=ho;subst e;exact I.call (g':=g') (t':=t') (d':=d') u hok hg hch
end
abbrev XK:=j6->Option ji->Hp->Prop
abbrev St:=List (Option V)
abbrev VK:=V->Hp->Prop
abbrev TE:=St->Hp->VK->Prop
abbrev TT:=St->Hp->(Bool->Hp->Prop)->Prop
abbrev TA:=St->Hp->(List V->Hp->Prop)->Prop
structure Ends where
 nx:St->Hp->Prop
 rt:VK
 bk:St->Hp->Prop:=fun _ _=>False
 ct:St->Hp->Prop:=fun _ _=>False
abbrev TS:=Ends->St->Hp->Prop
def EP(X:Cx)(pc:List (ji × Obj))(σ:St)(Q:VK)(u:j6)(s':ja):Prop:=∃ v H',Inv X pc σ H' s'/\RelV v u/\Q v H'
def TP(X:Cx)(pc:List (ji × Obj))(σ:St)(Q:Bool->Hp->Prop)(b:Bool)(s':ja):Prop:=∃ H',Inv X pc σ H' s'/\Q b H'
def AP(X:Cx)(pc:List (ji × Obj))(σ:St)(Q:List V->Hp->Prop)(us:List j6)(s':ja):Prop:=∃ vs H',Inv X pc σ H' s'/\Vals vs us/\Q vs H'
def SP(X:Cx)(pc:List (ji × Obj))(D:Ends)(f:Flow)(s':ja):Prop:=
 match f with
 |.next=>∃ σ' H',Inv X pc σ' H' s'/\D.nx σ' H'
 |.brk=>∃ σ' H',Inv X pc σ' H' s'/\D.bk σ' H'
 |.cont=>∃ σ' H',Inv X pc σ' H' s'/\D.ct σ' H'
 |.ret u=>∃ v σ' H',Inv X pc σ' H' s'/\RelV v u/\D.rt v H'
def PE(X:Cx)(e:Q4)(t:TE):Prop:=
 ∀(pc:List (ji × Obj)) (s:ja) (σ:St) (H:Hp) (Q:VK),Inv X pc σ H s->t σ H Q->jF (jH X.prog X.w) X.A (eval e X.env) (EP X pc σ Q) X.xe s
def PT(X:Cx)(e:Q4)(t:TT):Prop:=
 ∀(pc:List (ji × Obj)) (s:ja) (σ:St) (H:Hp) (Q:Bool->Hp->Prop),Inv X pc σ H s->t σ H Q->jF (jH X.prog X.w) X.A (Je e X.env (eval e X.env)) (TP X pc σ Q) X.xe s
def PW(X:Cx)(e:Q4)(t:TT):Prop:=
 ∀(whole:Sem j6) (pc:List (ji × Obj)) (s:ja) (σ:St) (H:Hp) (Q:Bool->Hp->Prop),Inv X pc σ H s->t σ H Q->jF (jH X.prog X.w) X.A (Je e X.env whole) (TP X pc σ Q) X.xe s
theorem PW.pt{X:Cx}{e:Q4}{t:TT}(h:PW X e t):PT X e t:=h _
def PA(X:Cx)(es:List Q4)(t:TA):Prop:=
 ∀(pos:Pos) (pc:List (ji × Obj)) (s:ja) (σ:St) (H:Hp) (Q:List V->Hp->Prop),Inv X pc σ H s->t σ H Q->jF (jH X.prog X.w) X.A (spliced (QB pos (je es X.env))) (AP X pc σ Q) X.xe s
def PS(X:Cx)(st:Qw)(t:TS):Prop:=
 ∀(pc:List (ji × Obj)) (s:ja) (σ:St) (H:Hp) (D:Ends),Inv X pc σ H s->t D σ H->jF (jH X.prog X.w) X.A (exec st X.env) (SP X pc D) X.xe s
def PSs(X:Cx)(st:List Qw)(t:TS):Prop:=
 ∀(pc:List (ji × Obj)) (s:ja) (σ:St) (H:Hp) (D:Ends),Inv X pc σ H s->t D σ H->jF (jH X.prog X.w) X.A (execs st X.env) (SP X pc D) X.xe s
theorem thn{α:Type}{t:Sem α}{Q Q':α->ja->Prop}{M:JY}{A:Q3}{E:j6->ja->Prop}{s:ja}(h:jF M A t Q E s)(hQ:∀ a s,Q a s->Q' a s):jF M A t Q' E s:=jO h hQ fun _ _ x=>x
section
def zeO(i:Nat):TE:=fun σ H Q=>∃ v,σ[i]?=some (some v)/\Q v H
def tC(v:V):TE:=fun _ H Q=>Q v H
theorem zsQ{i:Nat}{x:Str}{pos:Pos}(hN:X.N[i]?=some x)(hv:Vis X.env.scope x)(hd:(x == ("__debug__":Str))=false:=by decide)(hcd:(x == ("__classdict__":Str))=false:=by decide):PE X (.Name x pos) (zeO i):=by
 intro pc s σ H Q I h;obtain⟨v,e,h⟩:=h;obtain⟨m,hn,hl⟩:=I.loc;obtain⟨u,r,l⟩:=hl i x v hN e hv;have fin:EP X pc σ Q u s:=⟨v,H,I,r,h⟩;rcases l with ⟨hk,hm⟩ |⟨hk,c,hc,hcell⟩
 ·exact NH (gW I.ok.kind hk hn hm fin) hd
 ·rcases hk with hk |hk
  ·exact NH (wpAny_loadName_cell I.ok.kind hk hc hcell fin) hd
  ·exact NH (wpAny_loadName_free I.ok.kind hk hc hcell fin hcd) hd
theorem zsW{i j pos}:PE X (.Constant (.int i) j pos) (tC (.int i)):=fun _ _ _ H _ I h=>wpAny_Constant_int ⟨.int i,H,I.tok _,⟨_,rfl⟩,h⟩
theorem zsZ{b j pos}:PE X (.Constant (.bool b) j pos) (tC (.bl b)):=fun _ _ _ H _ I h=>Constant_bool ⟨.bl b,H,I,rfl,h⟩
theorem zpk{j pos}:PE X (.Constant .none j pos) (tC .non):=fun _ _ _ H _ I h=>Constant_none ⟨.non,H,I,rfl,h⟩
theorem zkP{x j pos}:PE X (.Constant (.str x) j pos) (tC (.str x)):=fun _ _ _ H _ I h=>Calls.Constant_str ⟨.str x,H,I.tok _,⟨_,rfl⟩,h⟩
def Gl(X:Cx)(x:Str):Prop:=X.env.kindOf x=some .globalImplicit
theorem zeu{E:j6->ja->Prop}{pc:List (ji × Obj)}{s:ja}{σ:St}{H:Hp}{x:Str}{u:j6}{pos:Pos}{Q:j6->ja->Prop}(I:Inv X pc σ H s)(hg:Gl X x)(hm:X.mg x=some u)(h:Q u s)
  (hd:(x == ("__debug__":Str))=false:=by decide):jF (jH X.prog X.w) X.A (eval (.Name x pos) X.env) Q E s:=
 Yf I.ok.kind hg (Calls.loadGlobal_global (by rw[I.ok.glob]; exact I.mod.glob.keeps I.bk) hm h) hd
theorem zel{E:j6->ja->Prop}{pc:List (ji × Obj)}{s:ja}{σ:St}{H:Hp}{x:Str}{u:j6}{pos:Pos}{Q:j6->ja->Prop}(I:Inv X pc σ H s)(hg:Gl X x)(hm:X.mg x=none)(hv:QK x=some u)(h:Q u s)
  (hn:x≠"__name__":=by decide) (hd:(x == ("__debug__":Str))=false:=by decide):jF (jH X.prog X.w) X.A (eval (.Name x pos) X.env) Q E s:=by
 obtain⟨mb,h1,h2⟩:=I.mod.blt;exact Yf I.ok.kind hg (Calls.loadGlobal_builtin (by rw[I.ok.glob]; exact I.mod.glob.keeps I.bk) hm (by rw[I.ok.blt]; exact h1.keeps I.bk) ((h2 x hn).trans hv) h) hd
theorem zgs{x:Str}{v:V}{u:j6}{pos:Pos}(hg:Gl X x)(hm:X.mg x=some u)(r:RelV v u)(hd:(x == ("__debug__":Str))=false:=by decide):PE X (.Name x pos) (tC v):=
 fun _ _ _ H _ I h=>zeu I hg hm ⟨v,H,I,r,h⟩ hd
theorem zn0{x:Str}{v:V}{u:j6}{pos:Pos}(hg:Gl X x)(hm:X.mg x=none)(hv:QK x=some u)(r:RelV v u)(hn:x≠"__name__":=by decide)(hd:(x == ("__debug__":Str))=false:=by decide):PE X (.Name x pos) (tC v):=
 fun _ _ _ H _ I h=>zel I hg hm hv ⟨v,H,I,r,h⟩ hn hd
variable {a:Q4}
def PC(X:Cx)(op:CmpOp)(a b:Q4)(t:TE):Prop:=
 ∀(pc:List (ji × Obj)) (s:ja) (σ:St) (H:Hp) (Q:VK),Inv X pc σ H s->t σ H Q->
  jF (jH X.prog X.w) X.A (eval a X.env) (fun v s₁=>jF (jH X.prog X.w) X.A (eval b X.env) (fun u s₂=>jF (jH X.prog X.w) X.A (QP op v u) (EP X pc σ Q) X.xe s₂) X.xe s₁) X.xe s
def tB(t:TE):TT:=fun σ H Q=>t σ H fun x H1=>∃ c,x=.bl c/\Q c H1
theorem zsX{op:CmpOp}{t:TE}(h:PC X op a b t)(h1:Qy op b=false:=by first |exact nobehind _ (by decide) (by decide) |rfl):PE X (.Compare a [op] [b] pos) t:=fun pc s σ H Q I hw=>wpAny_Compare1 (h pc s σ H Q I hw) h1
theorem zsJ{op:CmpOp}{t:TE}(h:PC X op a b t)(h1:Qy op b=false:=by first |exact nobehind _ (by decide) (by decide) |rfl):PT X (.Compare a [op] [b] pos) (tB t):=by
 intro pc s σ H Q I hw;refine Nk (thn (h pc s σ H _ I hw) fun v s1 h1=>thn h1 fun u s2 h2=>thn h2 fun c s3 ⟨x,H1,I1,r1,q1⟩=>?_) h1;obtain⟨d,rfl,q⟩:=q1;cases r1;exact QR ⟨H1,I1,q⟩
theorem zmO{e:Q4}{t:TE}(h:PE X e t)(he:∀ whole,Je e X.env whole=(do let v <-whole; JH e.pos; Y4 [v] (truthy v)):=by intro _; rfl):PT X e (tB t):=by
 intro pc s σ H Q I hw;refine isTrue_plain (thn (h pc s σ H _ I hw) fun v s1 ⟨x,H1,I1,r1,q1⟩=>?_) (he _);obtain⟨d,rfl,q⟩:=q1;cases r1;exact QR ⟨H1,I1,q⟩
variable {tA tB':TT}{rest:List Q4}
def zx6(t u:TT):TT:=fun σ H Q=>t σ H fun c H1=>if c=true then u σ H1 Q else Q false H1
def tOr(t u:TT):TT:=fun σ H Q=>t σ H fun c H1=>if c=true then Q true H1 else u σ H1 Q
def zx2(t:TT):TT:=fun σ H Q=>t σ H fun c H1=>Q (!c) H1
theorem zqA(ha:PT X a tA):PW X (.BoolOp .And [a] pos) tA:=by
 intro wh pc s σ H Q I h;refine isTrue_and (thn (ha pc s σ H Q I h) fun c s1 e=>?_);cases c with
 |true=>exact isTrue_and_nil e
 |false=>exact e
theorem zpd(ha:PT X a tA):PW X (.BoolOp .Or [a] pos) tA:=by
 intro wh pc s σ H Q I h;refine isTrue_or (thn (ha pc s σ H Q I h) fun c s1 e=>?_);cases c with
 |false=>exact isTrue_or_nil e
 |true=>exact e
theorem zsI(ha:PT X a tA)(hb:PW X (.BoolOp .And (b::rest) pos) tB'):PW X (.BoolOp .And (a::b::rest) pos) (zx6 tA tB'):=by
 intro wh pc s σ H Q I h;refine isTrue_and (thn (ha pc s σ H _ I h) fun c s1 h_=>?_); obtain⟨H1,I1,q1⟩:=h_;cases c with
 |true=>exact hb wh pc s1 σ H1 Q I1 q1
 |false=>exact⟨H1,I1,q1⟩
theorem zsH(ha:PT X a tA)(hb:PW X (.BoolOp .Or (b::rest) pos) tB'):PW X (.BoolOp .Or (a::b::rest) pos) (tOr tA tB'):=by
 intro wh pc s σ H Q I h;refine isTrue_or (thn (ha pc s σ H _ I h) fun c s1 h_=>?_); obtain⟨H1,I1,q1⟩:=h_;cases c with
 |true=>exact⟨H1,I1,q1⟩
 |false=>exact hb wh pc s1 σ H1 Q I1 q1
theorem zmP(ha:PT X a tA):PT X (.UnaryOp .Not a pos) (zx2 tA):=by
 intro pc s σ H Q I h;exact isTrue_not (ha pc s σ H (fun c H1=>Q (!c) H1) I h)
def zuY(ta tb:TE):TE:=fun σ H Q=>ta σ H fun x H1=>∃ c,x=.bl c/\if c=true then tb σ H1 Q else Q (.bl false) H1
def zuV(ta:TE):TE:=fun σ H Q=>ta σ H fun x H1=>∃ c,x=.bl c/\Q (.bl (!c)) H1
theorem zsS{op}{t:TE}(h:PE X a t):PE X (.BoolOp op [a] pos) t:=fun pc s σ H Q I hw=>BoolOp_one (h pc s σ H Q I hw)
theorem zt0(ha:PE X a ta)(hb:PE X (.BoolOp .And (b::rest) pos) tb):PE X (.BoolOp .And (a::b::rest) pos) (zuY ta tb):=by
 intro pc s σ H Q I h;refine BoolOp_and (thn (ha pc s σ H _ I h) fun v s1 h_=>?_); obtain⟨x,H1,I1,r1,q1⟩:=h_;obtain⟨c,rfl,q1⟩:=q1;cases r1;refine QR ?_;cases c with
 |true=>exact hb pc s1 σ H1 Q I1 q1
 |false=>exact⟨.bl false,H1,I1,rfl,q1⟩
theorem zsT(ha:PE X a ta):PE X (.UnaryOp .Not a pos) (zuV ta):=by
 intro pc s σ H Q I h;refine UnaryOp_ (thn (ha pc s σ H _ I h) fun v s1 h_=>?_); obtain⟨x,H1,I1,r1,q1⟩:=h_;obtain⟨c,rfl,q1⟩:=q1;cases r1;exact not_of (QR ⟨.bl (!c),H1,I1,rfl,q1⟩)
def tIf(t:TT)(ta tb:TE):TE:=fun σ H Q=>t σ H fun c H1=>if c=true then ta σ H1 Q else tb σ H1 Q
theorem zou{c:Q4}(hc:PT X c tA)(ha:PE X a ta)(hb:PE X b tb):PE X (.IfExp c a b pos) (tIf tA ta tb):=by
 intro pc s σ H Q I h;refine wpAny_IfExp (thn (hc pc s σ H _ I h) fun d s1 h_=>?_); obtain⟨H1,I1,q1⟩:=h_;cases d with
 |true=>exact ha pc s1 σ H1 Q I1 q1
 |false=>exact hb pc s1 σ H1 Q I1 q1
end
def SqL(K:j8)(H:Hp)(a:ji)(xs:List V):Prop:=
 Rd H a (.lst xs) ∨
  ∃(o:Obj) (its:Array j6) (n:Nat),K.lookup a=some o/\o.cls=.type "list"/\o.dict=none/\o.data=.seq its n/\its.size<=jn/\Vals xs its.toList
def SqT(K:j8)(H:Hp)(a:ji)(xs:List V):Prop:=
 Rd H a (.tup xs) ∨
  ∃(o:Obj) (its:Array j6) (n:Nat),K.lookup a=some o/\o.cls=.type "tuple"/\o.data=.seq its n/\its.size<=jn/\Vals xs its.toList
def zxp:j6->Option V
 |.none=>some .non
 |.bool b=>some (.bl b)
 |.int i _=>some (.int i)
 |.str x _=>some (.str x)
 |.bytes b _=>some (.byt b)
 |.float b _=>some (.flt b)
 |.ref a=>some (.ref a)
 |.type n=>some (.ty n)
 |_=>none
theorem RelV.abs{x:V}{u:j6}(r:RelV x u):zxp u=some x:=by
 cases x with
 |non=>cases r; rfl
 |bl _=>cases r; rfl
 |int _=>obtain⟨t,rfl⟩:=r; rfl
 |str _=>obtain⟨t,rfl⟩:=r; rfl
 |byt _=>obtain⟨t,rfl⟩:=r; rfl
 |flt _=>obtain⟨t,rfl⟩:=r; rfl
 |ref _=>cases r; rfl
 |ty _=>cases r; rfl
theorem RelV.inj{x y:V}{u:j6}(r:RelV x u)(q:RelV y u):x=y:=jc (r.abs.symm.trans q.abs)
theorem Vals.inj:∀ {xs ys:List V} {us:List j6},Vals xs us->Vals ys us->xs=ys
 |_,_,_,.nil,.nil=>rfl
 |_,_,_,.cons r t,.cons r' t'=>by rw[r.inj r',Vals.inj t t']
section
variable {xs ys:List V}
theorem SqL.of{K:j8}(h:H a=some (.lst xs)):SqL K H a xs:=.inl (.inl h)
theorem SqT.of{K:j8}(h:H a=some (.tup xs)):SqT K H a xs:=.inl (.inl h)
theorem Inv.list(I:Inv X pc σ H s)(h:SqL X.K H a xs):∃ its:List j6,Vals xs its/\PlainL s.heap a its.toArray/\xs.length<=jn:=by
 rcases h with h |⟨o,its,n,hk,hc,hd,hs,hz,r⟩
 ·obtain⟨z,its,n,r,e⟩:=h.ok I.hok;exact⟨its,r,⟨_,n,e,rfl,rfl,rfl⟩,z⟩
 ·refine⟨its.toList,r,⟨o,n,I.kIn a o hk,hc,hd,by simpa using hs⟩,?_⟩
  have e:=r.length;simp only[QC] at e;lia
theorem Inv.tuple(I:Inv X pc σ H s)(h:SqT X.K H a xs):∃ its:List j6,Vals xs its/\IsTup s.heap a its.toArray/\xs.length<=jn:=by
 rcases h with h |⟨o,its,n,hk,hc,hs,hz,r⟩
 ·obtain⟨z,its,r,p⟩:=h.ok I.hok;exact⟨its,r,p,z⟩
 ·refine⟨its.toList,r,⟨o,I.kIn a o hk,hc,n,by simpa using hs⟩,?_⟩
  have e:=r.length;simp only[QC] at e;lia
theorem Inv.list_inj(I:Inv X pc σ H s)(h:SqL X.K H a xs)(h':SqL X.K H a ys):xs=ys:=by
 obtain⟨its,r,⟨o,n,e,_,_,d⟩,_⟩:=I.list h;obtain⟨its',r',⟨o',n',e',_,_,d'⟩,_⟩:=I.list h';rw[e] at e'; cases e';rw[d] at d';injection d' with d1 _;have:its=its':=by simpa using congrArg JZ d1
 subst this;exact r.inj r'
theorem Inv.tuple_inj(I:Inv X pc σ H s)(h:SqT X.K H a xs)(h':SqT X.K H a ys):xs=ys:=by
 obtain⟨its,r,⟨o,e,_,n,d⟩,_⟩:=I.tuple h;obtain⟨its',r',⟨o',e',_,n',d'⟩,_⟩:=I.tuple h';rw[e] at e'; cases e';rw[d] at d';injection d' with d1 _;have:its=its':=by simpa using congrArg JZ d1
 subst this;exact r.inj r'
end
abbrev Cx.wish(X:Cx)(E:j6->ja->Prop):Cx:={ X with xe:=E }
abbrev Cx.nox(X:Cx):Cx:=X.wish fun _ _=>False
theorem Cx.Ok.wish{X:Cx}(ok:X.Ok)(E:j6->ja->Prop):(X.wish E).Ok:=
 ⟨ok.mod,ok.kind,ok.glob,ok.blt,ok.above,ok.inj,ok.has,ok.cab,ok.hd,ok.frames,ok.stk,ok.exf,ok.bs,ok.bsz,ok.noex,ok.exfs,ok.funs,ok.frf⟩
theorem Cx.Ok.unwish{X:Cx}{E:j6->ja->Prop}(ok:(X.wish E).Ok):X.Ok:=
 ⟨ok.mod,ok.kind,ok.glob,ok.blt,ok.above,ok.inj,ok.has,ok.cab,ok.hd,ok.frames,ok.stk,ok.exf,ok.bs,ok.bsz,ok.noex,ok.exfs,ok.funs,ok.frf⟩
section
variable {E:j6->ja->Prop}
theorem Inv.wish(I:Inv X pc σ H s)(E:j6->ja->Prop):Inv (X.wish E) pc σ H s:=⟨I.ok.wish E,I.os,I.bare,I.base,I.loc,I.cell,I.free,I.freeC,I.pin,I.hok,I.len⟩
theorem Inv.unwish(I:Inv (X.wish E) pc σ H s):Inv X pc σ H s:=⟨I.ok.unwish,I.os,I.bare,I.base,I.loc,I.cell,I.free,I.freeC,I.pin,I.hok,I.len⟩
theorem SP.unwish{D:Ends}{f:Flow}{s':ja}(h:SP (X.wish E) pc D f s'):SP X pc D f s':=by
 cases f with
 |next=>obtain⟨σ',H',I,q⟩:=h; exact⟨σ',H',I.unwish,q⟩
 |brk=>obtain⟨σ',H',I,q⟩:=h; exact⟨σ',H',I.unwish,q⟩
 |cont=>obtain⟨σ',H',I,q⟩:=h; exact⟨σ',H',I.unwish,q⟩
 |ret u=>obtain⟨v,σ',H',I,r,q⟩:=h; exact⟨v,σ',H',I.unwish,r,q⟩
theorem PSs.nox{st:List Qw}{t:TS}(h:PSs X.nox st t):PSs X st t:=fun pc s σ H D I hw=>
 jO (h pc s σ H D (I.wish _) hw) (fun _ _ q=>q.unwish) fun _ _ z=>Qu z
end
section
variable {st:Qw}{rest:List Qw}{t u:TS}{te:TE}
def zuW:TS:=fun D σ H=>D.nx σ H
def zwf(t u:TS):TS:=fun D σ H=>t { D with nx:=u D } σ H
theorem zhQ:PSs X [] zuW:=fun _ _ σ H _ I h=>Z7 ⟨σ,H,I,h⟩
theorem zdh(h1:PS X st t)(h2:PSs X rest u):PSs X (st::rest) (zwf t u):=by
 intro pc s σ H D I h;refine ZY (thn (h1 pc s σ H { D with nx:=u D } I h) fun f s1 q=>?_);cases f with
 |next=>
  obtain⟨σ',H',I',q⟩:=q;exact h2 pc s1 σ' H' D I' q
 |ret v=>exact q
 |brk=>exact q
 |cont=>exact q
theorem zc1(h1:PS X st t):PSs X [st] t:=by
 intro pc s σ H D I h;refine ZY (thn (h1 pc s σ H D I h) fun f s1 q=>?_);cases f with
 |next=>exact Z7 q
 |ret v=>exact q
 |brk=>exact q
 |cont=>exact q
theorem Inv.quiet{pc:List (ji × Obj)}{σ:St}{H:Hp}{s:ja}(I:Inv X pc σ H s):interactive X.env=false:=by simp[interactive,I.ok.kind]
def zq5(te:TE):TS:=fun D σ H=>te σ H fun _ H1=>D.nx σ H1
theorem zmV(he:PE X e te)(hs:Zy e none pos.line X.env=pure false:=by rfl):PS X (.Expr e pos) (zq5 te):=by
 intro pc s σ H D I h;exact wpAny_Expr_any (thn (he pc s σ H _ I h) fun v s1 ⟨x,H1,I1,r1,q1⟩=>⟨σ,H1,I1,q1⟩) I.quiet hs
def ztZ(te:TE):TS:=fun D σ H=>te σ H D.rt
theorem zdQ(he:PE X e te):PS X (.Return (some e) pos) (ztZ te):=by
 intro pc s σ H D I h;exact wpAny_Return_some (thn (he pc s σ H _ I h) fun v s1 ⟨x,H1,I1,r1,q1⟩=>⟨x,σ,H1,I1,r1,q1⟩)
def zx5(c:TT)(t u:TS):TS:=fun D σ H=>c σ H fun b H1=>if b=true then t D σ H1 else u D σ H1
theorem zmU{c:Q4}{a b:List Qw}{tc:TT}(hc:PT X c tc)(ha:PSs X a t)(hb:PSs X b u):PS X (.If c a b pos) (zx5 tc t u):=by
 intro pc s σ H D I h;refine wpAny_If (thn (hc pc s σ H _ I h) fun d s1 h_=>?_); obtain⟨H1,I1,q1⟩:=h_;cases d with
 |true=>exact ha pc s1 σ H1 D I1 q1
 |false=>exact hb pc s1 σ H1 D I1 q1
end
abbrev TG:=V->St->Hp->(St->Hp->Prop)->Prop
abbrev TGs:=List V->St->Hp->(St->Hp->Prop)->Prop
def PG(X:Cx)(target:Q4)(t:TG):Prop:=
 ∀(pc:List (ji × Obj)) (s:ja) (σ:St) (H:Hp) (v:V) (u:j6) (Q:St->Hp->Prop),Inv X pc σ H s->RelV v u->t v σ H Q->
  jF (jH X.prog X.w) X.A (gR target X.env u) (fun _ s'=>∃ σ' H',Inv X pc σ' H' s'/\Q σ' H') X.xe s
def PGs(X:Cx)(ts:List Q4)(t:TGs):Prop:=
 ∀(pc:List (ji × Obj)) (s:ja) (σ:St) (H:Hp) (vs:List V) (us:List j6) (Q:St->Hp->Prop),Inv X pc σ H s->Vals vs us->t vs σ H Q->
  jF (jH X.prog X.w) X.A (assignInOrder ((Qi ts X.env).map (·.2)) us) (fun _ s'=>∃ σ' H',Inv X pc σ' H' s'/\Q σ' H') X.xe s
abbrev zuc:=V->V->V->Hp->(Hp->Prop)->Prop
def zw3(X:Cx)(t:zuc):Prop:=
 ∀(pc:List (ji × Obj)) (s:ja) (σ:St) (H:Hp) (o i v:V) (ov iv u:j6) (Q:Hp->Prop),Inv X pc σ H s->RelV o ov->RelV i iv->RelV v u->t o i v H Q->
  jF (jH X.prog X.w) X.A (setItem ov iv u) (fun _ s'=>∃ H',Inv X pc σ H' s'/\Q H') X.xe s
section
def zcw(i:Nat):TG:=fun v σ H Q=>Q (σ.set i (some v)) H
theorem zqO{i:Nat}{x:Str}(hN:X.N.Nodup)(hi:X.N[i]?=some x)(hx:Loc X.env.scope x)(hf:X.fn x=true∨X.env.scope.names.lookup x=some .local:=by first |exact .inl rfl |exact .inr rfl |assumption):PG X (.Name x pos) (zcw i):=by
 intro pc s σ H v u Q I r h;exact Ys (zkD I hN hi hx r (fun s' I'=>⟨_,H,I',h⟩) hf)
def zr8:TGs:=fun vs σ H Q=>vs=[]/\Q σ H
def zj6(t:TG)(u:TGs):TGs:=fun vs σ H Q=>∃ v r,vs=v::r/\t v σ H fun σ' H'=>u r σ' H' Q
theorem zqM:PGs X [] zr8:=by
 intro pc s σ H vs us Q I r h;obtain⟨e,h⟩:=h;subst e;cases r;exact assignInOrder_nil ⟨σ,H,I,h⟩
theorem zot{e:Q4}{es:List Q4}{t:TG}{u:TGs}(h1:PG X e t)(h2:PGs X es u)
  (hs:(Qi (e::es) X.env).map (·.2)=gR e X.env::(Qi es X.env).map (·.2):=by rfl):PGs X (e::es) (zj6 t u):=by
 intro pc s σ H vs us Q I r h;obtain⟨v,vr,e1,h⟩:=h;subst e1;cases r with
 |cons r rr=>
  rw[hs];refine assignInOrder_cons (thn (h1 pc s σ H _ _ _ I r h) fun _ s1 h_=>?_); obtain⟨σ1,H1,I1,q1⟩:=h_;exact h2 pc s1 σ1 H1 _ _ Q I1 rr q1
def zlQ(K:j8)(n:Nat)(t:TGs):TG:=fun v σ H Q=>∃ a xs,v=.ref a/\SqT K H a xs/\xs.length=n/\t xs σ H Q
theorem zpi{es:List Q4}{k:Nat}{t:TGs}{n:Nat}(hc:X.calm=true)(h:PGs X es t)
  (hn:(Qi es X.env).length=n:=by rfl) (hst:(Qi es X.env).findIdx? (·.1)=none:=by rfl):PG X (.Tuple es k pos) (zlQ X.K n t):=by
 intro pc s σ H v u Q I r hw;obtain⟨a,xs,e1,hq,hl,hw⟩:=hw;subst e1;cases r;obtain⟨its,rv,ht,hz⟩:=I.tuple hq;refine assign_Tuple_tuple (I.ok.hd hc) ht (by simp[hn,<-hl,rv.length]) hst fun h' hx=>?_
 have I1:Inv X pc σ H { s with heap:=h' }:=I.kept (t':=s.toks) fun b o e=>hx b o (jI (jh e)) e;exact h pc _ σ H xs _ Q I1 (by simpa using rv) hw
def zvN(to ti:TE)(t:zuc):TG:=fun v σ H Q=>to σ H fun o H1=>ti σ H1 fun i H2=>t o i v H2 fun H3=>Q σ H3
theorem zsO{o i:Q4}{to ti:TE}{t:zuc}(ho:PE X o to)(hi:PE X i ti)(hs:zw3 X t)
  (ha:∀ v,gR (.Subscript o i pos) X.env v=(do
   let ov <-Y4 [v] (eval o X.env)
   let iv <-Y4 [v,ov] (eval i X.env)
   JH pos
   Y4 [v,ov,iv] (setItem ov iv v)
   release [v,ov,iv] []):=by intro _; rfl):PG X (.Subscript o i pos) (zvN to ti t):=by
 intro pc s σ H v u Q I r h;rw[ha];refine j4 (Qe (thn (ho pc s σ H _ I h) fun ov s1 h_=>?_)); obtain⟨x,H1,I1,r1,q1⟩:=h_;refine j4 (Qe (thn (hi pc s1 σ H1 _ I1 q1) fun iv s2 h_=>?_)); obtain⟨y,H2,I2,r2,q2⟩:=h_;refine j4 (Z5 (j4 (Qe (thn (hs pc s2 σ H2 x y v ov iv u _ I2 r1 r2 r q2) fun _ s3 h_=>?_)))); obtain⟨H3,I3,q3⟩:=h_;exact wpAny_release ⟨σ,H3,I3,q3⟩
def zgY(te:TE)(g:TG):TS:=fun D σ H=>te σ H fun x H1=>g x σ H1 D.nx
theorem zsL{tg e:Q4}{te:TE}{g:TG}(he:PE X e te)(hg:PG X tg g)(hs:swapsWithSole [tg] e pos.line X.env=pure false:=by rfl)(hw:swappedStores [tg] e X.env=pure none:=by rfl)
  (h1:(Qi [tg] X.env).map (·.2)=[gR tg X.env]:=by rfl):PS X (.Assign [tg] e pos) (zgY te g):=by
 intro pc s σ H D I h;refine wpAny_Assign_stores (thn (he pc s σ H _ I h) fun v s1 ⟨x,H1,I1,r1,q1⟩=>?_) hs hw;rw[h1];exact thn (hg pc s1 σ H1 x v _ I1 r1 q1) fun _ s2 q=>q
theorem zph{i:Nat}{x:Str}{e:Q4}{te:TE}{pos':Pos}(hN:X.N.Nodup)(hi:X.N[i]?=some x)(hx:Loc X.env.scope x)(he:PE X e te)(hs:Zy e (some (.Name x pos')) pos.line X.env=pure false:=by rfl)(hf:X.fn x=true∨X.env.scope.names.lookup x=some .local:=by first |exact .inl rfl |exact .inr rfl |assumption) :
  PS X (.Assign [.Name x pos'] e pos) (zgY te (zcw i)):=by
 intro pc s σ H D I h;refine wpAny_Assign_Name (thn (he pc s σ H _ I h) fun v s1 ⟨y,H1,I1,r1,q1⟩=>?_) hs;exact zkD I1 hN hi hx r1 (fun s2 I2=>⟨_,H1,I2,q1⟩) hf
end
section
def zp8(c:TT)(tb:TS):TS:=fun D σ H=>∃ W:Nat->St->Hp->Prop,(∃ m,W m σ H)/\∀ m σ H,W m σ H->
 c σ H fun b H1=>if b=true then ∃ N:St->Hp->Prop,(∀ σ' H',N σ' H'->∃ m',m' < m/\W m' σ' H')/\tb { D with nx:=N,ct:=N,bk:=D.nx } σ H1 else D.nx σ H1
theorem zoo{c:Q4}{body:List Qw}{tc:TT}{tb:TS}(hp:Jf (jH X.prog X.w) X.A X.env X.xe)(hc:PT X c tc)(hb:PSs X body tb):PS X (.While c body [] pos) (zp8 tc tb):=by
 intro pc s σ H D I h;obtain⟨W,⟨m0,w0⟩,turn⟩:=h;refine wpAny_While (codeAny_whileLoop (fun n s'=>∃ σ' H',Inv X pc σ' H' s'/\W n σ' H') ?_ m0 ⟨σ,H,I,w0⟩);rintro n s1 ⟨σ1,H1,I1,w1⟩;refine Zl hp (thn (hc pc s1 σ1 H1 _ I1 (turn n σ1 H1 w1)) fun b s2 h_=>?_); obtain⟨H2,I2,q2⟩:=h_;cases b with
 |true=>
  obtain⟨N,hN,q2⟩:=q2;rw[Ip_ rfl];refine Zl hp (thn (hb pc s2 σ1 H2 _ I2 q2) fun f s3 q3=>?_);cases f with
  |next=>
   obtain⟨σ3,H3,I3,n3⟩:=q3;obtain⟨m',hm,w3⟩:=hN σ3 H3 n3;exact⟨m',hm,σ3,H3,I3,w3⟩
  |cont=>
   obtain⟨σ3,H3,I3,n3⟩:=q3;obtain⟨m',hm,w3⟩:=hN σ3 H3 n3;exact⟨m',hm,σ3,H3,I3,w3⟩
  |brk=>exact q3
  |ret v=>exact q3
 |false=>
  rw[In_ jK];exact Z7 ⟨σ1,H2,I2,q2⟩
end
structure It where
 go:Nat->Hp->Prop
 yld:Nat->Hp->V->Hp->Prop
 stop:Nat->Hp->Prop
def zjv(X:Cx)(pc:List (ji × Obj))(H:Hp)(b:ji):Prop:=
 H b=none/\b≠X.env.locals/\b∉X.fs/\(b∈X.ex∨X.s₀.heap.objs.size<=b)/\(∀ x c,X.env.cells.lookup x=some c->c≠b)/\∀ p∈X.pn++pc,p.1≠b
theorem Inv.fpOk{X:Cx}{pc:List (ji × Obj)}{σ:St}{H H':Hp}{s:ja}{b:ji}(I:Inv X pc σ H s)(hb:s.heap.objs.size<=b)(hn:H' b=none):zjv X pc H' b:=by
 refine⟨hn,gS (jQ I.lt hb),I.nofs hb,.inr (Q9 I.sz hb),fun x c e z=>?_,fun p hp z=>?_⟩
 ·obtain⟨v,q⟩:=I.cell x c e;exact absurd (jQ q.lt (by rw[z]; exact hb)) (Qk _)
 ·exact absurd (jQ (jh (I.pin p hp).1) (by rw[z]; exact hb)) (Qk _)
structure Turn (P:jE) (w:Qa) (K:j8) (tg:Q4) (J:It) (fp:List ji) (it:ji) (tn:Nat->Qs->Prop):Prop where
 mem:it∈fp
 obj:∀ i h,tn i h->∀ b∈fp,∃ o,h.get? b=some o/\∀ v,o.data≠.cell v
 keep:∀ i h h',tn i h->(∀ b∈fp,∀ o,h.get? b=some o->h'.get? b=some o)->tn i h'
 item:∀(X:Cx),X.prog=P->X.w=w->X.K=K->X.calm=true->∀(i:Nat) (pc:List (ji × Obj)) (s:ja) (σ:St) (H:Hp) (E:j6->ja->Prop),Inv X pc σ H s->(∀ b∈fp,zjv X pc H b)->tn i s.heap->J.go i H->
  jF (jH P w) X.A (NS (.ref it)) (fun r s1=>∃ u,r=some u /\
   jF (jH P w) X.A (ZG tg (.ref it) u) (fun _ s2=>∃ x H',Inv X pc σ H' s2/\RelV x u/\J.yld i H x H'/\tn (i+1) s2.heap/\∀ b∈fp,H' b=none) E s1) E s
 done:∀(X:Cx),X.prog=P->X.w=w->X.K=K->X.calm=true->∀(i:Nat) (pc:List (ji × Obj)) (s:ja) (σ:St) (H:Hp) (E:j6->ja->Prop),Inv X pc σ H s->(∀ b∈fp,zjv X pc H b)->tn i s.heap->J.stop i H->
  jF (jH P w) X.A (NS (.ref it)) (fun r s1=>r=none/\Inv X pc σ H s1) E s
 self:∀(A:Q3) (i:Nat) (s:ja) (Q:j6->ja->Prop) (E:j6->ja->Prop),tn i s.heap->Q (.ref it) s->jF (jH P w) A (pyIter (.ref it)) Q E s
abbrev TI:=St->Hp->(It->Hp->Prop)->Prop
def PIE(X:Cx)(pc:List (ji × Obj))(σ:St)(tg:Q4)(R:It->Hp->Prop)(itv:j6)(s2:ja):Prop:=
 ∃(it:ji) (fp:List ji) (tn:Nat->Qs->Prop) (J:It) (H':Hp),itv=.ref it/\Inv X pc σ H' s2/\Turn X.prog X.w X.K tg J fp it tn/\tn 0 s2.heap/\(∀ b∈fp,zjv X pc H' b)/\R J H'
def PI(X:Cx)(tg iter:Q4)(wi:TI):Prop:=
 ∀(pc:List (ji × Obj)) (s:ja) (σ:St) (H:Hp) (R:It->Hp->Prop),Inv X pc σ H s->wi σ H R->
  jF (jH X.prog X.w) X.A (eval iter X.env) (fun v s1=>jF (jH X.prog X.w) X.A (pyIter v) (PIE X pc σ tg R) X.xe s1) X.xe s
theorem zno{M:JY}{A:Q3}{E:j6->ja->Prop}{s:ja}{tg:Q4}{it:ji}{u:j6}{o:Obj}{n:String}{vs:Array j6}{Q:Unit->ja->Prop}(ho:s.heap.get? it=some o)(hc:o.cls=.type n)(hd:o.data=.fields vs)
    (hn:["enumerate","zip","dict_itemiterator","dict_reverseitemiterator","odict_iterator","itertools.zip_longest","itertools.pairwise"].contains n=false) (hQ:Q () s):jF M A (ZG tg (.ref it) u) Q E s:=by
  unfold ZG;cases tg<;>first
    |exact jg hQ
    | (cases u<;>first
        |exact jg hQ
        | (refine j4 (wpAny_load ho ?_)
           rw[hc,hd];show jF M A (if (["enumerate","zip","dict_itemiterator","dict_reverseitemiterator","odict_iterator","itertools.zip_longest","itertools.pairwise"].contains n&&vs[0]? == some (rawInt _))=true then _ else _) Q E s
           rw[In_ (by intro h; rw[hn,Yl] at h; cases h)]
           exact jg hQ))
def Itl(K:j8)(a:ji):It:=
 ⟨fun i H=>∃ xs x,SqL K H a xs/\xs[i]?=some x,fun i H x H'=>H'=H/\∀ xs,SqL K H a xs->xs[i]?=some x,fun i H=>∃ xs,SqL K H a xs/\xs.length<=i⟩
def Itt(K:j8)(a:ji):It:=
 ⟨fun i H=>∃ xs x,SqT K H a xs/\xs[i]?=some x,fun i H x H'=>H'=H/\∀ xs,SqT K H a xs->xs[i]?=some x,fun i H=>∃ xs,SqT K H a xs/\xs.length<=i⟩
def Itr(lo:Int)(n:Nat):It:=⟨fun i _=>i < n,fun i H x H'=>H'=H/\x=.int (lo+i),fun i _=>n<=i⟩
theorem zmg{P:jE}{w:Qa}{K:j8}{tg:Q4}(a it:ji):Turn P w K tg (Itl K a) [it] it (fun i h=>h.IsListIter it a i) where
 mem:=by simp
 obj:=fun i h st b hb=>by
  have e:b=it:=by simpa using hb
  subst e;obtain⟨o,e,c,d⟩:=st;exact⟨o,e,fun v z=>by rw[d] at z; cases z⟩
 keep:=fun i h h' st k=>st.at fun o e=>k it (by simp) o e
 item:=by
  intro X hP hw hK hc i pc s σ H E I hf st hg;subst hP hw hK;obtain⟨xs,x,hq,hx⟩:=hg;obtain⟨its,rv,p,hz⟩:=I.list hq;obtain⟨u,hu,ru⟩:=rv.get hx;obtain⟨f0,f1,f2,f3,f4,f5⟩:=hf it (by simp)
  refine N9 st p.isList (x:=u) (by simpa using hu) fun h' st' sb=>?_
  have I1:Inv X pc σ H { s with heap:=h' }:=I.turned (t':=s.toks) (fun b o hb e=>(sb.2 b hb).trans e) f0 f1 f3 f4 f5;obtain⟨o,e,c,d⟩:=id st';exact⟨u,rfl,zno (s:={ s with heap:=h' }) e c d (by decide) ⟨x,H,I1,ru,⟨rfl,fun ys hy=>by rw[I.list_inj hy hq]; exact hx⟩,st',fun b hb=>(hf b hb).1⟩⟩
 done:=by
  intro X hP hw hK hc i pc s σ H E I hf st hg;subst hP hw hK;obtain⟨xs,hq,hx⟩:=hg;obtain⟨its,rv,p,hz⟩:=I.list hq;obtain⟨f0,f1,f2,f3,f4,f5⟩:=hf it (by simp)
  have hl:=rv.length;exact Nl (I.ok.hd hc) st p.isList (by simp; lia) fun h' eb=>⟨rfl,I.turned (t':=s.toks) (fun b o hb e=>eb b o hb e) f0 f1 f3 f4 f5⟩
 self:=fun _ _ _ _ _ st h=>wpAny_pyIter_listiter st h
theorem zlv{P:jE}{w:Qa}{K:j8}{tg:Q4}(a it:ji):Turn P w K tg (Itt K a) [it] it (fun i h=>h.IsTupleIter it a i) where
 mem:=by simp
 obj:=fun i h st b hb=>by
  have e:b=it:=by simpa using hb
  subst e;obtain⟨o,e,c,d⟩:=st;exact⟨o,e,fun v z=>by rw[d] at z; cases z⟩
 keep:=fun i h h' st k=>st.at fun o e=>k it (by simp) o e
 item:=by
  intro X hP hw hK hc i pc s σ H E I hf st hg;subst hP hw hK;obtain⟨xs,x,hq,hx⟩:=hg;obtain⟨its,rv,p,hz⟩:=I.tuple hq;obtain⟨u,hu,ru⟩:=rv.get hx;obtain⟨f0,f1,f2,f3,f4,f5⟩:=hf it (by simp)
  refine wpAny_pyNext_tuple_item st (show s.heap.IsTuple a its.toArray from p) (x:=u) (by simpa using hu) fun h' st' sb=>?_
  have I1:Inv X pc σ H { s with heap:=h' }:=I.turned (t':=s.toks) (fun b o hb e=>(sb.2 b hb).trans e) f0 f1 f3 f4 f5;obtain⟨o,e,c,d⟩:=id st';exact⟨u,rfl,zno (s:={ s with heap:=h' }) e c d (by decide) ⟨x,H,I1,ru,⟨rfl,fun ys hy=>by rw[I.tuple_inj hy hq]; exact hx⟩,st',fun b hb=>(hf b hb).1⟩⟩
 done:=by
  intro X hP hw hK hc i pc s σ H E I hf st hg;subst hP hw hK;obtain⟨xs,hq,hx⟩:=hg;obtain⟨its,rv,p,hz⟩:=I.tuple hq;obtain⟨f0,f1,f2,f3,f4,f5⟩:=hf it (by simp)
  have hl:=rv.length;exact wpAny_pyNext_tuple_end (I.ok.hd hc) st (show s.heap.IsTuple a its.toArray from p) (by simp; lia) fun h' eb=>⟨rfl,I.turned (t':=s.toks) (fun b o hb e=>eb b o hb e) f0 f1 f3 f4 f5⟩
 self:=fun _ _ _ _ _ st h=>wpAny_pyIter_tupleiter st h
theorem zlw{P:jE}{w:Qa}{K:j8}{tg:Q4}(it:ji)(lo:Int)(n:Nat):Turn P w K tg (Itr lo n) [it] it (fun i h=>IsRangeIter h it (lo+(i:Nat)*1) ((n:Int) - (i:Nat)) 1) where
 mem:=by simp
 obj:=fun i h st b hb=>by
  have e:b=it:=by simpa using hb
  subst e
  exact⟨_,st,fun v z=>by
   have z':Jg _=W9 v:=z
   cases z'⟩
 keep:=fun i h h' st k=>k it (by simp) _ st
 item:=by
  intro X hP hw hK hc i pc s σ H E I hf st hg;subst hP hw hK;obtain⟨f0,f1,f2,f3,f4,f5⟩:=hf it (by simp)
  have W:=Walks.range (prog:=X.prog) (w:=X.w) (I.ok.hd hc) it lo 1 n;refine W.item i s _ _ hg st fun v h' tk hv st' kk=>?_;obtain⟨t,rfl⟩:=hv;have I1:Inv X pc σ H { s with heap:=h',toks:=tk }:=I.turned (fun b o hb e=>kk b o (by simpa using hb) e) f0 f1 f3 f4 f5
  refine⟨_,rfl,zno (s:={ s with heap:=h',toks:=tk }) (n:="range_iterator") st' rfl rfl (by decide) ⟨.int (lo+i),H,I1,⟨t,?_⟩,⟨rfl,rfl⟩,st',fun b hb=>(hf b hb).1⟩⟩
  rw[Int.mul_one]
 done:=by
  intro X hP hw hK hc i pc s σ H E I hf st hg;subst hP hw hK;obtain⟨f0,f1,f2,f3,f4,f5⟩:=hf it (by simp)
  exact wpAny_pyNext_range_end (I.ok.hd hc) st (by have:n<=i:=hg; lia) fun h' eb=>⟨rfl,I.turned (t':=s.toks) (fun b o hb e=>eb b o hb e) f0 f1 f3 f4 f5⟩
 self:=fun _ _ _ _ _ st h=>wpAny_pyIter_rangeiter st h
section
variable {tg:Q4}
def ztq(K:j8)(tl:TE):TI:=fun σ H R=>tl σ H fun x H1=>∃ a,x=.ref a/\(∃ xs,SqL K H1 a xs)/\R (Itl K a) H1
def zxl(K:j8)(tl:TE):TI:=fun σ H R=>tl σ H fun x H1=>∃ a,x=.ref a/\(∃ xs,SqT K H1 a xs)/\R (Itt K a) H1
theorem zqJ{l:Q4}{tl:TE}(hl:PE X l tl):PI X tg l (ztq X.K tl):=by
 intro pc s σ H R I h;refine thn (hl pc s σ H _ I h) fun v s1 h_=>?_; obtain⟨x,H1,I1,r1,q1⟩:=h_;obtain⟨a,e,⟨xs,hq⟩,q⟩:=q1;subst e;cases r1;obtain⟨its,rv,p,hz⟩:=I1.list hq;refine Yt p.isList ?_;refine⟨s1.heap.objs.size,[s1.heap.objs.size],_,_,H1,rfl,I1.kept (t':=s1.toks) fun b o e=>jb _ e,zmg a _,⟨_,jN _ rfl,rfl,rfl⟩,fun b hb=>?_,q⟩;have e:b=s1.heap.objs.size:=by simpa using hb
 subst e;exact I1.fpOk (jj _) (I1.hok.fresh (jj _))
theorem zsM{l:Q4}{tl:TE}(hl:PE X l tl):PI X tg l (zxl X.K tl):=by
 intro pc s σ H R I h;refine thn (hl pc s σ H _ I h) fun v s1 h_=>?_; obtain⟨x,H1,I1,r1,q1⟩:=h_;obtain⟨a,e,⟨xs,hq⟩,q⟩:=q1;subst e;cases r1;obtain⟨its,rv,p,hz⟩:=I1.tuple hq;refine wpAny_pyIter_tuple (show s1.heap.IsTuple a its.toArray from p) ?_;refine⟨s1.heap.objs.size,[s1.heap.objs.size],_,_,H1,rfl,I1.kept (t':=s1.toks) fun b o e=>jb _ e,zlv a _,⟨_,jN _ rfl,rfl,rfl⟩,fun b hb=>?_,q⟩;have e:b=s1.heap.objs.size:=by simpa using hb
 subst e;exact I1.fpOk (jj _) (I1.hok.fresh (jj _))
theorem zkJ{pc:List (ji × Obj)}{σ:St}{H:Hp}{s:ja}{R:It->Hp->Prop}{E:j6->ja->Prop}{lo hi:Int}{t u v:Tok}{tk:Nat}(I:Inv X pc σ H s)(h1:-(2 ^ 62)<=lo)(h2:lo < 2 ^ 62)(h3:-(2 ^ 62)<=hi)(h4:hi < 2 ^ 62)
  (q:R (Itr lo (hi - lo).toNat) H):jF (jH X.prog X.w) X.A (pyIter (.ref s.heap.objs.size)) (PIE X pc σ tg R) E { s with heap:=s.heap.push { cls:=.type "range",data:=.fields #[.int lo t,.int hi u,.int 1 v] },toks:=tk }:=by
 refine wpAny_pyIter_range (U6 ..) (small_one h1 h2 h3 h4) ?_;have I1:Inv X pc σ H { s with heap:=s.heap.push { cls:=.type "range",data:=.fields #[.int lo t,.int hi u,.int 1 v] },toks:=tk }:=I.kept fun b o e=>jb _ e
 refine⟨(s.heap.push { cls:=.type "range",data:=.fields #[.int lo t,.int hi u,.int 1 v] }).objs.size,[(s.heap.push { cls:=.type "range",data:=.fields #[.int lo t,.int hi u,.int 1 v] }).objs.size],_,_,H,rfl,
  I1.kept (t':=tk) fun b o e=>jb _ e,zlw _ lo (hi - lo).toNat,?_,fun b hb=>?_,q⟩
 ·have e1:lo+((0:Nat):Int)*1=lo:=by simp
  have e2:(((hi - lo).toNat:Nat):Int) - ((0:Nat):Int)=YL lo hi 1:=by rw[rangeSize_one]; split<;>lia
  show IsRangeIter _ _ (lo+((0:Nat):Int)*1) ((((hi - lo).toNat:Nat):Int) - ((0:Nat):Int)) 1;rw[e1,e2];exact jN _ rfl
 ·have e:b=(s.heap.push { cls:=.type "range",data:=.fields #[.int lo t,.int hi u,.int 1 v] }).objs.size:=by simpa using hb
  subst e;exact I1.fpOk (jj _) (I1.hok.fresh (jj _))
def zvJ(ta:TA):TI:=fun σ H R=>ta σ H fun vs H1=>∃ j:Int,vs=[.int j]/\-(2 ^ 62)<=j/\j < 2 ^ 62/\R (Itr 0 j.toNat) H1
def zvI(ta:TA):TI:=fun σ H R=>ta σ H fun vs H1=>∃ i j:Int,vs=[.int i,.int j]/\(-(2 ^ 62)<=i/\i < 2 ^ 62/\-(2 ^ 62)<=j/\j < 2 ^ 62)/\R (Itr i (j - i).toNat) H1
theorem zmY{a:Q4}{ta:TA}{p pos:Pos}(hg:Gl X "range")(hm:X.mg "range"=none)(ha:PA X [a] ta)(hs:je [a] X.env=[(false,eval a X.env)]:=by rfl):PI X tg (.Call (.Name "range" p) [a] [] pos) (zvJ ta):=by
 intro pc s σ H R I h;refine Call_ (zel I hg hm Jz (Qf (thn (ha pos pc s σ H _ I h) fun us s1 ⟨vs,H1,I1,r1,q1⟩=>?_) hs rfl));obtain⟨j,e,q1,q2,q⟩:=q1;subst e;cases r1 with
 |cons r rr=>
  cases rr;obtain⟨t,rfl⟩:=r;exact call_range_1 (zkJ I1 (by lia) (by lia) q1 q2 (by simpa using q))
theorem zmX{a b:Q4}{ta:TA}{p pos:Pos}(hg:Gl X "range")(hm:X.mg "range"=none)(ha:PA X [a,b] ta)(hs:je [a,b] X.env=[(false,eval a X.env),(false,eval b X.env)]:=by rfl)(hs2:je [b] X.env=[(false,eval b X.env)]:=by rfl) :
  PI X tg (.Call (.Name "range" p) [a,b] [] pos) (zvI ta):=by
 intro pc s σ H R I h;refine Call_ (zel I hg hm Jz (Qf (thn (ha pos pc s σ H _ I h) fun us s1 ⟨vs,H1,I1,r1,q1⟩=>?_) (by rw[hs,hs2]) (by rw[hs2]; rfl)))
 obtain⟨i,j,e,⟨q1,q2,q3,q4⟩,q⟩:=q1;subst e;cases r1 with
 |cons r rr=>
  cases rr with
  |cons r' rr=>
   cases rr;obtain⟨t,rfl⟩:=r;obtain⟨t',rfl⟩:=r';exact call_range_2 (zkJ I1 q1 q2 q3 q4 q)
def zu0(wi:TI)(g:TG)(tb:TS):TS:=fun D σ H=>wi σ H fun J H1=>∃ W:Nat->Nat->St->Hp->Prop,(∃ m,W 0 m σ H1)/\∀ i m σ H,W i m σ H->
 (J.stop i H/\D.nx σ H)∨(J.go i H/\∃ N:St->Hp->Prop,(∀ σ' H',N σ' H'->∃ m',m' < m/\W (i+1) m' σ' H')/\∀ x H',J.yld i H x H'->g x σ H' fun σ2 H2=>tb { D with nx:=N,ct:=N,bk:=D.nx } σ2 H2)
def zhi(fp:List ji)(h:Qs):List (ji × Obj):=fp.filterMap fun b=>(h.get? b).map fun o=>(b,o)
theorem zcf{fp:List ji}{h:Qs}{b:ji}{o:Obj}(hb:b∈fp)(e:h.get? b=some o):(b,o)∈zhi fp h:=gs.mpr ⟨b,hb,by rw[e]; rfl⟩
theorem zn6{fp:List ji}{h:Qs}{p:ji × Obj}(hp:p∈zhi fp h):p.1∈fp/\h.get? p.1=some p.2:=by
 obtain⟨b,hb,e⟩:=gs.mp hp;cases q:h.get? b with
 |none=>rw[q] at e; cases e
 |some o=>
  rw[q] at e;have e':(b,o)=p:=jc e;subst e';exact⟨hb,q⟩
theorem Inv.pinned{pc:List (ji × Obj)}{σ:St}{H:Hp}{s:ja}{fp:List ji}(I:Inv X pc σ H s)(hf:∀ b∈fp,zjv X pc H b)(ho:∀ b∈fp,∃ o,s.heap.get? b=some o/\∀ v,o.data≠.cell v):Inv X (pc++zhi fp s.heap) σ H s:=
 I.pins_of fun p hp=>(jv.mp hp).elim (fun z=>I.pin p (jx _ z)) fun z=>by
  obtain⟨hb,e⟩:=zn6 z;obtain⟨f0,f1,f2,_⟩:=hf p.1 hb;obtain⟨o,e',d⟩:=ho p.1 hb;rw[e] at e'; cases e';exact⟨e,f0,f1,f2,d⟩
theorem Inv.unpinned{pc pl:List (ji × Obj)}{σ:St}{H:Hp}{s:ja}(I:Inv X (pc++pl) σ H s):Inv X pc σ H s:=I.pins_of fun p hp=>I.pin p (jx _ (jo _ hp))
theorem zsK{iter:Q4}{body:List Qw}{wi:TI}{g:TG}{tb:TS}{pos:Pos}(hp:Jf (jH X.prog X.w) X.A X.env X.xe)(hc:X.calm=true)(hi:PI X tg iter wi)(hg:PG X tg g)(hb:PSs X body tb)
  (hs:∀ x,Qq iter X.env x=pure x:=by intro _; rfl):PS X (.For tg iter body [] pos) (zu0 wi g tb):=by
 intro pc s σ H D I h;refine wpAny_For (thn (hi pc s σ H _ I h) fun v s1 h1=>thn h1 fun itv s2 h2=>?_) hs;obtain⟨it,fp,tn,J,H2,e,I2,T,st2,f2,W,⟨m0,w0⟩,turn⟩:=h2;subst e
 -- what stays true of the iterator's objects through the loop
 have stat:∀ {H':Hp},(∀ b∈fp,H' b=none)->∀ b∈fp,zjv X pc H' b:=fun hn b hb=>⟨hn b hb,(f2 b hb).2⟩;refine codeAny_forLoop_any (fun n s'=>∃ i σ' H',Inv X pc σ' H' s'/\tn i s'.heap/\(∀ b∈fp,H' b=none)/\W i n σ' H') ?_ m0 ⟨0,σ,H2,I2,st2,fun b hb=>(f2 b hb).1,w0⟩;rintro n s3 ⟨i,σ3,H3,I3,st3,fr3,w3⟩;rcases turn i n σ3 H3 w3 with ⟨stop,qn⟩ |⟨go,N,hN,step⟩
 ·refine Zl hp (thn (T.done X rfl rfl rfl hc i pc s3 σ3 H3 X.xe I3 (stat fr3) st3 stop) fun r s4 h_=>?_); obtain⟨hr,I4⟩:=h_;subst hr;exact Z7 ⟨σ3,H3,I4,qn⟩
 ·refine Zl hp (thn (T.item X rfl rfl rfl hc i pc s3 σ3 H3 X.xe I3 (stat fr3) st3 go) fun r s4 h_=>?_); obtain⟨u,hr,h4⟩:=h_;subst hr;refine Zl hp (thn h4 fun _ s5 h_=>?_); obtain⟨x,H5,I5,r5,y5,st5,fr5⟩:=h_;have I5':=I5.pinned (stat fr5) (T.obj _ _ st5);refine Zl hp (thn (hg _ s5 σ3 H5 x u _ I5' r5 (step x H5 y5)) fun _ s6 h_=>?_); obtain⟨σ6,H6,I6,q6⟩:=h_;refine Zl hp (thn (hb _ s6 σ6 H6 _ I6 q6) fun f s7 q7=>?_);have U0:∀ {σ7:St} {H7:Hp},Inv X (pc++zhi fp s5.heap) σ7 H7 s7->N σ7 H7->∃ m,m < n/\∃ i σ' H',Inv X pc σ' H' s7/\tn i s7.heap/\(∀ b∈fp,H' b=none)/\W i m σ' H':=fun {σ7 H7} I7 n7=>by
   obtain⟨m',hm,w7⟩:=hN σ7 H7 n7;refine⟨m',hm,i+1,σ7,H7,I7.unpinned,T.keep _ _ _ st5 fun b hb o e=>(I7.pin (b,o) (jx _ (jx _ (zcf hb e)))).1,fun b hb=>?_,w7⟩;obtain⟨o,e,d⟩:=T.obj _ _ st5 b hb;exact(I7.pin (b,o) (jx _ (jx _ (zcf hb e)))).2.1
  cases f with
  |next=>obtain⟨σ7,H7,I7,n7⟩:=q7; exact U0 I7 n7
  |cont=>obtain⟨σ7,H7,I7,n7⟩:=q7; exact U0 I7 n7
  |brk=>obtain⟨σ7,H7,I7,q7⟩:=q7; exact⟨σ7,H7,I7.unpinned,q7⟩
  |ret v=>obtain⟨x7,σ7,H7,I7,r7,q7⟩:=q7; exact⟨x7,σ7,H7,I7.unpinned,r7,q7⟩
end
abbrev R2:=V->V->Hp->VK->Prop
def OpR(X:Cx)(f:j6->j6->Sem j6)(r:R2):Prop:=
 ∀(pc:List (ji × Obj)) (s:ja) (σ:St) (H:Hp) (x y:V) (v u:j6) (Q:VK),Inv X pc σ H s->RelV x v->RelV y u->r x y H Q->
  jF (jH X.prog X.w) X.A (f v u) (EP X pc σ Q) X.xe s
def UnR(X:Cx)(f:j6->Sem j6)(r:V->Hp->VK->Prop):Prop:=
 ∀(pc:List (ji × Obj)) (s:ja) (σ:St) (H:Hp) (x:V) (v:j6) (Q:VK),Inv X pc σ H s->RelV x v->r x H Q->
  jF (jH X.prog X.w) X.A (f v) (EP X pc σ Q) X.xe s
def CallR(X:Cx)(f:j6)(r:List V->Hp->VK->Prop):Prop:=
 ∀(pc:List (ji × Obj)) (s:ja) (σ:St) (H:Hp) (xs:List V) (us:List j6) (Q:VK),Inv X pc σ H s->Vals xs us->r xs H Q->
  jF (jH X.prog X.w) X.A (call f us) (EP X pc σ Q) X.xe s
def zxq(X:Cx)(r:V->Hp->(Bool->Hp->Prop)->Prop):Prop:=
 ∀(pc:List (ji × Obj)) (s:ja) (σ:St) (H:Hp) (x:V) (v:j6) (Q:Bool->Hp->Prop),Inv X pc σ H s->RelV x v->r x H Q->
  jF (jH X.prog X.w) X.A (truthy v) (TP X pc σ Q) X.xe s
def tOp(r:R2)(ta tb:TE):TE:=fun σ H Q=>ta σ H fun x H1=>tb σ H1 fun y H2=>r x y H2 Q
def tUn(r:V->Hp->VK->Prop)(ta:TE):TE:=fun σ H Q=>ta σ H fun x H1=>r x H1 Q
def rI(C:Int->Int->Prop)(g:Int->Int->V):R2:=fun x y H Q=>∃ i j,x=.int i/\y=.int j/\C i j/\Q (g i j) H
def rI0(g:Int->Int->V):R2:=fun x y H Q=>∃ i j,x=.int i/\y=.int j/\Q (g i j) H
def rU(g:Int->V):V->Hp->VK->Prop:=fun x H Q=>∃ i,x=.int i/\Q (g i) H
section
variable {a c:Q4}{tc:TE}
theorem zvZ(ha:PE X a ta)(hb:PE X b tb){pc:List (ji × Obj)}{s:ja}{σ:St}{H:Hp}{R:V->V->Hp->Prop}(I:Inv X pc σ H s)
  (h:ta σ H fun x H1=>tb σ H1 fun y H2=>R x y H2) {Q:j6->ja->Prop} {f:j6->j6->Sem j6}
  (hf:∀ v u s2 x y H2,Inv X pc σ H2 s2->RelV x v->RelV y u->R x y H2->jF (jH X.prog X.w) X.A (f v u) Q X.xe s2) :
  jF (jH X.prog X.w) X.A (eval a X.env) (fun v s₁=>jF (jH X.prog X.w) X.A (eval b X.env) (fun u s₂=>jF (jH X.prog X.w) X.A (f v u) Q X.xe s₂) X.xe s₁) X.xe s:=by
 refine thn (ha pc s σ H _ I h) fun v s1 h_=>?_; obtain⟨x,H1,I1,r1,q1⟩:=h_;refine thn (hb pc s1 σ H1 _ I1 q1) fun u s2 h_=>?_; obtain⟨y,H2,I2,r2,q2⟩:=h_;exact hf v u s2 x y H2 I2 r1 r2 q2
theorem zh3{op:Operator}{r:R2}(ho:OpR X (gv op) r)(ha:PE X a ta)(hb:PE X b tb):PE X (.BinOp a op b pos) (tOp r ta tb):=by
 intro pc s σ H Q I h;exact wpAny_BinOp (zvZ ha hb I h fun v u s2 x y H2 I2 rx ry q=>ho pc s2 σ H2 x y v u Q I2 rx ry q)
theorem zvm{op:UnaryOp}{r:V->Hp->VK->Prop}(ho:UnR X (unaryOp op) r)(ha:PE X a ta):PE X (.UnaryOp op a pos) (tUn r ta):=by
 intro pc s σ H Q I h;exact UnaryOp_ (thn (ha pc s σ H _ I h) fun v s1 ⟨x,H1,I1,r1,q1⟩=>ho pc s1 σ H1 x v Q I1 r1 q1)
theorem opI{f:j6->j6->Sem j6}{C:Int->Int->Prop}{g:Int->Int->Int}
  (rule:∀(i j:Int) (t u:Tok) (s:ja) (Q:j6->ja->Prop) (E:j6->ja->Prop),C i j->Q (.int (g i j) s.toks) { s with toks:=s.toks+1 }->jF (jH X.prog X.w) X.A (f (.int i t) (.int j u)) Q E s) :
  OpR X f (rI C fun i j=>.int (g i j)):=by
 intro pc s σ H x y v u Q I rx ry h;obtain⟨i,j,rfl,rfl,hc,q⟩:=h;obtain⟨t,rfl⟩:=rx;obtain⟨t',rfl⟩:=ry;exact rule i j t t' s _ _ hc ⟨.int (g i j),H,I.tok _,⟨_,rfl⟩,q⟩
theorem zwq{f:j6->j6->Sem j6}{g:Int->Int->Int}
  (rule:∀(i j:Int) (t u:Tok) (s:ja) (Q:j6->ja->Prop) (E:j6->ja->Prop),Q (.int (g i j) s.toks) { s with toks:=s.toks+1 }->jF (jH X.prog X.w) X.A (f (.int i t) (.int j u)) Q E s) :
  OpR X f (rI0 fun i j=>.int (g i j)):=by
 intro pc s σ H x y v u Q I rx ry h;obtain⟨i,j,rfl,rfl,q⟩:=h;obtain⟨t,rfl⟩:=rx;obtain⟨t',rfl⟩:=ry;exact rule i j t t' s _ _ ⟨.int (g i j),H,I.tok _,⟨_,rfl⟩,q⟩
theorem zu3{f:j6->j6->Sem j6}{g:Int->Int->Bool}
  (rule:∀(i j:Int) (t u:Tok) (s:ja) (Q:j6->ja->Prop) (E:j6->ja->Prop),Q (.bool (g i j)) s->jF (jH X.prog X.w) X.A (f (.int i t) (.int j u)) Q E s) :
  OpR X f (rI0 fun i j=>.bl (g i j)):=by
 intro pc s σ H x y v u Q I rx ry h;obtain⟨i,j,rfl,rfl,q⟩:=h;obtain⟨t,rfl⟩:=rx;obtain⟨t',rfl⟩:=ry;exact rule i j t t' s _ _ ⟨.bl (g i j),H,I,rfl,q⟩
def zxt(i j:Int):Prop:=0 < j/\j < 1073741824
def zxs(i j:Int):Prop:=0<=j/\j<=1000000/\i.natAbs < 2 ^ 64
def CMul(i j:Int):Prop:=(-(2 ^ 64) < i/\i < 2 ^ 64)∨(-(2 ^ 64) < j/\j < 2 ^ 64)
theorem CMul.ok{i j:Int}(h:CMul i j):IntMulOk i j:=by
 rcases h with ⟨h1,h2⟩ |⟨h1,h2⟩
 ·exact .of_left (intBits_le_64 h1 h2)
 ·exact .of_right (intBits_le_64 h1 h2)
theorem op_add:OpR X (gv .Add) (rI0 fun i j=>.int (i+j)):=zwq fun _ _ _ _ _ _ _ q=>add_int q
theorem zt1:OpR X (gv .Sub) (rI0 fun i j=>.int (i - j)):=zwq fun _ _ _ _ _ _ _ q=>sub_int q
theorem zt3:OpR X (gv .Mult) (rI CMul fun i j=>.int (i*j)):=opI fun _ _ _ _ _ _ _ hc q=>mul_int q hc.ok
theorem zqS:OpR X (gv .FloorDiv) (rI zxt fun i j=>.int (i / j)):=opI fun i j _ _ _ _ _ hc q=>by
 have h1:(0:Int) < j:=hc.1;have h2:j < 1073741824:=hc.2;exact floordiv_int (by lia) (by rw[Int.fdiv_eq_ediv_of_nonneg i (by lia)]; exact q) (.inl (PyProof.noPylong_small (by lia)))
theorem zt4:OpR X (gv .Mod) (rI (fun _ j=>0 < j) fun i j=>.int (i%j)):=opI fun i j _ _ _ _ _ hc q=>by
 have h1:(0:Int) < j:=hc;exact mod_int' (by lia) (by rw[Int.fmod_eq_emod_of_nonneg i (by lia)]; exact q)
theorem zt2:OpR X (gv .Pow) (rI zxs fun i j=>.int (i ^ j.toNat)):=opI fun _ _ _ _ _ _ _ hc q=>pow_int_small hc.1 hc.2.1 hc.2.2 q
theorem unI{f:j6->Sem j6}{g:Int->Int}
  (rule:∀(i:Int) (t:Tok) (s:ja) (Q:j6->ja->Prop) (E:j6->ja->Prop),Q (.int (g i) s.toks) { s with toks:=s.toks+1 }->jF (jH X.prog X.w) X.A (f (.int i t)) Q E s) :
  UnR X f (rU fun i=>.int (g i)):=by
 intro pc s σ H x v Q I rx h;obtain⟨i,rfl,q⟩:=h;obtain⟨t,rfl⟩:=rx;exact rule i t s _ _ ⟨.int (g i),H,I.tok _,⟨_,rfl⟩,q⟩
theorem zs5:UnR X (unaryOp .USub) (rU fun i=>.int (-i)):=unI fun _ _ _ _ _ q=>neg_int q
end
section
variable {a c:Q4}{tc:TE}
theorem znw{pc:List (ji × Obj)}{σ:St}{H:Hp}{s:ja}{Q:VK}{k k':Bool}(I:Inv X pc σ H s)(q:Q (.bl k) H)(e:k=k'):EP X pc σ Q (.bool k') s:=by
 subst e;exact⟨.bl k,H,I,rfl,q⟩
theorem op_lt:OpR X (QP .Lt) (rI0 fun i j=>.bl (decide (i < j))):=zu3 fun _ _ _ _ _ _ _ q=>lt_int q
theorem zvq:OpR X (QP .LtE) (rI0 fun i j=>.bl (decide (i<=j))):=zu3 fun _ _ _ _ _ _ _ q=>le_int q
theorem zvr:OpR X (QP .Gt) (rI0 fun i j=>.bl (decide (j < i))):=zu3 fun _ _ _ _ _ _ _ q=>gt_int q
theorem zvs:OpR X (QP .GtE) (rI0 fun i j=>.bl (decide (j<=i))):=zu3 fun _ _ _ _ _ _ _ q=>ge_int q
theorem ziT:OpR X (QP .Lt) (fun x y H Q=>∃ i j,x=.str i/\y=.str j/\Q (.bl (decide (i.cps.toList < j.cps.toList))) H):=by
 intro pc s σ H x y v u Q I rx ry h;obtain⟨i,j,rfl,rfl,q⟩:=h;obtain⟨t,rfl⟩:=rx;obtain⟨t',rfl⟩:=ry;exact lt_str (znw I q rfl)
theorem zt5:OpR X (QP .Is) (fun x y H Q=>y=.non/\Q (.bl (decide (x=.non))) H):=by
 intro pc s σ H x y v u Q I rx ry h;obtain⟨rfl,q⟩:=h;cases ry;refine is_none_gen (znw I q ?_);cases x<;>first
  |(cases rx; rfl)
  |(obtain⟨t,rfl⟩:=rx; rfl)
theorem zqP:OpR X (QP .IsNot) (fun x y H Q=>y=.non/\Q (.bl (!decide (x=.non))) H):=by
 intro pc s σ H x y v u Q I rx ry h;obtain⟨rfl,q⟩:=h;cases ry;refine isnot_none_gen (znw I q ?_);cases x<;>first
  |(cases rx; rfl)
  |(obtain⟨t,rfl⟩:=rx; rfl)
theorem OpR.or{f:j6->j6->Sem j6}{r r':R2}(h:OpR X f r)(h':OpR X f r'):OpR X f (fun x y H Q=>r x y H Q∨r' x y H Q):=by
 intro pc s σ H x y v u Q I rx ry q;rcases q with q |q
 ·exact h pc s σ H x y v u Q I rx ry q
 ·exact h' pc s σ H x y v u Q I rx ry q
theorem zf4(b:Q4){op:CmpOp}(h:op≠.In:=by decide)(h2:op≠.NotIn:=by decide):Qy op b=false:=by
 have e1:(op == CmpOp.In)=false:=by cases op<;>first |rfl |exact absurd rfl h
 have e2:(op == CmpOp.NotIn)=false:=by cases op<;>first |rfl |exact absurd rfl h2
 cases b<;>simp[Qy,e1,e2]
theorem zjQ{op:CmpOp}{r:R2}(ho:OpR X (QP op) r)(ha:PE X a ta)(hb:PE X b tb)(hm:Qy op b=false):PE X (.Compare a [op] [b] pos) (tOp r ta tb):=by
 intro pc s σ H Q I h;exact wpAny_Compare1 (zvZ ha hb I h fun v u s2 x y H2 I2 rx ry q=>ho pc s2 σ H2 x y v u Q I2 rx ry q) hm
def zq3(t:TE):TT:=fun σ H Q=>t σ H fun x H'=>∃ k,x=.bl k/\Q k H'
theorem zdg{op:CmpOp}{r:R2}(ho:OpR X (QP op) r)(ha:PE X a ta)(hb:PE X b tb)(hm:Qy op b=false):PT X (.Compare a [op] [b] pos) (zq3 (tOp r ta tb)):=by
 intro pc s σ H Q I h
 refine Nk (thn (ha pc s σ H _ I h) fun v s1 ⟨x,H1,I1,r1,q1⟩=>thn (hb pc s1 σ H1 _ I1 q1) fun u s2 ⟨y,H2,I2,r2,q2⟩=>
  thn (ho pc s2 σ H2 x y v u _ I2 r1 r2 q2) fun c s3 ⟨z,H3,I3,r3,k,e,q3⟩=>?_) hm
 subst e;cases r3;exact QR ⟨H3,I3,q3⟩
def zp9(r r':R2)(ta tb tc:TE):TE:=fun σ H Q=>ta σ H fun x H1=>tb σ H1 fun y H2=>r x y H2 fun z H3=>∃ k,z=.bl k /\
 (if k=true then tc σ H3 fun w' H4=>r' y w' H4 Q else Q (.bl false) H3)
theorem zom{op op':CmpOp}{r r':R2}(ho:OpR X (QP op) r)(ho':OpR X (QP op') r')(ha:PE X a ta)(hb:PE X b tb)(hc:PE X c tc)
  (hm:lastMarks [op,op'] [b,c]=false:=by with_unfolding_all rfl):PT X (.Compare a [op,op'] [b,c] pos) (zq3 (zp9 r r' ta tb tc)):=by
 intro pc s σ H Q I h
 refine isTrue_chain (thn (ha pc s σ H _ I h) fun v s1 ⟨x,H1,I1,r1,q1⟩=>test_link (thn (hb pc s1 σ H1 _ I1 q1) fun u s2 ⟨y,H2,I2,r2,q2⟩=>
  thn (ho pc s2 σ H2 x y v u _ I2 r1 r2 q2) fun d s3 ⟨z,H3,I3,r3,k,e,q3⟩=>?_)) hm
 subst e;cases r3;refine QR ?_;cases k with
 |false=>
  obtain⟨k',e',q'⟩:=q3;cases e';exact ite_ff ⟨H3,I3,q'⟩
 |true=>
  refine ite_tt (test_last (thn (hc pc s3 σ H3 _ I3 q3) fun w' s4 ⟨z',H4,I4,r4,q4⟩=>thn (ho' pc s4 σ H4 y z' u w' _ I4 r2 r4 q4) fun d' s5 h_=>?_)); obtain⟨z2,H5,I5,r5,k2,e2,q5⟩:=h_;subst e2;cases r5;exact QR ⟨H5,I5,q5⟩
def zw1(K:j8)(x:V)(H:Hp)(k:Bool):Prop:=
 match x with
 |.non=>k=false
 |.bl b=>k=b
 |.int i=>k=(i != 0)
 |.str y=>y.length<=jn/\k=((y.length:Int) != 0)
 |.byt y=>y.size<=jn/\k=((y.size:Int) != 0)
 |.ref p=>(∃ xs,SqL K H p xs/\k=!xs.isEmpty)∨(∃ xs,SqT K H p xs/\k=!xs.isEmpty)∨∃ kvs,H p=some (.dK kvs)/\k=!kvs.isEmpty
 |_=>False
theorem zlO{κ:Type}{kvs:List (κ × V)}{vs:List (κ × j6)}(r:KV kvs vs):(!vs.isEmpty)=!kvs.isEmpty:=by
 cases r<;>rfl
theorem zhl{xs:List V}{its:List j6}(r:Vals xs its):(!its.toArray.isEmpty)=!xs.isEmpty:=by
 cases r<;>simp
theorem zgB:(jn:Nat) < 2 ^ 63:=by rw[Zs]; decide
theorem zs7:zxq X (fun x H Q=>∃ k,zw1 X.K x H k/\Q k H):=by
 intro pc s σ H x v Q I rx h;obtain⟨k,e,q⟩:=h;have hl:=zgB;have hs:jn=16777216:=Zs;cases x with
 |non=>
  cases rx;have e':k=false:=e;subst e';exact truthy_none ⟨H,I,q⟩
 |bl b=>
  cases rx;have e':k=b:=e;subst e';exact QR ⟨H,I,q⟩
 |int i=>
  obtain⟨t,rfl⟩:=rx;have e':k=(i != 0):=e;subst e';exact PySem.P.truthy_int ⟨H,I,q⟩
 |str y=>
  obtain⟨t,rfl⟩:=rx;obtain⟨hy,e'⟩:y.length<=jn/\k=((y.length:Int) != 0):=e;subst e';exact PySem.P.truthy_str (by lia) ⟨H,I.tok _,q⟩
 |byt y=>
  obtain⟨t,rfl⟩:=rx;obtain⟨hy,e'⟩:y.size<=jn/\k=((y.size:Int) != 0):=e;subst e';exact PySem.W.truthy_bytes (by lia) ⟨H,I.tok _,q⟩
 |ref p=>
  cases rx;have e':(∃ xs,SqL X.K H p xs/\k=!xs.isEmpty)∨(∃ xs,SqT X.K H p xs/\k=!xs.isEmpty)∨∃ kvs,H p=some (.dK kvs)/\k=!kvs.isEmpty:=e;rcases e' with ⟨xs,hx,e'⟩ |⟨xs,hx,e'⟩ |⟨kvs,hx,e'⟩
  ·subst e';obtain⟨its,r,pl,hz⟩:=I.list hx;have hlen:=r.length;exact wpAny_truthy_list pl.isList (by simp only[jq]; lia) ⟨H,I.tok _,by rw[zhl r]; exact q⟩
  ·subst e';obtain⟨its,r,pl,hz⟩:=I.tuple hx;have hlen:=r.length;exact truthy_tuple pl (by simp only[jq]; lia) ⟨H,I.tok _,by rw[zhl r]; exact q⟩
  ·subst e';obtain⟨hz,hS,vs,r,m⟩:kvs.length<=jn/\(p == ZB)=false/\∃ vs,KV kvs vs/\s.heap.DictOf (zb9 X.prog X.w) p vs:=I.hok p _ hx;have hlen:kvs.length=vs.length:=YJ r;exact wpAny_truthy_dict hS m (by lia) ⟨H,I.tok _,by rw[zlO r]; exact q⟩
 |_=>exact(show False from e).elim
theorem zol(ha:PE X a ta)(he:∀ whole,Je a X.env whole=(do let v <-whole; JH a.pos; Y4 [v] (truthy v))) :
  PT X a (fun σ H Q=>ta σ H fun x H'=>∃ k,zw1 X.K x H' k/\Q k H'):=by
 intro pc s σ H Q I h;exact isTrue_plain (thn (ha pc s σ H _ I h) fun v s1 ⟨x,H1,I1,r1,q1⟩=>zs7 pc s1 σ H1 x v Q I1 r1 q1) (he _)
theorem zlG:OpR X (gv .Add) (fun x y H Q=>∃ i j,x=.str i/\y=.str j/\i.length+j.length<=jn/\Q (.str (i++j)) H):=by
 intro pc s σ H x y v u Q I rx ry h;obtain⟨i,j,rfl,rfl,hz,q⟩:=h;obtain⟨t,rfl⟩:=rx;obtain⟨t',rfl⟩:=ry;exact add_str (fun t' tk=>⟨.str (i++j),H,I.tok _,⟨_,rfl⟩,q⟩) hz
theorem zma{x:V}{us:List j6}(r:Vals [x] us):∃ u,us=[u]/\RelV x u:=by
 cases r with
 |cons r1 r2=>cases r2; exact⟨_,rfl,r1⟩
theorem zpO{x y:V}{us:List j6}(r:Vals [x,y] us):∃ u w',us=[u,w']/\RelV x u/\RelV y w':=by
 cases r with
 |cons r1 r2=>
  cases r2 with
  |cons r3 r4=>cases r4; exact⟨_,_,rfl,r1,r3⟩
end
structure ObjM (h:Qs) (x dx C:ji) (mA:Str->Option j6):Prop where
 obj:h.get? x=some (Ni C dx)
 ns:h.Ns1 dx mA
 ne:dx≠x
theorem znd{h:Qs}{dx:ji}{mA:Str->Option j6}(n:h.Ns1 dx mA):∃ od,h.get? dx=some od/\∀ name,NT name od=some (mA name):=by
 obtain⟨o,es,ep,ho,hd,hk,_,hm⟩:=n;refine⟨o,ho,fun name=>?_⟩;have e:=hm name;unfold nsFind findBy at e;rw[<-Wa] at e;unfold NT;rw[hd];dsimp only;split
 ·rename_i y q;rw[q] at e;exact congrArg some e
 ·rename_i q;rw[q] at e;have a:es.toList.any (·.refKey)=false:=by
   rw[List.any_eq_false];intro y hy;obtain⟨z,t,hkey⟩:=hk y (Array.mem_toList_iff.mp hy);simp[DictEntry.refKey,hkey]
  have a':¬ es.toList.any (·.refKey)=true:=by rw[a]; exact jK
  rw[In_ a'];exact congrArg some e
theorem ObjM.look{h:Qs}{x dx C:ji}{mA:Str->Option j6}(I:ObjM h x dx C mA):∃ od,PySem.W.InstAt h x (Ni C dx) C (some od)/\∀ name,NT name od=some (mA name):=
 let ⟨od,ho,hl⟩:=znd I.ns
 ⟨od,⟨I.obj,rfl,rfl,ho⟩,hl⟩
theorem RelO.some_of{v:V}{o:Option j6}(r:RelO (some v) o):∃ u,o=some u/\RelV v u:=by
 cases o with
 |none=>exact(show False from r).elim
 |some u=>exact⟨u,rfl,r⟩
section
variable {C dx:ji}{fs fs':List (Str × V)}
theorem zr6(hok:HOk P w H h)(e:H a=some (.ins C dx fs)):∃ mA,ObjM h a dx C mA/\(∀ f,RelO (fs.lookup f) (mA f))/\JX mA (fs.map (·.1))/\fs.length<=1000/\H dx=some (.own a):=by
 obtain⟨d,z,ne,ob,mA,n,r,q⟩:=(show ObjOk P w H h a (.ins C dx fs) from hok a _ e);exact⟨mA,⟨ob,n,ne⟩,r,q,z,d⟩
end
structure Cls (K:j8) (C:ji):Prop where
 pg:WY K C jz=true
 hd:PySem.W.hasDictIn K C=true
 po:PySem.W.plainOver K C=true
 sa:Ym K (.ref C) "__setattr__"=some (some (.builtin "object.__setattr__"))
theorem Cls.get{K:j8}{C:ji}(c:Cls K C)(f:Str):WY K C f=true:=c.pg
section
variable {A:Q3}{E:j6->ja->Prop}{Q:j6->ja->Prop}{c:j6}{b:Bool}
inductive TyOf (K:j8) (H:Hp):V->j6->Prop where
 |non:TyOf K H .non (.type "NoneType")
 |bl (x:Bool):TyOf K H (.bl x) (.type "bool")
 |int (i:Int):TyOf K H (.int i) (.type "int")
 |str (x:Str):TyOf K H (.str x) (.type "str")
 |flt (x:UInt64):TyOf K H (.flt x) (.type "float")
 |lst {a:ji} {xs:List V} (e:H a=some (.lst xs)):TyOf K H (.ref a) (.type "list")
 |frz {a:ji} {o:Obj} {xs:List V} (e:H a=some (.frz o (.lst xs))):TyOf K H (.ref a) (.type "list")
 |tup {a:ji} {xs:List V} (e:H a=some (.tup xs)):TyOf K H (.ref a) (.type "tuple")
 |dK {a:ji} {kvs:List (Key × V)} (e:H a=some (.dK kvs)):TyOf K H (.ref a) (.type "dict")
 |dT {a:ji} {kvs:List (List Key × V)} (e:H a=some (.dT kvs)):TyOf K H (.ref a) (.type "dict")
 |ins {a C dx:ji} {fs:List (Str × V)} (e:H a=some (.ins C dx fs)) (cl:Cls K C) (ha:Ym K (.ref C) "__class__"=some (some (.builtin "object.__class__")))
   (hn:PySem.W.specialIn K (.builtin "object.__class__") "__get__"=some (some (.builtin "getset_descriptor.__get__"))) (htk:PySem.W.takesIn K (.builtin "object.__class__")=some true)
   (hm:Wb K C (.type "object")=some true):TyOf K H (.ref a) (.ref C)
theorem znj{x:V}{u t:j6}(I:Inv X pc σ H s)(rx:RelV x u)(ty:TyOf X.K H x t)(e:gP X.K t c=some b)(h:∀ tk,Q (.bool b) { s with toks:=tk }) :
  jF (jH X.prog X.w) A (call (.builtin "isinstance") [u,c]) Q E s:=by
 cases ty with
 |non=>cases (show u=Y3 from rx); exact Qv PySem.W.kitx_none I.kIn ZC e (fun z=>nomatch z) h
 |bl y=>cases (show u=Jw y from rx); exact Qv PySem.W.kitx_bool I.kIn ZC e (fun z=>nomatch z) h
 |int i=>obtain⟨t,q⟩:=(show ∃ t,u=Jd i t from rx); cases q; exact Qv PySem.W.kitx_int I.kIn ZC e (fun z=>nomatch z) h
 |str y=>obtain⟨t,q⟩:=(show ∃ t,u=Zx y t from rx); cases q; exact Qv PySem.W.kitx_str I.kIn ZC e (fun z=>nomatch z) h
 |flt y=>obtain⟨t,q⟩:=(show ∃ t,u=U5 y t from rx); cases q; exact Qv PySem.W.kitx_float I.kIn ZC e (fun z=>nomatch z) h
 |@lst a xs ea=>
  cases (show u=jS a from rx);obtain⟨_,_,n,_,h1⟩:=(show ObjOk X.prog X.w H s.heap a (.lst xs) from I.hok a _ ea);exact Qv Wv I.kIn ⟨_,h1,rfl⟩ e (fun z=>nomatch z) h
 |@frz a ob xs ea=>
  cases (show u=jS a from rx);obtain⟨_,_,_,n,_,h1⟩:=(show ObjOk X.prog X.w H s.heap a (.frz ob (.lst xs)) from I.hok a _ ea);exact Qv Wv I.kIn ⟨_,h1,rfl⟩ e (fun z=>nomatch z) h
 |@tup a xs ea=>
  cases (show u=jS a from rx);obtain⟨_,_,_,p⟩:=(show ObjOk X.prog X.w H s.heap a (.tup xs) from I.hok a _ ea);obtain⟨o,h1,h2,_⟩:=p;exact Qv PySem.W.kitx_tuple I.kIn ⟨o,h1,h2⟩ e (fun z=>nomatch z) h
 |@dK a kvs ea=>
  cases (show u=jS a from rx);obtain⟨_,_,vs,_,p⟩:=(show ObjOk X.prog X.w H s.heap a (.dK kvs) from I.hok a _ ea);obtain⟨o,es,ep,h1,h2,_⟩:=p;exact Qv Ww I.kIn ⟨o,h1,h2.1⟩ e (fun z=>nomatch z) h
 |@dT a kvs ea=>
  cases (show u=jS a from rx);obtain⟨_,_,xs,_,o,es,ep,h1,h2,_⟩:=(show ObjOk X.prog X.w H s.heap a (.dT kvs) from I.hok a _ ea);exact Qv Ww I.kIn ⟨o,h1,h2.1⟩ e (fun z=>nomatch z) h
 |@ins a C dx fs ea cl ha hn htk hm=>
  cases (show u=jS a from rx);obtain⟨mA,O,_⟩:=zr6 I.hok ea;obtain⟨od,J,_⟩:=O.look;exact Qv (PySem.W.kitx_own (cl.get _) cl.hd ha hn htk hm) I.kIn J e (fun z=>nomatch z) h
end
structure Room (k:Nat) (A:Q3):Prop where
 hd:A.handled=none
 dp:A.depth+3*k+5 < Yn
 un:A.units+16*k+200 < gG
theorem Room.mono{j k:Nat}{A:Q3}(r:Room k A)(h:j<=k):Room j A:=⟨r.hd,by have:=r.dp; lia,by have:=r.un; lia⟩
theorem Room.deeper{k:Nat}{A:Q3}(r:Room (k+1) A)(env:Env):Room k (A.deeper env):=
 ⟨r.hd,by have:=r.dp; show A.depth+1+3*k+5 < _; lia,by have:=r.un; show A.units+3+16*k+200 < _; lia⟩
theorem zlJ{A:Q3}{C:ji}{us:List j6}{kw:List (Str × j6)}:(A.under (.builtin "type.__call__" ⟨.ref C::us,kw⟩)).depth=A.depth+1:=by
 first |rfl |simp[Around.under,Code.weight,Code.isCreation,Code.isGuard,Code.isCaller,Code.frames,Code.isFrame,guardIds]
theorem Room.depth{k:Nat}{A:Q3}(r:Room k A):A.depth < Yn:=by have:=r.dp; lia
theorem Room.units{k:Nat}{A:Q3}(r:Room k A):A.units+64 < gG:=by have:=r.un; lia
def znR:TA:=fun _ H Q=>Q [] H
def zeP(ta:TE)(tr:TA):TA:=fun σ H Q=>ta σ H fun x H1=>tr σ H1 fun xs H2=>Q (x::xs) H2
section
variable {te:TE}
theorem zbI:PA X [] znR:=fun _ _ _ _ H Q I h=>Wx ⟨[],H,I,.nil,h⟩
theorem zak(ha:PE X e te)(hr:PA X es t)(hs:je (e::es) X.env=(false,eval e X.env)::je es X.env:=by rfl):PA X (e::es) (zeP te t):=by
 intro pos pc s σ H Q I h;rw[hs];show jF _ _ (spliced ((false,eval e X.env)::QB pos (je es X.env))) _ _ s;refine Wc (thn (ha pc s σ H _ I h) fun u s1 h_=>?_); obtain⟨x,H1,I1,r1,q1⟩:=h_;exact thn (hr pos pc s1 σ H1 _ I1 q1) fun us s2 ⟨xs,H2,I2,r2,q2⟩=>⟨x::xs,H2,I2,.cons r1 r2,q2⟩
def zx0(t:TA):TE:=fun σ H Q=>t σ H fun xs H1=>xs.length<=jn/\∀ p,H1 p=none->Q (.ref p) (upd H1 p (.tup xs))
def zx3(t:TA):TE:=fun σ H Q=>t σ H fun xs H1=>xs.length<=jn/\∀ p,H1 p=none->Q (.ref p) (upd H1 p (.lst xs))
theorem zpj{x1}(h:PA X es t):PE X (.Tuple es x1 pos) (zx0 t):=by
 intro pc s σ H Q I hq;refine wpAny_Tuple_spliced (thn (h pos pc s σ H _ I hq) fun us s1 ⟨xs,H1,I1,r,z,q⟩=>⟨by rw[<-r.length]; exact z,?_⟩)
 have hf:H1 s1.heap.objs.size=none:=I1.hok.fresh (jj _);refine⟨.ref s1.heap.objs.size,upd H1 s1.heap.objs.size (.tup xs),I1.laid (t':=s1.toks) (fun b u e=>jb _ e) (jj _) ?_,rfl,q _ hf⟩;exact⟨z,us,r,⟨_,jN _ rfl,rfl,_,rfl⟩⟩
theorem zsU(h:PA X es t):PE X (.List es pos) (zx3 t):=by
 intro pc s σ H Q I hq;refine wpAny_List_spliced (thn (h pos pc s σ H _ I hq) fun us s1 ⟨xs,H1,I1,r,z,q⟩=>⟨by rw[<-r.length]; exact z,?_⟩)
 have hf:H1 s1.heap.objs.size=none:=I1.hok.fresh (jj _);refine⟨.ref s1.heap.objs.size,upd H1 s1.heap.objs.size (.lst xs),I1.laid (t':=s1.toks) (fun b u e=>jb _ e) (jj _) ?_,rfl,q _ hf⟩;exact⟨z,us,0,r,jN _ rfl⟩
end
abbrev Sp:=List V->Hp->VK->XK->Prop
abbrev CXT:=List Env->Hp->ja->XK->j6->ja->Prop
structure Env0 (P:jE) (w:Qa) (K:j8) (mg:Str->Option j6) (base:Qs) (A:Q3) (outer:List Env) (s:ja) (H:Hp):Prop where
 frames:A.frames=some outer
 mod:Mod K mg base
 bs:∀ b o,base.get? b=some o->s.heap.get? b=some o/\H b=none
 bsz:base.objs.size<=s.heap.objs.size
 funs:s.heap.FunFrames base outer
 frf:∀ b∈frs outer,H b=none
 hok:HOk P w H s.heap
 bare:YK s.gens
def CE(outer:List Env)(P:jE)(w:Qa)(H:Hp)(s:ja)(Q:VK)(u:j6)(s':ja):Prop:=
 ∃ v H',s'.os=s.os/\YK s'.gens/\Un (frs outer) [] H H' s.heap s'.heap/\HOk P w H' s'.heap/\RelV v u/\Q v H'
def CR(CX:CXT)(outer:List Env)(P:jE)(w:Qa)(H:Hp)(s:ja)(Q:VK)(E:XK)(r:WQ)(s':ja):Prop:=
 match r with
 |.ok (.ret u)=>CE outer P w H s Q u s'
 |.ok _=>False
 |.error e=>CX outer H s E e s'
structure FnOk (P:jE) (w:Qa) (K:j8) (mg:Str->Option j6) (base:Qs) (CX:CXT) (k:Nat) (f:ji) (fd:QN) (ps:List Str) (sp:Sp):Prop where
 len:∀ vs H Q E,sp vs H Q E->vs.length=ps.length
 run:∀(A:Q3) (outer:List Env) (s:ja) (H:Hp) (args:Args) (us:List j6) (vs:List V) (Q:VK) (E:XK),Room k A->Env0 P w K mg base A outer s H->Nm s fd args (ps.zip us)->Vals vs us->sp vs H Q E->
  gc (jH P w) A (.call (.ref f) args) (CR CX outer P w H s Q E) s
theorem FnOk.mono{P:jE}{w:Qa}{K:j8}{mg:Str->Option j6}{base:Qs}{CX:CXT}{j k:Nat}{f:ji}{fd:QN}{ps:List Str}{sp:Sp}(F:FnOk P w K mg base CX j f fd ps sp)(h:j<=k) :
  FnOk P w K mg base CX k f fd ps sp:=⟨F.len,fun A outer s H args us vs Q E hr=>F.run A outer s H args us vs Q E (hr.mono h)⟩
section
variable {s':ja}
theorem Inv.env0(I:Inv X pc σ H s):Env0 X.prog X.w X.K X.mg X.base X.A X.stack s H:=
 ⟨I.ok.frames,I.ok.mod,I.bs,Q9 I.ok.bsz I.sz,I.stack,I.stkFree,I.hok,I.bare⟩
theorem Inv.after{Q:VK}{u:j6}(I:Inv X pc σ H s)(h:CE X.stack X.prog X.w H s Q u s'):EP X pc σ Q u s':=by
 obtain⟨v,H',os,bare,un,hok,r,q⟩:=h;obtain⟨hh,g,d,t,os'⟩:=s';obtain rfl:os'=s.os:=os;exact⟨v,H',I.call (h':=hh) (g':=g) (d':=d) (t':=t) (ch:=[]) un hok bare (fun b z=>absurd z (by simp)),r,q⟩
end
def zgd(sp:Sp)(dvs:List V)(E:XK)(t:TA):TE:=fun σ H Q=>t σ H fun vs H1=>sp (vs++dvs) H1 Q E
def Binds(K:j8)(fd:QN)(ps:List Str)(ds:List j6):Prop:=
 ∀(s:ja) (us:List j6),K.In s.heap->(us++ds).length=ps.length->Nm s fd ⟨us,[]⟩ (ps.zip (us++ds))
theorem Binds.all{K:j8}{fd:QN}{ps:List Str}(h:∀ us:List j6,us.length=ps.length->Y1 fd ⟨us,[]⟩=pure (ps.zip us)):Binds K fd ps []:=fun s us _ hl=>by
 rw[Q8] at hl ⊢;exact .of_eq (h us hl)
def zen(CX:CXT)(X:Cx)(E:XK):Prop:=∀(pc:List (ji × Obj)) (σ:St) (H:Hp) (s:ja) (e:j6) (s':ja),Inv X pc σ H s->CX X.stack H s E e s'->X.xe e s'
section
variable {CX:CXT}{k:Nat}{f C:ji}{fd:QN}{ps:List Str}{sp:Sp}{dvs:List V}{ds:List j6}{E:XK}{x m:Str}{p apos:Pos}{o:Q4}
theorem zsp{pc:List (ji × Obj)}{σ:St}{H:Hp}{s:ja}{Q:VK}{us:List j6}{vs:List V}(F:FnOk X.prog X.w X.K X.mg X.base CX k f fd ps sp)(hr:Room k X.A)(hb:Binds X.K fd ps ds)(hd:Vals dvs ds)(hx:zen CX X E)
  (I:Inv X pc σ H s) (r:Vals vs us) (h:sp (vs++dvs) H Q E):jF (jH X.prog X.w) X.A (call (.ref f) us) (EP X pc σ Q) X.xe s:=by
 have r2:Vals (vs++dvs) (us++ds):=r.append hd;have hl:(us++ds).length=ps.length:=by rw[<-r2.length]; exact F.len _ _ _ _ h
 refine NI (gT (F.run X.A X.stack s H ⟨us,[]⟩ (us++ds) (vs++dvs) Q E hr I.env0 (hb s us I.kIn hl) r2 h) fun r s' hq=>?_);cases r with
 |error e=>exact hx pc σ H s e s' I hq
 |ok fl=>
  cases fl with
  |ret u=>exact I.after hq
  |next=>exact Qu hq
  |brk=>exact Qu hq
  |cont=>exact Qu hq
theorem zdk(F:FnOk X.prog X.w X.K X.mg X.base CX k f fd ps sp)(hr:Room k X.A)(hg:Gl X x)(hm:X.mg x=some (.ref f))(hk:jY X.K (.ref f)=true)(hb:Binds X.K fd ps ds)(hd:Vals dvs ds)(hx:zen CX X E)
  (ha:PA X (e::es) t) (hdb:(x == ("__debug__":Str))=false:=by decide) (he:je (e::es) X.env=(false,eval e X.env)::je es X.env:=by rfl) (hpl:(QB pos (je es X.env)).any (·.1)=false:=by rfl) :
  PE X (.Call (.Name x p) (e::es) [] pos) (zgd sp dvs E t):=by
 intro pc s σ H Q I h;refine ZF (zeu I hg hm ?_ hdb);refine Wd (h₀:=X.base) I.ok.mod.kin hk (thn (ha pos pc s σ H _ I h) fun us s1 ⟨vs,H1,I1,r,q⟩=>⟨I1.kIn,?_⟩) he hpl;exact zsp F hr hb hd hx I1 r q
end
structure FnScope (N P:List Str) (sc:gr):Prop where
 kind:sc.kind=.function
 co:sc.isCoroutine=false
 gen:sc.isGenerator=false
 nd:N.Nodup
 pre:N.take P.length=P
 par:∀ x∈P,sc.names.lookup x=some .local∨sc.names.lookup x=some .cell
 nofree:∀ y∈sc.names,y.2≠.free
theorem zjq{kindOf:Str->Option YM}{x:Str}:∀ {binds:List (Str × j6)} {m:Str->Option j6},(∀ v,(x,v)∉binds)->U7 kindOf binds m x=m x
 |[],_,_=>rfl
 |(n,v)::r,m,h=>by
  unfold U7;rw[zjq fun w hw=>h w (jw _ hw)];split
  ·have:x≠n:=by rintro rfl; exact h v jX
   simp[this]
  ·rfl
theorem zjr{kindOf:Str->Option YM}{x:Str}:∀ {binds:List (Str × j6)} {m:Str->Option j6},(∀ v,(x,v)∉binds)->U8 kindOf binds m x=m x
 |[],_,_=>rfl
 |(n,v)::r,m,h=>by
  unfold U8;rw[zjr fun w hw=>h w (jw _ hw)];split
  ·rfl
  ·have:x≠n:=by rintro rfl; exact h v jX
   simp[this]
theorem zfb{kindOf:Str->Option YM}{x:Str}{v:j6}:∀ {P:List Str} {vs:List j6} {i:Nat} {m:Str->Option j6},P.Nodup->P[i]?=some x->vs[i]?=some v->kindOf x=some .local->
  U7 kindOf (P.zip vs) m x=some v
 |[],_,_,_,_,h,_,_=>by simp at h
 |_::_,[],_,_,_,_,h,_=>by simp at h
 |p::P,w::vs,0,m,nd,h1,h2,hk=>by
  simp at h1 h2; subst h1; subst h2;show U7 kindOf ((p,w)::P.zip vs) m p=_;unfold U7;rw[zjq fun v hv=>(Qp.mp nd).1 (gx hv).1,Ip_ hk];simp
 |p::P,w::vs,i+1,m,nd,h1,h2,hk=>by
  show U7 kindOf ((p,w)::P.zip vs) m x=_;unfold U7;exact zfb (i:=i) (Qp.mp nd).2 (by simpa using h1) (by simpa using h2) hk
theorem zjs{kindOf:Str->Option YM}{x:Str}{v:j6}:∀ {P:List Str} {vs:List j6} {i:Nat} {m:Str->Option j6},P.Nodup->P[i]?=some x->vs[i]?=some v->kindOf x≠some .local->
  U8 kindOf (P.zip vs) m x=some v
 |[],_,_,_,_,h,_,_=>by simp at h
 |_::_,[],_,_,_,_,h,_=>by simp at h
 |p::P,w::vs,0,m,nd,h1,h2,hk=>by
  simp at h1 h2; subst h1; subst h2;show U8 kindOf ((p,w)::P.zip vs) m p=_;unfold U8;rw[zjr fun v hv=>(Qp.mp nd).1 (gx hv).1,In_ hk];simp
 |p::P,w::vs,i+1,m,nd,h1,h2,hk=>by
  show U8 kindOf ((p,w)::P.zip vs) m x=_;unfold U8;exact zjs (i:=i) (Qp.mp nd).2 (by simpa using h1) (by simpa using h2) hk
def start(N:List Str)(vs:List V):St:=vs.map some++gQ (N.length - vs.length) none
def zff(CX:CXT)(P:jE)(w:Qa)(K:j8)(mg:Str->Option j6)(base:Qs)(N:List Str)(qual:Str)(scope:gr)(f:ji)(cd:j6)(A:Q3)(outer:List Env)(s:ja)(H:Hp)(E:XK):Cx where
 prog:=P
 w:=w
 K:=K
 mg:=mg
 base:=base
 A:=A.deeper (QJ qual scope s.heap.objs.size f cd)
 N:=N
 s₀:=s
 H₀:=H
 env:=QJ qual scope s.heap.objs.size f cd
 outer:=outer
 stack:=QJ qual scope s.heap.objs.size f cd::outer
 ex:=[]
 calm:=true
 fn:=fun _=>true
 pn:=[]
 xe:=fun e s'=>jF (jH P w) (A.deeper (QJ qual scope s.heap.objs.size f cd)) (leaving (QJ qual scope s.heap.objs.size f cd) e) (fun _ s''=>CX outer H s E e s'') (fun e' s''=>CX outer H s E e' s'') s'
theorem zli{sc:gr}{n:Nat}{x:Str}(h:sc.names.lookup x=some .cell):∃ c,(Nn n sc.names []).lookup x=some c:=by
 have q:=ZE sc.names n [] (.inl h);exact gg.mp q
theorem zgE{CX:CXT}{P:jE}{w:Qa}{K:j8}{mg:Str->Option j6}{base:Qs}{N ps:List Str}{qual:Str}{scope:gr}{f:ji}{cd:j6}{A:Q3}{outer:List Env}{s s1:ja}{H:Hp}{E:XK}{us:List j6}{vs:List V}
  (S:FnScope N ps scope) (hd:A.handled=none) (e0:Env0 P w K mg base A outer s H) (hl:vs.length=ps.length) (r:Vals vs us)
  (x:InCallC s s.heap.objs.size (U7 (QJ qual scope s.heap.objs.size f cd).kindOf (ps.zip us) fun _=>none) (Nn (s.heap.objs.size+1) scope.names []) (U8 (QJ qual scope s.heap.objs.size f cd).kindOf (ps.zip us) fun _=>none) s1) :
  Inv (zff CX P w K mg base N qual scope f cd A outer s H E) [] (start N vs) H s1:=by
 have hpl:ps.length<=N.length:=by have:=congrArg Y5 S.pre; rw[Q7] at this; lia
 obtain⟨h1,tk,rfl,hk⟩:=x.done;have noA:∀ b:ji,b∉(zff CX P w K mg base N qual scope f cd A outer s H E).ex:=fun b z=>absurd (show b∈([]:List ji) from z) (by simp)
 refine⟨⟨e0.mod,S.kind,rfl,rfl,jj _,fun y z c h1 h2=>?_,fun y hy=>?_,fun y c _ h=>?_,fun _=>hd,ZR e0.frames,.inr ⟨rfl,rfl⟩,fun b z=>absurd z (noA b),e0.bs,e0.bsz,fun b _ _=>noA b,fun b z=>absurd z (noA b),e0.funs,e0.frf⟩,
  rfl,e0.bare,Un.kept hk,⟨_,x.toInCall.ns,fun i y v h1 h2 h3=>?_⟩,fun y c h=>⟨_,x.cell y c h⟩,e0.hok.fresh (jj _),fun y c h=>?_,fun p hp=>absurd (show p∈([]:List (ji × Obj)) from hp) (by simp),e0.hok.kept hk,?_⟩
 ·exact name_of_addr x.apart (Zt h1) (Zt h2)
 ·have hy:scope.names.lookup y=some .cell∨scope.names.lookup y=some .free:=hy;rcases hy with hy |hy
  ·exact zli hy
  ·exact absurd rfl (S.nofree _ (Zt hy))
 ·exact Nj (x.above y c (Zt h))
 ·have hi:i < vs.length:=by
   unfold start at h2
   by_cases hi:i < vs.length
   ·exact hi
   ·rw[Qc (by simpa using hi)] at h2
    rw[gy] at h2;split at h2<;>cases h2
  have ha:vs[i]?=some v:=by
   unfold start at h2;rw[Q6 (by simpa using hi),jf] at h2
   cases e:vs[i]? with
   |none=>rw[e] at h2; cases h2
   |some a=>rw[e] at h2; cases h2; rfl
  obtain⟨u,hu,rv⟩:=r.get ha;have hp:ps[i]?=some y:=by
   rw[<-S.pre,List.getElem?_take_of_lt (by lia)]; exact h1
  have ndP:ps.Nodup:=by rw[<-S.pre]; exact S.nd.sublist (Yu _ _)
  refine⟨u,rv,?_⟩;rcases S.par y (jJ hp) with k |k
  ·exact .inl ⟨k,zfb ndP hp hu k⟩
  ·obtain⟨c,e⟩:=zli (n:=s.heap.objs.size+1) k;refine .inr ⟨.inl k,c,e,?_⟩;have q:=x.cell y c e;rw[zjs ndP hp hu (by show scope.names.lookup y≠_; rw[k]; decide)] at q
   exact q
 ·exact e0.hok.fresh (Nj (x.above y c (Zt h)))
 ·unfold start;show _=N.length;rw[jk,j5,ZH];lia
theorem zvP{CX:CXT}{P:jE}{w:Qa}{K:j8}{mg:Str->Option j6}{base:Qs}{k:Nat}{f:ji}{name qual:Str}{params:No}{body:List Qw}{scope:gr}{dV kV doc pm cdv ct oc:j6}{an od:Option ji}
  {osl:Array (Option j6)} {N ps:List Str} {sp:Sp} (lk:K.lookup f=some ⟨oc,od,.func (jU name qual params body scope dV kV doc pm an cdv ct),osl⟩) (hcd:QF K cdv qual=true) (S:FnScope N ps scope)
  (len:∀ vs H Q E,sp vs H Q E->vs.length=ps.length)
  (hbody:∀(A:Q3) (outer:List Env) (s:ja) (H:Hp) (vs:List V) (Q:VK) (E:XK),Room k (A.deeper (QJ qual scope s.heap.objs.size f cdv))->sp vs H Q E->
   ∃ t,PSs (zff CX P w K mg base N qual scope f cdv A outer s H E) body t/\t { nx:=fun _ H'=>Q .non H',rt:=Q } (start N vs) H) :
  FnOk P w K mg base CX (k+1) f (jU name qual params body scope dV kV doc pm an cdv ct) ps sp:=by
 refine⟨len,fun A outer s H args us vs Q E hr e0 hb r hsp=>?_⟩;have hl:=len _ _ _ _ hsp;have KX:K.In s.heap:=e0.mod.kin.keeps fun b o e=>(e0.bs b o e).1;have lim:s.heap.NoLimit:=e0.mod.nolimit.keeps fun b o e=>(e0.bs b o e).1;have hkind:∀ y∈ps.zip us,scope.names.lookup y.1=some .local∨(scope.names.lookup y.1=some .cell/\((Nn (s.heap.objs.size+1) scope.names []).lookup y.1).isSome=true):=fun⟨n,v⟩ hy=>by
  rcases S.par n (gx hy).1 with q |q
  ·exact .inl q
  ·exact .inr ⟨q,ZE _ _ _ (.inl q)⟩
 refine ZI hr.depth (KX _ _ lk) rfl S.co S.gen rfl (gz KX hcd) (hb _ _ _ _ ?_);refine Zc S.kind hkind fun env he s1 x=>?_;subst he;refine⟨lim.keeps x.toInCall.keep,Np ?_⟩;obtain⟨t,ht,hq⟩:=hbody A outer s H vs Q E (hr.deeper _) hsp;have I:Inv (zff CX P w K mg base N qual scope f cdv A outer s H E) [] (start N vs) H s1:=zgE S hr.hd e0 hl r x;refine jO (ht [] s1 (start N vs) H _ I hq) (fun fl s' hs=>?_) fun e s' hs=>hs;have fin:∀ {σ':St} {H':Hp} {v:V} {u:j6},Inv (zff CX P w K mg base N qual scope f cdv A outer s H E) [] σ' H' s'->RelV v u->Q v H'->CE outer P w H s Q u s':=
  fun {σ' H' v u} J rv q=>⟨v,H',J.os,J.bare,J.base,J.hok,rv,q⟩
 cases fl with
 |ret u=>
  obtain⟨v,σ',H',J,rv,q⟩:=hs;exact fin J rv q
 |next=>
  obtain⟨σ',H',J,q⟩:=hs;exact fin (v:=V.non) (u:=Y3) J rfl q
 |brk=>
  obtain⟨_,_,_,q⟩:=hs;exact Qu q
 |cont=>
  obtain⟨_,_,_,q⟩:=hs;exact Qu q
section
variable {x:Str}{p:Pos}{id T:String}{r:List V->Hp->VK->Prop}
def tCB(r:List V->Hp->VK->Prop)(t:TA):TE:=fun σ H Q=>t σ H fun vs H1=>r vs H1 Q
theorem zdj(hc:CallR X (.builtin id) r)(hg:Gl X x)(hm:X.mg x=none)(hv:QK x=some (.builtin id))(ha:PA X (e::es) t)(hn:x≠"__name__":=by decide)(hdb:(x == ("__debug__":Str))=false:=by decide)
  (he:je (e::es) X.env=(false,eval e X.env)::je es X.env:=by rfl) (hpl:(QB pos (je es X.env)).any (·.1)=false:=by rfl):PE X (.Call (.Name x p) (e::es) [] pos) (tCB r t):=by
 intro pc s σ H Q I h;refine ZF (zel I hg hm hv ?_ hn hdb);exact PyProof.Rows.callWith_builtin1 (thn (ha pos pc s σ H _ I h) fun us s1 ⟨vs,H1,I1,r1,q1⟩=>hc pc s1 σ H1 vs us Q I1 r1 q1) he hpl
theorem zgt(hc:CallR X (.type T) r)(hg:Gl X x)(hm:X.mg x=none)(hv:QK x=some (.type T))(ha:PA X (e::es) t)(hn:x≠"__name__":=by decide)(hdb:(x == ("__debug__":Str))=false:=by decide)
  (he:je (e::es) X.env=(false,eval e X.env)::je es X.env:=by rfl) (hpl:(QB pos (je es X.env)).any (·.1)=false:=by rfl):PE X (.Call (.Name x p) (e::es) [] pos) (tCB r t):=by
 intro pc s σ H Q I h;refine ZF (zel I hg hm hv ?_ hn hdb);exact Qf (thn (ha pos pc s σ H _ I h) fun us s1 ⟨vs,H1,I1,r1,q1⟩=>hc pc s1 σ H1 vs us Q I1 r1 q1) he hpl
theorem zlE(hc:CallR X (.type T) r)(hg:Gl X x)(hm:X.mg x=none)(hv:QK x=some (.type T))(hn:x≠"__name__":=by decide)(hdb:(x == ("__debug__":Str))=false:=by decide) :
  PE X (.Call (.Name x p) [] [] pos) (tCB r znR):=by
 intro pc s σ H Q I h;refine ZF (zel I hg hm hv ?_ hn hdb);exact PyProof.Rows.callWith_type0 (hc pc s σ H [] [] Q I .nil h)
end
end L2
namespace HT
open PySem PyProof.Rows
section
variable {prog:jE}{w:Qa}{A:Q3}{E:j6->ja->Prop}{s:ja}
def sIx(n d:Nat):Option Int->Nat
 |none=>d
 |some v=>if v < 0 then (v+(n:Int)).toNat else min v.toNat n
end
end HT
namespace L2
open PySem PySem.Spec PyProof.Rows
variable {X:Cx}{e:Q4}{pos:Pos}{pc:List (ji × Obj)}{σ:St}{H:Hp}{s:ja}{a:ji}
abbrev TO:=St->Hp->(Option Int->Hp->Prop)->Prop
def PO(X:Cx)(e:Option Q4)(t:TO):Prop:=
 ∀(pc:List (ji × Obj)) (s:ja) (σ:St) (H:Hp) (Q:Option Int->Hp->Prop),Inv X pc σ H s->t σ H Q->
  jF (jH X.prog X.w) X.A (evalPart e X.env) (fun u s'=>∃ o H',Inv X pc σ H' s'/\IsPart u o/\Q o H') X.xe s
def zq4:TO:=fun _ H Q=>Q none H
def zuU(t:TE):TO:=fun σ H Q=>t σ H fun x H1=>∃ i,x=.int i/\Q (some i) H1
section
variable {te:TE}{lo hi:Option Q4}{tl th:TO}{p2:Pos}
theorem zqG:PO X none zq4:=by
 intro pc s σ H Q I h;rw[We];exact jg ⟨none,H,I,.none,h⟩
theorem zqF(h:PE X e te):PO X (some e) (zuU te):=by
 intro pc s σ H Q I hw;rw[evalPart_some];refine thn (h pc s σ H _ I hw) fun u s1 h_=>?_; obtain⟨x,H1,I1,r1,q1⟩:=h_;obtain⟨i,rfl,q⟩:=q1;obtain⟨t,rfl⟩:=r1;exact⟨some i,H1,I1,.int i t,q⟩
def SlR(X:Cx)(r:V->Option Int->Option Int->Hp->VK->Prop):Prop:=
 ∀(pc:List (ji × Obj)) (s:ja) (σ:St) (H:Hp) (x:V) (v vl vu:j6) (lo hi:Option Int) (sl:ji) (Q:VK),Inv X pc σ H s->RelV x v->s.heap.IsSliceOf sl vl vu .none->IsPart vl lo->IsPart vu hi->r x lo hi H Q->
  ∃ T id,JA (.type T) "__getitem__"=pure (some (.builtin id))/\s.TypeIs v T/\jF (jH X.prog X.w) X.A (Jh v (.ref sl)) (EP X pc σ Q) X.xe s
def tSl(r:V->Option Int->Option Int->Hp->VK->Prop)(te:TE)(tl th:TO):TE:=fun σ H Q=>te σ H fun x H1=>tl σ H1 fun l H2=>th σ H2 fun u H3=>r x l u H3 Q
theorem zhR{r:V->Option Int->Option Int->Hp->VK->Prop}(hr:SlR X r)(he:PE X e te)(hl:PO X lo tl)(hu:PO X hi th):PE X (.Subscript e (.Slice lo hi none p2) pos) (tSl r te tl th):=by
 intro pc s σ H Q I h;refine Wy (thn (he pc s σ H _ I h) fun v s1 h_=>?_); obtain⟨x,H1,I1,r1,q1⟩:=h_;refine wpAny_Slice (thn (hl pc s1 σ H1 _ I1 q1) fun vl s2 h_=>?_); obtain⟨l,H2,I2,pl,q2⟩:=h_; refine thn (hu pc s2 σ H2 _ I2 q2) fun vu s3 h_=>?_; obtain⟨u,H3,I3,pu,q3⟩:=h_;rw[We];refine jg ?_;have I4:Inv X pc σ H3 { s3 with heap:=s3.heap.push { cls:=.type "slice",data:=.fields #[vl,vu,.none] } }:=I3.kept (t':=s3.toks) fun b ob q=>jb _ q;obtain⟨T,id,hT,ht,hg⟩:=hr pc { s3 with heap:=s3.heap.push { cls:=.type "slice",data:=.fields #[vl,vu,.none] } } σ H3 x v vl vu l u s3.heap.objs.size Q I4 r1 (Wf ..) pl pu q3;show jF (jH X.prog X.w) X.A (YN e (.Slice lo hi none p2) v (.ref s3.heap.objs.size)) (EP X pc σ Q) X.xe { s3 with heap:=s3.heap.push { cls:=.type "slice",data:=.fields #[vl,vu,.none] } };exact tail_any (ops:=[.ref s3.heap.objs.size,v]) ht hT hg (by with_unfolding_all rfl)
def zpD(xs:List V)(lo hi:Option Int):List V:=(xs.drop (HT.sIx xs.length 0 lo)).take (HT.sIx xs.length xs.length hi - HT.sIx xs.length 0 lo)
theorem zkp(xs:List V)(lo hi:Option Int):(zpD xs lo hi).length<=xs.length:=by
 unfold zpD;rw[Q7,QL];lia
end
def ixN(n:Nat)(i:Int):Option Nat:=if 0<=i then (if i < n then some i.toNat else none) else if -(n:Int)<=i then some (i+n).toNat else none
def atI{α:Type}(xs:List α)(i:Int):Option α:=(ixN xs.length i).bind fun j=>xs[j]?
theorem zni{n:Nat}{i:Int}{j:Nat}(h:ixN n i=some j):seqIndex? i n=some j/\j < n/\-(n:Int)<=i/\i < n:=by
 unfold ixN at h
 by_cases h0:0<=i
 ·rw[Ip_ h0] at h
  by_cases h1:i < n
  ·rw[Ip_ h1] at h;have e:i.toNat=j:=jc h;exact⟨by rw[Ji h0 h1,e],by lia,by lia,h1⟩
  ·rw[In_ h1] at h; cases h
 ·rw[In_ h0] at h
  by_cases h1:-(n:Int)<=i
  ·rw[Ip_ h1] at h;have e:(i+n).toNat=j:=jc h;exact⟨by rw[WR (by lia) h1,e],by lia,h1,by lia⟩
  ·rw[In_ h1] at h; cases h
theorem zkv{α:Type}{xs:List α}{i:Int}{v:α}(h:atI xs i=some v):∃ j,seqIndex? i xs.length=some j/\xs[j]?=some v/\j < xs.length/\-(xs.length:Int)<=i/\i < xs.length:=by
 unfold atI at h;cases e:ixN xs.length i with
 |none=>rw[e] at h; cases h
 |some j=>
  rw[e] at h;obtain⟨h1,h2,h3,h4⟩:=zni e;exact⟨j,h1,h,h2,h3,h4⟩
theorem zry{α:Type}{xs:List α}{j:Nat}{v:α}(h:xs[j]?=some v):atI xs (j:Int)=some v:=by
 have hj:j < xs.length:=(j9.mp h).1;have e:ixN xs.length (j:Int)=some j:=by
  unfold ixN;rw[Ip_ (by lia),Ip_ (by lia)]; simp
 unfold atI; rw[e]; exact h
def zgW(b:Q4):Prop:=∀ o i,NX b false o i=operate [o,i] (Jh o i)
def IxR(X:Cx)(r:R2):Prop:=
 ∀(value slice:Q4) (pc:List (ji × Obj)) (s:ja) (σ:St) (H:Hp) (x y:V) (v u:j6) (Q:VK),Inv X pc σ H s->RelV x v->RelV y u->r x y H Q->
  NX slice false v u=operate [v,u] (Jh v u)->jF (jH X.prog X.w) X.A (YN value slice v u) (EP X pc σ Q) X.xe s
def MtR(X:Cx)(id:String)(r:V->List V->Hp->VK->Prop):Prop:=
 ∀(pc:List (ji × Obj)) (s:ja) (σ:St) (H:Hp) (x:V) (xs:List V) (v:j6) (us:List j6) (Q:VK),Inv X pc σ H s->RelV x v->Vals xs us->r x xs H Q->
  jF (jH X.prog X.w) X.A (call (.builtin id) (v::us)) (EP X pc σ Q) X.xe s
section
variable {a b:Q4}{ta tb:TE}
theorem IxR.or{r r':R2}(h:IxR X r)(h':IxR X r'):IxR X (fun x y H Q=>r x y H Q∨r' x y H Q):=by
 intro value slice pc s σ H x y v u Q I rx ry q hs;rcases q with q |q
 ·exact h value slice pc s σ H x y v u Q I rx ry q hs
 ·exact h' value slice pc s σ H x y v u Q I rx ry q hs
theorem zsV{r:R2}(hr:IxR X r)(ha:PE X a ta)(hb:PE X b tb)(hs:zgW b):PE X (.Subscript a b pos) (tOp r ta tb):=by
 intro pc s σ H Q I h;exact Wy (zvZ ha hb I h fun v u s2 x y H2 I2 rx ry q=>hr a b pc s2 σ H2 x y v u Q I2 rx ry q (hs _ _))
def zwn(K:j8):R2:=fun x y H Q=>∃ p xs i v,x=.ref p/\y=.int i/\SqL K H p xs/\atI xs i=some v/\Q v H
def zwl(K:j8):R2:=fun x y H Q=>∃ p xs i v,x=.ref p/\y=.int i/\SqT K H p xs/\atI xs i=some v/\Q v H
def zwm:R2:=fun x y H Q=>∃ z i c,x=.str z/\y=.int i/\z.length<=jn/\atI z.cps.toList i=some c/\Q (.str ⟨#[c]⟩) H
theorem ix_list:IxR X (zwn X.K):=by
 intro value slice pc s σ H x y v u Q I rx ry h hs;obtain⟨p,xs,i,z,rfl,rfl,hq,he,q⟩:=h;cases rx;obtain⟨t,rfl⟩:=ry;obtain⟨its,r,pl,hz⟩:=I.list hq;obtain⟨j,h1,h2,h3,h4,h5⟩:=zkv he;obtain⟨w,ew,rw'⟩:=r.get h2;have hl:=r.length;have hn:=zgB;have fin:EP X pc σ Q w s:=⟨z,H,I,rw',q⟩
 by_cases h0:0<=i
 ·have hj:i.toNat=j:=by
   rw[Ji h0 h5] at h1;exact jc h1
  exact item_listR pl.isList h0 (by lia) (by rw[hj]; simpa using ew) fin hs
 ·have hj:(i+(its.toArray.size:Int)).toNat=j:=by
   rw[WR (by lia) h4] at h1
   rw[jq,<-hl];exact jc h1
  exact Na (x:=w) pl.isList.typeIs Yv.lookup
   (wpAny_getItem_list_neg (Q:=fun r s'=>r=w/\EP X pc σ Q r s') pl.isList (by lia) (by rw[jq]<;>lia) (by lia) (by rw[hj]; simpa using ew) ⟨rfl,fin⟩) hs
theorem ix_tup:IxR X (zwl X.K):=by
 intro value slice pc s σ H x y v u Q I rx ry h hs;obtain⟨p,xs,i,z,rfl,rfl,hq,he,q⟩:=h;cases rx;obtain⟨t,rfl⟩:=ry;obtain⟨its,r,pl,hz⟩:=I.tuple hq;obtain⟨j,h1,h2,h3,h4,h5⟩:=zkv he;obtain⟨w,ew,rw'⟩:=r.get h2;have hl:=r.length;have hn:=zgB;have fin:EP X pc σ Q w s:=⟨z,H,I,rw',q⟩;exact Na (x:=w) pl.typeIs slot_tuple_getitem.lookup
  (getItem_tuple (j:=j) (Q:=fun r s'=>r=w/\EP X pc σ Q r s') pl (by lia) (by lia) (by rw[jq,<-hl]; exact h1) (by simpa using ew) ⟨rfl,fin⟩) hs
theorem ztl:IxR X zwm:=by
 intro value slice pc s σ H x y v u Q I rx ry h hs;obtain⟨z,i,c,rfl,rfl,hz,he,q⟩:=h;obtain⟨t,rfl⟩:=rx;obtain⟨t',rfl⟩:=ry;obtain⟨j,h1,h2,h3,h4,h5⟩:=zkv he;have hl:z.cps.toList.length=z.length:=by simp[Str.length]
 rw[hl] at h1 h4 h5;have hn:=zgB
 exact tail_any (JB s z t) slot_str_getitem.lookup (getItem_str (c:=c) (by
  have e1:decide (i < -(2 ^ 63:Int))=false:=Df_ (by lia)
  have e2:decide (i≥2 ^ 63)=false:=Df_ (by lia)
  rw[e1,e2,Bool.or_false]) (by rw[h1]; simpa using h2) ⟨.str ⟨#[c]⟩,H,I.tok _,⟨_,rfl⟩,q⟩) hs
def rIx(K:j8):R2:=fun x y H Q=>zwn K x y H Q∨zwl K x y H Q∨zwm x y H Q
theorem zpt:IxR X (rIx X.K):=ix_list.or (ix_tup.or ztl)
theorem zlI(its:List j6)(n j:Nat)(u:j6):NJ (·.setIfInBounds j u) { cls:=.type "list",data:=.seq its.toArray n }={ cls:=.type "list",data:=.seq (its.set j u).toArray n }:=by
 simp[NJ]
theorem Inv.lst{pc:List (ji × Obj)}{σ:St}{H:Hp}{s:ja}{p:ji}{xs:List V}(I:Inv X pc σ H s)(h:H p=some (.lst xs)) :
  ∃(its:List j6) (n:Nat),Vals xs its/\s.heap.get? p=some { cls:=.type "list",data:=.seq its.toArray n }/\xs.length<=jn:=by
 obtain⟨z,its,n,r,e⟩:=I.hok p _ h;exact⟨its,n,r,e,z⟩
theorem Inv.lstUpd{pc:List (ji × Obj)}{σ:St}{H:Hp}{s:ja}{p:ji}{xs ys:List V}{its its':List j6}{n n':Nat}{f:Obj->Obj}(I:Inv X pc σ H s)(h:H p=some (.lst xs))
  (ho:s.heap.get? p=some { cls:=.type "list",data:=.seq its.toArray n }) (hf:f { cls:=.type "list",data:=.seq its.toArray n }={ cls:=.type "list",data:=.seq its'.toArray n' }) (r:Vals ys its') (hz:ys.length<=jn) (t:Nat) :
  Inv X pc σ (upd H p (.lst ys)) { s with heap:=s.heap.update p f,toks:=t }:=by
 have e:(s.heap.update p f).get? p=some { cls:=.type "list",data:=.seq its'.toArray n' }:=by
  rw[Nq f ho (by rw[hf]<;>rfl),hf]
 refine I.write (x:=p) (e:=p) (by rw[h]; trivial) (.inl rfl) (fun b u hb q=>(Nb _ _ (ZD hb)).trans q) ⟨_,e⟩ ?_
 exact⟨hz,its',n',r,e⟩
def zsu:V->V->V->Hp->(Hp->Prop)->Prop:=fun o i v H Q=>∃ p xs k j,o=.ref p/\i=.int k/\H p=some (.lst xs)/\ixN xs.length k=some j/\Q (upd H p (.lst (xs.set j v)))
theorem zfY:zw3 X zsu:=by
 intro pc s σ H o i v ov iv u Q I ro ri rv h;obtain⟨p,xs,k,j,rfl,rfl,hp,hj,q⟩:=h;cases ro;obtain⟨t,rfl⟩:=ri;obtain⟨its,n,r,ho,hz⟩:=I.lst hp;obtain⟨h1,h2,h3,h4⟩:=zni hj;have hl:=r.length;have hn:=zgB;have I':Inv X pc σ (upd H p (.lst (xs.set j v))) { s with heap:=s.heap.update p (NJ (·.setIfInBounds j u)) }:=
  I.lstUpd hp ho (zlI its n j u) (r.set rv j) (by rw[Q0]; exact hz) s.toks
 by_cases h0:0<=k
 ·have hk:k.toNat=j:=by
   rw[Ji h0 h4] at h1;exact jc h1
  exact PySem.W.ki_setAt ho h0 (by lia) (by rw[jq,<-hl]; exact h4) (by rw[hk]; exact⟨_,I',q⟩)
 ·have hk:(k+(its.toArray.size:Int)).toNat=j:=by
   rw[WR (by lia) h3] at h1
   rw[jq,<-hl];exact jc h1
  exact PySem.W.ki_setBack ho (by lia) (by rw[jq,<-hl]; exact h3) (by lia) (by rw[hk]; exact⟨_,I',q⟩)
theorem ziz(lo hi:Option Int)(n:Nat):(gL lo hi none n).1=((HT.sIx n 0 lo:Nat):Int)/\(gL lo hi none n).2.1=((HT.sIx n n hi:Nat):Int)/\(gL lo hi none n).2.2=1:=by
 refine⟨?_,?_,rfl⟩
 ·cases lo with
  |none=>simp[gL,HT.sIx]
  |some i=>
   simp only[gL,HT.sIx,WZ,show (1:Int) > 0 by decide,if_true]
   by_cases h:i < 0
   ·simp only[h,if_true]<;>lia
   ·simp only[h,if_false]<;>lia
 ·cases hi with
  |none=>simp[gL,HT.sIx]
  |some i=>
   simp only[gL,HT.sIx,WZ,show (1:Int) > 0 by decide,if_true]
   by_cases h:i < 0
   ·simp only[h,if_true]<;>lia
   ·simp only[h,if_false]<;>lia
theorem zhx(its:List j6)(lo hi:Option Int):slicePick its.toArray lo hi none=((its.drop (HT.sIx its.length 0 lo)).take (HT.sIx its.length its.length hi - HT.sIx its.length 0 lo)).toArray:=by
 obtain⟨h1,h2,h3⟩:=ziz lo hi its.toArray.size;unfold slicePick;rw[h1,h2,h3];simp only[sliceRange_one,pick_run,jq]<;>rfl
def zwk(K:j8):V->Option Int->Option Int->Hp->VK->Prop:=fun x lo hi H Q=>∃ a xs,x=.ref a/\SqL K H a xs/\∀ p,H p=none->Q (.ref p) (upd H p (.lst (zpD xs lo hi)))
theorem zmn:SlR X (zwk X.K):=by
 intro pc s σ H x v vl vu lo hi sl Q I rx hs pl pu h;obtain⟨a,xs,rfl,hx,q⟩:=h;cases rx;obtain⟨its,r,ht,hz⟩:=I.list hx;have hlen:=r.length;refine⟨"list",_,Yv.lookup,ht.isList.typeIs,?_⟩;refine Yw ht.isList hs pl pu .none (by simp) ?_ (by rw[jq]<;>lia)
 rw[zhx,<-hlen];refine⟨.ref s.heap.objs.size,_,I.laid (t':=s.toks) (o:=.lst (zpD xs lo hi)) (fun b ob q=>jb _ q) (jj _) ?_,rfl,q _ (I.hok.fresh (jj _))⟩;exact⟨Q9 (zkp xs lo hi) hz,_,0,(r.drop (HT.sIx xs.length 0 lo)).take (HT.sIx xs.length xs.length hi - HT.sIx xs.length 0 lo),jN _ rfl⟩
def zft:V->Bool
 |.non=>true
 |.bl _=>true
 |.int _=>true
 |.str _=>true
 |_=>false
def eqV:V->V->Bool
 |.non,.non=>true
 |.bl a,.bl b=>a == b
 |.bl a,.int b=>(if a then 1 else 0) == b
 |.int a,.bl b=>a == (if b then 1 else 0)
 |.int a,.int b=>a == b
 |.str a,.str b=>a == b
 |_,_=>false
theorem ztD{A:Q3}{s:ja}{y x:V}{u v:j6}(ry:RelV y u)(rx:RelV x v)(fy:zft y=true)(fx:zft x=true):SeqAt.EqAt A s u v (eqV y x):=by
 cases y with
 |non=>
  cases ry;cases x with
  |non=>cases rx; exact SeqAt.EqAt.same _
  |bl b=>cases rx; exact SeqAt.EqAt.none_bool b
  |int b=>obtain⟨t,rfl⟩:=rx; exact SeqAt.EqAt.none_int b t
  |str b=>obtain⟨t,rfl⟩:=rx; exact SeqAt.EqAt.none_str b t
  |_=>exact absurd (show false=true from fx) jK
 |bl a=>
  cases ry;cases x with
  |non=>cases rx; exact SeqAt.EqAt.bool_none a
  |bl b=>cases rx; exact SeqAt.EqAt.bool_bool a b
  |int b=>obtain⟨t,rfl⟩:=rx; exact SeqAt.EqAt.bool_int a b t
  |str b=>obtain⟨t,rfl⟩:=rx; exact SeqAt.EqAt.bool_str a b t
  |_=>exact absurd (show false=true from fx) jK
 |int a=>
  obtain⟨t',rfl⟩:=ry;cases x with
  |non=>cases rx; exact SeqAt.EqAt.int_none a t'
  |bl b=>cases rx; exact SeqAt.EqAt.int_bool a t' b
  |int b=>obtain⟨t,rfl⟩:=rx; exact SeqAt.EqAt.int_int a t' b t
  |str b=>obtain⟨t,rfl⟩:=rx; exact W6 a t' b t
  |_=>exact absurd (show false=true from fx) jK
 |str a=>
  obtain⟨t',rfl⟩:=ry;cases x with
  |non=>cases rx; exact SeqAt.EqAt.str_none a t'
  |bl b=>cases rx; exact SeqAt.EqAt.str_bool a t' b
  |int b=>obtain⟨t,rfl⟩:=rx; exact W7 a t' b t
  |str b=>obtain⟨t,rfl⟩:=rx; exact SeqAt.EqAt.str_str a t' b t
  |_=>exact absurd (show false=true from fx) jK
 |_=>exact absurd (show false=true from fy) jK
def eqU(x:V)(u:j6):Bool:=match u with
 |.none=>eqV .non x
 |.bool b=>eqV (.bl b) x
 |.int i _=>eqV (.int i) x
 |.str z _=>eqV (.str z) x
 |_=>false
theorem znA{x y:V}{u:j6}(r:RelV y u)(f:zft y=true):eqU x u=eqV y x:=by
 cases y with
 |non=>cases r; rfl
 |bl b=>cases r; rfl
 |int i=>obtain⟨t,rfl⟩:=r; rfl
 |str z=>obtain⟨t,rfl⟩:=r; rfl
 |_=>exact absurd (show false=true from f) jK
theorem zkw{x:V}:∀ {xs:List V} {us:List j6},Vals xs us->xs.all zft=true->us.any (eqU x)=xs.any fun y=>eqV y x
 |_,_,.nil,_=>rfl
 |y::xs,u::us,.cons r t,f=>by
  rw[Y2,jD] at f;rw[Z6,Z6,znA r f.1,zkw t f.2]
theorem zg2{A:Q3}{s:ja}{x:V}{v:j6}(rx:RelV x v)(fx:zft x=true):∀ {xs:List V} {us:List j6},Vals xs us->xs.all zft=true->∀ u∈us,SeqAt.EqAt A s u v (eqU x u)
 |_,_,.nil,_=>fun u hu=>by cases hu
 |y::xs,u::us,.cons r t,f=>fun u' hu=>by
  rw[Y2,jD] at f;rcases ju.mp hu with rfl |hu
  ·rw[znA r f.1]; exact ztD r rx f.1 fx
  ·exact zg2 rx fx t f.2 u' hu
def inV(x:V)(xs:List V):Bool:=xs.any fun y=>eqV y x
def rIn(K:j8)(neg:Bool):R2:=fun x y H Q=>∃ p xs,y=.ref p/\(SqL K H p xs∨SqT K H p xs)/\zft x=true/\xs.all zft=true/\Q (.bl (if neg then !inV x xs else inV x xs)) H
theorem zfI:OpR X (QP .NotIn) (rIn X.K true):=by
 intro pc s σ H x y v u Q I rx ry h;obtain⟨p,xs,rfl,hq,fx,fs,q⟩:=h;cases ry;rcases hq with hq |hq
 ·obtain⟨its,r,pl,hz⟩:=I.list hq;refine SeqAt.notIn_listAt (eqU x) pl.isList (fun w hw=>zg2 rx fx r fs w (by simpa using hw)) ⟨.bl _,H,I,rfl,?_⟩
  rw[show its.toArray.any (eqU x)=its.any (eqU x) by simp,zkw r fs]
  exact q
 ·obtain⟨its,r,pl,hz⟩:=I.tuple hq;refine SeqAt.notIn_tupleAt (eqU x) pl (fun w hw=>zg2 rx fx r fs w (by simpa using hw)) ⟨.bl _,H,I,rfl,?_⟩
  rw[show its.toArray.any (eqU x)=its.any (eqU x) by simp,zkw r fs]
  exact q
theorem zjo:CallR X (.builtin "len") (fun xs H Q=>∃ p ys,xs=[.ref p]/\(SqL X.K H p ys∨SqT X.K H p ys)/\Q (.int ys.length) H):=by
 intro pc s σ H xs us Q I r h;obtain⟨p,ys,rfl,hq,q⟩:=h;obtain⟨u,rfl,rx⟩:=zma r;cases rx;have hn:=zgB;rcases hq with hq |hq
 ·obtain⟨its,r',pl,hz⟩:=I.list hq;have hlen:=r'.length;exact Calls.call_len_list pl.isList (by simp only[jq]<;>lia) ⟨.int ys.length,H,I.tok _,⟨s.toks+1,by rw[jq,hlen]⟩,q⟩
 ·obtain⟨its,r',pl,hz⟩:=I.tuple hq;have hlen:=r'.length;exact len_tuple pl (by simp only[jq]<;>lia) ⟨.int ys.length,H,I.tok _,⟨s.toks+1,by rw[jq,hlen]⟩,q⟩
theorem zjn:CallR X (.builtin "len") (fun xs H Q=>∃ z,xs=[.str z]/\z.length<=jn/\Q (.int z.length) H):=by
 intro pc s σ H xs us Q I r h;obtain⟨z,rfl,hz,q⟩:=h;obtain⟨u,rfl,t,rfl⟩:=zma r;have hn:=zgB;exact len_str (by lia) ⟨.int z.length,H,I.tok _,⟨_,rfl⟩,q⟩
theorem CallR.or{f:j6}{r r':List V->Hp->VK->Prop}(h:CallR X f r)(h':CallR X f r'):CallR X f (fun xs H Q=>r xs H Q∨r' xs H Q):=by
 intro pc s σ H xs us Q I rs q;rcases q with q |q
 ·exact h pc s σ H xs us Q I rs q
 ·exact h' pc s σ H xs us Q I rs q
theorem zjm:CallR X (.type "list") (fun xs H Q=>∃ p ys,xs=[.ref p]/\(SqL X.K H p ys∨SqT X.K H p ys)/\∀ l,H l=none->Q (.ref l) (upd H l (.lst ys))):=by
 intro pc s σ H xs us Q I r h;obtain⟨p,ys,rfl,hq,q⟩:=h;obtain⟨u,rfl,rx⟩:=zma r;cases rx;have fin:∀(its:List j6),Vals ys its->ys.length<=jn->∀(h':Qs) (c':Nat),(∀ b o',s.heap.get? b=some o'->h'.get? b=some o')->
   h'.get? s.heap.objs.size=some { cls:=.type "list",dict:=none,data:=.seq its.toArray c',slots:=#[] }->EP X pc σ Q (.ref s.heap.objs.size) { s with heap:=h' }:=fun its r' hz h' c' kp e=>
  ⟨.ref s.heap.objs.size,_,I.laid (t':=s.toks) kp (jj _) (show ObjOk X.prog X.w _ h' _ (.lst ys) from ⟨hz,its,c',r',e⟩),rfl,q _ (I.hok.fresh (jj _))⟩
 rcases hq with hq |hq
 ·obtain⟨its,r',pl,hz⟩:=I.list hq;have hlen:=r'.length;obtain⟨o,ho,hc,n,hd⟩:=pl.isList;exact call_list_seq p (.inl rfl) ho hc hd (fun h' c' kp e=>fin its r' hz h' c' kp e) (by simp only[jq]<;>lia)
 ·obtain⟨its,r',pl,hz⟩:=I.tuple hq;have hlen:=r'.length;obtain⟨o,ho,hc,n,hd⟩:=pl;exact call_list_seq p (.inr rfl) ho hc hd (fun h' c' kp e=>fin its r' hz h' c' kp e) (by simp only[jq]<;>lia)
def tyV(K:j8)(T:String)(x:V)(H:Hp):Prop:=match x with
 |.str _=>T="str"
 |.int _=>T="int"
 |.ref p=>(T="list"/\∃ xs,SqL K H p xs)∨(T="tuple"/\∃ o,K.lookup p=some o/\o.cls=.type "tuple"/\o.dict=none) ∨
   (T="dict"/\((∃ kvs,H p=some (.dK kvs))∨∃ kvs,H p=some (.dT kvs)))∨(T="set"/\∃ S n,H p=some (.set S n))
 |_=>False
theorem zp5{pc:List (ji × Obj)}{σ:St}{H:Hp}{s:ja}{T:String}{x:V}{v:j6}(I:Inv X pc σ H s)(r:RelV x v)(ty:tyV X.K T x H) :
  s.TypeIs v T/\∀ a,v=.ref a->∃ ob,s.heap.get? a=some ob/\ob.dict=none:=by
 cases x with
 |str z=>
  obtain⟨t,rfl⟩:=r;cases (show T="str" from ty);exact⟨JB s z t,fun _ e=>nomatch e⟩
 |int i=>
  obtain⟨t,rfl⟩:=r;cases (show T="int" from ty);exact⟨typeIs_int s i t,fun _ e=>nomatch e⟩
 |ref p=>
  cases r;rcases ty with ⟨rfl,xs,hq⟩ |⟨rfl,o,hk,hc,hd⟩ |⟨rfl,hk⟩ |⟨rfl,S,n,hk⟩
  ·obtain⟨its,_,pl,_⟩:=I.list hq;refine⟨pl.isList.typeIs,fun a e=>?_⟩;cases e;obtain⟨o,n,e,c,hd,_⟩:=pl;exact⟨o,e,hd⟩
  ·refine⟨⟨o,I.kIn p o hk,hc⟩,fun a e=>?_⟩;cases e;exact⟨o,I.kIn _ o hk,hd⟩
  ·have z:∃ o,s.heap.get? p=some o/\o.ExactDict:=by
    rcases hk with ⟨kvs,hk⟩ |⟨kvs,hk⟩
    ·obtain⟨_,_,_,_,o,_,_,e,ex,_⟩:=I.hok p _ hk;exact⟨o,e,ex⟩
    ·obtain⟨_,_,_,_,o,_,_,e,ex,_⟩:=I.hok p _ hk;exact⟨o,e,ex⟩
   obtain⟨o,e,ex⟩:=z;refine⟨⟨o,e,ex.1⟩,fun a e2=>?_⟩;cases e2;exact⟨o,e,ex.2.1⟩
  ·obtain⟨o,_,_,_,e,ex,_⟩:=I.hok p _ hk;refine⟨⟨o,e,ex.1⟩,fun a e2=>?_⟩;cases e2;exact⟨o,e,ex.2.1⟩
 |_=>exact Qu ty
def zu1(K:j8)(T:String)(r:V->List V->Hp->VK->Prop)(to:TE):TE:=fun σ H Q=>to σ H fun x H1=>tyV K T x H1/\r x [] H1 Q
def tBM(K:j8)(T:String)(r:V->List V->Hp->VK->Prop)(to:TE)(t:TA):TE:=fun σ H Q=>to σ H fun x H1=>tyV K T x H1/\t σ H1 fun xs H2=>r x xs H2 Q
variable {o:Q4}{es:List Q4}{to:TE}{t:TA}{name:Str}{apos cpos:Pos}{T id:String}{r:V->List V->Hp->VK->Prop}
theorem zsY(pa:Wz T)(slot:Slot T name id)(hty:typeOf (.builtin id)=pure (.type "method_descriptor"))(hm:MtR X id r)(ho:PE X o to)
  (hbase:YO o name X.env (eval o X.env)=eval o X.env:=by rfl) (hline:(apos.endLine == cpos.line)=true:=by rfl):PE X (.Call (.Attribute o name apos) [] [] cpos) (zu1 X.K T r to):=by
 intro pc s σ H Q I h;refine wpAny_Call_method0_late hbase hline (thn (ho pc s σ H _ I h) fun v s1 h_=>?_); obtain⟨x,H1,I1,r1,ty,q1⟩:=h_;obtain⟨h1,h2⟩:=zp5 I1 r1 ty;exact⟨T,id,pa,slot,hty,h1,h2,Nc rfl (PySem.evalArgs_none (hm pc s1 σ H1 x [] v [] Q I1 r1 .nil q1))⟩
theorem zvp(pa:Wz T)(slot:Slot T name id)(hty:typeOf (.builtin id)=pure (.type "method_descriptor"))(hm:MtR X id r)(ho:PE X o to)(ha:PA X (e::es) t)
  (hbase:YO o name X.env (eval o X.env)=eval o X.env:=by rfl)
  (hfew:((QB cpos (je (e::es) X.env)).all (fun x=>!x.1)&&(backToKw cpos (keywordEach [] X.env)).all (fun x=>x.1.isSome)
   && decide ((e::es).length+([]:List Keyword).length+(if ([]:List Keyword).isEmpty then 0 else 1) < 30))=true:=by rfl)
  (hline:(apos.endLine == cpos.line)=true:=by rfl) (hs:je (e::es) X.env=(false,eval e X.env)::je es X.env:=by rfl) (hplain:(QB cpos (je es X.env)).any (·.1)=false:=by rfl) :
  PE X (.Call (.Attribute o name apos) (e::es) [] cpos) (tBM X.K T r to t):=by
 intro pc s σ H Q I h;refine wpAny_Call_method_late hbase hfew hline rfl (thn (ho pc s σ H _ I h) fun v s1 h_=>?_); obtain⟨x,H1,I1,r1,ty,q1⟩:=h_;obtain⟨h1,h2⟩:=zp5 I1 r1 ty;refine⟨T,id,pa,slot,hty,h1,h2,?_⟩;have hA:=ha cpos pc s1 σ H1 _ I1 q1;rw[hs] at hA ⊢;refine Nc (by show (false||(QB cpos (je es X.env)).any (·.1))=false; rw[hplain]<;>rfl) (gX ?_)
 exact thn hA fun us s2 ⟨vs,H2,I2,r2,q2⟩=>hm pc s2 σ H2 x vs v us Q I2 r1 r2 q2
end
def MtM(X:Cx)(id:String)(r:V->List V->Hp->VK->Prop):Prop:=
 ∀(pc:List (ji × Obj)) (s:ja) (σ:St) (H:Hp) (x:V) (xs:List V) (v:j6) (us:List j6) (Q:VK),Inv X pc σ H s->RelV x v->Vals xs us->r x xs H Q->
  jF (jH X.prog X.w) X.A (call (.builtin id) (v::us)) (EP X pc σ Q) X.xe s
theorem Vals.one{x:V}{us:List j6}(h:Vals [x] us):∃ u,us=[u]/\RelV x u:=by
 cases h with
 |cons r t=>cases t; exact⟨_,rfl,r⟩
theorem Vals.zero:∀ {us:List j6},Vals [] us->us=[]
 |_,.nil=>rfl
theorem Vals.dropLast{xs:List V}{us:List j6}(h:Vals xs us):Vals xs.dropLast us.dropLast:=by
 induction h with
 |nil=>exact .nil
 |cons r t ih=>
  cases t with
  |nil=>exact .nil
  |cons q t'=>exact .cons r ih
theorem Vals.reverse{xs:List V}{us:List j6}(h:Vals xs us):Vals xs.reverse us.reverse:=by
 induction h with
 |nil=>exact .nil
 |cons r t ih=>rw[QU,QU]; exact Vals.append ih (.cons r .nil)
theorem zlV{α:Type}(l:List α):l.eraseIdx (l.length - 1)=l.dropLast:=by
 induction l with
 |nil=>rfl
 |cons a r ih=>
  cases r with
  |nil=>rfl
  |cons b r=>
   have e:(a::b::r).length - 1=((b::r).length - 1)+1:=by
    have h1:(a::b::r).length=r.length+2:=rfl;have h2:(b::r).length=r.length+1:=rfl;lia
   rw[e,YQ,ih]
   all_goals rfl
section
variable {l b:ji}{xs ys zs:List V}
theorem Inv.lset{its its':List j6}{n:Nat}{f:Array j6->Array j6}{t':Nat}(I:Inv X pc σ H s)(hH:H l=some (.lst xs))
  (e:s.heap.get? l=some { cls:=.type "list",data:=.seq its.toArray n }) (hf:f its.toArray=its'.toArray) (hv:Vals ys its') (hz:ys.length<=jn) :
  Inv X pc σ (upd H l (.lst ys)) { s with heap:=s.heap.update l (NJ f),toks:=t' }:=by
 have q:=PySem.IsL.update e f;rw[hf] at q;refine I.write (x:=l) (e:=l) (by rw[hH]; exact trivial) (.inl rfl) (fun b' u hb hu=>(Nb s.heap (NJ f) (ZD hb)).trans hu) ⟨_,q⟩ ?_
 exact⟨hz,its',_,hv,q⟩
theorem Inv.lnew{its:List j6}{t':Nat}(I:Inv X pc σ H s)(hv:Vals ys its)(hz:ys.length<=jn) :
  Inv X pc σ (upd H s.heap.objs.size (.lst ys)) { s with heap:=s.heap.push { cls:=.type "list",data:=.seq its.toArray },toks:=t' }:=
 I.laid (fun _ _ q=>jb _ q) (jj _) ⟨hz,its,0,hv,jN _ rfl⟩
theorem Inv.fresh(I:Inv X pc σ H s):H s.heap.objs.size=none:=I.hok.fresh (jj _)
theorem Inv.lstM(I:Inv X pc σ H s)(hH:H l=some (.lst xs)):xs.length<=jn/\∃(its:List j6) (n:Nat),Vals xs its/\xs.length=its.length/\s.heap.get? l=some { cls:=.type "list",data:=.seq its.toArray n }:=by
 obtain⟨z,its,n,r,e⟩:=I.hok l _ hH;exact⟨z,its,n,r,r.length,e⟩
theorem zoB{n:Nat}(h:n<=jn):gh n=false:=by
 unfold gh;exact Df_ (by lia)
end
section
def zhH:V->List V->Hp->VK->Prop:=fun x vs H Q=>∃ l xs y,x=.ref l/\vs=[y]/\H l=some (.lst xs)/\xs.length < jn/\Q .non (upd H l (.lst (xs++[y])))
theorem zbQ:MtM X "list.append" zhH:=by
 intro pc s σ H x vs v us Q I rx rv h;obtain⟨l,xs,y,rfl,rfl,hH,hz,q⟩:=h;cases rx;obtain⟨u,rfl,ru⟩:=rv.one;obtain⟨z,its,n,r,hl,e⟩:=I.lstM hH;refine WA F.slot_list_append ⟨_,e,rfl⟩ F.entry_list_append (F.args_list_append_2 _ _) (PySem.list_append l its.toArray n u (by rw[jq]; lia)) ⟨e,?_⟩
 refine⟨.non,_,I.lset (its':=its++[u]) hH e (by simp) (r.append (.cons ru .nil)) ?_,rfl,q⟩
 rw[jk,Ze];lia
def zjJ:V->List V->Hp->VK->Prop:=fun x vs H Q=>∃ l b xs zs,x=.ref l/\vs=[.ref b]/\H l=some (.lst xs)/\H b=some (.lst zs)/\xs.length+zs.length<=jn/\Q .non (upd H l (.lst (xs++zs)))
theorem zj0:MtM X "list.extend" zjJ:=by
 intro pc s σ H x vs v us Q I rx rv h;obtain⟨l,b,xs,zs,rfl,rfl,hH,hB,hz,q⟩:=h;cases rx;obtain⟨u,rfl,ru⟩:=rv.one;cases ru;obtain⟨z,its,n,r,hl,e⟩:=I.lstM hH;obtain⟨z2,its2,n2,r2,hl2,e2⟩:=I.lstM hB;have hsz:its.toArray.size+its2.toArray.size<=jn:=by rw[jq,jq]; lia
 have hlong:¬ (!its.toArray.isEmpty&&gh (its.toArray.size+its2.toArray.size))=true:=by
  rw[zoB hsz,Yo];exact jK
 refine WA F.slot_list_extend ⟨_,e,rfl⟩ F.entry_list_extend (F.args_list_extend_2 _ _)
  (AutoSeq1.list_extend_list_list_0 l its.toArray n b its2.toArray n2 hlong (by rw[jq]; lia) (by lia)) ⟨e,e2,?_⟩
 refine⟨.non,_,I.lset (its':=its++its2) hH e (by simp) (r.append r2) ?_,rfl,q⟩
 rw[jk];lia
def zvc:V->List V->Hp->VK->Prop:=fun x vs H Q=>∃ l xs y,x=.ref l/\vs=[]/\H l=some (.lst xs)/\xs[xs.length - 1]?=some y/\Q y (upd H l (.lst xs.dropLast))
theorem zkT:MtM X "list.pop" zvc:=by
 intro pc s σ H x vs v us Q I rx rv h;obtain⟨l,xs,y,rfl,rfl,hH,hy,q⟩:=h;cases rx;have hus:=rv.zero;subst hus;obtain⟨z,its,n,r,hl,e⟩:=I.lstM hH;obtain⟨u,hu,ru⟩:=r.get hy;have hy':its.toArray[its.toArray.size - 1]?=some u:=by
  show its.toArray[its.length - 1]?=some u;rw[<-Nr,<-hl];exact hu
 refine WA F.slot_list_pop ⟨_,e,rfl⟩ F.entry_list_pop (F.args_list_pop_1 _) (MeetsSeq.list_pop_last l its.toArray n u hy' (by rw[jq]; lia)) ⟨e,?_⟩
 refine⟨y,_,I.lset (its':=its.dropLast) hH e ?_ r.dropLast ?_,ru,q⟩
 ·show its.toArray.eraseIdxIfInBounds (its.toArray.size - 1)=its.dropLast.toArray;rw[jq,List.eraseIdxIfInBounds_toArray,zlV]
 ·rw[List.length_dropLast];lia
def zwp:R2:=fun x y H Q=>∃ l b xs zs,x=.ref l/\y=.ref b/\H l=some (.lst xs)/\H b=some (.lst zs)/\xs.length+zs.length<=jn/\∀ p,H p=none->Q (.ref p) (upd H p (.lst (xs++zs)))
theorem zpo:OpR X (gv .Add) zwp:=by
 intro pc s σ H x y v u Q I rx ry h;obtain⟨l,b,xs,zs,rfl,rfl,hH,hB,hz,q⟩:=h;cases rx;cases ry;obtain⟨z,its,n,r,hl,e⟩:=I.lstM hH;obtain⟨z2,its2,n2,r2,hl2,e2⟩:=I.lstM hB;refine PySem.P.add_list e e2 ?_ (by rw[jq,jq]; lia)
 have ea:its.toArray++its2.toArray=(its++its2).toArray:=by simp
 rw[ea];exact⟨.ref _,_,I.lnew (t':=s.toks) (r.append r2) (by rw[jk]; lia),rfl,q _ I.fresh⟩
end
section
variable {κ:Type}[DecidableEq κ]
def zjz(kvs:List (κ × V))(k:κ):Option V:=(kvs.find? fun kv=>decide (kv.1=k)).map (·.2)
def zhh(kvs:List (κ × V))(k:κ)(v:V):List (κ × V):=
 if (kvs.any fun kv=>decide (kv.1=k))=true then kvs.map (fun kv=>if kv.1=k then (kv.1,v) else kv) else kvs++[(k,v)]
theorem zfV{p:κ × V}{r:List (κ × V)}{k:κ}(e:p.1=k):zjz (p::r) k=some p.2:=by simp[zjz,QZ,e]
theorem zfW{p:κ × V}{r:List (κ × V)}{k:κ}(e:¬ p.1=k):zjz (p::r) k=zjz r k:=by simp[zjz,QZ,e]
theorem zkz(k:κ):∀ kvs:List (κ × V),(kvs.any fun kv=>decide (kv.1=k))=(zjz kvs k).isSome
 |[]=>rfl
 |p::r=>by
  rw[Z6]
  by_cases e:p.1=k
  ·simp only[zfV e,Dt_ e,U1,Option.isSome_some]
  ·rw[zfW e,Df_ e,Wg]; exact zkz k r
theorem zdm(kvs:List (κ × V))(k:κ)(v:V):(zhh kvs k v).length<=kvs.length+1:=by
 unfold zhh;split
 ·rw[j5]; lia
 ·rw[jk,jp,ZJ]; lia
theorem RelO.isSome_eq{o:Option V}{u:Option j6}(r:RelO o u):o.isSome=u.isSome:=by
 cases o with
 |none=>cases u with
  |none=>rfl
  |some _=>exact(show False from r).elim
 |some _=>cases u with
  |none=>exact(show False from r).elim
  |some _=>rfl
theorem KV.val{kvs:List (κ × V)}{vs:List (κ × j6)}(r:KV kvs vs)(k:κ):RelO (zjz kvs k) (WB vs k):=by
 unfold KV at r
 induction r with
 |nil=>exact ZC
 |@cons p q ps qs h t ih=>
  obtain⟨h1,h2⟩:=h
  by_cases e:p.1=k
  ·have e':q.1=k:=h1.symm.trans e;have b:WB (q::qs) k=some q.2:=by simp[WB,QZ,e']
   rw[zfV e,b]; exact h2
  ·have e':¬ q.1=k:=fun z=>e (h1.trans z);have b:WB (q::qs) k=WB qs k:=by simp[WB,QZ,e']
   rw[zfW e,b]; exact ih
theorem KV.any{kvs:List (κ × V)}{vs:List (κ × j6)}(r:KV kvs vs)(k:κ):(kvs.any fun kv=>decide (kv.1=k))=vs.any fun kv=>decide (kv.1=k):=by
 unfold KV at r
 induction r with
 |nil=>rfl
 |cons h t ih=>rw[Z6,Z6,ih,h.1]
theorem KV.repl{kvs:List (κ × V)}{vs:List (κ × j6)}(r:KV kvs vs)(k:κ){y:V}{u:j6}(ry:RelV y u) :
  KV (kvs.map fun kv=>if kv.1=k then (kv.1,y) else kv) (vs.map fun kv=>if kv.1=k then (kv.1,u) else kv):=by
 unfold KV at r ⊢
 induction r with
 |nil=>exact .nil
 |@cons p q ps qs h t ih=>
  rw[jr,jr];refine .cons ?_ ih;obtain⟨h1,h2⟩:=h
  by_cases e:p.1=k
  ·rw[Ip_ e,Ip_ (h1.symm.trans e)]; exact⟨h1,ry⟩
  ·rw[In_ e,In_ (fun z=>e (h1.trans z))]; exact⟨h1,h2⟩
theorem KV.put{kvs:List (κ × V)}{vs:List (κ × j6)}(r:KV kvs vs)(k:κ){y:V}{u:j6}(ry:RelV y u):KV (zhh kvs k y) (stored vs k u):=by
 unfold zhh stored;rw[r.any k]
 by_cases e:(vs.any fun kv=>decide (kv.1=k))=true
 ·rw[Ip_ e,Ip_ e]; exact r.repl k ry
 ·rw[In_ e,In_ e]; exact U9 r ⟨rfl,ry⟩
theorem KV.length{kvs:List (κ × V)}{vs:List (κ × j6)}(r:KV kvs vs):kvs.length=vs.length:=YJ r
end
theorem znh{P:jE}{w:Qa}{k:Key}{u:j6}(r:RelV (kV k) u):(zb9 P w).is k u=true:=by
 cases k with
 |inl i=>obtain⟨t,e⟩:=(show ∃ t,u=Jd i t from r); subst e; exact zk0 P w i t
 |inr x=>obtain⟨t,e⟩:=(show ∃ t,u=Zx x t from r); subst e; exact zjZ P w x t
theorem zj3{P:jE}{w:Qa}:∀ {ks:List Key} {us:List j6},Vals (ks.map kV) us->ItemsAre (zb9 P w) ks us
 |[],_,r=>by rw[Zr] at r; cases r; exact .nil
 |k::ks,_,r=>by
  rw[jr] at r;cases r with
  |cons h t=>exact .cons (znh h) (zj3 t)
abbrev KT(H:Hp):List (List Key × V)->List (List Key × ji × j6)->Prop:=JW fun p q=>p.1=q.1/\H q.2.1=some (.tup (p.1.map kV))/\RelV p.2 q.2.2
theorem KT.val{H:Hp}{kvs:List (List Key × V)}{xs:List (List Key × ji × j6)}(r:KT H kvs xs)(k:List Key):RelO (zjz kvs k) ((U2 xs k).map (·.2)):=by
 induction r with
 |nil=>exact ZC
 |@cons p q ps qs h t ih=>
  obtain⟨h1,_,h2⟩:=h
  by_cases e:p.1=k
  ·have e':q.1=k:=h1.symm.trans e;have b:U2 (q::qs) k=some q.2:=by simp[U2,QZ,e']
   rw[zfV e,b]; exact h2
  ·have e':¬ q.1=k:=fun z=>e (h1.trans z);have b:U2 (q::qs) k=U2 qs k:=by simp[U2,QZ,e']
   rw[zfW e,b]; exact ih
theorem KT.repl{H:Hp}{kvs:List (List Key × V)}{xs:List (List Key × ji × j6)}(r:KT H kvs xs)(k:List Key){y:V}{u:j6}(ry:RelV y u) :
  KT H (kvs.map fun kv=>if kv.1=k then (kv.1,y) else kv) (xs.map (putAt k u)):=by
 induction r with
 |nil=>exact .nil
 |@cons p q ps qs h t ih=>
  rw[jr,jr];refine .cons ?_ ih;obtain⟨h1,h2,h3⟩:=h;unfold putAt
  by_cases e:p.1=k
  ·rw[Ip_ e,Ip_ (h1.symm.trans e)]; exact⟨h1,h2,ry⟩
  ·rw[In_ e,In_ (fun z=>e (h1.trans z))]; exact⟨h1,h2,h3⟩
theorem KT.put{H:Hp}{kvs:List (List Key × V)}{xs:List (List Key × ji × j6)}(r:KT H kvs xs)(k:List Key){b:ji}{y:V}{u:j6}(hb:H b=some (.tup (k.map kV)))(ry:RelV y u) :
  KT H (zhh kvs k y) (storedH xs k b u):=by
 have e:(kvs.any fun kv=>decide (kv.1=k))=(U2 xs k).isSome:=by
  rw[zkz,(r.val k).isSome_eq,gM]
 unfold zhh storedH;rw[e]
 by_cases q:(U2 xs k).isSome=true
 ·rw[Ip_ q,Ip_ q]; exact r.repl k ry
 ·rw[In_ q,In_ q]; exact U9 r ⟨rfl,hb,ry⟩
theorem KT.keeps{H H':Hp}{kvs:List (List Key × V)}{xs:List (List Key × ji × j6)}(r:KT H kvs xs)(ht:∀ b ys,H b=some (.tup ys)->H' b=some (.tup ys)):KT H' kvs xs:=
 Paired.mapP r fun _ _ z=>⟨z.1,ht _ _ z.2.1,z.2.2⟩
section
variable {P:jE}{w:Qa}{h:Qs}
theorem zst{u:HO}(ok:HOk P w H h)(e:Rd H a u):ObjOk P w H h a u:=e.ok ok
theorem zlY{kvs:List (Key × V)}(ok:HOk P w H h)(e:Rd H a (.dK kvs)):kvs.length<=jn/\(a == ZB)=false/\∃ vs,KV kvs vs/\h.DictOf (zb9 P w) a vs:=
 show ObjOk P w H h a (.dK kvs) from zst ok e
theorem zri{kvs:List (Key × V)}(ok:HOk P w H h)(e:H a=some (.dK kvs)):kvs.length<=jn/\(a == ZB)=false/\∃ vs,KV kvs vs/\h.DictOf (zb9 P w) a vs:=zlY ok (.inl e)
theorem zkZ{ks:List Key}(ok:HOk P w H h)(e:H a=some (.tup (ks.map kV))):(W8 (zb9 P w)).is h ks a:=by
 obtain⟨_,its,r,o,h1,h2,n,h3⟩:=(show ObjOk P w H h a (.tup (ks.map kV)) from ok a _ e);exact⟨o,its.toArray,n,h1,h2,h3,by simpa using zj3 r⟩
theorem zoP{kvs:List (List Key × V)}(ok:HOk P w H h)(e:Rd H a (.dT kvs)):kvs.length<=jn/\(a == ZB)=false /\
  ∃ xs,KT H kvs xs/\h.DictOfH (W8 (zb9 P w)) a xs:=by
 obtain⟨z,y,xs,r,o,es,ep,h1,h2,h3,h4,h5⟩:=(show ObjOk P w H h a (.dT kvs) from zst ok e);refine⟨z,y,xs,r,o,es,ep,h1,h2,h3,h4,fun x hx=>?_,h5⟩;have all:∀ {l:List (List Key × V)} {m:List (List Key × ji × j6)},KT H l m->∀ x∈m,(W8 (zb9 P w)).is h x.1 x.2.1:=by
  intro l m q
  induction q with
  |nil=>intro x hx; exact nomatch hx
  |@cons p q ps qs hq t ih=>
   intro x hx;rcases ju.mp hx with e |hx
   ·subst e;exact zkZ ok (by rw[<-hq.1]; exact hq.2.1)
   ·exact ih x hx
 exact all r x hx
theorem zvV{kvs:List (List Key × V)}(ok:HOk P w H h)(e:H a=some (.dT kvs)):kvs.length<=jn/\(a == ZB)=false /\
  ∃ xs,KT H kvs xs/\h.DictOfH (W8 (zb9 P w)) a xs:=zoP ok (.inl e)
end
def DGet(H:Hp)(a:ji)(y:V)(r:Option V):Prop:=
 (∃ kvs k,Rd H a (.dK kvs)/\y=kV k/\r=zjz kvs k)∨∃ kvs k b,Rd H a (.dT kvs)/\y=.ref b/\H b=some (.tup (k.map kV))/\r=zjz kvs k
def DPut(H:Hp)(a:ji)(y v:V)(H':Hp):Prop:=
 (∃ kvs k,H a=some (.dK kvs)/\y=kV k/\kvs.length < jn/\H'=upd H a (.dK (zhh kvs k v))) ∨
 ∃ kvs k b,H a=some (.dT kvs)/\y=.ref b/\H b=some (.tup (k.map kV))/\kvs.length < jn/\H'=upd H a (.dT (zhh kvs k v))
theorem DGet.k{H:Hp}{a:ji}{kvs:List (Key × V)}{k:Key}(e:H a=some (.dK kvs)):DGet H a (kV k) (zjz kvs k):=.inl ⟨kvs,k,.inl e,rfl,rfl⟩
theorem DPut.k{H:Hp}{a:ji}{kvs:List (Key × V)}{k:Key}{v:V}(e:H a=some (.dK kvs))(hl:kvs.length < jn):DPut H a (kV k) v (upd H a (.dK (zhh kvs k v))):=.inl ⟨kvs,k,e,rfl,hl,rfl⟩
section
variable {y v:V}{u r:j6}{o:Option V}{A:Q3}{E:j6->ja->Prop}
theorem Inv.big(I:Inv X pc σ H s):ZB < s.heap.objs.size:=by
 have h:jC < s.heap.objs.size:=(I.mod.glob.keeps I.bk).lt;exact Nat.lt_trans (by decide) h
theorem znE{Q:j6->ja->Prop}(hu:A.units+1 < gG)(I:Inv X pc σ H s)(g:DGet H a y (some v))(ry:RelV y u)(h:∀ w' s',Inv X pc σ H s'->RelV v w'->Q w' s') :
  jF (jH X.prog X.w) A (Jh (.ref a) u) Q E s:=by
 rcases g with ⟨kvs,k,e,ey,l⟩ |⟨kvs,k,b,e,ey,eb,l⟩
 ·subst ey;obtain⟨z,hd,vs,rel,dd⟩:=zlY I.hok e;obtain⟨w',hw,rw'⟩:=RelO.some_of (v:=v) (o:=WB vs k) (by rw[l]; exact rel.val k)
  exact wpAny_getItem_of (znh ry) dd.mapOf hw (h w' _ (I.tok _) rw')
 ·subst ey;cases (show u=jS b from ry);obtain⟨z,hd,xs,rel,dd⟩:=zoP I.hok e;obtain⟨w',hw,rw'⟩:=RelO.some_of (v:=v) (o:=(U2 xs k).map (·.2)) (by rw[l]; exact rel.val k)
  obtain⟨p,hp,hp2⟩:=Qm hw;refine wpAny_getItem_heap (Yg hu) (zkZ I.hok eb) dd hp ?_;rw[hp2];exact h w' _ (I.tok _) rw'
theorem zrj{Q:j6->ja->Prop}(hu:A.units+1 < gG)(I:Inv X pc σ H s)(g:DGet H a y o)(ry:RelV y u)(h:∀ s',Inv X pc σ H s'->Q (.bool (!o.isSome)) s') :
  jF (jH X.prog X.w) A (QP .NotIn u (.ref a)) Q E s:=by
 rcases g with ⟨kvs,k,e,ey,l⟩ |⟨kvs,k,b,e,ey,eb,l⟩
 ·subst ey;obtain⟨z,hd,vs,rel,dd⟩:=zlY I.hok e;refine wpAny_notIn_of (znh ry) hd dd.mapOf ?_;rw[<-(rel.val k).isSome_eq,<-l];exact h _ (I.tok _)
 ·subst ey;cases (show u=jS b from ry);obtain⟨z,hd,xs,rel,dd⟩:=zoP I.hok e;refine wpAny_notIn_heap (Yg hu) (zkZ I.hok eb) hd dd ?_;have q:=(rel.val k).isSome_eq;rw[gM] at q;rw[<-q,<-l];exact h _ (I.tok _)
theorem zia{h':Qs}{t':Nat}{ob:HO}(I:Inv X pc σ H s)(mu:Mut (H a))(hs:Qd a s.heap h')(he:∃ q,h'.get? a=some q)(new:ObjOk X.prog X.w (upd H a ob) h' a ob) :
  Inv X pc σ (upd H a ob) { s with heap:=h',toks:=t' }:=
 I.write (x:=a) (e:=a) mu (.inl rfl) (fun b q hb z=>(hs.2 b hb).trans z) he new
theorem zpA{P:jE}{w:Qa}{H':Hp}{h':Qs}{kvs:List (Key × V)}{vs:List (Key × j6)}(z:kvs.length<=jn)(hd:(a == ZB)=false)(rel:KV kvs vs)(dd:h'.DictOf (zb9 P w) a vs) :
  ObjOk P w H' h' a (.dK kvs):=⟨z,hd,vs,rel,dd⟩
theorem znD{H':Hp}{Q:Unit->ja->Prop}(hu:A.units+1 < gG)(I:Inv X pc σ H s)(g:DPut H a y v H')(ry:RelV y u)(rv:RelV v r)(h:∀ s',Inv X pc σ H' s'->Q () s') :
  jF (jH X.prog X.w) A (setItem (.ref a) u r) Q E s:=by
 rcases g with ⟨kvs,k,e,ey,l,eH⟩ |⟨kvs,k,b,e,ey,eb,l,eH⟩
 ·subst ey eH;obtain⟨z,hd,vs,rel,dd⟩:=zri I.hok e;have hz:vs.length<=jn:=by rw[<-rel.length]; exact z
  have hl:(zhh kvs k v).length<=jn:=by have:=zdm kvs k v; lia
  refine wpAny_setItem_pairs (hsz:=hz) (znh ry) dd fun h' dd' hs=>h _ ?_;have he:∃ q,h'.get? a=some q:=let ⟨q,_,_,hq,_⟩:=dd'; ⟨q,hq⟩
  exact zia I (by rw[e]; exact ZC) hs he (zpA hl hd (rel.put k rv) dd')
 ·subst ey eH;cases (show u=jS b from ry);obtain⟨z,hd,xs,rel,dd⟩:=zvV I.hok e;have hz:xs.length<=jn:=by rw[<-YJ rel]; exact z
  have hl:(zhh kvs k v).length<=jn:=by have:=zdm kvs k v; lia
  refine wpAny_setItem_heap (hsz:=hz) (Yg hu) (zkZ I.hok eb) dd fun h' dd' hs=>h _ ?_;obtain⟨q,es,ep,hq,h2,h3,h4,_,h5⟩:=dd';refine zia I (by rw[e]; exact ZC) hs ⟨q,hq⟩ ⟨hl,hd,_,(rel.put k eb rv).keeps fun c ys ec=>?_,q,es,ep,hq,h2,h3,h4,h5⟩
  rw[za6 (zvu ec e (fun z=>nomatch z))]
  exact ec
end
section
variable {kvs:List (Key × V)}{k:Key}{u:j6}{A:Q3}{E:j6->ja->Prop}
theorem zvW{Q:j6->ja->Prop}(I:Inv X pc σ H s)(e:Rd H a (.dK kvs))(h:∀ t s',Inv X pc σ H s'->Q (.int kvs.length t) s'):jF (jH X.prog X.w) A (call (.builtin "len") [.ref a]) Q E s:=by
 obtain⟨z,hd,vs,rel,dd⟩:=zlY I.hok e;refine call_len_dict hd dd (by rw[<-rel.length]; rw[Zs] at z; lia) ?_
 rw[<-rel.length];exact h _ _ (I.tok _)
end
def zue(i:Q4):Prop:=∀ ov iv,NX i false ov iv=operate [ov,iv] (Jh ov iv)
theorem zq7{prog:jE}{w:Qa}{A:Q3}{E:j6->ja->Prop}{s:ja}{env:Env}{value slice:Q4}{pos:Pos}{T id:String}{Q:j6->ja->Prop}
  (hl:JA (.type T) "__getitem__"=pure (some (.builtin id))) (hs:zue slice)
  (h:jF (jH prog w) A (eval value env) (fun o s₁=>jF (jH prog w) A (eval slice env) (fun i s₂=>s₂.TypeIs o T/\jF (jH prog w) A (Jh o i) Q E s₂) E s₁) E s) :
  jF (jH prog w) A (eval (.Subscript value slice pos) env) Q E s:=by
 refine Wy (jO h (fun o s₁ h₁=>jO h₁ (fun i s₂ h₂=>?_) fun _ _ x=>x) fun _ _ x=>x);obtain⟨hT,h₂⟩:=h₂;unfold YN;refine j4 ?_;rw[getitemInPython_of_ne hT.not_modules];refine j4 (wpAny_specialOf hT hl ?_);have fin:jF (jH prog w) A (NX slice false o i) (fun r s₃=>jF (jH prog w) A (letTemporaryGo value o r >>= fun _=>pure r) Q E s₃) E s₂:=by
  rw[hs o i];exact wpAny_operating (jO h₂ (fun r s₃ h₃=>j4 (wpAny_letTemporaryGo (jg h₃))) fun _ _ x=>x)
 first
  |exact jg (j4 fin)
  |exact j4 (jg (j4 fin))
  |exact j4 fin
theorem zkk{X:Cx}{pc:List (ji × Obj)}{σ:St}{H:Hp}{s:ja}{a:ji}{y:V}{o:Option V}(I:Inv X pc σ H s)(g:DGet H a y o):s.TypeIs (.ref a) "dict":=by
 rcases g with ⟨kvs,k,e,_,_⟩ |⟨kvs,k,b,e,_,_,_⟩
 ·obtain⟨_,_,vs,_,dd⟩:=zlY I.hok e;exact dd.typeIs
 ·obtain⟨_,_,xs,_,dd⟩:=zoP I.hok e;exact dd.typeIs
def zuX(td ty:TE):TE:=fun σ H Q=>td σ H fun x H1=>ty σ H1 fun y H2=>∃ a v,x=.ref a/\DGet H2 a y (some v)/\Q v H2
def zq6(ty td:TE):TE:=fun σ H Q=>ty σ H fun y H1=>td σ H1 fun x H2=>∃ a o,x=.ref a/\DGet H2 a y o/\Q (.bl (!o.isSome)) H2
def zqg(td ty tv:TE):TS:=fun D σ H=>tv σ H fun v H1=>td σ H1 fun x H2=>ty σ H2 fun y H3=>∃ a H4,x=.ref a/\DPut H3 a y v H4/\D.nx σ H4
section
variable {o i value:Q4}{pos' tpos:Pos}{td ty tv:TE}
theorem zmZ(hu:X.A.units+1 < gG)(ho:PE X o td)(hi:PE X i ty)(hs:zue i):PE X (.Subscript o i pos) (zuX td ty):=by
 intro pc s σ H Q I h;refine zq7 PySem.F.slot_dict_getitem.lookup hs (thn (ho pc s σ H _ I h) fun u s1 h_=>?_); obtain⟨x,H1,I1,rx,q1⟩:=h_; refine thn (hi pc s1 σ H1 _ I1 q1) fun iv s2 h_=>?_; obtain⟨y,H2,I2,ry,a,v,ex,g,q2⟩:=h_;subst ex;obtain rfl:u=jS a:=rx;exact⟨zkk I2 g,znE hu I2 g ry fun w' s3 I3 rw'=>⟨v,H2,I3,rw',q2⟩⟩
theorem ziS(hu:X.A.units+1 < gG)(hi:PE X i ty)(ho:PE X o td):PC X .NotIn i o (zq6 ty td):=by
 intro pc s σ H Q I h;refine thn (hi pc s σ H _ I h) fun iv s1 h_=>?_; obtain⟨y,H1,I1,ry,q1⟩:=h_; refine thn (ho pc s1 σ H1 _ I1 q1) fun u s2 h_=>?_; obtain⟨x,H2,I2,rx,a,ov,ex,g,q2⟩:=h_;subst ex;obtain rfl:u=jS a:=rx;exact zrj hu I2 g ry fun s3 I3=>⟨.bl (!ov.isSome),H2,I3,rfl,q2⟩
theorem zqE(hu:X.A.units+1 < gG)(ho:PE X o td)(hi:PE X i ty)(hv:PE X value tv)(hs:Zy value (some (.Subscript o i pos')) pos.line X.env=pure false) :
  PS X (.Assign [.Subscript o i pos'] value pos) (zqg td ty tv):=by
 intro pc s σ H D I h;refine wpAny_Assign_Subscript (thn (hv pc s σ H _ I h) fun r s1 ⟨v,H1,I1,rv,q1⟩=>thn (ho pc s1 σ H1 _ I1 q1) fun u s2 ⟨x,H2,I2,rx,q2⟩=>thn (hi pc s2 σ H2 _ I2 q2) fun iv s3 ⟨y,H3,I3,ry,a,H4,ex,g,q3⟩=>?_) hs;subst ex;obtain rfl:u=jS a:=rx;exact znD hu I3 g ry rv fun s4 I4=>⟨σ,H4,I4,q3⟩
end
theorem zld{P:jE}{w:Qa}{H:Hp}(h:Qs)(hb:ZB < h.objs.size):ObjOk P w H (h.push { cls:=.type "dict",data:=.dict #[] }) h.objs.size (.dK []):=
 ⟨Z8 _,beq_eq_false_iff_ne.mpr (ZD (jI hb)),[],.nil,Heap.DictOf.new h⟩
def zsb:TE:=fun _ H Q=>∀ p,H p=none->Q (.ref p) (upd H p (.dK []))
section
theorem zov:PE X (.Dict [] [] pos) zsb:=fun pc s σ H Q I h=>
 wpAny_Dict_empty ⟨.ref s.heap.objs.size,_,I.laid (a:=s.heap.objs.size) (o:=.dK []) (t':=s.toks) (fun _ _ q=>jb _ q) (jj _) (zld s.heap I.big),rfl,h _ (I.hok.fresh (jj _))⟩
end
end L2
namespace Att
open PySem PySem.W PySem.Calls PyProof.Rows
theorem zgF{P:Params}{h:Qs}:∀(ns:List Int) (vs:List j6),WellAll P h vs (ns.map WData.int)->Jj vs ns:=by
 intro ns
 induction ns with
 |nil=>
  intro vs w;rw[Zr] at w;cases w;exact .nil
 |cons n ns ih=>
  intro vs w;rw[jr] at w;cases w with
  |cons a b=>
   cases a;exact .cons _ _ (ih _ b)
theorem zmr{l:OpenLaw}{n:Nat}(hn:l.most=some n){P:Params}{h:Qs}{args:List WData}{vals:List j6}
  (hpre:l.row.toRowW.claim.pre args=true) (hwl:WellAll P h vals args) :
  ∃ a vs ns,vals=[jS a]/\args=[WData.list (ns.map WData.int)]/\h.get? a=some { cls:=.type "list",data:=.seq vs.toArray }/\Jj vs ns/\ns.length<=n:=by
 have hsh:WShape.hasAll [] args [.list .int]=true:=(pre_splitW hpre).1;have hc:l.pre.holds [] { args:=args }=true:=(pre_splitW hpre).2;obtain⟨d,r,rfl,h1,h2⟩:=hasAllW_cons hsh;obtain rfl:=hasAllW_nil h2;obtain⟨xs,rfl,h3⟩:=hasW_list h1;obtain⟨ns,rfl⟩:=items_int h3;have hlen:ns.length<=n:=by
  unfold OpenLaw.pre at hc;have h4:(WTm.not (.lt (.lit (.int (n:Int))) (.len (.arg 0)))).holds [] { args:=[.list (ns.map .int)] }=true:=by
   have h4:=(holds_andW hc).1;rw[hn] at h4;exact h4
  have h5:=condW_of h4 (w_not (w_lt w_lit (w_len_list (w_arg rfl))));rw[j5] at h5;refine J0 fun q=>?_;have q':(n:Int) < ((ns.length:Nat):Int):=by lia
  first
   |(rw[Dt_ q'] at h5; exact absurd h5 (by decide))
   |(simp at h5; lia)
 cases hwl with
 |cons w1 w2=>
  cases w2;cases w1 with
  |list ho hall=>exact⟨_,_,ns,rfl,rfl,ho,zgF ns _ hall,hlen⟩
theorem zmW(l:OpenLaw)(args:List WData):l.row.toRowW.claim.post args (.bool true) args=true:=
 postW_of (r:=l.row.toRowW) (X:=(true == true))
  (show Ue [] (.bool true) .bool=true by first |rfl |decide |simp[Ue,WShape.arms,WShape.armsAll])
  (show (WTm.eq .res (.lit (.bool true))).value [] { args:=args,res:=some (.bool true),after:=args }=some (.bool (true == true)) from w_eq_bool (w_res rfl) w_lit) rfl
theorem attach_call{l:OpenLaw}{n:Nat}{q:jE}{loose:List Str}{XP:(Str->Option j6)->Qs->Prop}{YP:Qa->Qs->Prop}{d:DefRec}
  (hn:l.most=some n) (hdf:d.params.defaults=[])
  (call:∀(w:Qa) (s₀ s₁:ja) (mg mb:Str->Option j6) (fa:ji) (o:Obj) (pm cd doc:j6) (a:ji) (vs:List j6) (ns:List Int),
   Ground q loose [] XP w s₀ mg mb s₁.heap->YP w s₁.heap->
   s₁.heap.get? fa=some o->o.data=.func (docDef d.name d.params d.body d.scope pm cd doc)->s₁.heap.CodeRec cd d.name->mg d.name=some (.ref fa)->
   s₁.heap.get? a=some { cls:=.type "list",data:=.seq vs.toArray }->Jj vs ns->ns.length<=n->s₁.gens=#[]->
   gc (jH l.prog w) WC (.call (.ref fa) ⟨[.ref a],[]⟩) (fun r s'=>r=.ok (.ret (.bool true))/\OldK s₁.heap s'.heap/\s'.os=s₁.os/\YK s'.gens) s₁) :
  WalkO q loose XP YP l.row.toRowW d [] (fun f vs=>JC f vs):=by
 intro w s₀ s₁ mg mb G Y fa o pm cd doc dV kV ho hd hcd hD hmg hg args vals as hpre hlay hrd hwl hlo;obtain rfl:dV=.none:=Dflts.none hD hdf;obtain rfl:kV=.none:=Dflts.noKw hD;obtain⟨a,vs,ns,rfl,rfl,hobj,hints,hlen⟩:=zmr hn hpre hwl;refine enter_call (gT (call w s₀ s₁ mg mb fa o pm cd doc a vs ns G Y ho (fd_plain hd) hcd hmg hobj hints hlen hg) fun r s' hq=>?_);obtain⟨rfl,h2,h3,h4⟩:=hq;exact⟨.inl ⟨.bool true,.bool true,[],rfl,fun _=>rfl,.bool true,zmW l _,fun _=>⟨WD,fun _ hm=>(nomatch hm)⟩⟩,h2,h3,h4⟩
end Att
namespace L2
open PySem PySem.Spec PyProof.Rows
variable {w:Qa}{X:Cx}{N:List Str}{scope:gr}{caps:List (Option Nat)}{s:ja}{prog:jE}{A:Q3}{pos:Pos}
theorem zit:∀ {vs:List j6} {ns:List Int},Jj vs ns->Vals (ns.map V.int) vs
 |_,_,.nil=>.nil
 |_,_,.cons n t h=>.cons ⟨t,rfl⟩ (zit h)
def zud(H:Hp):Prop:=∀ b,H b=none∨∃ o xs,H b=some (.frz o (.lst xs))
theorem zoD{P:jE}{w:Qa}{K:j8}{mg mb:Str->Option j6}{CX:CXT}{k:Nat}{fa a:ji}{fd:QN}{x:Str}{sp:Sp}{s₁:ja}{vs:List j6}{ns:List Int}
  (KX:K.In s₁.heap) (hns:s₁.heap.Ns jC mg) (hb:s₁.heap.Ns Jy mb) (hbb:∀ x:Str,x≠"__name__"->mb x=QK x) (hlim:s₁.heap.NoLimit) (hg:s₁.gens=#[])
  (ha:s₁.heap.get? a=some { cls:=.type "list",data:=.seq vs.toArray }) (hi:Jj vs ns) (hl:ns.length<=jn) (hr:Room k WC)
  (F:∀ base:Qs,K.In base->base.Ns jC mg->FnOk P w K mg base CX k fa fd [x] sp) (hbind:∀(s:ja) (u:j6),Nm s fd ⟨[u],[]⟩ [(x,u)])
  (hsp:∀ H:Hp,zud H->SqL K H a (ns.map V.int)->sp [.ref a] H (fun v _=>v=.bl true) fun _ _ _=>False)
  (hCX:∀ H e s',CX [] H s₁ (fun _ _ _=>False) e s'->False) :
  gc (jH P w) WC (.call (.ref fa) ⟨[.ref a],[]⟩) (fun r s'=>r=.ok (.ret (.bool true))/\OldK s₁.heap s'.heap/\s'.os=s₁.os/\YK s'.gens) s₁:=by
 have rv:=zit hi;have lenV:=hi.length
 -- from an abstract heap in which nothing but the script may be tracked
 have core:∀ H:Hp,zud H->SqL K H a (ns.map V.int)->HOk P w H s₁.heap->(∀ b,H b≠none->b=a)->(H a≠none->K.lookup a=none)->
   gc (jH P w) WC (.call (.ref fa) ⟨[.ref a],[]⟩) (fun r s'=>r=.ok (.ret (.bool true))/\OldK s₁.heap s'.heap/\s'.os=s₁.os/\YK s'.gens) s₁:=by
  intro H hO hS hok hA hK;have base_of:∀ {b:ji} {o:Obj},s₁.heap.get? b=some o->H b=none->(zoG s₁.heap H).get? b=some o:=fun e n=>zoF e n;have noA:∀ {b:ji} {o:Obj} {es:Array DictEntry} {ep:Nat},s₁.heap.get? b=some o->o.data=.dict es ep->H b=none:=fun {b o es ep} e d=>by
   cases q:H b with
   |none=>rfl
   |some u=>
    have e':b=a:=hA b (by rw[q]; simp)
    subst e';rw[ha] at e; cases e;have d':Uc vs.toArray _=Data.dict es ep:=d;cases d'
  have nsK:∀ {b:ji} {m:Str->Option j6},s₁.heap.Ns b m->(zoG s₁.heap H).Ns b m:=fun {b m} ⟨o,es,ep,e,d,r⟩=>⟨o,es,ep,base_of e (noA e d),d,r⟩
  have hKb:K.In (zoG s₁.heap H):=fun b o e=>base_of (KX b o e) (by
   cases q:H b with
   |none=>rfl
   |some u=>
    have e':b=a:=hA b (by rw[q]; simp)
    subst e'
    rw[hK (by rw[q]; simp)] at e; cases e)
  have hM:Mod K mg (zoG s₁.heap H):=⟨hKb,nsK hns,⟨mb,nsK hb,hbb⟩,let ⟨mc,h1,h2⟩:=hlim; ⟨mc,nsK h1,h2⟩⟩
  have e0:Env0 P w K mg (zoG s₁.heap H) WC [] s₁ H:=⟨rfl,hM,fun b o e=>zqU e,Nat.le_of_eq (znn _ _),trivial,fun b hb=>absurd (show b∈([]:List ji) from hb) (by simp),hok,.of_eq hg⟩
  refine gT ((F _ hKb (nsK hns)).run WC [] s₁ H ⟨[.ref a],[]⟩ [.ref a] [.ref a] _ _ hr e0 (hbind s₁ (.ref a)) (.cons rfl .nil) (hsp H hO hS)) fun r s' h=>?_;cases r with
  |error e=>exact(hCX H e s' h).elim
  |ok fl=>
   cases fl with
   |next=>exact Qu h
   |brk=>exact Qu h
   |cont=>exact Qu h
   |ret u=>
    obtain⟨v,H',os,bare,un,hok',r',q⟩:=h;have q':v=.bl true:=q;subst q';obtain rfl:u=Jw true:=r';refine⟨rfl,OldK.of_keep fun b o e=>?_,os,bare⟩;cases q:H b with
    |none=>exact un.keep b o e q (by intro z; exact absurd (show b∈([]:List ji) from z) (by simp)) (by simp)
    |some u=>
     rcases hO b with z |⟨ob,xs,z⟩
     ·rw[q] at z; cases z
     ·have z2:=un.frzs b ob _ z;obtain⟨e1,_⟩:=hok b _ z;obtain⟨e2,_⟩:=hok' b _ z2;rw[e] at e1; cases e1;exact e2
 cases hk:K.lookup a with
 |some o=>
  -- the script is one of the module's own objects
  have e:=KX a o hk;rw[ha] at e;cases e;refine core (fun _=>none) (fun _=>.inl rfl) (.inr ⟨_,vs.toArray,_,hk,rfl,rfl,rfl,by rw[jq,lenV]; exact hl,by simpa using rv⟩) (fun b u z=>by have z':(none:Option HO)=some u:=z; cases z') (fun b z=>absurd rfl z) fun z=>absurd rfl z
 |none=>
  refine core (fun b=>if b=a then some (.frz { cls:=.type "list",data:=.seq vs.toArray } (.lst (ns.map V.int))) else none) (fun b=>?_) (.inl (.inr ⟨{ cls:=.type "list",data:=.seq vs.toArray },Ip_ rfl⟩)) (fun b u z=>?_) (fun b z=>?_) fun _=>hk
  ·by_cases hb:b=a
   ·exact .inr ⟨_,_,Ip_ hb⟩
   ·exact .inl (In_ hb)
  ·by_cases hb:b=a
   ·have z':=(Ip_ hb).symm.trans z;cases z';subst hb;exact⟨ha,by rw[j5]; exact hl,vs,_,rv,ha⟩
   ·have z':=(In_ hb).symm.trans z;cases z'
  ·by_cases hb:b=a
   ·exact hb
   ·exact absurd (In_ hb) z
theorem zpK{l:Y6}{n k:Nat}{q:jE}{loose:List Str}{XP:(Str->Option j6)->Qs->Prop}{YP:Qa->Qs->Prop}{d:DefRec}{K:Params->j8}{CX:Qa->CXT}{sp:Qa->Sp}{x:Str}
  (hn:l.most=some n) (hn2:n<=jn) (hdf:d.params.defaults=[]) (hr:Room k WC)
  (hY:∀(w:Qa) (h:Qs),YP w h->(K w.params).In h)
  (F:∀(w:Qa) (mg:Str->Option j6) (fa:ji) (h:Qs),(K w.params).In h->h.Ns jC mg->mg d.name=some (.ref fa)->
   ∃ fd:QN,(∀(s:ja) (u:j6),Nm s fd ⟨[u],[]⟩ [(x,u)]) /\
    ∀ base:Qs,(K w.params).In base->base.Ns jC mg->FnOk l.prog w (K w.params) mg base (CX w) k fa fd [x] (sp w))
  (hsp:∀(w:Qa) (H:Hp) (a:ji) (ns:List Int),ns.length<=n->zud H->SqL (K w.params) H a (ns.map V.int)->sp w [.ref a] H (fun v _=>v=.bl true) fun _ _ _=>False)
  (hCX:∀(w:Qa) (H:Hp) (s:ja) (e:j6) (s':ja),CX w [] H s (fun _ _ _=>False) e s'->False) :
  JI q loose XP YP l.row.toRowW d [] (fun f vs=>JC f vs):=by
 refine Att.attach_call hn hdf fun w s₀ s₁ mg mb fa o pm cd doc a vs ns G Y ho hd hcd hmg hobj hints hlen hg=>?_;have KX:=hY w _ Y;obtain⟨fd,hb,hF⟩:=F w mg fa _ KX G.T.g hmg;exact zoD KX G.T.g G.T.b G.T.builtins G.T.nolimit hg hobj hints (Q9 hlen hn2) hr hF hb (fun H hO hS=>hsp w H a ns hlen hO hS) fun H e s'=>hCX w H s₁ e s'
def zbq(s:Qw):No:=match s with
 |.FunctionDef _ a _ _ _ _ _ _ _ _=>a
 |_=>{ posonlyargs:=[],args:=[],vararg:=none,kwonlyargs:=[],kw_defaults:=[],kwarg:=none,defaults:=[] }
def zau(s:Qw):List Qw:=match s with
 |.FunctionDef _ _ b _ _ _ _ _ _ _=>b
 |_=>[]
def za0(s:Qw):gr:=match s with
 |.FunctionDef _ _ _ _ _ _ sc _ _ _=>sc
 |_=>{ kind:=.function,names:=[],isGenerator:=false,isCoroutine:=false }
abbrev CX0:CXT:=fun _ _ _ _ _ _=>False
abbrev E0:XK:=fun _ _ _=>False
theorem zjR{X:Cx}:zen CX0 X E0:=fun _ _ _ _ _ _ _ h=>h.elim
structure Fun (K:j8) (x qual:Str) (st:Qw) (f:ji) (fd:QN):Prop where
 ex:∃(oc:j6) (od:Option ji) (kV doc pm:j6) (an:Option ji) (cdv ct:j6) (osl:Array (Option j6)),
  fd=jU x qual (zbq st) (zau st) (za0 st) .none kV doc pm an cdv ct/\K.lookup f=some ⟨oc,od,.func fd,osl⟩/\QF K cdv qual=true
 kp:jY K (.ref f)=true
section
variable {P:jE}{K:j8}{mg:Str->Option j6}{base:Qs}
theorem Fun.ok{x qual:Str}{st:Qw}{f:ji}{fd:QN}{N ps:List Str}{k:Nat}{sp:Sp}(F:Fun K x qual st f fd)(S:FnScope N ps (za0 st))(len:∀ vs H Q E,sp vs H Q E->vs.length=ps.length)
  (hbody:∀(cdv:j6) (A:Q3) (outer:List Env) (s:ja) (H:Hp) (vs:List V) (Q:VK) (E:XK),Room k (A.deeper (QJ qual (za0 st) s.heap.objs.size f cdv))->sp vs H Q E->
   ∃ t,PSs (zff CX0 P w K mg base N qual (za0 st) f cdv A outer s H E).nox (zau st) t/\t { nx:=fun _ H'=>Q .non H',rt:=Q } (start N vs) H):FnOk P w K mg base CX0 (k+1) f fd ps sp:=by
 obtain⟨oc,od,kV,doc,pm,an,cdv,ct,osl,rfl,lk,hcd⟩:=F.ex;refine zvP lk hcd S len fun A outer s H vs Q E hr hsp=>?_;obtain⟨t,h,q⟩:=hbody cdv A outer s H vs Q E hr hsp;exact⟨t,h.nox,q⟩
theorem Fun.binds{x qual:Str}{st:Qw}{f:ji}{fd:QN}{ps:List Str}(F:Fun K x qual st f fd)
  (h:∀(kV doc pm:j6) (an:Option ji) (cdv ct:j6) (us:List j6),us.length=ps.length->Y1 (jU x qual (zbq st) (zau st) (za0 st) .none kV doc pm an cdv ct) ⟨us,[]⟩=pure (ps.zip us)):Binds K fd ps []:=by
 obtain⟨oc,od,kV,doc,pm,an,cdv,ct,osl,rfl,lk,hcd⟩:=F.ex;exact .all (h kV doc pm an cdv ct)
theorem zpy{x qual:Str}{st:Qw}{f:ji}{oc:j6}{od an:Option ji}{osl:Array (Option j6)}{kV doc pm cdv ct:j6}(l:K.lookup f=some ⟨oc,od,.func (jU x qual (zbq st) (zau st) (za0 st) .none kV doc pm an cdv ct),osl⟩)
  (c:QF K cdv qual=true) (k:jY K (.ref f)=true):Fun K x qual st f (jU x qual (zbq st) (zau st) (za0 st) .none kV doc pm an cdv ct):=⟨⟨oc,od,kV,doc,pm,an,cdv,ct,osl,rfl,l,c⟩,k⟩
end
theorem zbL{A:Q3}{k:Nat}(hr:Room k A):A.units+1 < gG:=Yh (Nat.add_le_add_left (by decide:1<=64) _) hr.units
section
theorem pv(i:Nat){x:Str}{pos:Pos}(hN:X.N[i]?=some x:=by rfl)(hv:Vis X.env.scope x:=by first |exact jA rfl |exact ZP (jA rfl) |exact ZP (ZP rfl))(hd:(x == ("__debug__":Str))=false:=by decide)
  (hcd:(x == ("__classdict__":Str))=false:=by decide):PE X (.Name x pos) (zeO i):=zsQ hN hv hd hcd
end
theorem Inv.forget{X:Cx}{pc:List (ji × Obj)}{sg sg':St}{H:Hp}{s:ja}(I:Inv X pc sg H s)(hl:sg'.length=sg.length)(h:∀(i:Nat) (v:V),sg'[i]?=some (some v)->sg[i]?=some (some v)):Inv X pc sg' H s:=by
 obtain⟨m,hn,hm⟩:=I.loc;exact⟨I.ok,I.os,I.bare,I.base,⟨m,hn,fun i x v e1 e2 e3=>hm i x v e1 (h i v e2) e3⟩,I.cell,I.free,I.freeC,I.pin,I.hok,by rw[hl]; exact I.len⟩
def zaq(X:Cx)(N:List Str)(scope:gr)(cl:List (Str × ji))(C:ji)(s0:ja)(H0:Hp)(fp:List ji):Cx where
 prog:=X.prog
 w:=X.w
 K:=X.K
 mg:=X.mg
 base:=X.base
 A:=X.A
 N:=N
 s₀:=s0
 H₀:=H0
 env:=Ja scope cl C X.env
 outer:=X.stack
 stack:=X.stack
 ex:=fp
 fn:=fun _=>false
 calm:=X.calm
 pn:=[]
 xe:=fun _ _=>False
def capOk(N:List Str)(XN:List Str)(sc outer:gr)(caps:List (Option Nat)):Bool:=
 decide (caps.length=N.length)&&((jt caps.length).all fun i=>match caps[i]? with
  | some (some j)=>(match N[i]?,XN[j]? with
   |some x,some y=>x == y&&sc.names.lookup x == some .free&&(outer.names.lookup x == some .cell||outer.names.lookup x == some .free)
   | _,_=>false)
  | _=>true)
def zbr(caps:List (Option Nat))(sg:St):St:=caps.map fun o=>o.bind fun j=>(sg[j]?).join
theorem capOk.len{N XN:List Str}{sc outer:gr}{caps:List (Option Nat)}(h:capOk N XN sc outer caps=true):caps.length=N.length:=by
 unfold capOk at h;rw[jD] at h;exact of_decide_eq_true h.1
theorem capOk.get{N XN:List Str}{sc outer:gr}{caps:List (Option Nat)}(h:capOk N XN sc outer caps=true){i j:Nat}(e:caps[i]?=some (some j)) :
  ∃ x,N[i]?=some x/\XN[j]?=some x/\sc.names.lookup x=some .free/\(outer.names.lookup x=some .cell∨outer.names.lookup x=some .free):=by
 unfold capOk at h;rw[jD] at h;have hi:i < caps.length:=(j9.mp e).1;have q:=js.mp h.2 i (jR.mpr hi);rw[e] at q;dsimp only at q;cases h1:N[i]? with
 |none=>rw[h1] at q; cases q
 |some x=>
  cases h2:XN[j]? with
  |none=>rw[h1,h2] at q; cases q
  |some y=>
   rw[h1,h2] at q;dsimp only at q;rw[jD,jD,Z9] at q;obtain⟨⟨q1,q2⟩,q3⟩:=q;have e1:x=y:=eq_of_beq q1;subst e1;exact⟨x,rfl,rfl,by simpa using q2,q3.imp (fun z=>by simpa using z) fun z=>by simpa using z⟩
theorem zfw{env:Env}:∀(names:List (Str × YM)) (acc:List (Str × ji)),(∀ x,(x,Ql)∈names->∃ c,env.cells.lookup x=some c)->
  ∃ cl,(forIn (m:=Sem) names acc fun(p:Str × YM) cs=>(if p.2 == Ql then (do let c <-cellOf env p.1; pure (Qg ((p.1,c)::cs))) else pure (Qg cs)))=pure cl /\
   (∀ p∈cl,p∈acc∨env.cells.lookup p.1=some p.2)/\(∀ p∈acc,p∈cl)/\(∀ x,(x,Ql)∈names->∃ c,(x,c)∈cl)
 |[],acc,_=>⟨acc,rfl,fun p hp=>.inl hp,fun p hp=>hp,fun x hx=>nomatch hx⟩
 |(n,k)::r,acc,h=>by
  by_cases hk:k=.free
  ·subst hk;obtain⟨c,hc⟩:=h n jX;obtain⟨cl,e,h1,h2,h3⟩:=zfw r ((n,c)::acc) fun x hx=>h x (jw _ hx);refine⟨cl,?_,fun p hp=>?_,fun p hp=>h2 p (jw _ hp),fun x hx=>?_⟩
   ·rw[Y7,Ip_ (by rfl)]
    show (do let c <-cellOf env n; pure (Qg ((n,c)::acc)):Sem _) >>= _=_
    rw[cellOf,hc];exact e
   ·rcases h1 p hp with z |z
    ·rcases ju.mp z with z |z
     ·subst z; exact .inr hc
     ·exact .inl z
    ·exact .inr z
   ·rcases ju.mp hx with z |z
    ·injection z with z1 _;subst z1;exact⟨c,h2 _ jX⟩
    ·exact h3 x z
  ·obtain⟨cl,e,h1,h2,h3⟩:=zfw r acc fun x hx=>h x (jw _ hx);refine⟨cl,?_,h1,h2,fun x hx=>?_⟩
   ·rw[Y7,In_ (by simpa using hk)]
    exact e
   ·rcases ju.mp hx with z |z
    ·injection z with _ z2;exact absurd z2.symm hk
    ·exact h3 x z
theorem zca{scope:gr}{env:Env}(h:∀ x,(x,Ql)∈scope.names->∃ c,env.cells.lookup x=some c) :
  ∃ cl,closureFor scope env=pure cl/\(∀ p∈cl,env.cells.lookup p.1=some p.2)/\(∀ x,(x,Ql)∈scope.names->∃ c,(x,c)∈cl):=by
 obtain⟨cl,e,h1,_,h3⟩:=zfw scope.names [] h;refine⟨cl,?_,fun p hp=>(h1 p hp).resolve_left (by simp),h3⟩
 have e2:closureFor scope env=((forIn (m:=Sem) scope.names ([]:List (Str × ji)) fun(p:Str × YM) cs=>(if p.2 == Ql then (do let c <-cellOf env p.1; pure (Qg ((p.1,c)::cs))) else pure (Qg cs))) >>= fun cs=>pure cs):=rfl
 rw[e2,e];rfl
theorem zag{α β:Type}[BEq α][LawfulBEq α]{x:α}{y:β}:∀ {l:List (α × β)},l.lookup x=some y->(x,y)∈l
 |(a,b)::r,h=>by
  rw[Zz] at h;cases hx:x == a with
  |true=>
   rw[hx] at h;have e:b=y:=jc h;rw[eq_of_beq hx,e];exact jX
  |false=>rw[hx] at h; exact jw _ (zag h)
theorem zba{α β:Type}[BEq α][LawfulBEq α]{x:α}{y:β}:∀ {l:List (α × β)},(x,y)∈l->∃ z,l.lookup x=some z
 |(a,b)::r,h=>by
  rw[Zz];cases hx:x == a with
  |true=>exact⟨b,rfl⟩
  |false=>
   rcases ju.mp h with z |z
   ·injection z with z1 _;rw[z1] at hx;simp at hx
   ·exact zba z
theorem ziE{scope:gr}{env:Env}(hcell:∀ y∈scope.names,y.2≠.cell){x:Str}(h:(JJ scope env).names.lookup x=some .cell∨(JJ scope env).names.lookup x=some .free):(x,Ql)∈scope.names:=by
 have key:∀ k,(x,k)∈(JJ scope env).names->k=.cell∨k=.free->(x,Ql)∈scope.names:=fun k hm hk=>by
  obtain⟨⟨n,k'⟩,hn,e⟩:=jB.mp hm;dsimp only at e;split at e
  ·rename_i hc;injection e with e1 e2;subst e1;have:k'=.free:=by
    simp only[jD] at hc;simpa using hc.1.1
   subst this;exact hn
  ·injection e with e1 e2;subst e1; subst e2;rcases hk with z |z
   ·subst z; exact absurd rfl (hcell _ hn)
   ·subst z; exact hn
 rcases h with h |h
 ·exact key _ (zag h) (.inl rfl)
 ·exact key _ (zag h) (.inr rfl)
theorem zgn{env:Env}{x:Str}:∀ {names:List (Str × YM)},names.lookup x=some .free->
  (names.map fun(n,k)=>if (k == Ql&&env.scope.kind == .function&&env.kindOf n == some .cell) then (n,JK) else (n,k)).lookup x=some .cell ∨
  (names.map fun(n,k)=>if (k == Ql&&env.scope.kind == .function&&env.kindOf n == some .cell) then (n,JK) else (n,k)).lookup x=some .free
 |(n,k)::r,h=>by
  rw[Zz] at h;rw[jr];cases hx:x == n with
  |true=>
   rw[hx] at h;have e:k=.free:=jc h;subst e;dsimp only;split
   ·left; rw[Zz,hx]
   ·right; rw[Zz,hx]
  |false=>
   rw[hx] at h;have ih:=zgn (env:=env) h;dsimp only;split<;>(rw[Zz,hx]; exact ih)
section
variable {cl:List (Str × ji)}{pc:List (ji × Obj)}{sg:St}{H:Hp}{fp:List ji}{h1:Qs}{tk:Nat}{m0:Str->Option j6}
theorem zdX(hkind:scope.kind=.function)(hcell:∀ y∈scope.names,y.2≠.cell)(I:Inv X pc sg H s)
  (hcl1:∀ p∈cl,X.env.cells.lookup p.1=some p.2) (hcl2:∀ x,(x,Ql)∈scope.names->∃ c,(x,c)∈cl)
  (hf:∀ b∈fp,zjv X pc H b) (hlt:∀ b∈fp,b < s.heap.objs.size):(zaq X N scope cl s.heap.objs.size s H fp).Ok where
 mod:=I.ok.mod
 kind:=hkind
 glob:=I.ok.glob
 blt:=I.ok.blt
 above:=jj _
 inj:=fun x y c hx hy=>I.ok.inj x y c (hcl1 (x,c) (zag hx)) (hcl1 (y,c) (zag hy))
 has:=fun x hx=>by
  obtain⟨c,hc⟩:=hcl2 x (ziE hcell hx);exact zba hc
 cab:=fun x c hx=>nomatch hx
 hd:=I.ok.hd
 frames:=I.ok.frames
 stk:=.inl rfl
 exf:=fun b hb=>⟨jI (hlt b hb),fun x c hx=>(hf b hb).2.2.2.2.1 x c (hcl1 (x,c) (zag hx))⟩
 bs:=I.bs
 bsz:=Q9 I.ok.bsz I.sz
 noex:=fun b o e hb=>by
  rcases(hf b hb).2.2.2.1 with z |z
  ·exact I.ok.noex b o e z
  ·exact absurd (jQ (jh e) (Q9 I.ok.bsz z)) (Qk _)
 exfs:=fun b hb z=>by
  rcases ju.mp (I.stkSub b z) with e |e
  ·exact(hf b hb).2.1 e
  ·exact(hf b hb).2.2.1 e
 funs:=I.stack
 frf:=I.stkFree
theorem zhq(hcap:capOk N X.N scope X.env.scope caps=true)(hkind:scope.kind=.function)(hcell:∀ y∈scope.names,y.2≠.cell)(I:Inv X pc sg H s)
  (hcl1:∀ p∈cl,X.env.cells.lookup p.1=some p.2) (hcl2:∀ x,(x,Ql)∈scope.names->∃ c,(x,c)∈cl)
  (hf:∀ b∈fp,zjv X pc H b) (hlt:∀ b∈fp,b < s.heap.objs.size) (hk:∀ b u,s.heap.get? b=some u->h1.get? b=some u) (hns:h1.Ns s.heap.objs.size m0) :
  Inv (zaq X N scope cl s.heap.objs.size s H fp) [] (zbr caps sg) H { s with heap:=h1,toks:=tk } where
 ok:=zdX hkind hcell I hcl1 hcl2 hf hlt
 os:=rfl
 bare:=I.bare
 base:=Un.kept hk
 loc:=by
  refine⟨m0,hns,fun i x v e1 e2 e3=>?_⟩;have e2':∃ j,caps[i]?=some (some j)/\sg[j]?=some (some v):=by
   unfold zbr at e2;rw[jf] at e2;cases hc:caps[i]? with
   |none=>rw[hc] at e2; simp at e2
   |some o=>
    rw[hc] at e2;cases o with
    |none=>simp at e2
    |some j=>
     refine⟨j,rfl,?_⟩;simp only[jP,j7,Option.some.injEq] at e2;cases hj:sg[j]? with
     |none=>rw[hj] at e2; simp at e2
     |some y=>rw[hj] at e2; simp at e2; rw[e2]
  obtain⟨j,hj1,hj2⟩:=e2';obtain⟨x',n1,n2,f1,f2⟩:=capOk.get hcap hj1;have e1':N[i]?=some x:=e1;rw[e1'] at n1;obtain rfl:x=x':=jc n1;obtain⟨m,hn,hm⟩:=I.loc;obtain⟨u,ru,l⟩:=hm j x v n2 hj2 (f2.elim (fun z=>.inr (.inl z)) fun z=>.inr (.inr z));refine⟨u,ru,.inr ⟨zgn f1,?_⟩⟩;rcases l with ⟨k,_⟩ |⟨_,c,hc,hcell⟩
  ·have k':X.env.scope.names.lookup x=some .local:=k;rcases f2 with z |z<;>(rw[k'] at z; cases z)
  ·obtain⟨c',hc'⟩:=hcl2 x (zag f1);obtain⟨c'',hc''⟩:=zba hc';have q:X.env.cells.lookup x=some c'':=hcl1 (x,c'') (zag hc'');rw[hc] at q;obtain rfl:c=c'':=jc q;obtain⟨o,ho,hd⟩:=hcell;exact⟨c,hc'',o,hk c o ho,hd⟩
 cell:=fun x c hx=>by
  obtain⟨v,o,ho,hd⟩:=I.cell x c (hcl1 (x,c) (zag hx));exact⟨v,o,hk c o ho,hd⟩
 free:=I.hok.fresh (jj _)
 freeC:=fun x c hx=>I.freeC x c (hcl1 (x,c) (zag hx))
 pin:=fun p hp=>nomatch hp
 hok:=I.hok.kept hk
 len:=by
  show (zbr caps sg).length=N.length;unfold zbr;rw[j5];exact capOk.len hcap
end
def PTs(X:Cx)(ifs:List Q4)(t:TT):Prop:=
 ∀(pc:List (ji × Obj)) (s:ja) (sg:St) (H:Hp) (Q:Bool->Hp->Prop),Inv X pc sg H s->t sg H Q->
  jF (jH X.prog X.w) X.A (forIn ifs true fun c r=>if r=true then do let ok <-Je c X.env (eval c X.env); pure (Qg ok) else pure (Qg r)) (TP X pc sg Q) X.xe s
def zuZ:TT:=fun _ H Q=>Q true H
theorem zqD{X:Cx}:PTs X [] zuZ:=fun _ _ _ H _ I h=>wpAny_tests_nil ⟨H,I,h⟩
theorem zqC{X:Cx}{c:Q4}{t:TT}(h:PT X c t):PTs X [c] t:=fun pc s sg H Q I hq=>wpAny_tests_one (h pc s sg H Q I hq)
section
variable {R:WQ->ja->Prop}
theorem zjj{elt target iter:Q4}{ifs:List Q4}{scope:gr}{pos:Pos}{it acc:j6}{env:Env}(I:Nat->ja->Prop)
  (turn:∀ n s,I n s->jF (jH prog w) A (NS it) (fun r s1=>match r with
   |none=>R (.ok .next) s1
   | some v=>jF (jH prog w) A (ZG target it v) (fun _ s1'=>jF (jH prog w) A (gR target env v) (fun _ s2=>
     jF (jH prog w) A (forIn ifs true fun c r=>if r=true then do let ok <-Je c env (eval c env); pure (Qg ok) else pure (Qg r)) (fun ok s3=>
      if ok=true then jF (jH prog w) A (eval elt env) (fun x s4=>
       jF (jH prog w) A (call (.builtin "list.append") [acc,x]) (fun _ s5=>∃ m,m < n/\I m s5) (fun _ _=>False) s4) (fun _ _=>False) s3
      else ∃ m,m < n/\I m s3) (fun _ _=>False) s2) (fun _ _=>False) s1') (fun _ _=>False) s1) (fun _ _=>False) s)
  (n:Nat) (h:I n s) :
  gc (jH prog w) A (.compLoop (.ListComp elt [⟨target,iter,ifs,0⟩] scope pos) 0 it acc env) R s:=by
 refine codeAny_loop rfl I (fun n s hI=>?_) n h;show jF _ A ((compTurn (.ListComp elt [⟨target,iter,ifs,0⟩] scope pos) 0 it acc env).onRaise (fun x=>do Nt x env; theTreesLotGoes x)) _ _ s
 refine wpAny_noted ?_;rw[compTurn_list];refine j4 (Z5 (j4 (jO (turn n s hI) (fun r s1 h1=>?_) fun _ _ h'=>h'.elim)));cases r with
 |none=>exact jg h1
 |some v=>
  refine j4 (jO h1 (fun _ s1' h1'=>?_) fun _ _ h'=>h'.elim);refine j4 (jO h1' (fun _ s2 h2=>j4 (jO h2 (fun ok s3 h3=>?_) fun _ _ h'=>h'.elim)) fun _ _ h'=>h'.elim);cases ok with
  |false=>exact jg ⟨rfl,h3⟩
  |true=>
   exact j4 (j4 (jO h3 (fun x s4 h4=>j4 (jO h4 (fun _ s5 h5=>jg (jg ⟨rfl,h5⟩)) fun _ _ h'=>h'.elim)) fun _ _ h'=>h'.elim))
end
def zfd(caps:List (Option Nat))(g:TG):Prop:=∀(x:V) (sg:St) (H:Hp) (Q:St->Hp->Prop),g x sg H Q->g x sg H fun s2 H2=>Q s2 H2/\∀(j k:Nat),caps[j]?=some (some k)->s2[j]?=sg[j]?
def zls(caps:List (Option Nat))(g:TGs):Prop:=∀(x:List V) (sg:St) (H:Hp) (Q:St->Hp->Prop),g x sg H Q->g x sg H fun s2 H2=>Q s2 H2/\∀(j k:Nat),caps[j]?=some (some k)->s2[j]?=sg[j]?
theorem zaX{caps:List (Option Nat)}{i:Nat}(h:caps[i]?=some none:=by rfl):zfd caps (zcw i):=fun x sg H Q q=>⟨q,fun j k e=>by
 have:i≠j:=fun z=>by subst z; rw[h] at e; cases e
 exact jd this⟩
theorem ztf{caps:List (Option Nat)}:zls caps zr8:=fun x sg H Q ⟨e,q⟩=>⟨e,q,fun _ _ _=>rfl⟩
theorem zne{caps:List (Option Nat)}{t:TG}{u:TGs}(mt:∀ x sg H (Q Q':St->Hp->Prop),(∀ a b,Q a b->Q' a b)->t x sg H Q->t x sg H Q')(mu:∀ x sg H (Q Q':St->Hp->Prop),(∀ a b,Q a b->Q' a b)->u x sg H Q->u x sg H Q')
  (h:zfd caps t) (h2:zls caps u):zls caps (zj6 t u):=fun x sg H Q ⟨v,r,e,q⟩=>
 ⟨v,r,e,mt _ _ _ _ _ (fun s2 H2 ⟨q2,k2⟩=>mu _ _ _ _ _ (fun s3 H3 ⟨q3,k3⟩=>⟨q3,fun j k e=>(k3 j k e).trans (k2 j k e)⟩) (h2 _ _ _ _ q2)) (h _ _ _ _ q)⟩
theorem zte{caps:List (Option Nat)}{K:j8}{n:Nat}{t:TGs}(h:zls caps t):zfd caps (zlQ K n t):=fun x sg H Q ⟨a,xs,e,hq,hl,q⟩=>⟨a,xs,e,hq,hl,h _ _ _ _ q⟩
theorem zfr{i:Nat}:∀ x sg H (Q Q':St->Hp->Prop),(∀ a b,Q a b->Q' a b)->zcw i x sg H Q->zcw i x sg H Q':=fun _ _ _ _ _ h q=>h _ _ q
theorem zj5:∀ x sg H (Q Q':St->Hp->Prop),(∀ a b,Q a b->Q' a b)->zr8 x sg H Q->zr8 x sg H Q':=fun _ _ _ _ _ h q=>⟨q.1,h _ _ q.2⟩
theorem zlS{t:TG}{u:TGs}(mt:∀ x sg H (Q Q':St->Hp->Prop),(∀ a b,Q a b->Q' a b)->t x sg H Q->t x sg H Q')(mu:∀ x sg H (Q Q':St->Hp->Prop),(∀ a b,Q a b->Q' a b)->u x sg H Q->u x sg H Q') :
  ∀ x sg H (Q Q':St->Hp->Prop),(∀ a b,Q a b->Q' a b)->zj6 t u x sg H Q->zj6 t u x sg H Q':=fun _ _ _ _ _ h ⟨v,r,e,q⟩=>⟨v,r,e,mt _ _ _ _ _ (fun _ _ z=>mu _ _ _ _ _ h z) q⟩
theorem zk5{caps:List (Option Nat)}{K:j8}{i j:Nat}(h:caps[i]?=some none:=by rfl)(h2:caps[j]?=some none:=by rfl):zfd caps (zlQ K 2 (zj6 (zcw i) (zj6 (zcw j) zr8))):=
 zte (zne zfr (zlS zfr zj5) (zaX h) (zne zfr zj5 (zaX h2) ztf))
def lcW(J:It)(g:TG)(tt:TT)(te:TE)(sg':St)(Q:VK)(H1:Hp):Prop:=
 ∀ D,H1 D=none->∃ W:Nat->Nat->Hp->Prop,(∃ m,W 0 m (upd H1 D (.lst [])))/\∀ i m H,W i m H->
  (J.stop i H/\Q (.ref D) H)∨(J.go i H/\∀ x H',J.yld i H x H'->g x sg' H' fun s2 H2=>tt s2 H2 fun b H3=>if b=true then
   te s2 H3 fun y H4=>∃ xs,H4 D=some (.lst xs)/\xs.length < jn/\∃ m',m' < m/\W (i+1) m' (upd H4 D (.lst (xs++[y])))
   else ∃ m',m' < m/\W (i+1) m' H3)
section
variable {tg elt iter:Q4}{ifs:List Q4}{wi:TI}{g:TG}{tt:TT}{te:TE}
theorem zkW{pc:List (ji × Obj)}{sg:St}{H:Hp}{s2:ja}{cl:List (Str × ji)}{it:ji}{fp:List ji}{tn:Nat->Qs->Prop}{J:It}{Q:VK}{E:j6->ja->Prop}{RR:j6->ji->WQ->ja->Prop}
  (hc:X.calm=true) (hcap:capOk N X.N scope X.env.scope caps=true) (hkind:scope.kind=.function) (hcell:∀ y∈scope.names,y.2≠.cell)
  (hg:∀ cl C s0 H0 fp,PG (zaq X N scope cl C s0 H0 fp) tg g) (hgk:zfd caps g) (ht:∀ cl C s0 H0 fp,PTs (zaq X N scope cl C s0 H0 fp) ifs tt) (he:∀ cl C s0 H0 fp,PE (zaq X N scope cl C s0 H0 fp) elt te)
  (hcl1:∀ p∈cl,X.env.cells.lookup p.1=some p.2) (hcl2:∀ x,(x,Ql)∈scope.names->∃ c,(x,c)∈cl)
  (I2:Inv X pc sg H s2) (T:Turn X.prog X.w X.K tg J fp it tn) (st2:tn 0 s2.heap) (f2:∀ b∈fp,zjv X pc H b) (hw:lcW J g tt te (zbr caps sg) Q H)
  (hRR:∀(D C:ji) (s':ja) (H':Hp) (m':Str->Option j6),Inv X pc sg H' s'->s'.heap.Ns C m'->H' C=none->s2.heap.objs.size<=C->(∀ x c,X.env.cells.lookup x=some c->c≠C)->(∀ p∈X.pn++pc,p.1≠C)->C≠X.env.locals->Q (.ref D) H'->RR (.ref D) C (.ok .next) s') :
  jF (jH X.prog X.w) X.A (newList []) (fun acc s3=>jF (jH X.prog X.w) X.A (newFunctionEnv scope X.env.globals cl [] X.env.qual none .none (some X.env)) (fun cenv s4=>
   gc (jH X.prog X.w) X.A (.compStart (.ListComp elt [⟨tg,iter,ifs,0⟩] scope pos) 0 (.ref it) acc { cenv with scope:=JJ scope X.env }) (RR acc cenv.locals) s4) E s3) E s2:=by
 refine WE ?_;have I3:Inv X pc sg (upd H s2.heap.objs.size (.lst [])) { s2 with heap:=s2.heap.push { cls:=.type "list",dict:=none,data:=.seq ([]:List j6).toArray } }:=
  I2.laid (t':=s2.toks) (fun b u e=>jb _ e) (jj _) ⟨Z8 _,[],0,.nil,jN _ rfl⟩
 have hfree:H s2.heap.objs.size=none:=I2.hok.fresh (jj _);obtain⟨W,⟨mm,w0⟩,turn⟩:=hw s2.heap.objs.size hfree;generalize hD:s2.heap.objs.size=D at *;generalize hs3:({ s2 with heap:=s2.heap.push { cls:=.type "list",dict:=none,data:=.seq ([]:List j6).toArray } }:ja)=s3 at *;have hlt3:∀ b o,s2.heap.get? b=some o->s3.heap.get? b=some o:=fun b o e=>by rw[<-hs3]; exact jb _ e
 have hsz3:s3.heap.objs.size=D+1:=by rw[<-hs3,<-hD]; exact ZT ..
 have fpD:∀ b∈fp,b < D:=fun b hb=>by
  obtain⟨o,ho,_⟩:=T.obj 0 _ st2 b hb;rw[<-hD]; exact jh ho
 have f3:∀ b∈fp,zjv X pc (upd H D (.lst [])) b:=fun b hb=>⟨by rw[za6 (jI (fpD b hb))]; exact(f2 b hb).1,(f2 b hb).2⟩
 have lt3:∀ b∈fp,b < s3.heap.objs.size:=fun b hb=>by rw[hsz3]; exact QV (fpD b hb)
 have st3:tn 0 s3.heap:=T.keep 0 _ _ st2 fun b _ o e=>hlt3 b o e;refine NM hcell (by intro y hy; simp at hy) (fun h1 hns1 hsb1=>?_) hkind
 try dsimp only at hns1 hsb1 ⊢
 have keep1:∀ b u,s3.heap.get? b=some u->h1.get? b=some u:=fun b u e=>hsb1.extBut b u (jI (jh e)) (jb _ e);have I4:=zhq (N:=N) (tk:=s3.toks+([]:List (Str × j6)).length) hcap hkind hcell I3 hcl1 hcl2 f3 lt3 keep1 hns1;have loop:gc (jH X.prog X.w) X.A (.compLoop (.ListComp elt [⟨tg,iter,ifs,0⟩] scope pos) 0 (.ref it) (.ref D) (Ja scope cl s3.heap.objs.size X.env)) (RR (.ref D) s3.heap.objs.size) { s3 with heap:=h1,toks:=s3.toks+([]:List (Str × j6)).length }:=by
  generalize hX':zaq X N scope cl s3.heap.objs.size s3 (upd H D (.lst [])) fp=X' at I4;have eP:X'.prog=X.prog:=by rw[<-hX']; rfl
  have ew:X'.w=X.w:=by rw[<-hX']; rfl
  have eK:X'.K=X.K:=by rw[<-hX']; rfl
  have eA:X'.A=X.A:=by rw[<-hX']; rfl
  have eE:X'.env=Ja scope cl s3.heap.objs.size X.env:=by rw[<-hX']; rfl
  have ex:X'.xe=fun _ _=>False:=by rw[<-hX']; rfl
  have ecalm:X'.calm=true:=by rw[<-hX']; exact hc
  have hg':PG X' tg g:=by rw[<-hX']; exact hg _ _ _ _ _
  have ht':PTs X' ifs tt:=by rw[<-hX']; exact ht _ _ _ _ _
  have he':PE X' elt te:=by rw[<-hX']; exact he _ _ _ _ _
  have stat:∀ {H':Hp},(∀ b∈fp,H' b=none)->∀ b∈fp,zjv X' [] H' b:=fun {H'} hn b hb=>by
   refine⟨hn b hb,?_,?_,?_,?_,fun p hp=>?_⟩
   ·rw[<-hX']; exact jI (lt3 b hb)
   ·rw[<-hX'];exact fun z=>(zdX (N:=N) hkind hcell I3 hcl1 hcl2 f3 lt3).exfs b hb z
   ·rw[<-hX']; exact .inl hb
   ·rw[<-hX'];exact((zdX (N:=N) hkind hcell I3 hcl1 hcl2 f3 lt3).exf b hb).2
   ·rw[<-hX'] at hp; cases hp
  have out:∀ {sg':St} {H':Hp} {s':ja},Inv X' [] sg' H' s'->Inv X pc sg H' s':=fun {sg' H' s'} I'=>by
   have hb:=I'.base;rw[<-hX'] at hb;have ho:=I'.os;rw[<-hX'] at ho;have hk:=I'.hok;rw[eP,ew] at hk;exact I3.call' (ch:=fp) ho hb hk I'.bare fun b hb=>⟨(f3 b hb).2.2.2.1,(f3 b hb).2.1,(f3 b hb).2.2.2.2.1,(f3 b hb).2.2.2.2.2⟩
  rw[<-eE,<-eA,<-eP,<-ew];refine zjj (fun n s'=>∃ i H',Inv X' [] (zbr caps sg) H' s'/\tn i s'.heap/\(∀ b∈fp,H' b=none)/\W i n H') ?_ mm
   ⟨0,_,I4,T.keep 0 _ _ st3 fun b _ o e=>keep1 b o e,fun b hb=>(f3 b hb).1,w0⟩
  rintro n s5 ⟨i,H5,I5,st5,fr5,w5⟩;rcases turn i n H5 w5 with ⟨stop,q⟩ |⟨go,step⟩
  ·have z:=T.done X' eP ew eK ecalm i [] s5 _ H5 (fun _ _=>False) I5 (stat fr5) st5 stop;rw[<-eP,<-ew] at z;refine thn z fun r s6 h_=>?_; obtain⟨hr,I6⟩:=h_;subst hr;obtain⟨m',hn',_⟩:=I6.loc;have hfr:=I6.free;rw[eE] at hn' hfr;refine hRR D s3.heap.objs.size s6 H5 m' (out I6) hn' hfr (by rw[hsz3]; exact gd _) (fun x c e z=>?_) (fun p hp z=>?_) (fun z=>?_) q
   ·obtain⟨v,o,ho,_⟩:=I3.cell x c e;rw[z] at ho;exact absurd (jh ho) (Qk _)
   ·have:=jh (I3.pin p hp).1;rw[z] at this;exact absurd this (Qk _)
   ·have:=I3.lt;rw[<-z] at this;exact absurd this (Qk _)
  ·have z:=T.item X' eP ew eK ecalm i [] s5 _ H5 (fun _ _=>False) I5 (stat fr5) st5 go;rw[<-eP,<-ew] at z;refine thn z fun r s6 h_=>?_; obtain⟨u,hr,h6⟩:=h_;subst hr;dsimp only;refine thn h6 fun _ s7 h_=>?_; obtain⟨x,H7,I7,r7,y7,st7,fr7⟩:=h_;have I7':=I7.pinned (stat fr7) (T.obj _ _ st7);have q7:=step x H7 y7;have a7:=hg' _ s7 (zbr caps sg) H7 x u _ I7' r7 (hgk _ _ _ _ q7);rw[ex] at a7;refine thn a7 fun _ s8 h_=>?_; obtain⟨sg8,H8,I8,q8,k8⟩:=h_;have k8':∀(j:Nat) (v:V),(zbr caps sg)[j]?=some (some v)->sg8[j]?=some (some v):=fun j v e=>by
    have e':=e;unfold zbr at e';rw[jf] at e';cases hc:caps[j]? with
    |none=>rw[hc] at e'; simp at e'
    |some o=>
     cases o with
     |none=>rw[hc] at e'; simp at e'
     |some k=>rw[k8 j k hc]; exact e
   have a8:=ht' _ s8 sg8 H8 _ I8 q8;rw[ex] at a8;refine thn a8 fun ok s9 h_=>?_; obtain⟨H9,I9,q9⟩:=h_;have U0:∀ {sg':St} {H':Hp} {s':ja} {m':Nat},Inv X' ([]++zhi fp s7.heap) sg' H' s'->(∀(j:Nat) (v:V),(zbr caps sg)[j]?=some (some v)->sg'[j]?=some (some v))->m' < n->W (i+1) m' H'->
     ∃ m,m < n/\∃ i H',Inv X' [] (zbr caps sg) H' s'/\tn i s'.heap/\(∀ b∈fp,H' b=none)/\W i m H':=fun {sg' H' s' m'} I' hs hm hw=>by
    refine⟨m',hm,i+1,H',I'.unpinned.forget (I4.len.trans I'.len.symm) hs,T.keep _ _ _ st7 fun b hb o e=>(I'.pin (b,o) (jx _ (jx _ (zcf hb e)))).1,fun b hb=>?_,hw⟩;obtain⟨o,e,d⟩:=T.obj _ _ st7 b hb;exact(I'.pin (b,o) (jx _ (jx _ (zcf hb e)))).2.1
   cases ok with
   |false=>
    obtain⟨m',hm,w9⟩:=q9;exact U0 I9 k8' hm w9
   |true=>
    have a9:=he' _ s9 sg8 H9 _ I9 q9;rw[ex] at a9;refine thn a9 fun v s10 h_=>?_; obtain⟨y,H10,I10,r10,xs,hD',hz,m',hm,w10⟩:=h_;have a10:=zbQ (X:=X') _ s10 sg8 H10 (.ref D) [y] (.ref D) [v] (fun _ H'=>W (i+1) m' H') I10 rfl (.cons r10 .nil) ⟨D,xs,y,rfl,rfl,hD',hz,w10⟩;rw[ex] at a10;exact thn a10 fun _ s11 ⟨_,H11,I11,_,w11⟩=>U0 I11 k8' hm w11
 exact codeAny_compStart_list loop (T.self _ _ _ _ _ (T.keep 0 _ _ st3 fun b _ o e=>keep1 b o e) loop)
def tLC(caps:List (Option Nat))(wi:TI)(g:TG)(tt:TT)(te:TE):TE:=fun sg H Q=>wi sg H fun J H1=>lcW J g tt te (zbr caps sg) Q H1
theorem zg3{X:Cx}{scope:gr}(ok:X.Ok)(hfr:scope.names.all (fun p=>p.2 != .free||(X.env.scope.names.lookup p.1 == some .cell||X.env.scope.names.lookup p.1 == some .free))=true) :
  ∀ x,(x,Ql)∈scope.names->∃ c,X.env.cells.lookup x=some c:=fun x hx=>by
 have q:=js.mp hfr (x,.free) hx;simp only[bne_self_eq_false,Wg,Z9] at q;exact ok.has x (q.imp (fun z=>eq_of_beq z) fun z=>eq_of_beq z)
theorem zvn(hc:X.calm=true)(hi:PI X tg iter wi)(hg:∀ cl C s0 H0 fp,PG (zaq X N scope cl C s0 H0 fp) tg g)(hgk:zfd caps g)(ht:∀ cl C s0 H0 fp,PTs (zaq X N scope cl C s0 H0 fp) ifs tt)(he:∀ cl C s0 H0 fp,PE (zaq X N scope cl C s0 H0 fp) elt te)
  (hcap:capOk N X.N scope X.env.scope caps=true:=by rfl) (hkind:scope.kind=.function:=by rfl) (hcell:scope.names.all (fun p=>p.2 != .cell)=true:=by rfl)
  (hnames:scope.names.all (fun p=>p.2 != .local||scope.names.lookup p.1 == some .local)=true:=by rfl)
  (hfr:scope.names.all (fun p=>p.2 != .free||(X.env.scope.names.lookup p.1 == some .cell||X.env.scope.names.lookup p.1 == some .free))=true:=by rfl)
  (hs:∀ x,Qq iter X.env x=pure x:=by intro _; rfl):PE X (.ListComp elt [⟨tg,iter,ifs,0⟩] scope pos) (tLC caps wi g tt te):=by
 intro pc s sg H Q I h;have hcell':∀ y∈scope.names,y.2≠.cell:=fun y hy=>by simpa using js.mp hcell y hy
 have hnames':∀ x∈scope.names,x.2=.local->scope.names.lookup x.1=some .local:=fun x hx e=>by
  have q:=js.mp hnames x hx;rw[e] at q;simpa using q
 obtain⟨cl,hclos,hcl1,hcl2⟩:=zca (scope:=scope) (env:=X.env) (zg3 I.ok hfr);rw[eval_ListComp];refine Zm (use:=none) rfl hs hclos hkind hnames' (thn (hi pc s sg H _ I h) fun v s1 h1=>thn h1 fun itv s2 h2=>?_);obtain⟨it,fp,tn,J,H2,e,I2,T,st2,f2,hw⟩:=h2;subst e;refine zkW (RR:=fun acc C=>JL (jH X.prog X.w) X.A X.xe none (EP X pc sg Q) acc C) hc hcap hkind hcell' hg hgk ht he hcl1 hcl2 I2 T st2 f2 hw ?_;intro D C s' H' m' I' hn hfree hCs hCc hCp hCl q;refine⟨m',hn,fun h' hs'=>⟨.ref D,H',?_,rfl,q⟩⟩;exact I'.turned (t':=s'.toks) (it:=C) (fun b o hb e=>(hs'.2 b hb).trans e) hfree hCl (.inr (Q9 I2.sz hCs)) hCc hCp
theorem zop{i:Nat}{y:Str}{py spos:Pos}(hN:X.N.Nodup)(hiy:X.N[i]?=some y)(hy:X.env.scope.names.lookup y=some .local)(hc:X.calm=true)(hi:PI X tg iter wi)(hg:∀ cl C s0 H0 fp,PG (zaq X N scope cl C s0 H0 fp) tg g)(hgk:zfd caps g)(ht:∀ cl C s0 H0 fp,PTs (zaq X N scope cl C s0 H0 fp) ifs tt)(he:∀ cl C s0 H0 fp,PE (zaq X N scope cl C s0 H0 fp) elt te)
  (hsw:Zy (.ListComp elt [⟨tg,iter,ifs,0⟩] scope pos) (some (.Name y py)) spos.line X.env=pure true:=by rfl)
  (hcap:capOk N X.N scope X.env.scope caps=true:=by rfl) (hkind:scope.kind=.function:=by rfl) (hcell:scope.names.all (fun p=>p.2 != .cell)=true:=by rfl)
  (hnames:scope.names.all (fun p=>p.2 != .local||scope.names.lookup p.1 == some .local)=true:=by rfl)
  (hfr:scope.names.all (fun p=>p.2 != .free||(X.env.scope.names.lookup p.1 == some .cell||X.env.scope.names.lookup p.1 == some .free))=true:=by rfl)
  (hs:∀ x,Qq iter X.env x=pure x:=by intro _; rfl):PS X (.Assign [.Name y py] (.ListComp elt [⟨tg,iter,ifs,0⟩] scope pos) spos) (zgY (tLC caps wi g tt te) (zcw i)):=by
 intro pc s sg H D0 I h;have hcell':∀ y∈scope.names,y.2≠.cell:=fun y hy=>by simpa using js.mp hcell y hy
 have hnames':∀ x∈scope.names,x.2=.local->scope.names.lookup x.1=some .local:=fun x hx e=>by
  have q:=js.mp hnames x hx;rw[e] at q;simpa using q
 obtain⟨cl,hclos,hcl1,hcl2⟩:=zca (scope:=scope) (env:=X.env) (zg3 I.ok hfr);rw[Nu _ _ _ _ hsw];refine j4 (Z5 (j4 ?_));show jF _ X.A (do let _ <-comprehension (.ListComp elt [⟨tg,iter,ifs,0⟩] scope pos) scope X.env _ (newList []) false (eval iter X.env) (some (gR (.Name y py) X.env))) _ _ s
 refine j4 (jO (Zm (use:=some (gR (.Name y py) X.env)) (Q:=fun _ s'=>SP X pc D0 .next s') rfl hs hclos hkind hnames'
  (thn (hi pc s sg H _ I h) fun v s1 h1=>thn h1 fun itv s2 h2=>?_)) (fun _ s' hq=>jg (jg hq)) fun _ _ e=>e)
 obtain⟨it,fp,tn,J,H2,e,I2,T,st2,f2,hw⟩:=h2;subst e;refine zkW (Q:=fun x H1=>zcw i x sg H1 D0.nx) (RR:=fun acc C=>JL (jH X.prog X.w) X.A X.xe (some (gR (.Name y py) X.env)) (fun _ s'=>SP X pc D0 .next s') acc C) hc hcap hkind hcell' hg hgk ht he hcl1 hcl2 I2 T st2 f2 hw ?_
 intro D C s' H' m' I' hn hfree hCs hCc hCp hCl q;show jF _ X.A (gR (.Name y py) X.env (.ref D)) _ _ _;refine Ys (zeQ I' hN hiy (.inl hy) (v:=.ref D) rfl (fun s3 I3 ⟨a,hs3,ha⟩=>?_) (.inr hy));have hCa:C≠a:=by
  rcases ha with z |z
  ·rw[z]; exact hCl
  ·exact fun z'=>hCc y a z z'.symm
 refine⟨m',hn.sameBut hs3 hCa,fun h' hs'=>?_⟩;exact⟨_,H',I3.turned (t':=s3.toks) (it:=C) (fun b o hb e=>(hs'.2 b hb).trans e) hfree hCl (.inr (Q9 I2.sz hCs)) hCc hCp,q⟩
end
section
def zxd:V->Option Int->Option Int->Hp->VK->Prop:=fun x lo hi H Q=>∃ z,x=.str z/\z.length<=jn/\Q (.str (Yx z lo hi)) H
theorem zsc:SlR X zxd:=by
 intro pc s sg H x v vl vu lo hi sl Q I rx hs pl pu h;obtain⟨z,rfl,hz,q⟩:=h;obtain⟨t,rfl⟩:=rx;refine⟨"str",_,F.slot_str_getitem.lookup,JB _ _ _,?_⟩;have fin:∀ t' k,EP X pc sg Q (.str (Yx z lo hi) t') { s with toks:=k }:=fun t' k=>⟨.str _,H,I.tok _,⟨_,rfl⟩,q⟩;have le:=Q9 (Txt.slice_le z lo hi) hz;cases pl with
 |none=>
  cases pu with
  |none=>exact Zu (l:=none) (u:=none) (st:=none) hs rfl (Y8 ⟨le,fin⟩)
  |int j uj=>exact Zu (l:=none) (u:=some (j,uj)) (st:=none) hs rfl (Y8 ⟨le,fin⟩)
 |int i ui=>
  cases pu with
  |none=>exact Zu (l:=some (i,ui)) (u:=none) (st:=none) hs rfl (Y8 ⟨le,fin⟩)
  |int j uj=>exact Zu (l:=some (i,ui)) (u:=some (j,uj)) (st:=none) hs rfl (Y8 ⟨le,fin⟩)
end
section
variable {K:j8}
theorem zqN{es:List Q4}{k:Nat}{t:TGs}{n:Nat}{pos:Pos}(hK:X.K=K)(hc:X.calm=true)(h:PGs X es t)
  (hn:(Qi es X.env).length=n:=by rfl) (hst:(Qi es X.env).findIdx? (·.1)=none:=by rfl):PG X (.Tuple es k pos) (zlQ K n t):=by subst hK; exact zpi hc h hn hst
end
theorem znM:QK "list"=some (.type "list"):=by decide +kernel
theorem zcb:QK "isinstance"=some (.builtin "isinstance"):=by decide +kernel
theorem zjp:QK "enumerate"=some (.type "enumerate"):=by decide +kernel
section
theorem op_isF:OpR X (QP .Is) (fun x y H Q=>∃ c d,x=.bl c/\y=.bl d/\Q (.bl (c == d)) H):=by
 intro pc s sg H x y v u Q I rx ry h;obtain⟨c,d,rfl,rfl,q⟩:=h;cases rx; cases ry;exact is_bool ⟨.bl _,H,I,rfl,q⟩
theorem op_isnotF:OpR X (QP .IsNot) (fun x y H Q=>∃ c d,x=.bl c/\y=.bl d/\Q (.bl (c != d)) H):=by
 intro pc s sg H x y v u Q I rx ry h;obtain⟨c,d,rfl,rfl,q⟩:=h;cases rx; cases ry;exact isnot_bool ⟨.bl _,H,I,rfl,q⟩
end
section
variable {E:j6->ja->Prop}
theorem zjf{it t:ji}{items:Array j6}(hne:t≠it):∀(n i:Nat) (s:ja) (Q:List j6->ja->Prop),s.heap.IsListIter it t i->s.heap.IsList t items->i+n<=items.size->
  (∀ h':Qs,h'.IsListIter it t (i+n)->Qd it s.heap h'->Q ((items.toList.drop i).take n) { s with heap:=h' })->jF (jH prog w) A (draw (.ref it) n) Q E s
 |0,i,s,Q,hit,_,_,hQ=>by
  show jF _ _ (pure []) Q E s;exact jg (by simpa using hQ s.heap hit (Heap.SameBut.refl ..))
 |n+1,i,s,Q,hit,ht,hle,hQ=>by
  have hlt:i < items.size:=by lia
  show jF _ _ (NS (.ref it) >>= _) Q E s;refine j4 (N9 hit ht (x:=items[i]) (by simp[hlt]) fun h1 hit1 hs1=>?_)
  refine j4 (Qe (zjf hne n (i+1) _ _ hit1 (ht.extBut hs1.extBut hne) (by lia) fun h2 hit2 hs2=>jg ?_))
  have hd:items.toList.drop i=items[i]::items.toList.drop (i+1):=by simp[Zj,hlt]
  have:=hQ h2 (by rw[show i+(n+1)=i+1+n by lia]; exact hit2) (hs1.trans hs2)
  rw[hd,List.take_succ_cons] at this;exact this
theorem zfM{s:ja}{t:ji}{items:Array j6}{Q:List j6->ja->Prop}(hh:A.handled=none)(ht:s.heap.IsList t items)
  (hQ:∀ h',YR s.heap.objs.size s.heap h'->Q items.toList { s with heap:=h' }):jF (jH prog w) A (unpackItems (.ref t) items.size none) Q E s:=by
 have hlt:t≠s.heap.objs.size:=by obtain⟨o,ho,_⟩:=ht; exact jI (jh ho)
 unfold unpackItems;refine j4 ?_
 ·unfold notIterableAtAll;refine j4 (wpAny_specialOf ht.typeIs slot_list_iter.lookup ?_);refine jg ?_;simp only[Z2,if_false];refine j4 (Qe (Yt ht ?_));refine j4 (Qe (zjf hlt items.size 0 _ _ ⟨_,jN _ rfl,rfl,rfl⟩ (ht.push _) (by lia) fun h1 hit1 hs1=>?_))
  have hall:List.take items.size (List.drop 0 items.toList)=items.toList:=by
   rw[NU]; exact Q2 (by simp)
  rw[hall];rw[In_ (by simp)]
  have ht1:h1.IsList t items:=(ht.push _).extBut hs1.extBut hlt;refine j4 (Qe (Nl hh hit1 ht1 (by simp) fun h2 he2=>?_))
  simp only[Option.isSome_none,Z2,if_false];refine jg (hQ h2 fun b o hb e=>he2 b o hb (hs1.extBut b o hb (jb _ e)))
theorem zfx{s:ja}{env:Env}{elts:List Q4}{x1}{pos:Pos}{t:ji}{items:Array j6}{Q:Unit->ja->Prop}(hh:A.handled=none)(ht:s.heap.IsList t items)
  (hn:(Qi elts env).length=items.size) (hstar:(Qi elts env).findIdx? (·.1)=none)
  (h:∀ h',YR s.heap.objs.size s.heap h'->jF (jH prog w) A (assignInOrder ((Qi elts env).map (·.2)) items.toList) Q E { s with heap:=h' }) :
  jF (jH prog w) A (gR (.Tuple elts x1 pos) env (.ref t)) Q E s:=by
 rw[PyProof.Rows.assign_Tuple];refine j4 (Z5 ?_);unfold unpack;rw[hn,hstar];exact j4 (Qe (zfM hh ht fun h' hx=>h h' hx))
end
section
def zvM(K:j8)(n:Nat)(t:TGs):TG:=fun v sg H Q=>∃ a xs,v=.ref a/\SqL K H a xs/\xs.length=n/\t xs sg H Q
theorem zsN{es:List Q4}{k:Nat}{t:TGs}{n:Nat}(hc:X.calm=true)(h:PGs X es t)
  (hn:(Qi es X.env).length=n:=by rfl) (hst:(Qi es X.env).findIdx? (·.1)=none:=by rfl):PG X (.Tuple es k pos) (zvM X.K n t):=by
 intro pc s sg H v u Q I r hw;obtain⟨a,xs,e1,hq,hl,hw⟩:=hw;subst e1;cases r;obtain⟨its,rv,ht,hz⟩:=I.list hq;refine zfx (I.ok.hd hc) ht.isList (by simp[hn,<-hl,rv.length]) hst fun h' hx=>?_
 have I1:Inv X pc sg H { s with heap:=h' }:=I.kept (t':=s.toks) fun b o e=>hx b o (jI (jh e)) e;exact h pc _ sg H xs _ Q I1 (by simpa using rv) hw
def Ite(K:j8)(a:ji):It:=
 ⟨fun i H=>∃ xs x,SqL K H a xs/\xs[i]?=some x,fun i H v H'=>∃ p x,v=.ref p/\H p=none/\H'=upd H p (.tup [.int i,x])/\∀ xs,SqL K H a xs->xs[i]?=some x,fun i H=>∃ xs,SqL K H a xs/\xs.length<=i⟩
theorem zmh{P:jE}{w:Qa}{K:j8}{elts:List Q4}{x1:Nat}{tp:Pos}(a it e:ji)(hne:e≠it) :
  Turn P w K (.Tuple elts x1 tp) (Ite K a) [e,it] e (fun i h=>(∃ old,IsEnum h e it i old)/\h.IsListIter it a i) where
 mem:=by simp
 obj:=fun i h st b hb=>by
  obtain⟨⟨old,he⟩,o,ho,hc,hd⟩:=st;rcases ju.mp hb with z |z
  ·subst z
   exact⟨_,he,fun v z=>by
    have z':Jg _=W9 v:=z
    cases z'⟩
  ·have z':b=it:=by simpa using z
   subst z';exact⟨o,ho,fun v z=>by rw[hd] at z; cases z⟩
 keep:=fun i h h' st k=>by
  obtain⟨⟨old,he⟩,hi⟩:=st;exact⟨⟨old,k e (by simp) _ he⟩,hi.at fun o q=>k it (by simp) o q⟩
 item:=by
  intro X hP hw hK hc i pc s sg H E I hf st hg;subst hP hw hK;obtain⟨⟨old,he⟩,hit⟩:=st;obtain⟨xs,x,hq,hx⟩:=hg;obtain⟨its,rv,p,hz⟩:=I.list hq;obtain⟨u,hu,ru⟩:=rv.get hx;obtain⟨f0,f1,f2,f3,f4,f5⟩:=hf e (by simp)
  obtain⟨g0,g1,g2,g3,g4,g5⟩:=hf it (by simp)
  refine wpAny_pyNext_enum_item he hit p.isList (x:=u) (by simpa using hu) hne fun h1 eo hit1 htup hsz keep1=>?_
  refine⟨_,rfl,wpAny_letOwnedTupleGo_enum eo fun h2 en sb=>?_⟩;have hn:H s.heap.objs.size=none:=I.hok.fresh (jj _);have elt:e < s.heap.objs.size:=jh he;have keep2:∀ b o,b≠e->b≠it->s.heap.get? b=some o->h2.get? b=some o:=fun b o n1 n2 q=>(sb.2 b n1).trans (keep1 b o n1 n2 q);have tup2:h2.get? s.heap.objs.size=some { cls:=.type "tuple",data:=.seq #[.int i s.toks,u] }:=(sb.2 _ (gS elt)).trans htup;have nH:∀ b v,H b=some v->b≠e/\b≠it/\b≠s.heap.objs.size:=fun b v q=>⟨(fun z=>by rw[z,f0] at q; cases q),(fun z=>by rw[z,g0] at q; cases q),zaa q hn⟩
  have I2:Inv X pc sg (upd H s.heap.objs.size (.tup [.int i,x])) { s with heap:=h2,toks:=s.toks+1 }:=by
   refine I.step (g':=s.gens) (d':=s.drawn) (ch:=[e,it]) (fun b hb=>?_) (fun b o _ _ hc q _=>keep2 b o (fun z=>hc (by simp[z])) (fun z=>hc (by simp[z])) q)
    (fun b o _ _ hc q _=>⟨o.slots,keep2 b o (fun z=>hc (by simp[z])) (fun z=>hc (by simp[z])) q⟩) (fun b o hc q n=>by rw[za6 (jI (jh q))]; exact n)
    (fun b o hc q=>⟨o,keep2 b o (fun z=>hc (by simp[z])) (fun z=>hc (by simp[z])) q⟩) (fun b ys q=>by rw[za6 (nH b _ q).2.2]; exact q) (fun b o v q=>by rw[za6 (nH b _ q).2.2]; exact q)
    (fun b ps q=>⟨#[],by rw[za6 (nH b _ q).2.2,q]; simp⟩) (fun m hm=>?_) (fun b v q=>?_) I.bare
   ·rcases ju.mp hb with z |z
    ·subst z; exact⟨f3,f1,f4,f5⟩
    ·have z':b=it:=by simpa using z
     subst z'; exact⟨g3,g1,g4,g5⟩
   ·obtain⟨o,es,ep,ho,r⟩:=hm;exact⟨o,es,ep,keep2 _ o (ZD f1) (ZD g1) ho,r⟩
   ·by_cases hb:b=s.heap.objs.size
    ·subst hb;rw[zad] at q;cases q;exact⟨by show 2<=jn; decide,[.int i s.toks,u],.cons ⟨_,rfl⟩ (.cons ru .nil),_,tup2,rfl,_,rfl⟩
    ·rw[za6 hb] at q;refine(I.hok b v q).stay (fun c v' hc q'=>?_) (fun c q'=>by rw[za6 (nH c _ q').2.2]; exact q') fun c ys q'=>by rw[za6 (nH c _ q').2.2]; exact q'
     rcases hc with z |z
     ·exact keep2 c v' (by rw[z]; exact(nH b v q).1) (by rw[z]; exact(nH b v q).2.1) q'
     ·exact keep2 c v' (nH c _ z).1 (nH c _ z).2.1 q'
  refine⟨.ref s.heap.objs.size,_,I2,rfl,⟨s.heap.objs.size,x,rfl,hn,rfl,fun ys hy=>by rw[I.list_inj hy hq]; exact hx⟩,⟨⟨_,en⟩,?_⟩,fun b hb=>?_⟩
  ·obtain⟨o,ho,r⟩:=hit1;exact⟨o,(sb.2 it (ZD hne)).trans ho,r⟩
  ·rcases ju.mp hb with z |z
   ·subst z; rw[za6 (jI elt)]; exact f0
   ·have z':b=it:=by simpa using z
    subst z';obtain⟨o,ho,_⟩:=hit;rw[za6 (jI (jh ho))]; exact g0
 done:=by
  intro X hP hw hK hc i pc s sg H E I hf st hg;subst hP hw hK;obtain⟨⟨old,he⟩,hit⟩:=st;obtain⟨xs,hq,hx⟩:=hg;obtain⟨its,rv,p,hz⟩:=I.list hq;obtain⟨g0,g1,g2,g3,g4,g5⟩:=hf it (by simp)
  have hl:=rv.length;exact wpAny_pyNext_enum_end (I.ok.hd hc) he hit p.isList (by simp; lia) fun h' eb=>⟨rfl,I.turned (t':=s.toks) (fun b o hb q=>eb b o hb q) g0 g1 g3 g4 g5⟩
 self:=fun _ _ _ _ _ st h=>by
  obtain⟨⟨old,he⟩,_⟩:=st;exact WF he h
def zvK(K:j8)(ta:TA):TI:=fun sg H R=>ta sg H fun vs H1=>∃ a,vs=[.ref a]/\(∃ xs,SqL K H1 a xs)/\R (Ite K a) H1
theorem zqK{elts:List Q4}{x1:Nat}{tp:Pos}{a:Q4}{ta:TA}{p pos:Pos}(hg:Gl X "enumerate")(hm:X.mg "enumerate"=none)(ha:PA X [a] ta)(hs:je [a] X.env=[(false,eval a X.env)]:=by rfl) :
  PI X (.Tuple elts x1 tp) (.Call (.Name "enumerate" p) [a] [] pos) (zvK X.K ta):=by
 intro pc s sg H R I h;refine Call_ (zel I hg hm zjp (Qf (thn (ha pos pc s sg H _ I h) fun us s1 ⟨vs,H1,I1,r1,q1⟩=>?_) hs rfl));obtain⟨a',rfl,⟨xs,hq⟩,q⟩:=q1;obtain⟨u,rfl,ru⟩:=zma r1;cases ru;obtain⟨its,rv,pl,hz⟩:=I1.list hq;refine call_enumerate_list pl.isList fun h' en il hsz kp=>?_;refine WF en ?_;have I2:Inv X pc sg H1 { s1 with heap:=h' }:=I1.kept (t':=s1.toks) kp;refine⟨s1.heap.objs.size+1,[s1.heap.objs.size+1,s1.heap.objs.size],_,_,H1,rfl,I2,zmh a' s1.heap.objs.size (s1.heap.objs.size+1) (Nat.succ_ne_self _),⟨⟨_,en⟩,il⟩,fun b hb=>?_,q⟩;rcases ju.mp hb with z |z
 ·subst z; exact I1.fpOk (gd _) (I1.hok.fresh (gd _))
 ·have z':b=s1.heap.objs.size:=by simpa using z
  subst z'; exact I1.fpOk (jj _) (I1.hok.fresh (jj _))
end
section
def zwo(K:j8):List V->Hp->VK->Prop:=fun xs H Q=>∃ x c t k,xs=[x,.ty c]/\TyOf K H x t/\gP K t (.type c)=some k/\Q (.bl k) H
theorem zoX:CallR X (.builtin "isinstance") (zwo X.K):=by
 intro pc s sg H xs us Q I r h;obtain⟨x,c,t,k,rfl,ty,e,q⟩:=h;obtain⟨u,u2,rfl,ru,ru2⟩:=zpO r;cases ru2;exact znj I ru ty e fun tk=>⟨.bl k,H,I.tok _,rfl,q⟩
end
section
variable {R:WQ->ja->Prop}
theorem zif{kx vx target iter:Q4}{ifs:List Q4}{scope:gr}{pos:Pos}{it:j6}{D:ji}{env:Env}(I:Nat->ja->Prop)
  (turn:∀ n s,I n s->jF (jH prog w) A (NS it) (fun r s1=>match r with
   |none=>R (.ok .next) s1
   | some v=>jF (jH prog w) A (ZG target it v) (fun _ s1'=>jF (jH prog w) A (gR target env v) (fun _ s2=>
     jF (jH prog w) A (forIn ifs true fun c r=>if r=true then do let ok <-Je c env (eval c env); pure (Qg ok) else pure (Qg r)) (fun ok s3=>
      if ok=true then jF (jH prog w) A (eval kx env) (fun kv s4=>jF (jH prog w) A (eval vx env) (fun vv s5=>
       jF (jH prog w) A (dictSet D kv vv) (fun _ s6=>∃ m,m < n/\I m s6) (fun _ _=>False) s5) (fun _ _=>False) s4) (fun _ _=>False) s3
      else ∃ m,m < n/\I m s3) (fun _ _=>False) s2) (fun _ _=>False) s1') (fun _ _=>False) s1) (fun _ _=>False) s)
  (n:Nat) (h:I n s) :
  gc (jH prog w) A (.compLoop (.DictComp kx vx [⟨target,iter,ifs,0⟩] scope pos) 0 it (.ref D) env) R s:=by
 refine codeAny_loop rfl I (fun n s hI=>?_) n h;show jF _ A ((compTurn (.DictComp kx vx [⟨target,iter,ifs,0⟩] scope pos) 0 it (.ref D) env).onRaise (fun x=>do Nt x env; theTreesLotGoes x)) _ _ s
 refine wpAny_noted ?_;rw[compTurn_dict];refine j4 (Z5 (j4 (jO (turn n s hI) (fun r s1 h1=>?_) fun _ _ h'=>h'.elim)));cases r with
 |none=>exact jg h1
 |some v=>
  refine j4 (jO h1 (fun _ s1' h1'=>?_) fun _ _ h'=>h'.elim);refine j4 (jO h1' (fun _ s2 h2=>j4 (jO h2 (fun ok s3 h3=>?_) fun _ _ h'=>h'.elim)) fun _ _ h'=>h'.elim);cases ok with
  |false=>exact jg ⟨rfl,h3⟩
  |true=>
   exact j4 (j4 (jO h3 (fun kv s4 h4=>j4 (Qe (jO h4 (fun vv s5 h5=>j4 (Z5 (Qe (jO h5 (fun _ s6 h6=>jg ⟨rfl,h6⟩) fun _ _ h'=>h'.elim)))) fun _ _ h'=>h'.elim))) fun _ _ h'=>h'.elim))
end
def dcW(J:It)(g:TG)(tt:TT)(tk tv:TE)(sg':St)(Q:VK)(H1:Hp):Prop:=
 ∀ D,H1 D=none->∃ W:Nat->Nat->Hp->Prop,(∃ m,W 0 m (upd H1 D (.dK [])))/\∀ i m H,W i m H->
  (J.stop i H/\Q (.ref D) H)∨(J.go i H/\∀ x H',J.yld i H x H'->g x sg' H' fun s2 H2=>tt s2 H2 fun b H3=>if b=true then
   tk s2 H3 fun y H4=>tv s2 H4 fun z H5=>∃ kvs k,H5 D=some (.dK kvs)/\y=kV k/\kvs.length < jn/\∃ m',m' < m/\W (i+1) m' (upd H5 D (.dK (zhh kvs k z)))
   else ∃ m',m' < m/\W (i+1) m' H3)
section
variable {tg kx vx iter:Q4}{ifs:List Q4}{wi:TI}{g:TG}{tt:TT}{tk tv:TE}
theorem zlf{pc:List (ji × Obj)}{sg:St}{H:Hp}{s2:ja}{cl:List (Str × ji)}{it:ji}{fp:List ji}{tn:Nat->Qs->Prop}{J:It}{Q:VK}{E:j6->ja->Prop}{RR:j6->ji->WQ->ja->Prop}
  (hc:X.calm=true) (hcap:capOk N X.N scope X.env.scope caps=true) (hkind:scope.kind=.function) (hcell:∀ y∈scope.names,y.2≠.cell)
  (hg:∀ cl C s0 H0 fp,PG (zaq X N scope cl C s0 H0 fp) tg g) (hgk:zfd caps g) (ht:∀ cl C s0 H0 fp,PTs (zaq X N scope cl C s0 H0 fp) ifs tt) (hk:∀ cl C s0 H0 fp,PE (zaq X N scope cl C s0 H0 fp) kx tk) (he:∀ cl C s0 H0 fp,PE (zaq X N scope cl C s0 H0 fp) vx tv)
  (hcl1:∀ p∈cl,X.env.cells.lookup p.1=some p.2) (hcl2:∀ x,(x,Ql)∈scope.names->∃ c,(x,c)∈cl)
  (I2:Inv X pc sg H s2) (T:Turn X.prog X.w X.K tg J fp it tn) (st2:tn 0 s2.heap) (f2:∀ b∈fp,zjv X pc H b) (hw:dcW J g tt tk tv (zbr caps sg) Q H)
  (hRR:∀(D C:ji) (s':ja) (H':Hp) (m':Str->Option j6),Inv X pc sg H' s'->s'.heap.Ns C m'->H' C=none->s2.heap.objs.size<=C->(∀ x c,X.env.cells.lookup x=some c->c≠C)->(∀ p∈X.pn++pc,p.1≠C)->C≠X.env.locals->Q (.ref D) H'->RR (.ref D) C (.ok .next) s') :
  jF (jH X.prog X.w) X.A (newDict) (fun acc s3=>jF (jH X.prog X.w) X.A (newFunctionEnv scope X.env.globals cl [] X.env.qual none .none (some X.env)) (fun cenv s4=>
   gc (jH X.prog X.w) X.A (.compStart (.DictComp kx vx [⟨tg,iter,ifs,0⟩] scope pos) 0 (.ref it) acc { cenv with scope:=JJ scope X.env }) (RR acc cenv.locals) s4) E s3) E s2:=by
 refine WE ?_;have I3:Inv X pc sg (upd H s2.heap.objs.size (.dK [])) { s2 with heap:=s2.heap.push { cls:=.type "dict",dict:=none,data:=.dict #[] } }:=
  I2.laid (t':=s2.toks) (fun b u e=>jb _ e) (jj _) (zld s2.heap I2.big)
 have hfree:H s2.heap.objs.size=none:=I2.hok.fresh (jj _);obtain⟨W,⟨mm,w0⟩,turn⟩:=hw s2.heap.objs.size hfree;generalize hD:s2.heap.objs.size=D at *;generalize hs3:({ s2 with heap:=s2.heap.push { cls:=.type "dict",dict:=none,data:=.dict #[] } }:ja)=s3 at *;have hlt3:∀ b o,s2.heap.get? b=some o->s3.heap.get? b=some o:=fun b o e=>by rw[<-hs3]; exact jb _ e
 have hsz3:s3.heap.objs.size=D+1:=by rw[<-hs3,<-hD]; exact ZT ..
 have fpD:∀ b∈fp,b < D:=fun b hb=>by
  obtain⟨o,ho,_⟩:=T.obj 0 _ st2 b hb;rw[<-hD]; exact jh ho
 have f3:∀ b∈fp,zjv X pc (upd H D (.dK [])) b:=fun b hb=>⟨by rw[za6 (jI (fpD b hb))]; exact(f2 b hb).1,(f2 b hb).2⟩
 have lt3:∀ b∈fp,b < s3.heap.objs.size:=fun b hb=>by rw[hsz3]; exact QV (fpD b hb)
 have st3:tn 0 s3.heap:=T.keep 0 _ _ st2 fun b _ o e=>hlt3 b o e;refine NM hcell (by intro y hy; simp at hy) (fun h1 hns1 hsb1=>?_) hkind
 try dsimp only at hns1 hsb1 ⊢
 have keep1:∀ b u,s3.heap.get? b=some u->h1.get? b=some u:=fun b u e=>hsb1.extBut b u (jI (jh e)) (jb _ e);have I4:=zhq (N:=N) (tk:=s3.toks+([]:List (Str × j6)).length) hcap hkind hcell I3 hcl1 hcl2 f3 lt3 keep1 hns1;have loop:gc (jH X.prog X.w) X.A (.compLoop (.DictComp kx vx [⟨tg,iter,ifs,0⟩] scope pos) 0 (.ref it) (.ref D) (Ja scope cl s3.heap.objs.size X.env)) (RR (.ref D) s3.heap.objs.size) { s3 with heap:=h1,toks:=s3.toks+([]:List (Str × j6)).length }:=by
  generalize hX':zaq X N scope cl s3.heap.objs.size s3 (upd H D (.dK [])) fp=X' at I4;have eP:X'.prog=X.prog:=by rw[<-hX']; rfl
  have ew:X'.w=X.w:=by rw[<-hX']; rfl
  have eK:X'.K=X.K:=by rw[<-hX']; rfl
  have eA:X'.A=X.A:=by rw[<-hX']; rfl
  have eE:X'.env=Ja scope cl s3.heap.objs.size X.env:=by rw[<-hX']; rfl
  have ex:X'.xe=fun _ _=>False:=by rw[<-hX']; rfl
  have ecalm:X'.calm=true:=by rw[<-hX']; exact hc
  have hg':PG X' tg g:=by rw[<-hX']; exact hg _ _ _ _ _
  have ht':PTs X' ifs tt:=by rw[<-hX']; exact ht _ _ _ _ _
  have hk':PE X' kx tk:=by rw[<-hX']; exact hk _ _ _ _ _
  have he':PE X' vx tv:=by rw[<-hX']; exact he _ _ _ _ _
  have stat:∀ {H':Hp},(∀ b∈fp,H' b=none)->∀ b∈fp,zjv X' [] H' b:=fun {H'} hn b hb=>by
   refine⟨hn b hb,?_,?_,?_,?_,fun p hp=>?_⟩
   ·rw[<-hX']; exact jI (lt3 b hb)
   ·rw[<-hX'];exact fun z=>(zdX (N:=N) hkind hcell I3 hcl1 hcl2 f3 lt3).exfs b hb z
   ·rw[<-hX']; exact .inl hb
   ·rw[<-hX'];exact((zdX (N:=N) hkind hcell I3 hcl1 hcl2 f3 lt3).exf b hb).2
   ·rw[<-hX'] at hp; cases hp
  have out:∀ {sg':St} {H':Hp} {s':ja},Inv X' [] sg' H' s'->Inv X pc sg H' s':=fun {sg' H' s'} I'=>by
   have hb:=I'.base;rw[<-hX'] at hb;have ho:=I'.os;rw[<-hX'] at ho;have hk:=I'.hok;rw[eP,ew] at hk;exact I3.call' (ch:=fp) ho hb hk I'.bare fun b hb=>⟨(f3 b hb).2.2.2.1,(f3 b hb).2.1,(f3 b hb).2.2.2.2.1,(f3 b hb).2.2.2.2.2⟩
  rw[<-eE,<-eA,<-eP,<-ew];refine zif (fun n s'=>∃ i H',Inv X' [] (zbr caps sg) H' s'/\tn i s'.heap/\(∀ b∈fp,H' b=none)/\W i n H') ?_ mm
   ⟨0,_,I4,T.keep 0 _ _ st3 fun b _ o e=>keep1 b o e,fun b hb=>(f3 b hb).1,w0⟩
  rintro n s5 ⟨i,H5,I5,st5,fr5,w5⟩;rcases turn i n H5 w5 with ⟨stop,q⟩ |⟨go,step⟩
  ·have z:=T.done X' eP ew eK ecalm i [] s5 _ H5 (fun _ _=>False) I5 (stat fr5) st5 stop;rw[<-eP,<-ew] at z;refine thn z fun r s6 h_=>?_; obtain⟨hr,I6⟩:=h_;subst hr;obtain⟨m',hn',_⟩:=I6.loc;have hfr:=I6.free;rw[eE] at hn' hfr;refine hRR D s3.heap.objs.size s6 H5 m' (out I6) hn' hfr (by rw[hsz3]; exact gd _) (fun x c e z=>?_) (fun p hp z=>?_) (fun z=>?_) q
   ·obtain⟨v,o,ho,_⟩:=I3.cell x c e;rw[z] at ho;exact absurd (jh ho) (Qk _)
   ·have:=jh (I3.pin p hp).1;rw[z] at this;exact absurd this (Qk _)
   ·have:=I3.lt;rw[<-z] at this;exact absurd this (Qk _)
  ·have z:=T.item X' eP ew eK ecalm i [] s5 _ H5 (fun _ _=>False) I5 (stat fr5) st5 go;rw[<-eP,<-ew] at z;refine thn z fun r s6 h_=>?_; obtain⟨u,hr,h6⟩:=h_;subst hr;dsimp only;refine thn h6 fun _ s7 h_=>?_; obtain⟨x,H7,I7,r7,y7,st7,fr7⟩:=h_;have I7':=I7.pinned (stat fr7) (T.obj _ _ st7);have q7:=step x H7 y7;have a7:=hg' _ s7 (zbr caps sg) H7 x u _ I7' r7 (hgk _ _ _ _ q7);rw[ex] at a7;refine thn a7 fun _ s8 h_=>?_; obtain⟨sg8,H8,I8,q8,k8⟩:=h_;have k8':∀(j:Nat) (v:V),(zbr caps sg)[j]?=some (some v)->sg8[j]?=some (some v):=fun j v e=>by
    have e':=e;unfold zbr at e';rw[jf] at e';cases hc:caps[j]? with
    |none=>rw[hc] at e'; simp at e'
    |some o=>
     cases o with
     |none=>rw[hc] at e'; simp at e'
     |some k=>rw[k8 j k hc]; exact e
   have a8:=ht' _ s8 sg8 H8 _ I8 q8;rw[ex] at a8;refine thn a8 fun ok s9 h_=>?_; obtain⟨H9,I9,q9⟩:=h_;have U0:∀ {sg':St} {H':Hp} {s':ja} {m':Nat},Inv X' ([]++zhi fp s7.heap) sg' H' s'->(∀(j:Nat) (v:V),(zbr caps sg)[j]?=some (some v)->sg'[j]?=some (some v))->m' < n->W (i+1) m' H'->
     ∃ m,m < n/\∃ i H',Inv X' [] (zbr caps sg) H' s'/\tn i s'.heap/\(∀ b∈fp,H' b=none)/\W i m H':=fun {sg' H' s' m'} I' hs hm hw=>by
    refine⟨m',hm,i+1,H',I'.unpinned.forget (I4.len.trans I'.len.symm) hs,T.keep _ _ _ st7 fun b hb o e=>(I'.pin (b,o) (jx _ (jx _ (zcf hb e)))).1,fun b hb=>?_,hw⟩;obtain⟨o,e,d⟩:=T.obj _ _ st7 b hb;exact(I'.pin (b,o) (jx _ (jx _ (zcf hb e)))).2.1
   cases ok with
   |false=>
    obtain⟨m',hm,w9⟩:=q9;exact U0 I9 k8' hm w9
   |true=>
    have a9:=hk' _ s9 sg8 H9 _ I9 q9;rw[ex] at a9;refine thn a9 fun kv s10 h_=>?_; obtain⟨y,H10,I10,r10,q10⟩:=h_;have a10:=he' _ s10 sg8 H10 _ I10 q10;rw[ex] at a10;refine thn a10 fun vv s11 h_=>?_; obtain⟨z,H11,I11,r11,kvs,k,hD',ey,hz,m',hm,w11⟩:=h_;subst ey;obtain⟨zz,hdd,vs,rel,dd⟩:=zri I11.hok hD';have hvz:vs.length<=jn:=by rw[<-rel.length]; exact zz
    have hl:(zhh kvs k z).length<=jn:=by have:=zdm kvs k z; lia
    refine wpAny_dictSet_pairs (hsz:=hvz) (znh r10) dd fun h' dd' hs=>?_;have he2:∃ q,h'.get? D=some q:=let ⟨q,_,_,hq,_⟩:=dd'; ⟨q,hq⟩
    have I12:=zia (t':=s11.toks+1) I11 (by rw[hD']; exact ZC) hs he2 (zpA hl hdd (rel.put k r11) dd')
    exact U0 I12 k8' hm w11
 exact codeAny_compStart_dict loop (T.self _ _ _ _ _ (T.keep 0 _ _ st3 fun b _ o e=>keep1 b o e) loop)
def tDC(caps:List (Option Nat))(wi:TI)(g:TG)(tt:TT)(tk tv:TE):TE:=fun sg H Q=>wi sg H fun J H1=>dcW J g tt tk tv (zbr caps sg) Q H1
theorem zvo(hc:X.calm=true)(hi:PI X tg iter wi)(hg:∀ cl C s0 H0 fp,PG (zaq X N scope cl C s0 H0 fp) tg g)(hgk:zfd caps g)(ht:∀ cl C s0 H0 fp,PTs (zaq X N scope cl C s0 H0 fp) ifs tt)(hk:∀ cl C s0 H0 fp,PE (zaq X N scope cl C s0 H0 fp) kx tk)(he:∀ cl C s0 H0 fp,PE (zaq X N scope cl C s0 H0 fp) vx tv)
  (hcap:capOk N X.N scope X.env.scope caps=true:=by rfl) (hkind:scope.kind=.function:=by rfl) (hcell:scope.names.all (fun p=>p.2 != .cell)=true:=by rfl)
  (hnames:scope.names.all (fun p=>p.2 != .local||scope.names.lookup p.1 == some .local)=true:=by rfl)
  (hfr:scope.names.all (fun p=>p.2 != .free||(X.env.scope.names.lookup p.1 == some .cell||X.env.scope.names.lookup p.1 == some .free))=true:=by rfl)
  (hs:∀ x,Qq iter X.env x=pure x:=by intro _; rfl):PE X (.DictComp kx vx [⟨tg,iter,ifs,0⟩] scope pos) (tDC caps wi g tt tk tv):=by
 intro pc s sg H Q I h;have hcell':∀ y∈scope.names,y.2≠.cell:=fun y hy=>by simpa using js.mp hcell y hy
 have hnames':∀ x∈scope.names,x.2=.local->scope.names.lookup x.1=some .local:=fun x hx e=>by
  have q:=js.mp hnames x hx;rw[e] at q;simpa using q
 obtain⟨cl,hclos,hcl1,hcl2⟩:=zca (scope:=scope) (env:=X.env) (zg3 I.ok hfr);rw[arm_eval_DictComp];refine Zm (use:=none) rfl hs hclos hkind hnames' (thn (hi pc s sg H _ I h) fun v s1 h1=>thn h1 fun itv s2 h2=>?_);obtain⟨it,fp,tn,J,H2,e,I2,T,st2,f2,hw⟩:=h2;subst e;refine zlf (RR:=fun acc C=>JL (jH X.prog X.w) X.A X.xe none (EP X pc sg Q) acc C) hc hcap hkind hcell' hg hgk ht hk he hcl1 hcl2 I2 T st2 f2 hw ?_;intro D C s' H' m' I' hn hfree hCs hCc hCp hCl q;refine⟨m',hn,fun h' hs'=>⟨.ref D,H',?_,rfl,q⟩⟩;exact I'.turned (t':=s'.toks) (it:=C) (fun b o hb e=>(hs'.2 b hb).trans e) hfree hCl (.inr (Q9 I2.sz hCs)) hCc hCp
theorem zoq{i:Nat}{y:Str}{py spos:Pos}(hN:X.N.Nodup)(hiy:X.N[i]?=some y)(hy:X.env.scope.names.lookup y=some .local)(hc:X.calm=true)(hi:PI X tg iter wi)(hg:∀ cl C s0 H0 fp,PG (zaq X N scope cl C s0 H0 fp) tg g)(hgk:zfd caps g)(ht:∀ cl C s0 H0 fp,PTs (zaq X N scope cl C s0 H0 fp) ifs tt)(hk:∀ cl C s0 H0 fp,PE (zaq X N scope cl C s0 H0 fp) kx tk)(he:∀ cl C s0 H0 fp,PE (zaq X N scope cl C s0 H0 fp) vx tv)
  (hsw:Zy (.DictComp kx vx [⟨tg,iter,ifs,0⟩] scope pos) (some (.Name y py)) spos.line X.env=pure true:=by rfl)
  (hcap:capOk N X.N scope X.env.scope caps=true:=by rfl) (hkind:scope.kind=.function:=by rfl) (hcell:scope.names.all (fun p=>p.2 != .cell)=true:=by rfl)
  (hnames:scope.names.all (fun p=>p.2 != .local||scope.names.lookup p.1 == some .local)=true:=by rfl)
  (hfr:scope.names.all (fun p=>p.2 != .free||(X.env.scope.names.lookup p.1 == some .cell||X.env.scope.names.lookup p.1 == some .free))=true:=by rfl)
  (hs:∀ x,Qq iter X.env x=pure x:=by intro _; rfl):PS X (.Assign [.Name y py] (.DictComp kx vx [⟨tg,iter,ifs,0⟩] scope pos) spos) (zgY (tDC caps wi g tt tk tv) (zcw i)):=by
 intro pc s sg H D0 I h;have hcell':∀ y∈scope.names,y.2≠.cell:=fun y hy=>by simpa using js.mp hcell y hy
 have hnames':∀ x∈scope.names,x.2=.local->scope.names.lookup x.1=some .local:=fun x hx e=>by
  have q:=js.mp hnames x hx;rw[e] at q;simpa using q
 obtain⟨cl,hclos,hcl1,hcl2⟩:=zca (scope:=scope) (env:=X.env) (zg3 I.ok hfr);rw[Nu _ _ _ _ hsw];refine j4 (Z5 (j4 ?_));show jF _ X.A (do let _ <-comprehension (.DictComp kx vx [⟨tg,iter,ifs,0⟩] scope pos) scope X.env _ (newDict) false (eval iter X.env) (some (gR (.Name y py) X.env))) _ _ s
 refine j4 (jO (Zm (use:=some (gR (.Name y py) X.env)) (Q:=fun _ s'=>SP X pc D0 .next s') rfl hs hclos hkind hnames'
  (thn (hi pc s sg H _ I h) fun v s1 h1=>thn h1 fun itv s2 h2=>?_)) (fun _ s' hq=>jg (jg hq)) fun _ _ e=>e)
 obtain⟨it,fp,tn,J,H2,e,I2,T,st2,f2,hw⟩:=h2;subst e;refine zlf (Q:=fun x H1=>zcw i x sg H1 D0.nx) (RR:=fun acc C=>JL (jH X.prog X.w) X.A X.xe (some (gR (.Name y py) X.env)) (fun _ s'=>SP X pc D0 .next s') acc C) hc hcap hkind hcell' hg hgk ht hk he hcl1 hcl2 I2 T st2 f2 hw ?_
 intro D C s' H' m' I' hn hfree hCs hCc hCp hCl q;show jF _ X.A (gR (.Name y py) X.env (.ref D)) _ _ _;refine Ys (zeQ I' hN hiy (.inl hy) (v:=.ref D) rfl (fun s3 I3 ⟨a,hs3,ha⟩=>?_) (.inr hy));have hCa:C≠a:=by
  rcases ha with z |z
  ·rw[z]; exact hCl
  ·exact fun z'=>hCc y a z z'.symm
 refine⟨m',hn.sameBut hs3 hCa,fun h' hs'=>?_⟩;exact⟨_,H',I3.turned (t':=s3.toks) (it:=C) (fun b o hb e=>(hs'.2 b hb).trans e) hfree hCl (.inr (Q9 I2.sz hCs)) hCc hCp,q⟩
end
section
theorem zmy{k:Key}{v:j6}(h:zk6 k v=true):RelV (kV k) v:=by
 rcases zaC h with ⟨i,t,rfl,rfl⟩ |⟨x,t,rfl,rfl⟩
 ·exact⟨t,rfl⟩
 ·exact⟨t,rfl⟩
theorem zg9:∀ {xs:List V} {us:List j6},xs.length=us.length->(∀(j:Nat) x u,xs[j]?=some x->us[j]?=some u->RelV x u)->Vals xs us:=by
 intro xs
 induction xs with
 |nil=>
  intro us hl _;cases us with
  |nil=>exact .nil
  |cons _ _=>cases hl
 |cons x xs ih=>
  intro us hl h;cases us with
  |nil=>cases hl
  |cons u us=>exact .cons (h 0 x u rfl rfl) (ih (WS hl) fun j y v e1 e2=>h (j+1) y v e1 e2)
theorem zps{κ:Type}{kvs:List (κ × V)}{vs:List (κ × j6)}{j:Nat}{p:κ × V}(h:KV kvs vs):kvs[j]?=some p->∃ q,vs[j]?=some q/\p.1=q.1/\RelV p.2 q.2:=by
 induction h generalizing j with
 |nil=>intro e; cases e
 |cons r t ih=>
  intro e;cases j with
  |zero=>obtain rfl:=jc e; exact⟨_,rfl,r⟩
  |succ j=>exact ih (j:=j) e
theorem zh9(hc:X.calm=true):CallR X (.type "list") (fun xs H Q=>∃ a kvs,xs=[V.ref a]/\Rd H a (.dK kvs)/\∀ l,H l=none->Q (.ref l) (upd H l (.lst (kvs.map fun kv=>kV kv.1)))):=by
 intro pc s σ H xs us Q I rv h;obtain⟨a,kvs,rfl,e,q⟩:=h;obtain⟨u,rfl,ru⟩:=rv.one;cases ru;obtain⟨z,hd,vs,rel,dd⟩:=zlY I.hok e;have hl:vs.length<=jn:=by rw[<-rel.length]; exact z
 obtain⟨ep,da⟩:=dd.dictAt;refine PySem.W.kdl_call (PySem.W.kdl_dict (knd:=zb9 X.prog X.w) (kvs:=vs) (ep:=ep) hd) (I.ok.hd hc) da hl fun h' tk acc c hk hnew hit=>?_;have hv:Vals (kvs.map fun kv=>kV kv.1) acc.toList:=by
  refine zg9 (by have h1:=hit.1; have h2:=rel.length; simp only[j5,QC]; lia) fun j x u e1 e2=>?_
  rw[jf] at e1;obtain⟨p,h1,h2⟩:=Qm e1;obtain⟨k,y,h3,h4⟩:=hit.2 j u (by simpa using e2)
  obtain⟨w,h5,h6⟩:=zps rel h1;rw[h3] at h5;injection h5 with h5;subst h5 h2;rw[h6.1];exact zmy h4
 exact⟨.ref _,_,I.laid (a:=s.heap.objs.size) (o:=.lst (kvs.map fun kv=>kV kv.1)) (t':=tk) hk (jj _) ⟨by rw[j5]; exact z,acc.toList,c,hv,by rw[hnew]⟩,rfl,q _ (I.hok.fresh (jj _))⟩
end
section
variable {e:Q4}{te:TE}{p2:Pos}
def zx1(K:j8)(te:TE)(ts:TO):TE:=fun σ H Q=>te σ H fun x H1=>ts σ H1 fun k H2=>k=some (-1)/\∃ a xs,x=.ref a/\SqL K H2 a xs/\∀ p,H2 p=none->Q (.ref p) (upd H2 p (.lst xs.reverse))
theorem zsR{st:Q4}{ts:TO}(he:PE X e te)(hs:PO X (some st) ts):PE X (.Subscript e (.Slice none none (some st) p2) pos) (zx1 X.K te ts):=by
 intro pc s σ H Q I h;refine Wy (thn (he pc s σ H _ I h) fun v s1 h_=>?_); obtain⟨x,H1,I1,r1,q1⟩:=h_;refine wpAny_Slice ?_;rw[We];refine jg (jg (thn (hs pc s1 σ H1 _ I1 q1) fun vk s3 h_=>?_)); obtain⟨k,H3,I3,pk,q3⟩:=h_;obtain⟨rfl,a,xs,rfl,hx,q⟩:=q3;cases r1;have I4:Inv X pc σ H3 { s3 with heap:=s3.heap.push { cls:=.type "slice",data:=.fields #[.none,.none,vk] } }:=I3.kept (t':=s3.toks) fun b ob q=>jb _ q;obtain⟨its,r,ht,hz⟩:=I4.list hx;have hlen:=r.length;show jF (jH X.prog X.w) X.A (YN e (.Slice none none (some st) p2) (.ref a) (.ref s3.heap.objs.size)) (EP X pc σ Q) X.xe { s3 with heap:=s3.heap.push { cls:=.type "slice",data:=.fields #[.none,.none,vk] } };refine tail_any (ops:=[.ref a,.ref s3.heap.objs.size]) ht.isList.typeIs Yv.lookup ?_ (by with_unfolding_all rfl)
 refine Yw ht.isList (Wf ..) .none .none pk (by decide) ?_ (by rw[jq]<;>lia)
 rw[PySem.W.krv_pick];refine⟨.ref _,_,I4.laid (t':=s3.toks) (o:=.lst xs.reverse) (fun b ob q=>jb _ q) (jj _) ?_,rfl,q _ (I4.hok.fresh (jj _))⟩;exact⟨by rw[NY]; exact hz,_,0,r.reverse,jN _ rfl⟩
end
section
variable {a:Q4}{ta:TA}{p p' pos':Pos}
def tLR(ta:TA):TE:=fun σ H Q=>ta σ H fun vs H1=>∃ j:Int,vs=[.int j]/\-(2 ^ 62)<=j/\j<=16777216/\∀ l,H1 l=none->Q (.ref l) (upd H1 l (.lst ((jt j.toNat).map fun(k:Nat)=>V.int k)))
theorem ziR(hc:X.calm=true)(hg:Gl X "list")(hm:X.mg "list"=none)(hg':Gl X "range")(hm':X.mg "range"=none)(ha:PA X [a] ta)(hs:je [a] X.env=[(false,eval a X.env)]:=by rfl)
  (hs':je [.Call (.Name "range" p') [a] [] pos'] X.env=[(false,eval (.Call (.Name "range" p') [a] [] pos') X.env)]:=by rfl) :
  PE X (.Call (.Name "list" p) [.Call (.Name "range" p') [a] [] pos'] [] pos) (tLR ta):=by
 intro pc s σ H Q I h;refine Call_ (zel I hg hm boot_list (Qf ?_ hs' rfl));rw[hs'];show jF _ _ (spliced [(false,eval (.Call (.Name "range" p') [a] [] pos') X.env)]) _ _ s;refine Wc (Call_ (zel I hg' hm' Jz (Qf (thn (ha pos' pc s σ H _ I h) fun us s1 ⟨vs,H1,I1,r1,q1⟩=>?_) hs rfl)));obtain⟨j,e,q1,q2,q⟩:=q1;subst e;cases r1 with
 |cons r rr=>
  cases rr;obtain⟨t,rfl⟩:=r;refine call_range_1 (Wx ?_);have I2:Inv X pc σ H1 { s1 with heap:=s1.heap.push { cls:=.type "range",data:=.fields #[.int 0 s1.toks,.int j t,.int 1 (s1.toks+1)] },toks:=s1.toks+1+1 }:=I1.kept fun b o e=>jb _ e;have hn:YL 0 j 1=(j.toNat:Int):=by rw[rangeSize_one]; split<;>lia
  refine call_list_range (I2.ok.hd hc) (U6 ..) (small_one (by lia) (by lia) q1 (by lia)) hn (by lia) fun h' tk acc c hk hnew hit=>?_
  have hv:Vals ((jt j.toNat).map fun(k:Nat)=>V.int k) acc.toList:=by
   refine zg9 (by have h1:=hit.1; simp only[j5,Zn,QC]; lia) fun i x u e1 e2=>?_
   rw[jf] at e1;obtain⟨k,h1,h2⟩:=Qm e1;obtain⟨tk',h3⟩:=hit.2 i u (by simpa using e2)
   obtain⟨h4,rfl⟩:=j9.mp h1;subst h2 h3;rw[Wh];exact⟨tk',by rw[Nv,Int.mul_one]⟩
  exact⟨.ref _,_,I2.laid (o:=.lst ((jt j.toNat).map fun(k:Nat)=>V.int k)) (t':=tk) hk (jj _) ⟨by rw[j5,Zn,Zs]; lia,acc.toList,c,hv,by rw[hnew]⟩,rfl,q _ (I2.hok.fresh (jj _))⟩
end
end L2
namespace Dw
open PySem PySem.Spec PyProof.Rows L2
def Sx(l:List Nat):Str:=⟨l.toArray⟩
theorem zju(l:List Nat):(Sx l).cps.toList=l:=by simp[Sx]
theorem zgV(l:List Nat):(Sx l).length=l.length:=by simp[Sx,Str.length]
theorem zpH{l m:List Nat}(h:Sx l=Sx m):l=m:=by
 have:=congrArg (fun x=>x.cps.toList) h;simpa[Sx] using this
theorem ztT(l m:List Nat):Sx l++Sx m=Sx (l++m):=by
 show Str.mk _=_;simp[Sx]
theorem zw2(l:List Nat){j:Int}(h0:0<=j)(h:j<=l.length):Yx (Sx l) none (some j)=Sx (l.take j.toNat):=by
 have:=slice_closes_to (x:=Sx l) (j:=j) ⟨h0,by rw[zju]; exact h⟩
 rw[eq_of_beq this,zju];simp[Sx]
theorem zrA(l:List Nat){j:Int}(h0:0<=j)(h:j<=l.length):Yx (Sx l) (some j) none=Sx (l.drop j.toNat):=by
 have:=slice_closes_from (x:=Sx l) (i:=j) ⟨h0,by rw[zju]; exact h⟩
 rw[eq_of_beq this,zju,Q2 (by rw[QL]; lia)]
 rfl
def ze3(x:Str):Prop:=1<=x.length/\x.length<=8/\∀ c∈x.cps.toList,97<=c/\c<=122
abbrev letters:Str:="abcdefghijklmnopqrstuvwxyz"
theorem zlL{i:Int}(h0:0<=i)(h:i < 26):atI letters.cps.toList i=some (97+i.toNat):=by
 have key:∀ j:Nat,j < 26->letters.cps.toList[j]?=some (97+j):=by decide +kernel
 have ek:i=((i.toNat:Nat):Int):=by lia
 have q:=zry (key i.toNat (by lia))
 rw[<-ek] at q;exact q
theorem zk4:letters.length<=jn:=by decide +kernel
structure Pairing (ps:List Nat) (n:Nat):Prop where
 len:ps.length=2*n
 lt:∀ k∈ps,k < n
 two:∀ k,k < n->ps.count k=2
structure Half (pl:List (Option Nat)) (n i:Nat):Prop where
 len:pl.length=2*n
 lt:∀ k,some k∈pl->k < i
 two:∀ k,k < i->pl.count (some k)=2
 free:pl.count none+2*i=2*n
theorem Half.start(n:Nat):Half (gQ (2*n) none) n 0:=by
 refine⟨ZH ..,fun k hk=>?_,fun k hk=>absurd hk (Nw k),?_⟩
 ·have:=Yy hk;cases this
 ·rw[List.count_replicate_self]; lia
theorem zdw{α β:Type}[BEq α][LawfulBEq α][BEq β][LawfulBEq β]{f:α->β}(hf:∀ a b,f a=f b->a=b)(x:α):∀ l:List α,(l.map f).count (f x)=l.count x
 |[]=>rfl
 |a::r=>by
  rw[jr,ZK,ZK,zdw hf x r]
  by_cases e:a=x
  ·subst e; simp
  ·have e1:(a == x)=false:=by simpa using e
   have e2:(f a == f x)=false:=by simpa using fun z=>e (hf _ _ z)
   rw[e1,e2]
theorem zew{l:List Str}{k:Nat}(h:k < l.length):l.getD k jz=l[k]:=by
 simp[List.getD,j3 h]
theorem Half.next{pl:List (Option Nat)}{n i f0 f1:Nat}(h:Half pl n i)(hi:i < n)(h0:pl[f0]?=some none)(h1:pl[f1]?=some none)(hne:f0≠f1):Half ((pl.set f1 (some i)).set f0 (some i)) n (i+1):=by
 obtain⟨l1,e1⟩:=j9.mp h1;have h0':(pl.set f1 (some i))[f0]?=some none:=by rw[jd (ZD hne)]; exact h0
 obtain⟨l0,e0⟩:=j9.mp h0';have ci:pl.count (some i)=0:=by
  refine gA.mpr fun hm=>?_;exact absurd (h.lt i hm) (Qk _)
 have cn:=h.free;have key:∀ x,((pl.set f1 (some i)).set f0 (some i)).count x=pl.count x - (if (none:Option Nat) == x then 1 else 0)+(if some i == x then 1 else 0) - (if (none:Option Nat) == x then 1 else 0)+(if some i == x then 1 else 0):=fun x=>by
  rw[Jr l0,e0,Jr l1,e1]
 refine⟨by rw[Q0,Q0]; exact h.len,fun k hk=>?_,fun k hk=>?_,?_⟩
 ·rcases Yp hk with z |z
  ·rcases Yp z with z |z
   ·exact QV (h.lt k z)
   ·cases z; exact ZZ _
  ·cases z; exact ZZ _
 ·rw[key]
  by_cases e:k=i
  ·subst e;rw[ci];simp
  ·have:(some i == some k)=false:=by simpa using fun z=>e z.symm
   rw[this];simpa using h.two k (by lia)
 ·rw[key];have:(some i == (none:Option Nat))=false:=rfl;rw[this];have:((none:Option Nat) == none)=true:=rfl;rw[this];simp only[if_true,Z2,if_false];lia
theorem Half.done{pl:List (Option Nat)}{n:Nat}(h:Half pl n n):∃ ps:List Nat,Pairing ps n/\pl=ps.map some:=by
 have hz:pl.count none=0:=by have:=h.free; lia
 have hn:none∉pl:=gA.mp hz;obtain⟨ps,rfl⟩:∃ ps:List Nat,pl=ps.map some:=by
  clear h hz
  induction pl with
  |nil=>exact⟨[],rfl⟩
  |cons o r ih=>
   obtain⟨ps,rfl⟩:=ih fun z=>hn (jw _ z);cases o with
   |none=>exact absurd jX hn
   |some j=>exact⟨j::ps,rfl⟩
 refine⟨ps,⟨by have:=h.len; rwa [j5] at this,fun k hk=>h.lt k (List.mem_map_of_mem hk),fun k hk=>?_⟩,rfl⟩
 have:=h.two k hk
 rwa [zdw (fun a b z=>jc z)] at this
theorem Pairing.put{ps sh:List Nat}{n m t:Nat}(h:Pairing ps n)(hs:Pairing sh m):Pairing (ps.take t++(sh.map fun k=>n+k)++ps.drop t) (n+m):=by
 have perm:List.Perm (ps.take t++(sh.map fun k=>n+k)++ps.drop t) (ps++sh.map fun k=>n+k):=by
  rw[Qh];have:List.Perm (ps.take t++((sh.map fun k=>n+k)++ps.drop t)) (ps.take t++(ps.drop t++(sh.map fun k=>n+k))):=Nx _ List.perm_append_comm;refine this.trans ?_;rw[<-Qh,Z0]
 refine⟨?_,fun k hk=>?_,fun k hk=>?_⟩
 ·rw[perm.length_eq,jk,j5,h.len,hs.len]; lia
 ·rcases jv.mp (perm.mem_iff.mp hk) with z |z
  ·have:=h.lt k z; lia
  ·obtain⟨j,hj,rfl⟩:=jB.mp z;have:=hs.lt j hj; lia
 ·rw[perm.count_eq,List.count_append]
  by_cases c:k < n
  ·rw[h.two k c];have:(sh.map fun k=>n+k).count k=0:=gA.mpr fun hm=>by
    obtain⟨j,_,e⟩:=jB.mp hm;lia
   rw[this]
  ·have e1:ps.count k=0:=gA.mpr fun hm=>c (h.lt k hm);obtain⟨j,rfl⟩:∃ j,k=n+j:=⟨k - n,by lia⟩
   rw[e1,zdw (f:=fun k=>n+k) (fun a b (z:n+a=n+b)=>by lia) j sh,hs.two j (by lia)]
theorem Pairing.nil:Pairing [] 0:=⟨rfl,(fun k hk=>by cases hk),fun k hk=>absurd hk (Nw k)⟩
theorem Pairing.of_dec{ps:List Nat}{n:Nat}(h1:ps.length=2*n)(h2:ps.all (fun k=>decide (k < n))=true)(h3:(jt n).all (fun k=>decide (ps.count k=2))=true):Pairing ps n:=
 ⟨h1,fun k hk=>of_decide_eq_true (js.mp h2 k hk),fun k hk=>of_decide_eq_true (js.mp h3 k (jR.mpr hk))⟩
structure GoodWord (wd:List Str):Prop where
 name:∀ x∈wd,ze3 x
 two:∀ x∈wd,wd.count x=2
 len:wd.length<=60
theorem zgH{names:List Str}{ps:List Nat}{n:Nat}(hn:n<=30)(hl:names.length=n)(hd:names.Nodup)(hN:∀ x∈names,ze3 x)(hp:Pairing ps n):GoodWord (ps.map fun k=>names.getD k jz):=by
 have inj:∀ j k,j < n->k < n->names.getD j jz=names.getD k jz->j=k:=fun j k hj hk e=>by
  rw[zew (by lia),zew (by lia)] at e
  exact(N1 hd).mp e
 have memn:∀ k,k < n->names.getD k jz∈names:=fun k hk=>by
  rw[zew (by lia)]
  exact Qz _
 have cnt:∀(l:List Nat),(∀ k∈l,k < n)->∀ k,k < n->(l.map fun k=>names.getD k jz).count (names.getD k jz)=l.count k:=by
  intro l
  induction l with
  |nil=>intro _ _ _; rfl
  |cons j r ih=>
   intro hl' k hk;rw[jr,ZK,ZK,ih (fun k hk=>hl' k (jw _ hk)) k hk]
   by_cases e:j=k
   ·subst e; simp
   ·have e1:(j == k)=false:=by simpa using e
    have e2:(names.getD j jz == names.getD k jz)=false:=by
     simp only[beq_eq_false_iff_ne,ne_eq];exact fun z=>e (inj j k (hl' j jX) hk z)
    rw[e1,e2]
 refine⟨fun x hx=>?_,fun x hx=>?_,?_⟩
 ·obtain⟨k,hk,rfl⟩:=jB.mp hx;exact hN _ (memn k (hp.lt k hk))
 ·obtain⟨k,hk,rfl⟩:=jB.mp hx;rw[cnt ps hp.lt k (hp.lt k hk),hp.two k (hp.lt k hk)]
 ·rw[j5,hp.len]; lia
def zaf(wd:List Str)(x:Str):List Nat:=(jt wd.length).filter fun j=>decide (wd[j]?=some x)
theorem zdR(wd:List Str)(x:Str):(zaf wd x).length=wd.count x:=by
 unfold zaf
 induction wd with
 |nil=>rfl
 |cons o r ih=>
  rw[jp,gH,ZA,Jk,ZK];have e:((jt r.length).filter ((fun j=>decide ((o::r)[j]?=some x))∘Nat.succ))=(jt r.length).filter fun j=>decide (r[j]?=some x):=rfl;rw[e]
  by_cases h:o=x
  ·subst h;rw[Ip_ (by simp),jp,j5,ih]
   simp
  ·rw[In_ (by simpa using h),j5,ih]
   simp[h]
theorem zaV{wd:List Str}{x:Str}{i j:Nat}(h:zaf wd x=[i,j]):i < j/\j < wd.length:=by
 have hs:(zaf wd x).Pairwise (· < ·):=Ny List.filter_sublist Nf
 rw[h] at hs;have hm:j∈zaf wd x:=by rw[h]; simp
 refine⟨?_,jR.mp (jZ.mp hm).1⟩;simpa using hs
theorem GoodWord.places{wd:List Str}(g:GoodWord wd){x:Str}(hx:x∈wd):∃ i j,zaf wd x=[i,j]:=by
 have hl:=zdR wd x;rw[g.two x hx] at hl
 match h:zaf wd x,hl with
 |[i,j],_=>exact⟨i,j,rfl⟩
def zlo(wd:List Str)(i j:Nat):List Str:=(wd.drop (i+1)).take (j - (i+1))
def stp(acc:List Str)(x:Str):List Str:=if x∈acc then acc else acc++[x]
def zab(wd:List Str):List Str:=wd.foldl stp []
theorem zkc{wd:List Str}{i:Nat}{x:Str}(h:wd[i]?=some x):zab (wd.take (i+1))=stp (zab (wd.take i)) x:=by
 unfold zab;rw[ZU,h,Option.toList_some,WG];rfl
theorem zho:∀(wd acc:List Str),(wd.foldl stp acc).length<=acc.length+wd.length
 |[],acc=>by simp
 |x::wd,acc=>by
  rw[Zo];have:=zho wd (stp acc x);have h:(stp acc x).length<=acc.length+1:=by unfold stp; split<;>simp
  rw[jp];lia
end Dw
namespace L3
open PySem PySem.Spec PyProof.Rows L2
class TheK where
 K:j8
variable [TheK]
inductive T where
 |non |bl (b:Bool) |int (i:Int) |str (x:Str)
 |lst (xs:List T) |tup (xs:List T) |dct (kvs:List (Key × T)) |set (S:Int->Bool) (n:Nat)
 /-- a dict that will not be changed any more: it may be walked -/
 |fd (kvs:List (Key × T))
 /-- the script -/
 |scr (ns:List Int)
 /-- nothing is known -/
 |any
abbrev Sg:=List (Option T)
inductive Rep (C:ji->Prop) (H:Hp):V->T->Prop
 |non:Rep C H .non .non
 |bl (b:Bool):Rep C H (.bl b) (.bl b)
 |int (i:Int):Rep C H (.int i) (.int i)
 |str (x:Str):Rep C H (.str x) (.str x)
 |lst {a:ji} {vs:List V} {ts:List T} (c:C a) (r:H a=some (.lst vs)) (l:vs.length=ts.length) (h:∀(i:Nat) v t,vs[i]?=some v->ts[i]?=some t->Rep C H v t):Rep C H (.ref a) (.lst ts)
 |tup {a:ji} {vs:List V} {ts:List T} (c:C a) (r:H a=some (.tup vs)) (l:vs.length=ts.length) (h:∀(i:Nat) v t,vs[i]?=some v->ts[i]?=some t->Rep C H v t):Rep C H (.ref a) (.tup ts)
 |dct {a:ji} {kvs:List (Key × V)} {ts:List (Key × T)} (c:C a) (r:H a=some (.dK kvs)) (l:kvs.map (·.1)=ts.map (·.1)) (h:∀(i:Nat) v t,kvs[i]?=some v->ts[i]?=some t->Rep C H v.2 t.2):Rep C H (.ref a) (.dct ts)
 |set {a:ji} {S:Int->Bool} {n:Nat} (c:C a) (r:H a=some (.set S n)):Rep C H (.ref a) (.set S n)
 |fd {a:ji} {o:Obj} {kvs:List (Key × V)} {ts:List (Key × T)} (c:C a) (r:H a=some (.frz o (.dK kvs))) (l:kvs.map (·.1)=ts.map (·.1)) (h:∀(i:Nat) v t,kvs[i]?=some v->ts[i]?=some t->Rep C H v.2 t.2):Rep C H (.ref a) (.fd ts)
 |scr {a:ji} {ns:List Int} {o:Obj} (c:C a) (r:H a=some (.frz o (.lst (ns.map V.int)))):Rep C H (.ref a) (.scr ns)
 /-- the script,as an object of the module -/
 |scrK {a:ji} {ns:List Int} (r:∀ H',SqL TheK.K H' a (ns.map V.int)):Rep C H (.ref a) (.scr ns)
 |any {v:V}:Rep C H v .any
def Reps(C:ji->Prop)(H:Hp)(vs:List V)(ts:List T):Prop:=vs.length=ts.length/\∀(i:Nat) v t,vs[i]?=some v->ts[i]?=some t->Rep C H v t
def RepK(C:ji->Prop)(H:Hp)(vs:List (Key × V))(ts:List (Key × T)):Prop:=vs.map (·.1)=ts.map (·.1)/\∀(i:Nat) v t,vs[i]?=some v->ts[i]?=some t->Rep C H v.2 t.2
section
variable {C C':ji->Prop}{H H':Hp}{v:V}{t:T}{vs:List V}{ts:List T}
theorem Rep.mono(h:Rep C H v t)(hc:∀ a,C a->C' a)(hh:∀ a o,C a->H a=some o->H' a=some o):Rep C' H' v t:=by
 induction h with
 |non=>exact .non
 |bl b=>exact .bl b
 |int i=>exact .int i
 |str x=>exact .str x
 |lst c r l h ih=>exact .lst (hc _ c) (hh _ _ c r) l ih
 |tup c r l h ih=>exact .tup (hc _ c) (hh _ _ c r) l ih
 |dct c r l h ih=>exact .dct (hc _ c) (hh _ _ c r) l ih
 |set c r=>exact .set (hc _ c) (hh _ _ c r)
 |fd c r l h ih=>exact .fd (hc _ c) (hh _ _ c r) l ih
 |scr c r=>exact .scr (hc _ c) (hh _ _ c r)
 |scrK r=>exact .scrK r
 |any=>exact .any
theorem Rep.there(h:Rep C H v t):Rep (fun a=>C a/\H a≠none) H v t:=by
 induction h with
 |non=>exact .non
 |bl b=>exact .bl b
 |int i=>exact .int i
 |str x=>exact .str x
 |lst c r l h ih=>exact .lst ⟨c,by rw[r]; simp⟩ r l ih
 |tup c r l h ih=>exact .tup ⟨c,by rw[r]; simp⟩ r l ih
 |dct c r l h ih=>exact .dct ⟨c,by rw[r]; simp⟩ r l ih
 |set c r=>exact .set ⟨c,by rw[r]; simp⟩ r
 |fd c r l h ih=>exact .fd ⟨c,by rw[r]; simp⟩ r l ih
 |scr c r=>exact .scr ⟨c,by rw[r]; simp⟩ r
 |scrK r=>exact .scrK r
 |any=>exact .any
theorem Reps.mono(h:Reps C H vs ts)(hc:∀ a,C a->C' a)(hh:∀ a o,C a->H a=some o->H' a=some o):Reps C' H' vs ts:=⟨h.1,fun i v t e1 e2=>(h.2 i v t e1 e2).mono hc hh⟩
theorem RepK.mono{ks:List (Key × V)}{kt:List (Key × T)}(h:RepK C H ks kt)(hc:∀ a,C a->C' a)(hh:∀ a o,C a->H a=some o->H' a=some o):RepK C' H' ks kt:=⟨h.1,fun i v t e1 e2=>(h.2 i v t e1 e2).mono hc hh⟩
theorem Reps.there(h:Reps C H vs ts):Reps (fun a=>C a/\H a≠none) H vs ts:=⟨h.1,fun i v t e1 e2=>(h.2 i v t e1 e2).there⟩
theorem RepK.there{ks:List (Key × V)}{kt:List (Key × T)}(h:RepK C H ks kt):RepK (fun a=>C a/\H a≠none) H ks kt:=⟨h.1,fun i v t e1 e2=>(h.2 i v t e1 e2).there⟩
theorem Reps.nil:Reps C H [] []:=⟨rfl,fun i v t e=>by simp at e⟩
theorem Reps.cons(h:Rep C H v t)(hs:Reps C H vs ts):Reps C H (v::vs) (t::ts):=by
 refine⟨by simp[hs.1],fun i v' t' e1 e2=>?_⟩
 cases i with
 |zero=>simp at e1 e2; subst e1 e2; exact h
 |succ i=>exact hs.2 i v' t' (by simpa using e1) (by simpa using e2)
theorem Reps.head(hs:Reps C H (v::vs) (t::ts)):Rep C H v t:=hs.2 0 v t rfl rfl
theorem Reps.tail(hs:Reps C H (v::vs) (t::ts)):Reps C H vs ts:=⟨by simpa using hs.1,fun i v' t' e1 e2=>hs.2 (i+1) v' t' (by simpa using e1) (by simpa using e2)⟩
theorem Reps.get{i:Nat}(hs:Reps C H vs ts)(e:ts[i]?=some t):∃ v,vs[i]?=some v/\Rep C H v t:=by
 have hi:i < ts.length:=(j9.mp e).1;have hv:i < vs.length:=by rw[hs.1]; exact hi
 exact⟨vs[i],j3 hv,hs.2 i _ t (j3 hv) e⟩
theorem Reps.append{vs':List V}{ts':List T}(h:Reps C H vs ts)(h':Reps C H vs' ts'):Reps C H (vs++vs') (ts++ts'):=by
 refine⟨by simp[h.1,h'.1],fun i v t e1 e2=>?_⟩
 by_cases hi:i < vs.length
 ·rw[Q6 hi] at e1;rw[Q6 (by rw[<-h.1]; exact hi)] at e2
  exact h.2 i v t e1 e2
 ·rw[Qc (by lia)] at e1
  rw[Qc (by rw[<-h.1]; lia),<-h.1] at e2
  exact h'.2 _ v t e1 e2
theorem Reps.drop(n:Nat)(h:Reps C H vs ts):Reps C H (vs.drop n) (ts.drop n):=⟨by simp[h.1],fun i v t e1 e2=>h.2 (n+i) v t (by simpa using e1) (by simpa using e2)⟩
theorem Reps.take(n:Nat)(h:Reps C H vs ts):Reps C H (vs.take n) (ts.take n):=⟨by simp[h.1],fun i v t e1 e2=>by
 rw[Wi] at e1 e2;split at e1
 ·rename_i hi;rw[Ip_ hi] at e2;exact h.2 i v t e1 e2
 ·cases e1⟩
theorem Reps.set(n:Nat)(h:Reps C H vs ts)(r:Rep C H v t):Reps C H (vs.set n v) (ts.set n t):=⟨by simp[h.1],fun i v' t' e1 e2=>by
 rw[Yz] at e1 e2
 by_cases hi:n=i
 ·rw[Ip_ hi] at e1 e2;split at e1
  ·split at e2
   ·cases e1; cases e2; exact r
   ·cases e2
  ·cases e1
 ·rw[In_ hi] at e1 e2
  exact h.2 i v' t' e1 e2⟩
inductive Live (C:ji->Prop) (H:Hp):ji->T->Prop
 |lst {a:ji} {vs:List V} {ts:List T} (r:H a=some (.lst vs)) (h:Reps C H vs ts):Live C H a (.lst ts)
 |dct {a:ji} {kvs:List (Key × V)} {ts:List (Key × T)} (r:H a=some (.dK kvs)) (h:RepK C H kvs ts):Live C H a (.dct ts)
 |set {a:ji} {S:Int->Bool} {n:Nat} (r:H a=some (.set S n)):Live C H a (.set S n)
 |any {a:ji} {o:HO} (r:H a=some o):Live C H a .any
variable {a:ji}
theorem Live.mono(h:Live C H a t)(hc:∀ a,C a->C' a)(hh:∀ a o,C a->H a=some o->H' a=some o)(ha:∀ o,H a=some o->H' a=some o):Live C' H' a t:=by
 cases h with
 |lst r h=>exact .lst (ha _ r) (h.mono hc hh)
 |dct r h=>exact .dct (ha _ r) (h.mono hc hh)
 |set r=>exact .set (ha _ r)
 |any r=>exact .any (ha _ r)
theorem Live.there(h:Live C H a t):Live (fun a=>C a/\H a≠none) H a t:=by
 cases h with
 |lst r h=>exact .lst r h.there
 |dct r h=>exact .dct r h.there
 |set r=>exact .set r
 |any r=>exact .any r
theorem Live.ne(h:Live C H a t):H a≠none:=by
 cases h with
 |lst r h=>rw[r]; simp
 |dct r h=>rw[r]; simp
 |set r=>rw[r]; simp
 |any r=>rw[r]; simp
theorem Live.rep(h:Live C H a t)(hc:∀ b,C b->C' b)(ha:C' a):Rep C' H (.ref a) t:=by
 cases h with
 |lst r h=>exact .lst ha r h.1 fun i v t e1 e2=>(h.2 i v t e1 e2).mono hc fun _ _ _ e=>e
 |dct r h=>exact .dct ha r h.1 fun i v t e1 e2=>(h.2 i v t e1 e2).mono hc fun _ _ _ e=>e
 |set r=>exact .set ha r
 |any r=>exact .any
end
structure Fr where
 H0:Hp
 C0:ji->Prop
 D:ji->Prop
 adr:Nat->ji
def Free(F:Fr)(O:ji->Prop):ji->Prop:=fun a=>¬ O a/\(F.C0 a∨F.H0 a=none)
theorem Free.weak{F:Fr}{O O':ji->Prop}{a:ji}(h:∀ b,O' b->O b)(x:Free F O a):Free F O' a:=⟨fun z=>x.1 (h _ z),x.2⟩
structure Rel (F:Fr) (O:ji->Prop) (M:List Nat) (s:Sg) (σ:L2.St) (H:Hp):Prop where
 len:s.length=σ.length
 val:∀(i:Nat) t,s[i]?=some (some t)->i∉M->∃ v,σ[i]?=some (some v)/\Rep (Free F O) H v t
 own:∀(i:Nat) t,s[i]?=some (some t)->i∈M->∃ a,σ[i]?=some (some (.ref a))/\Live (Free F O) H a t
 ow:∀(i:Nat) a,i∈M->σ[i]?=some (some (.ref a))->O a
 dis:∀(i j:Nat) a,i∈M->j∈M->σ[i]?=some (some (.ref a))->σ[j]?=some (some (.ref a))->i=j
 keep:∀ b o,¬ F.D b->F.H0 b=some o->H b=some o
 dom:∀ b,H b=none->F.H0 b=none
 fresh:∀ a,O a->F.D a∨F.H0 a=none
 inD:∀ a,F.D a->O a
 al:∀ a,O a->H a≠none
structure Step (σ:L2.St) (M:List Nat) (H H':Hp):Prop where
 keep:∀ b o,(∀(i:Nat),i∈M->σ[i]?≠some (some (.ref b)))->H b=some o->H' b=some o
 dom:∀ b,H' b=none->H b=none
section
variable {F:Fr}{O:ji->Prop}{M:List Nat}{s s':Sg}{σ:L2.St}{H H' H'':Hp}{v:V}{t:T}{a:ji}
theorem Step.refl:Step σ M H H:=⟨fun _ _ _ h=>h,fun _ h=>h⟩
theorem Step.trans(x:Step σ M H H')(y:Step σ M H' H''):Step σ M H H'':=⟨fun b o n h=>y.keep b o n (x.keep b o n h),fun b h=>x.dom b (y.dom b h)⟩
theorem Step.new(h:H a=none)(o:HO):Step σ M H (upd H a o):=⟨fun b u _ q=>by rw[za6 (zaa q h)]; exact q,fun b h'=>by
 unfold upd at h';split at h'
 ·cases h'
 ·exact h'⟩
theorem Rel.notOwned(R:Rel F O M s σ H)(h:¬ O a):∀(i:Nat),i∈M->σ[i]?≠some (some (.ref a)):=fun i hi e=>h (R.ow i a hi e)
theorem Rel.stay(R:Rel F O M s σ H)(S:Step σ M H H')(h:Rep (Free F O) H v t):Rep (Free F O) H' v t:=
 h.mono (fun _ c=>c) fun a o c e=>S.keep a o (R.notOwned c.1) e
theorem Rel.less{O':ji->Prop}(R:Rel F O M s σ H)(h:∀ b,O' b->O b)(hw:∀(i:Nat) a,i∈M->σ[i]?=some (some (.ref a))->O' a)(hD:∀ a,F.D a->O' a):Rel F O' M s σ H where
 len:=R.len
 val:=fun i t e n=>by
  obtain⟨v,h1,h2⟩:=R.val i t e n;exact⟨v,h1,h2.mono (fun _ c=>c.weak h) fun _ _ _ e=>e⟩
 own:=fun i t e n=>by
  obtain⟨a,h1,h2⟩:=R.own i t e n;exact⟨a,h1,h2.mono (fun _ c=>c.weak h) (fun _ _ _ e=>e) fun _ e=>e⟩
 ow:=hw
 dis:=R.dis
 keep:=R.keep
 dom:=R.dom
 fresh:=fun a z=>R.fresh a (h a z)
 inD:=hD
 al:=fun a z=>R.al a (h a z)
theorem Rel.new(R:Rel F O M s σ H)(h:H a=none)(o:HO):Rel F (fun b=>O b∨b=a) M s σ (upd H a o):=by
 have k:∀ b u,H b=some u->upd H a o b=some u:=fun b u q=>by rw[za6 (zaa q h)]; exact q
 have fr:∀ b,Free F O b/\H b≠none->Free F (fun b=>O b∨b=a) b:=fun b c=>⟨fun z=>z.elim c.1.1 fun z=>c.2 (z▸h),c.1.2⟩;refine⟨R.len,fun i t e n=>?_,fun i t e n=>?_,fun i b hi e=>.inl (R.ow i b hi e),R.dis,fun b u n e=>k _ _ (R.keep b u n e),fun b e=>?_,fun b z=>?_,fun b z=>.inl (R.inD b z),fun b z=>?_⟩
 ·obtain⟨v,h1,h2⟩:=R.val i t e n;exact⟨v,h1,h2.there.mono fr fun b u _ e=>k b u e⟩
 ·obtain⟨b,h1,h2⟩:=R.own i t e n;exact⟨b,h1,h2.there.mono fr (fun b u _ e=>k b u e) fun u e=>k b u e⟩
 ·refine R.dom b ?_;unfold upd at e;split at e
  ·cases e
  ·exact e
 ·rcases z with z |z
  ·exact R.fresh b z
  ·subst z; exact .inr (R.dom _ h)
 ·rcases z with z |z
  ·intro e;refine R.al b z ?_;unfold upd at e;split at e
   ·cases e
   ·exact e
  ·subst z; rw[zad]; simp
end
end L3
namespace L3
open PySem PySem.Spec PyProof.Rows L2
variable [TheK]
variable {M:List Nat}{H:Hp}{X:Cx}
inductive Kd where
 |e |b |n
def BRep(C:ji->Prop)(H:Hp)(v:V)(t:T):Prop:=Rep C H v t∨∃ a,v=.ref a/\Live C H a t
def Post(k:Kd)(F:Fr)(O:ji->Prop)(M:List Nat)(σ:L2.St)(H:Hp)(s':Sg)(t:T)(v:V)(H':Hp):Prop:=match k with
 |.e=>Rel F O M s' σ H'/\Rep (Free F O) H' v t
 |.b=>Rel F O M s' σ H'/\(Rep (Free F O) H' v t∨∃ i:Nat,i∈M/\σ[i]?=some (some v)/\s'[i]?=some (some t))
 |.n=>∃ a,v=.ref a/\H a=none/\Rel F (fun b=>O b∨b=a) M s' σ H'/\Live (Free F (fun b=>O b∨b=a)) H' a t
abbrev DE:=Sg->Option (T × Sg)
abbrev DT:=Sg->Option (Bool × Sg)
abbrev DA:=Sg->Option (List T × Sg)
def cE(k:Kd)(M:List Nat)(f:DE):TE:=fun σ H Q=>∃ F O s t s',Rel F O M s σ H/\f s=some (t,s')/\∀ v H',Step σ M H H'->Post k F O M σ H s' t v H'->Q v H'
theorem cE_{k:Kd}{M:List Nat}{f:DE}{σ:L2.St}{H:Hp}{Q:VK}(h:cE k M f σ H Q){G:Prop}(g:∀ F O s t s',Rel F O M s σ H->f s=some (t,s')->(∀ v H',Step σ M H H'->Post k F O M σ H s' t v H'->Q v H')->G):G:=by
 obtain⟨F,O,s,t,s',R,hf,q⟩:=h;exact g F O s t s' R hf q
def cT(M:List Nat)(f:DT):TT:=fun σ H Q=>∃ F O s b s',Rel F O M s σ H/\f s=some (b,s')/\∀ H',Step σ M H H'->Rel F O M s' σ H'->Q b H'
theorem cT_{M:List Nat}{f:DT}{σ:L2.St}{H:Hp}{Q:Bool->Hp->Prop}(h:cT M f σ H Q){G:Prop}(g:∀ F O s b s',Rel F O M s σ H->f s=some (b,s')->(∀ H',Step σ M H H'->Rel F O M s' σ H'->Q b H')->G):G:=by
 obtain⟨F,O,s,b,s',R,hf,q⟩:=h;exact g F O s b s' R hf q
def cA(M:List Nat)(f:DA):TA:=fun σ H Q=>∃ F O s ts s',Rel F O M s σ H/\f s=some (ts,s')/\∀ vs H',Step σ M H H'->Rel F O M s' σ H'->Reps (Free F O) H' vs ts->Q vs H'
theorem weak{X:Cx}{e:Q4}{t t':TE}(h:PE X e t)(hw:∀ σ H Q,t' σ H Q->t σ H Q):PE X e t':=fun pc s σ H Q I q=>h pc s σ H Q I (hw _ _ _ q)
theorem zeK{X:Cx}{e:Q4}{t t':TT}(h:PT X e t)(hw:∀ σ H Q,t' σ H Q->t σ H Q):PT X e t':=fun pc s σ H Q I q=>h pc s σ H Q I (hw _ _ _ q)
theorem zrG{X:Cx}{e:Q4}{t t':TT}(h:PW X e t)(hw:∀ σ H Q,t' σ H Q->t σ H Q):PW X e t':=fun wh pc s σ H Q I q=>h wh pc s σ H Q I (hw _ _ _ q)
theorem zrI{X:Cx}{es:List Q4}{t t':TA}(h:PA X es t)(hw:∀ σ H Q,t' σ H Q->t σ H Q):PA X es t':=fun pos pc s σ H Q I q=>h pos pc s σ H Q I (hw _ _ _ q)
theorem zcv{X:Cx}{e:Qw}{t t':TS}(h:PS X e t)(hw:∀ D σ H,t' D σ H->t D σ H):PS X e t':=fun pc s σ H D I q=>h pc s σ H D I (hw _ _ _ q)
theorem zfA{X:Cx}{e:List Qw}{t t':TS}(h:PSs X e t)(hw:∀ D σ H,t' D σ H->t D σ H):PSs X e t':=fun pc s σ H D I q=>h pc s σ H D I (hw _ _ _ q)
section
variable {F:Fr}{O:ji->Prop}{s s':Sg}{σ:L2.St}{H':Hp}{v:V}{t:T}{a:ji}
theorem Post.ne(R:Rel F O M s σ H)(h:Post .n F O M σ H s' t v H'):Post .e F O M σ H s' t v H':=by
 obtain⟨a,rfl,h0,R',L⟩:=h;have w:∀ b,O b->(O b∨b=a):=fun b z=>.inl z;refine⟨R'.less w R.ow R.inD,L.rep (fun b c=>c.weak w) ⟨fun z=>R.al a z h0,.inr (R.dom a h0)⟩⟩
theorem Post.eb(h:Post .e F O M σ H s' t v H'):Post .b F O M σ H s' t v H':=⟨h.1,.inl h.2⟩
theorem Post.view(h:Post .b F O M σ H s' t v H'):BRep (Free F O) H' v t:=by
 rcases h.2 with h2 |⟨i,hi,e1,e2⟩
 ·exact .inl h2
 ·obtain⟨a,e3,L⟩:=h.1.own i t e2 hi;rw[e1] at e3;exact .inr ⟨a,by injection e3 with e3; injection e3,L⟩
theorem Post.mkN(R:Rel F O M s σ H)(R1:Rel F O M s' σ H')(S:Step σ M H H'){p:ji}{o:HO}(hp:H' p=none)(L:∀ C:ji->Prop,(∀ b,Free F O b/\H' b≠none->C b)->Live C (upd H' p o) p t):Post .n F O M σ H s' t (.ref p) (upd H' p o):=
 ⟨p,rfl,S.dom p hp,R1.new hp o,L _ fun b c=>⟨fun z=>z.elim c.1.1 fun z=>c.2 (z▸hp),c.1.2⟩⟩
theorem Post.mkE(R1:Rel F O M s' σ H'){p:ji}{o:HO}(hp:H' p=none)(L:∀ C:ji->Prop,(∀ b,Free F O b/\H' b≠none->C b)->C p->Rep C (upd H' p o) (.ref p) t):Post .e F O M σ H s' t (.ref p) (upd H' p o):=by
 have w:∀ b,O b->(O b∨b=p):=fun b z=>.inl z;exact⟨(R1.new hp o).less w R1.ow R1.inD,L _ (fun b c=>c.1) ⟨fun z=>R1.al p z hp,.inr (R1.dom p hp)⟩⟩
end
section
variable {e a b:Q4}{fa fb:DE}
theorem ne(h:PE X e (cE .n M fa)):PE X e (cE .e M fa):=weak h fun σ H Q h_=>cE_ h_ fun F O s t s' R hf q=>⟨F,O,s,t,s',R,hf,fun v H' S p=>q v H' S (p.ne R)⟩
theorem eb(h:PE X e (cE .e M fa)):PE X e (cE .b M fa):=weak h fun σ H Q h_=>cE_ h_ fun F O s t s' R hf q=>⟨F,O,s,t,s',R,hf,fun v H' S p=>q v H' S p.eb⟩
theorem nb(h:PE X e (cE .n M fa)):PE X e (cE .b M fa):=eb (ne h)
def dV(i:Nat):DE:=fun s=>(s[i]?).join.map fun t=>(t,s)
def dC(t:T):DE:=fun s=>some (t,s)
theorem zae{α:Type}{o:Option (Option α)}{x:α}(h:o.join=some x):o=some (some x):=by
 cases o with
 |none=>cases h
 |some o=>cases o with
  |none=>cases h
  |some y=>injection h with h; rw[h]
theorem zkl{i:Nat}{s s':Sg}{t:T}(h:dV i s=some (t,s')):s[i]?=some (some t)/\s'=s:=by
 unfold dV at h;cases e:(s[i]?).join with
 |none=>rw[e] at h; cases h
 |some x=>
  rw[e] at h;injection h with h;injection h with h1 h2;subst h1 h2;exact⟨zae e,rfl⟩
theorem zoO{v:V}{t:T}(hr:∀ C H,Rep C H v t)(h:PE X e (tC v)):PE X e (cE .e M (dC t)):=weak h fun σ H Q h_=>cE_ h_ fun F O s t' s' R hf q=>by
 injection hf with hf;injection hf with h1 h2;subst h1 h2;exact q v H .refl ⟨R,hr _ _⟩
def d2(g:T->T->Option T)(fa fb:DE):DE:=fun s=>(fa s).bind fun p=>(fb p.2).bind fun q=>(g p.1 q.1).map fun t=>(t,q.2)
def d2v(g:T->T->Option T)(i:Nat)(fb:DE):DE:=fun s=>(s[i]?).join.bind fun _=>(fb s).bind fun q=>(q.2[i]?).join.bind fun x=>(g x q.1).map fun t=>(t,q.2)
theorem zie{g:T->T->Option T}{s s':Sg}{t:T}(h:d2 g fa fb s=some (t,s')):∃ x s1 y,fa s=some (x,s1)/\fb s1=some (y,s')/\g x y=some t:=by
 unfold d2 at h;cases e:fa s with
 |none=>rw[e] at h; cases h
 |some p=>
  rw[e] at h;cases e2:fb p.2 with
  |none=>simp[e2] at h
  |some q=>
   simp only[j7,e2] at h;cases e3:g p.1 q.1 with
   |none=>rw[e3] at h; cases h
   |some u=>
    rw[e3] at h;injection h with h;injection h with h1 h2;subst h1 h2;exact⟨p.1,p.2,q.1,rfl,by rw[e2],e3⟩
theorem zid{g:T->T->Option T}{i:Nat}{s s':Sg}{t:T}(h:d2v g i fb s=some (t,s')):∃ x0 x y,s[i]?=some (some x0)/\fb s=some (y,s')/\s'[i]?=some (some x)/\g x y=some t:=by
 unfold d2v at h;cases e0:(s[i]?).join with
 |none=>rw[e0] at h; cases h
 |some x0=>
 rw[e0] at h;simp only[j7] at h;cases e:fb s with
 |none=>rw[e] at h; cases h
 |some q=>
  simp only[e,j7] at h;cases e2:(q.2[i]?).join with
  |none=>rw[e2] at h; cases h
  |some x=>
   simp only[e2,j7] at h;cases e3:g x q.1 with
   |none=>rw[e3] at h; cases h
   |some u=>
    rw[e3] at h;injection h with h;injection h with h1 h2;subst h1 h2;exact⟨x0,x,q.1,zae e0,rfl,zae e2,e3⟩
def S2E(r:R2)(g:T->T->Option T):Prop:=∀(C:ji->Prop) (H:Hp) x y tx ty t (Q:VK),BRep C H x tx->BRep C H y ty->g tx ty=some t->(∀ v,Rep C H v t->Q v H)->r x y H Q
def S2N(r:R2)(g:T->T->Option T):Prop:=∀(C:ji->Prop) (H:Hp) x y tx ty t (Q:VK),BRep C H x tx->BRep C H y ty->g tx ty=some t->
 (∀ p o,H p=none->(∀ C':ji->Prop,(∀ b,C b/\H b≠none->C' b)->Live C' (upd H p o) p t)->Q (.ref p) (upd H p o))->r x y H Q
theorem zch{r:R2}{g:T->T->Option T}(h:S2E r g):∀ σ H Q,cE .e M (d2 g fa fb) σ H Q->tOp r (cE .e M fa) (cE .b M fb) σ H Q:=by
 intro σ H Q h_;refine cE_ h_ fun F O s t s' R hf q=>?_;obtain⟨x,s1,y,h1,h2,h3⟩:=zie hf;refine⟨F,O,s,x,s1,R,h1,fun v H1 S1 p1=>?_⟩;refine⟨F,O,s1,y,s',p1.1,h2,fun u H2 S2 p2=>?_⟩;exact h (Free F O) H2 v u x y t Q (.inl (p1.1.stay S2 p1.2)) p2.view h3 fun w rw=>q w H2 (S1.trans S2) ⟨p2.1,rw⟩
theorem zuR{r:R2}{g:T->T->Option T}(h:S2N r g):∀ σ H Q,cE .n M (d2 g fa fb) σ H Q->tOp r (cE .e M fa) (cE .b M fb) σ H Q:=by
 intro σ H Q h_;refine cE_ h_ fun F O s t s' R hf q=>?_;obtain⟨x,s1,y,h1,h2,h3⟩:=zie hf;refine⟨F,O,s,x,s1,R,h1,fun v H1 S1 p1=>?_⟩;refine⟨F,O,s1,y,s',p1.1,h2,fun u H2 S2 p2=>?_⟩;exact h (Free F O) H2 v u x y t Q (.inl (p1.1.stay S2 p1.2)) p2.view h3 fun p o hp L=>q _ _ ((S1.trans S2).trans (.new hp o)) (.mkN R p2.1 (S1.trans S2) hp L)
theorem zhF{F:Fr}{O:ji->Prop}{s s':Sg}{σ:L2.St}{H H':Hp}{i:Nat}{t0 t:T}(hi:i∈M)(R:Rel F O M s σ H)(R':Rel F O M s' σ H')(e0:s[i]?=some (some t0))(e:s'[i]?=some (some t)):∃ v,σ[i]?=some (some v)/\BRep (Free F O) H' v t:=by
 obtain⟨a,h1,_⟩:=R.own i t0 e0 hi;obtain⟨b,h2,L⟩:=R'.own i t e hi;rw[h1] at h2;injection h2 with h2;injection h2 with h2;injection h2 with h2;subst h2;exact⟨_,h1,.inr ⟨a,rfl,L⟩⟩
theorem zp6{r:R2}{g:T->T->Option T}{i:Nat}(hi:M.contains i=true)(h:S2E r g):∀ σ H Q,cE .e M (d2v g i fb) σ H Q->tOp r (zeO i) (cE .b M fb) σ H Q:=by
 intro σ H Q h_;refine cE_ h_ fun F O s t s' R hf q=>?_;obtain⟨x0,x,y,h0,h1,h2,h3⟩:=zid hf;have hi':i∈M:=by simpa using hi
 obtain⟨a,e1,_⟩:=R.own i x0 h0 hi';refine⟨_,e1,F,O,s,y,s',R,h1,fun u H2 S2 p2=>?_⟩;obtain⟨v,e2,B⟩:=zhF hi' R p2.1 h0 h2;rw[e1] at e2;injection e2 with e2;injection e2 with e2;subst e2;exact h (Free F O) H2 _ u x y t Q B p2.view h3 fun w rw=>q w H2 S2 ⟨p2.1,rw⟩
theorem zs6{r:R2}{g:T->T->Option T}{i:Nat}(hi:M.contains i=true)(h:S2N r g):∀ σ H Q,cE .n M (d2v g i fb) σ H Q->tOp r (zeO i) (cE .b M fb) σ H Q:=by
 intro σ H Q h_;refine cE_ h_ fun F O s t s' R hf q=>?_;obtain⟨x0,x,y,h0,h1,h2,h3⟩:=zid hf;have hi':i∈M:=by simpa using hi
 obtain⟨a,e1,_⟩:=R.own i x0 h0 hi';refine⟨_,e1,F,O,s,y,s',R,h1,fun u H2 S2 p2=>?_⟩;obtain⟨v,e2,B⟩:=zhF hi' R p2.1 h0 h2;rw[e1] at e2;injection e2 with e2;injection e2 with e2;subst e2;exact h (Free F O) H2 _ u x y t Q B p2.view h3 fun p o hp L=>q _ _ (S2.trans (.new hp o)) (.mkN R p2.1 S2 hp L)
end
section
variable {C:ji->Prop}{v:V}
theorem BRep.non(h:BRep C H v .non):v=.non:=by
 rcases h with h |⟨a,rfl,h⟩<;>cases h
 rfl
theorem BRep.bl{b:Bool}(h:BRep C H v (.bl b)):v=.bl b:=by
 rcases h with h |⟨a,rfl,h⟩<;>cases h
 rfl
theorem BRep.int{i:Int}(h:BRep C H v (.int i)):v=.int i:=by
 rcases h with h |⟨a,rfl,h⟩<;>cases h
 rfl
theorem BRep.str{x:Str}(h:BRep C H v (.str x)):v=.str x:=by
 rcases h with h |⟨a,rfl,h⟩<;>cases h
 rfl
theorem BRep.lst{ts:List T}(h:BRep C H v (.lst ts)):∃ a vs,v=.ref a/\H a=some (.lst vs)/\Reps C H vs ts:=by
 rcases h with h |⟨a,rfl,h⟩
 ·cases h with |lst c r l h=>exact⟨_,_,rfl,r,l,h⟩
 ·cases h with |lst r h=>exact⟨_,_,rfl,r,h⟩
theorem BRep.tup{ts:List T}(h:BRep C H v (.tup ts)):∃ a vs,v=.ref a/\H a=some (.tup vs)/\Reps C H vs ts:=by
 rcases h with h |⟨a,rfl,h⟩
 ·cases h with |tup c r l h=>exact⟨_,_,rfl,r,l,h⟩
 ·cases h
theorem BRep.dct{ts:List (Key × T)}(h:BRep C H v (.dct ts)):∃ a kvs,v=.ref a/\H a=some (.dK kvs)/\RepK C H kvs ts:=by
 rcases h with h |⟨a,rfl,h⟩
 ·cases h with |dct c r l h=>exact⟨_,_,rfl,r,l,h⟩
 ·cases h with |dct r h=>exact⟨_,_,rfl,r,h⟩
theorem BRep.fd{ts:List (Key × T)}(h:BRep C H v (.fd ts)):∃ a o kvs,v=.ref a/\H a=some (.frz o (.dK kvs))/\RepK C H kvs ts/\C a:=by
 rcases h with h |⟨a,rfl,h⟩
 ·cases h with |fd c r l h=>exact⟨_,_,_,rfl,r,⟨l,h⟩,c⟩
 ·cases h
theorem BRep.scr{ns:List Int}(h:BRep C H v (.scr ns)):∃ a,v=.ref a/\SqL TheK.K H a (ns.map V.int):=by
 rcases h with h |⟨a,rfl,h⟩
 ·cases h with
  |scr c r=>exact⟨_,rfl,.inl (.inr ⟨_,r⟩)⟩
  |scrK r=>exact⟨_,rfl,r H⟩
 ·cases h
end
def zrd:T->T->Option T
 |.int i,.int j=>some (.int (i+j))
 |.str x,.str y=>if x.length+y.length<=jn then some (.str (x++y)) else none
 |_,_=>none
def zoH:T->T->Option T
 |.lst a,.lst b=>if a.length+b.length<=jn then some (.lst (a++b)) else none
 |_,_=>none
def gI(C:Int->Int->Bool)(g:Int->Int->Int):T->T->Option T
 |.int i,.int j=>if C i j=true then some (.int (g i j)) else none
 |_,_=>none
def zpF(i j:Int):Bool:=decide (-(2 ^ 64) < i/\i < 2 ^ 64)||decide (-(2 ^ 64) < j/\j < 2 ^ 64)
def zub(i j:Int):Bool:=decide (0 < j/\j < 1073741824)
def zua(i j:Int):Bool:=decide (0 < j)
def zxo(i j:Int):Bool:=decide (0<=j/\j<=1000000/\i.natAbs < 2 ^ 64)
def gSb:=gI (fun _ _=>true) fun i j=>i - j
def zgI:=gI zpF fun i j=>i*j
def zfe:=gI zub fun i j=>i / j
def ze8:=gI zua fun i j=>i%j
def zrC:=gI zxo fun i j=>i ^ j.toNat
def zts(p:Int->Int->Bool)(ps:Str->Str->Bool):T->T->Option T
 |.int i,.int j=>some (.bl (p i j))
 |.str i,.str j=>some (.bl (ps i j))
 |_,_=>none
section
theorem zv4:S2E (fun x y H Q=>rI0 (fun i j=>.int (i+j)) x y H Q∨∃ i j,x=.str i/\y=.str j/\i.length+j.length<=jn/\Q (.str (i++j)) H) zrd:=by
 intro C H x y tx ty t Q bx by' hg q;unfold zrd at hg;split at hg
 ·injection hg with hg; subst hg;exact .inl ⟨_,_,bx.int,by'.int,q _ (.int _)⟩
 ·split at hg
  ·rename_i h;injection hg with hg; subst hg;exact .inr ⟨_,_,bx.str,by'.str,h,q _ (.str _)⟩
  ·cases hg
 ·cases hg
theorem zso:S2N zwp zoH:=by
 intro C H x y tx ty t Q bx by' hg q;unfold zoH at hg;split at hg
 ·split at hg
  ·rename_i h;injection hg with hg; subst hg;obtain⟨a,vs,rfl,ha,ra⟩:=bx.lst;obtain⟨b,us,rfl,hb,rb⟩:=by'.lst;refine⟨a,b,vs,us,rfl,rfl,ha,hb,by rw[ra.1,rb.1]; exact h,fun p hp=>q p _ hp fun C' hC=>?_⟩
   exact .lst zad ((ra.append rb).there.mono hC fun c o hc e=>by rw[za6 (zaa e hp)]; exact e)
  ·cases hg
 ·cases hg
theorem s_I{P:Int->Int->Prop}{C:Int->Int->Bool}{g:Int->Int->Int}(hC:∀ i j,C i j=true->P i j):S2E (rI P fun i j=>.int (g i j)) (gI C g):=by
 intro C' H x y tx ty t Q bx by' hg q;unfold gI at hg;split at hg
 ·split at hg
  ·rename_i h;injection hg with hg; subst hg;exact⟨_,_,bx.int,by'.int,hC _ _ h,q _ (.int _)⟩
  ·cases hg
 ·cases hg
theorem zxa{g:Int->Int->Int}:S2E (rI0 fun i j=>.int (g i j)) (gI (fun _ _=>true) g):=by
 intro C' H x y tx ty t Q bx by' hg q;unfold gI at hg;split at hg
 ·split at hg
  ·injection hg with hg; subst hg;exact⟨_,_,bx.int,by'.int,q _ (.int _)⟩
  ·cases hg
 ·cases hg
theorem zsn{p:Int->Int->Bool}{ps:Str->Str->Bool}:S2E (fun x y H Q=>rI0 (fun i j=>.bl (p i j)) x y H Q∨∃ i j,x=.str i/\y=.str j/\Q (.bl (ps i j)) H) (zts p ps):=by
 intro C H x y tx ty t Q bx by' hg q;unfold zts at hg;split at hg
 ·injection hg with hg; subst hg;exact .inl ⟨_,_,bx.int,by'.int,q _ (.bl _)⟩
 ·injection hg with hg; subst hg;exact .inr ⟨_,_,bx.str,by'.str,q _ (.bl _)⟩
 ·cases hg
variable {a b:Q4}{fa fb:DE}{pos:Pos}
theorem zvU(ha:PE X a (cE .e M fa))(hb:PE X b (cE .b M fb)):PE X (.BinOp a .Add b pos) (cE .e M (d2 zrd fa fb)):=weak (zh3 (op_add.or zlG) ha hb) (zch zv4)
theorem zvT(ha:PE X a (cE .e M fa))(hb:PE X b (cE .b M fb)):PE X (.BinOp a .Add b pos) (cE .n M (d2 zoH fa fb)):=weak (zh3 zpo ha hb) (zuR zso)
end
def scE:T->T->Option Bool
 |.non,.non=>some true |.non,.bl _=>some false |.non,.int _=>some false |.non,.str _=>some false
 |.bl a,.bl b=>some (a == b) |.bl _,.non=>some false |.bl a,.int b=>some ((if a then 1 else 0) == b) |.bl _,.str _=>some false
 |.int a,.int b=>some (a == b) |.int _,.non=>some false |.int a,.bl b=>some (a == (if b then 1 else 0)) |.int _,.str _=>some false
 |.str a,.str b=>some (a == b) |.str _,.non=>some false |.str _,.bl _=>some false |.str _,.int _=>some false
 |_,_=>none
def zih(f:T->T->Option Bool):List T->List T->Option Bool
 |x::xs,y::ys=>(f x y).bind fun b=>(zih f xs ys).map fun c=>b&&c
 |_,_=>some true
def eqD:Nat->T->T->Option Bool
 |n+1,.lst xs,.lst ys=>if xs.length=ys.length then zih (eqD n) xs ys else some false
 |n+1,.tup xs,.tup ys=>(zih (eqD n) xs ys).map fun b=>b&&xs.length == ys.length
 |_+1,.lst _,.tup _=>some false
 |_+1,.tup _,.lst _=>some false
 |_,x,y=>scE x y
def eqS(n:Nat)(x y:T):Option Bool:=match x,y with
 |.lst xs,.lst ys=>if xs.length=ys.length then zih (eqD n) xs ys else some false
 |.tup xs,.tup ys=>(zih (eqD n) xs ys).map fun b=>b&&xs.length == ys.length
 |.lst _,.tup _=>some false
 |.tup _,.lst _=>some false
 |x,y=>scE x y
theorem zoK(n:Nat)(x y:T):eqD (n+1) x y=eqS n x y:=by cases x<;>cases y<;>rfl
theorem zg7{f:T->T->Option Bool}:∀ {xs ys:List T} {b:Bool},zih f xs ys=some b->∃ e:Nat->Bool,(∀ j x y,xs[j]?=some x->ys[j]?=some y->f x y=some (e j))/\b=(jt (min xs.length ys.length)).all e
 |[],_,b,h=>⟨fun _=>true,fun j x y e=>by simp at e,by unfold zih at h; simp at h; simp[h]⟩
 |x::xs,[],b,h=>⟨fun _=>true,fun j x y _ e=>by simp at e,by unfold zih at h; simp at h; simp[h]⟩
 |x::xs,y::ys,b,h=>by
  unfold zih at h;cases h1:f x y with
  |none=>rw[h1] at h; cases h
  |some c=>
   rw[h1,j7] at h;cases h2:zih f xs ys with
   |none=>rw[h2] at h; cases h
   |some d=>
    rw[h2] at h;injection h with h;obtain⟨e,he,hd⟩:=zg7 h2;refine⟨fun j=>match j with |0=>c |j+1=>e j,fun j x' y' e1 e2=>?_,?_⟩
    ·cases j with
     |zero=>simp at e1 e2; subst e1 e2; exact h1
     |succ j=>exact he j x' y' (by simpa using e1) (by simpa using e2)
    ·rw[<-h,hd,jp,jp,Nat.succ_min_succ,gH,Y2,WT];rfl
theorem zo9{C:ji->Prop}{H:Hp}:∀(n:Nat) {v:V} {t t':T} {b:Bool},Rep C H v t->Rep C H v t'->eqD n t t'=some b->b=true:=by
 have sc:∀ {v:V} {t t':T} {b:Bool},Rep C H v t->Rep C H v t'->scE t t'=some b->b=true:=by
  intro v t t' b h h' e;cases h<;>cases h'<;>simp[scE] at e<;>(try subst e)<;>simp
 intro n
 induction n with
 |zero=>intro v t t' b h h' e; unfold eqD at e; exact sc h h' e
 |succ n ih=>
  intro v t t' b h h' e;have lists:∀ {vs:List V} {xs ys:List T} {b:Bool},Reps C H vs xs->Reps C H vs ys->zih (eqD n) xs ys=some b->b=true:=by
   intro vs xs ys b hx hy h;obtain⟨e,he,rfl⟩:=zg7 h;refine js.mpr fun j hj=>?_;have hj':=jR.mp hj;have h1:j < xs.length:=by lia
   have h2:j < ys.length:=by lia
   have h3:j < vs.length:=by rw[hx.1]; exact h1
   have q1:=hx.2 j _ _ (j3 h3) (j3 h1);have q2:=hy.2 j _ _ (j3 h3) (j3 h2);exact ih q1 q2 (he j _ _ (j3 h1) (j3 h2))
  cases h with
  |lst c r l hc=>
   cases h' with
   |lst c' r' l' hc'=>
    rw[r] at r'; cases r';unfold eqD at e;split at e
    ·exact lists ⟨l,hc⟩ ⟨l',hc'⟩ e
    ·lia
   |tup c' r' l' hc'=>rw[r] at r'; cases r'
   |dct c' r' l' hc'=>simp[eqD,scE] at e
   |set c' r'=>simp[eqD,scE] at e
   |fd c' r' l' hc'=>simp[eqD,scE] at e
   |scr c' r'=>simp[eqD,scE] at e
   |scrK r'=>simp[eqD,scE] at e
   |any=>simp[eqD,scE] at e
  |tup c r l hc=>
   cases h' with
   |tup c' r' l' hc'=>
    rw[r] at r'; cases r';unfold eqD at e;cases h2:zih (eqD n) _ _ with
    |none=>rw[h2] at e; cases e
    |some d=>
     rw[h2] at e;injection e with e;subst e;rw[lists ⟨l,hc⟩ ⟨l',hc'⟩ h2,<-l,<-l'];simp
   |lst c' r' l' hc'=>rw[r] at r'; cases r'
   |dct c' r' l' hc'=>simp[eqD,scE] at e
   |set c' r'=>simp[eqD,scE] at e
   |fd c' r' l' hc'=>simp[eqD,scE] at e
   |scr c' r'=>simp[eqD,scE] at e
   |scrK r'=>simp[eqD,scE] at e
   |any=>simp[eqD,scE] at e
  |non=>exact sc .non h' (by cases h'<;>simpa[eqD] using e)
  |bl x=>exact sc (.bl x) h' (by cases h'<;>simpa[eqD] using e)
  |int x=>exact sc (.int x) h' (by cases h'<;>simpa[eqD] using e)
  |str x=>exact sc (.str x) h' (by cases h'<;>simpa[eqD] using e)
  |dct c r l hc=>cases h'<;>simp[eqD,scE] at e
  |set c r=>cases h'<;>simp[eqD,scE] at e
  |fd c r l hc=>cases h'<;>simp[eqD,scE] at e
  |scr c r=>cases h'<;>simp[eqD,scE] at e
  |scrK r=>cases h'<;>simp[eqD,scE] at e
  |any=>cases t'<;>simp[eqD,scE] at e
open PySem.SeqAt
section
variable {pc:List (ji × Obj)}{σ:L2.St}{s:ja}{C:ji->Prop}
theorem zsh{A:Q3}{x y:V}{tx ty:T}{b:Bool}{u w:j6}(hx:Rep C H x tx)(hy:Rep C H y ty)(rx:RelV x u)(ry:RelV y w)(h:scE tx ty=some b):EqAt A s u w b/\RcAt A s u w b/\RcNeAt A s u w (!b):=by
 cases hx with
 |non=>
  cases rx;cases hy with
  |non=>cases ry; injection h with h; subst h; exact⟨.same _,.none_none,.none_none⟩
  |bl y=>cases ry; injection h with h; subst h; exact⟨.none_bool _,.none_bool _,.none_bool _⟩
  |int y=>obtain⟨t,rfl⟩:=ry; injection h with h; subst h; exact⟨.none_int _ _,.none_int _ _,.none_int _ _⟩
  |str y=>obtain⟨t,rfl⟩:=ry; injection h with h; subst h; exact⟨.none_str _ _,.none_str _ _,.none_str _ _⟩
  |_=>cases h
 |bl x=>
  cases rx;cases hy with
  |non=>cases ry; injection h with h; subst h; exact⟨.bool_none _,.bool_none _,.bool_none _⟩
  |bl y=>cases ry; injection h with h; subst h; exact⟨.bool_bool _ _,.bool_bool _ _,.bool_bool _ _⟩
  |int y=>obtain⟨t,rfl⟩:=ry; injection h with h; subst h; exact⟨.bool_int _ _ _,.bool_int _ _ _,.bool_int _ _ _⟩
  |str y=>obtain⟨t,rfl⟩:=ry; injection h with h; subst h; exact⟨.bool_str _ _ _,.bool_str _ _ _,.bool_str _ _ _⟩
  |_=>cases h
 |int x=>
  obtain⟨t0,rfl⟩:=rx;cases hy with
  |non=>cases ry; injection h with h; subst h; exact⟨.int_none _ _,.int_none _ _,.int_none _ _⟩
  |bl y=>cases ry; injection h with h; subst h; exact⟨.int_bool _ _ _,.int_bool _ _ _,.int_bool _ _ _⟩
  |int y=>obtain⟨t,rfl⟩:=ry; injection h with h; subst h; exact⟨.int_int _ _ _ _,.int_int _ _ _ _,.int_int _ _ _ _⟩
  |str y=>obtain⟨t,rfl⟩:=ry; injection h with h; subst h; exact⟨.int_str _ _ _ _,.int_str _ _ _ _,.int_str _ _ _ _⟩
  |_=>cases h
 |str x=>
  obtain⟨t0,rfl⟩:=rx;cases hy with
  |non=>cases ry; injection h with h; subst h; exact⟨.str_none _ _,.str_none _ _,.str_none _ _⟩
  |bl y=>cases ry; injection h with h; subst h; exact⟨.str_bool _ _ _,.str_bool _ _ _,.str_bool _ _ _⟩
  |int y=>obtain⟨t,rfl⟩:=ry; injection h with h; subst h; exact⟨.str_int _ _ _ _,.str_int _ _ _ _,.str_int _ _ _ _⟩
  |str y=>obtain⟨t,rfl⟩:=ry; injection h with h; subst h; exact⟨.str_str _ _ _ _,.str_str _ _ _ _,.str_str _ _ _ _⟩
  |_=>cases h
 |_=>cases ty<;>simp[scE] at h
theorem ztC(I:Inv X pc σ H s):∀(n:Nat) (A:Q3) {x y:V} {tx ty:T} {b:Bool} {u w:j6},A.units+n < gG->Rep C H x tx->Rep C H y ty->RelV x u->RelV y w->eqD n tx ty=some b->EqAt A s u w b/\RcAt A s u w b/\RcNeAt A s u w (!b):=by
 intro n
 induction n with
 |zero=>intro A x y tx ty b u w hu hx hy rx ry h; unfold eqD at h; exact zsh hx hy rx ry h
 |succ n ih=>
  intro A x y tx ty b u w hu hx hy rx ry h;have hu':A.units < gG:=by lia
  have hin:A.in1.units+n < gG:=by
   have:A.in1.units=A.units+1:=rfl;lia
  have parts:∀ {vs us:List V} {xs ys:List T} {its its2:List j6} {e:Nat->Bool},Reps C H vs xs->Reps C H us ys->Vals vs its->Vals us its2->(∀ j x y,xs[j]?=some x->ys[j]?=some y->eqD n x y=some (e j))->
    ∀ j (h1:j < its.toArray.size) (h2:j < its2.toArray.size),EqAt A.in1 s its.toArray[j] its2.toArray[j] (e j):=by
   intro vs us xs ys its its2 e hvs hus r r2 he j h1 h2;rw[jq] at h1 h2;have v1:j < vs.length:=by rw[r.length]; exact h1
   have v2:j < us.length:=by rw[r2.length]; exact h2
   have x1:j < xs.length:=by rw[<-hvs.1]; exact v1
   have y1:j < ys.length:=by rw[<-hus.1]; exact v2
   obtain⟨w1,e1,q1⟩:=r.get (j3 v1);obtain⟨w2,e2,q2⟩:=r2.get (j3 v2);rw[j3 h1] at e1;rw[j3 h2] at e2;injection e1 with e1;injection e2 with e2;simp only[List.getElem_toArray,e1,e2];exact(ih A.in1 hin (hvs.2 j _ _ (j3 v1) (j3 x1)) (hus.2 j _ _ (j3 v2) (j3 y1)) q1 q2 (he j _ _ (j3 x1) (j3 y1))).1
  have refs:∀ {p q:ji},x=.ref p->y=.ref q->RcAt A s (.ref p) (.ref q) b->EqAt A s (.ref p) (.ref q) b:=by
   intro p q ep eq hr
   by_cases hpq:p=q
   ·subst hpq;have:b=true:=zo9 (n+1) (v:=.ref p) (ep▸hx) (eq▸hy) h;rw[this];exact .same _
   ·exact .of_refs hpq hr
  have scs:scE tx ty=some b->EqAt A s u w b/\RcAt A s u w b/\RcNeAt A s u w (!b):=zsh hx hy rx ry;rw[zoK] at h;unfold eqS at h;split at h
  ·rename_i xs ys;obtain⟨p,vs,rfl,hp,rp⟩:=BRep.lst (.inl hx);obtain⟨q,us,rfl,hq,rq⟩:=BRep.lst (.inl hy);cases rx; cases ry;obtain⟨its,r,pl,_⟩:=I.list (SqL.of hp);obtain⟨its2,r2,pl2,_⟩:=I.list (SqL.of hq);have l1:=r.length;have l2:=r2.length;have l3:=rp.1;have l4:=rq.1;split at h
   ·rename_i hl;obtain⟨e,he,hb⟩:=zg7 h;have sz:its.toArray.size=its2.toArray.size:=by rw[jq,jq]; lia
    have rc:=RcAt.lists pl.isList pl2.isList sz hu' (parts rp rq r r2 he);have rn:=RcNeAt.lists pl.isList pl2.isList sz hu' (parts rp rq r r2 he);have hb':b=(jt its.toArray.size).all e:=by rw[hb,jq,hl,Nat.min_self,show its.length=ys.length by lia]
    rw[<-hb'] at rc rn;exact⟨refs rfl rfl rc,rc,rn⟩
   ·rename_i hl;injection h with h;subst h;have sz:(its.toArray.size != its2.toArray.size)=true:=by simp; lia
    have rc:=RcAt.lists_lengths pl.isList pl2.isList sz hu';exact⟨refs rfl rfl rc,rc,RcNeAt.lists_lengths pl.isList pl2.isList sz hu'⟩
  ·rename_i xs ys;obtain⟨p,vs,rfl,hp,rp⟩:=BRep.tup (.inl hx);obtain⟨q,us,rfl,hq,rq⟩:=BRep.tup (.inl hy);cases rx; cases ry;obtain⟨its,r,pl,_⟩:=I.tuple (SqT.of hp);obtain⟨its2,r2,pl2,_⟩:=I.tuple (SqT.of hq);have l1:=r.length;have l2:=r2.length;have l3:=rp.1;have l4:=rq.1;cases h2:zih (eqD n) xs ys with
   |none=>rw[h2] at h; cases h
   |some d=>
    rw[h2] at h;injection h with h;obtain⟨e,he,hb⟩:=zg7 h2;have rc:=RcAt.tuples pl pl2 hu' (parts rp rq r r2 he);have rn:=RcNeAt.tuples pl pl2 hu' (parts rp rq r r2 he);have hb':b=((jt (min its.toArray.size its2.toArray.size)).all e&&its.toArray.size == its2.toArray.size):=by
     rw[<-h,hb,jq,jq,show its.length=xs.length by lia,show its2.length=ys.length by lia]
    rw[<-hb'] at rc rn;exact⟨refs rfl rfl rc,rc,rn⟩
  ·obtain⟨p,vs,rfl,hp,rp⟩:=BRep.lst (.inl hx);obtain⟨q,us,rfl,hq,rq⟩:=BRep.tup (.inl hy);cases rx; cases ry;obtain⟨its,r,pl,_⟩:=I.list (SqL.of hp);obtain⟨its2,r2,pl2,_⟩:=I.tuple (SqT.of hq);injection h with h;subst h;exact⟨.list_tuple pl.isList pl2 hu',.list_tuple pl.isList pl2 hu',.list_tuple pl.isList pl2 hu'⟩
  ·obtain⟨p,vs,rfl,hp,rp⟩:=BRep.tup (.inl hx);obtain⟨q,us,rfl,hq,rq⟩:=BRep.lst (.inl hy);cases rx; cases ry;obtain⟨its,r,pl,_⟩:=I.tuple (SqT.of hp);obtain⟨its2,r2,pl2,_⟩:=I.list (SqL.of hq);injection h with h;subst h;exact⟨.tuple_list pl pl2.isList hu',.tuple_list pl pl2.isList hu',.tuple_list pl pl2.isList hu'⟩
  ·exact scs h
end
end L3
namespace L3
open PySem PySem.Spec PyProof.Rows L2
variable [TheK]
variable {X:Cx}{M M' Mb io:List Nat}{pos:Pos}{e:Q4}{fe:DE}{fa:DA}{rk:Kd}
theorem BRep.all{C:ji->Prop}{H:Hp}{v:V}{t:T}(h:BRep C H v t):Rep (fun _=>True) H v t:=by
 rcases h with h |⟨a,rfl,h⟩
 ·exact h.mono (fun _ _=>trivial) fun _ _ _ e=>e
 ·exact h.rep (fun _ _=>trivial) trivial
def gEq(x y:T):Option T:=(eqD 8 x y).map .bl
def gNe(x y:T):Option T:=(eqD 8 x y).map fun b=>.bl (!b)
def zu2(neg:Bool):R2:=fun x y H Q=>∃ tx ty b,Rep (fun _=>True) H x tx/\Rep (fun _=>True) H y ty/\eqD 8 tx ty=some b/\Q (.bl (if neg then !b else b)) H
theorem zpn{X:Cx}(hu:X.A.units+8 < gG):OpR X (QP .Eq) (zu2 false):=by
 intro pc s sg H x y v u Q I rx ry h;obtain⟨tx,ty,b,hx,hy,e,q⟩:=h;exact(ztC I 8 X.A hu hx hy rx ry e).2.1 _ _ _ _ ⟨.bl b,H,I,rfl,q⟩
theorem zpm{X:Cx}(hu:X.A.units+8 < gG):OpR X (QP .NotEq) (zu2 true):=by
 intro pc s sg H x y v u Q I rx ry h;obtain⟨tx,ty,b,hx,hy,e,q⟩:=h;exact(ztC I 8 X.A hu hx hy rx ry e).2.2 _ _ _ _ ⟨.bl (!b),H,I,rfl,q⟩
theorem zwj:S2E (zu2 false) gEq:=by
 intro C H x y tx ty t Q bx by' hg q;unfold gEq at hg;cases e:eqD 8 tx ty with
 |none=>rw[e] at hg; cases hg
 |some b=>
  rw[e] at hg;injection hg with hg; subst hg;exact⟨tx,ty,b,bx.all,by'.all,e,q _ (.bl b)⟩
theorem zwh:S2E (zu2 true) gNe:=by
 intro C H x y tx ty t Q bx by' hg q;unfold gNe at hg;cases e:eqD 8 tx ty with
 |none=>rw[e] at hg; cases hg
 |some b=>
  rw[e] at hg;injection hg with hg; subst hg;exact⟨tx,ty,b,bx.all,by'.all,e,q _ (.bl (!b))⟩
def gLt:=zts (fun i j=>decide (i < j)) fun i j=>decide (i.cps.toList < j.cps.toList)
def gI1(p:Int->Int->Bool):T->T->Option T
 |.int i,.int j=>some (.bl (p i j))
 |_,_=>none
def gLe:=gI1 fun i j=>decide (i<=j)
def gGt:=gI1 fun i j=>decide (j < i)
def gGe:=gI1 fun i j=>decide (j<=i)
theorem zv5{p:Int->Int->Bool}:S2E (rI0 (fun i j=>.bl (p i j))) (gI1 p):=by
 intro C H x y tx ty t Q bx by' hg q;unfold gI1 at hg;split at hg
 ·injection hg with hg; subst hg;exact⟨_,_,bx.int,by'.int,q _ (.bl _)⟩
 ·cases hg
def isN:T->Option Bool
 |.non=>some true |.bl _=>some false |.int _=>some false |.str _=>some false |.lst _=>some false |.tup _=>some false |.dct _=>some false |.set _ _=>some false |.scr _=>some false
 |.fd _=>some false
 |.any=>none
def gIs(x y:T):Option T:=match x,y with
 |.bl a,.bl b=>some (.bl (a == b))
 |x,.non=>(isN x).map .bl
 |_,_=>none
def zbz(x y:T):Option T:=match x,y with
 |.bl a,.bl b=>some (.bl (a != b))
 |x,.non=>(isN x).map fun b=>.bl (!b)
 |_,_=>none
theorem zpw{C:ji->Prop}{H:Hp}{v:V}{t:T}{b:Bool}(h:BRep C H v t)(e:isN t=some b):b=decide (v=.non):=by
 rcases h with h |⟨a,rfl,h⟩
 ·cases h<;>simp[isN] at e<;>simp[<-e]
 ·cases h<;>simp[isN] at e<;>simp[<-e]
theorem zx9:S2E (fun x y H Q=>(∃ c d,x=.bl c/\y=.bl d/\Q (.bl (c == d)) H)∨(y=.non/\Q (.bl (decide (x=.non))) H)) gIs:=by
 intro C H x y tx ty t Q bx by' hg q;unfold gIs at hg;split at hg
 ·injection hg with hg; subst hg;exact .inl ⟨_,_,bx.bl,by'.bl,q _ (.bl _)⟩
 ·obtain⟨b,e,rfl⟩:=Qm hg;have z:=zpw bx e;refine .inr ⟨by'.non,?_⟩;rw[<-z];exact q _ (.bl _)
 ·cases hg
theorem zqe:S2E (fun x y H Q=>(∃ c d,x=.bl c/\y=.bl d/\Q (.bl (c != d)) H)∨(y=.non/\Q (.bl (!decide (x=.non))) H)) zbz:=by
 intro C H x y tx ty t Q bx by' hg q;unfold zbz at hg;split at hg
 ·injection hg with hg; subst hg;exact .inl ⟨_,_,bx.bl,by'.bl,q _ (.bl _)⟩
 ·obtain⟨b,e,rfl⟩:=Qm hg;have z:=zpw bx e;refine .inr ⟨by'.non,?_⟩;rw[<-z];exact q _ (.bl _)
 ·cases hg
def toV:T->Option V
 |.non=>some .non |.bl b=>some (.bl b) |.int i=>some (.int i) |.str x=>some (.str x) |_=>none
def zkA:List T->Option (List V)
 |[]=>some []
 |t::ts=>(toV t).bind fun v=>(zkA ts).map fun vs=>v::vs
theorem zmj{C:ji->Prop}{H:Hp}{v u:V}{t:T}(h:BRep C H v t)(e:toV t=some u):u=v/\zft v=true:=by
 cases t<;>simp[toV] at e
 ·exact⟨by rw[h.non,<-e],by rw[h.non]; rfl⟩
 ·exact⟨by rw[h.bl,<-e],by rw[h.bl]; rfl⟩
 ·exact⟨by rw[h.int,<-e],by rw[h.int]; rfl⟩
 ·exact⟨by rw[h.str,<-e],by rw[h.str]; rfl⟩
theorem zjB{C:ji->Prop}{H:Hp}:∀ {vs us:List V} {ts:List T},Reps C H vs ts->zkA ts=some us->us=vs/\vs.all zft=true
 |[],us,[],_,e=>by unfold zkA at e; injection e with e; exact⟨e.symm,rfl⟩
 |v::vs,us,[],h,_=>by have:=h.1; simp at this
 |[],us,t::ts,h,_=>by have:=h.1; simp at this
 |v::vs,us,t::ts,h,e=>by
  unfold zkA at e;cases e1:toV t with
  |none=>rw[e1] at e; cases e
  |some a=>
   rw[e1,j7] at e;cases e2:zkA ts with
   |none=>rw[e2] at e; cases e
   |some as=>
    rw[e2] at e;injection e with e;obtain⟨q1,q2⟩:=zmj (.inl h.head) e1;obtain⟨q3,q4⟩:=zjB h.tail e2;exact⟨by rw[<-e,q1,q3],by rw[Y2,q2,q4]; rfl⟩
def zbb(kvs:List (Key × T))(k:Key):Option T:=(kvs.find? fun kv=>decide (kv.1=k)).map (·.2)
theorem zlK(p:Key × T)(r:List (Key × T))(k:Key):zbb (p::r) k=if p.1=k then some p.2 else zbb r k:=by
 unfold zbb;rw[QZ]
 by_cases h:p.1=k
 ·rw[Ip_ h,Dt_ h]; rfl
 ·rw[In_ h,Df_ h]
theorem RepK.tail{C:ji->Prop}{H:Hp}{p:Key × V}{q:Key × T}{vs:List (Key × V)}{ts:List (Key × T)}(h:RepK C H (p::vs) (q::ts)):p.1=q.1/\Rep C H p.2 q.2/\RepK C H vs ts:=by
 have h1:=h.1;rw[jr,jr] at h1;injection h1 with a b;exact⟨a,h.2 0 p q rfl rfl,b,fun i v t e1 e2=>h.2 (i+1) v t (by simpa using e1) (by simpa using e2)⟩
theorem RepK.cons{C:ji->Prop}{H:Hp}{p:Key × V}{q:Key × T}{vs:List (Key × V)}{ts:List (Key × T)}(e:p.1=q.1)(r:Rep C H p.2 q.2)(h:RepK C H vs ts):RepK C H (p::vs) (q::ts):=by
 refine⟨by rw[jr,jr,e,h.1],fun i v t e1 e2=>?_⟩
 cases i with
 |zero=>simp at e1 e2; subst e1 e2; exact r
 |succ i=>exact h.2 i v t (by simpa using e1) (by simpa using e2)
theorem RepK.look{C:ji->Prop}{H:Hp}(k:Key):∀ {vs:List (Key × V)} {ts:List (Key × T)},RepK C H vs ts->(zjz vs k=none/\zbb ts k=none)∨∃ v t,zjz vs k=some v/\zbb ts k=some t/\Rep C H v t
 |[],[],_=>.inl ⟨rfl,rfl⟩
 |p::vs,[],h=>by have:=h.1; simp at this
 |[],q::ts,h=>by have:=h.1; simp at this
 |p::vs,q::ts,h=>by
  obtain⟨e,r,h'⟩:=h.tail;rw[zlK]
  by_cases hk:q.1=k
  ·rw[Ip_ hk,zfV (e.trans hk)];exact .inr ⟨_,_,rfl,rfl,r⟩
  ·rw[In_ hk,zfW (fun z=>hk (e.symm.trans z))];exact RepK.look k h'
def zh7:T->Option Key
 |.int i=>some (.inl i)
 |.str x=>some (.inr x)
 |_=>none
theorem zfp{C:ji->Prop}{H:Hp}{v:V}{t:T}{k:Key}(h:BRep C H v t)(e:zh7 t=some k):v=kV k:=by
 cases t<;>simp[zh7] at e
 ·rw[h.int,<-e]; rfl
 ·rw[h.str,<-e]; rfl
def zra(x y:T):Option Bool:=match y with
 |.lst ys=>(toV x).bind fun v=>(zkA ys).map fun vs=>inV v vs
 |.tup ys=>(toV x).bind fun v=>(zkA ys).map fun vs=>inV v vs
 |_=>none
def gIn(x y:T):Option T:=(zra x y).map .bl
def zj4(x y:T):Option T:=(zra x y).map fun b=>.bl (!b)
def zrc(x y:T):Option Bool:=match y with
 |.dct kvs=>(zh7 x).map fun k=>(zbb kvs k).isSome
 |.fd kvs=>(zh7 x).map fun k=>(zbb kvs k).isSome
 |_=>none
def zxm(x y:T):Option T:=(zrc x y).map .bl
def zka(x y:T):Option T:=(zrc x y).map fun b=>.bl (!b)
theorem zsk{K:j8}{neg:Bool}:S2E (rIn K neg) fun x y=>(zra x y).map fun b=>.bl (if neg then !b else b):=by
 intro C H x y tx ty t Q bx by' hg q;obtain⟨b,e,rfl⟩:=Qm hg;have fin:∀ {p vs ys},y=.ref p->(SqL K H p vs∨SqT K H p vs)->Reps C H vs ys->((toV tx).bind fun v=>(zkA ys).map fun vs=>inV v vs)=some b->rIn K neg x y H Q:=by
  intro p vs ys e1 e2 r e5;obtain⟨v,e3,e5⟩:=Qb e5;obtain⟨us,e4,rfl⟩:=Qm e5;obtain⟨q1,q2⟩:=zmj bx e3;obtain⟨q3,q4⟩:=zjB r e4;subst q1 q3;exact⟨p,_,e1,e2,q2,q4,q _ (.bl _)⟩
 cases ty with
 |lst ys=>
  obtain⟨p,vs,e1,e2,r⟩:=by'.lst;exact fin e1 (.inl (SqL.of e2)) r e
 |tup ys=>
  obtain⟨p,vs,e1,e2,r⟩:=by'.tup;exact fin e1 (.inr (SqT.of e2)) r e
 |_=>cases e
theorem zsm{neg:Bool}:S2E (fun y x H Q=>∃ a o,x=.ref a/\DGet H a y o/\Q (.bl (if neg then !o.isSome else o.isSome)) H) fun x y=>(zrc x y).map fun b=>.bl (if neg then !b else b):=by
 intro C H x y tx ty t Q bx by' hg q;obtain⟨b,e,rfl⟩:=Qm hg;cases ty with
 |dct kts=>
  obtain⟨p,kvs,rfl,e2,r⟩:=by'.dct;obtain⟨k,e3,rfl⟩:=Qm (show (zh7 tx).map (fun k=>(zbb kts k).isSome)=some b from e);obtain rfl:=zfp bx e3;refine⟨p,_,rfl,DGet.k e2,?_⟩;have:(zbb kts k).isSome=(zjz kvs k).isSome:=by
   rcases r.look k with ⟨h1,h2⟩ |⟨_,_,h1,h2,_⟩<;>rw[h1,h2]<;>rfl
  rw[<-this];exact q _ (.bl _)
 |fd kts=>
  obtain⟨p,ob,kvs,rfl,e2,r,_⟩:=by'.fd;obtain⟨k,e3,rfl⟩:=Qm (show (zh7 tx).map (fun k=>(zbb kts k).isSome)=some b from e);obtain rfl:=zfp bx e3;refine⟨p,_,rfl,.inl ⟨kvs,k,.inr ⟨ob,e2⟩,rfl,rfl⟩,?_⟩;have:(zbb kts k).isSome=(zjz kvs k).isSome:=by
   rcases r.look k with ⟨h1,h2⟩ |⟨_,_,h1,h2,_⟩<;>rw[h1,h2]<;>rfl
  rw[<-this];exact q _ (.bl _)
 |_=>cases e
def gIx:T->T->Option T
 |.lst xs,.int i=>atI xs i
 |.tup xs,.int i=>atI xs i
 |.str x,.int i=>if x.length<=jn then (atI x.cps.toList i).map fun c=>.str ⟨#[c]⟩ else none
 |.scr ns,.int i=>(atI ns i).map .int
 |_,_=>none
def zrb(x y:T):Option T:=match x with
 |.dct kvs=>(zh7 y).bind fun k=>zbb kvs k
 |.fd kvs=>(zh7 y).bind fun k=>zbb kvs k
 |_=>none
theorem Reps.at{C:ji->Prop}{H:Hp}{vs:List V}{ts:List T}{i:Int}{t:T}(h:Reps C H vs ts)(e:atI ts i=some t):∃ v,atI vs i=some v/\Rep C H v t:=by
 unfold atI at e ⊢;rw[h.1];cases e1:ixN ts.length i with
 |none=>rw[e1] at e; cases e
 |some j=>
  rw[e1] at e;exact h.get e
theorem zwi:S2E (rIx TheK.K) gIx:=by
 intro C H x y tx ty t Q bx by' hg q;unfold gIx at hg;split at hg
 ·obtain⟨p,vs,rfl,e2,r⟩:=bx.lst;obtain⟨v,h1,h2⟩:=r.at hg;exact .inl ⟨p,vs,_,v,rfl,by'.int,SqL.of e2,h1,q v h2⟩
 ·obtain⟨p,vs,rfl,e2,r⟩:=bx.tup;obtain⟨v,h1,h2⟩:=r.at hg;exact .inr (.inl ⟨p,vs,_,v,rfl,by'.int,SqT.of e2,h1,q v h2⟩)
 ·split at hg
  ·rename_i hl;obtain⟨c,h1,h2⟩:=Qm hg;subst h2;exact .inr (.inr ⟨_,_,c,bx.str,by'.int,hl,h1,q _ (.str _)⟩)
  ·cases hg
 ·obtain⟨p,rfl,e2⟩:=bx.scr;obtain⟨c,h1,h2⟩:=Qm hg;subst h2;refine .inl ⟨p,_,_,.int c,rfl,by'.int,e2,?_,q _ (.int c)⟩;unfold atI at h1 ⊢;rw[j5];cases e1:ixN _ _ with
  |none=>rw[e1] at h1; cases h1
  |some j=>
   rw[e1,j7] at h1;rw[j7,jf,h1];rfl
 ·cases hg
theorem zsl:S2E (fun x y H Q=>∃ a v,x=.ref a/\DGet H a y (some v)/\Q v H) zrb:=by
 intro C H x y tx ty t Q bx by' hg q;unfold zrb at hg;split at hg
 ·obtain⟨p,kvs,rfl,e2,r⟩:=bx.dct;cases e3:zh7 ty with
  |none=>rw[e3] at hg; cases hg
  |some k=>
   rw[e3,j7] at hg;obtain rfl:=zfp by' e3;rcases r.look k with ⟨h1,h2⟩ |⟨v,t',h1,h2,h3⟩
   ·rw[h2] at hg; cases hg
   ·rw[h2] at hg;injection hg with hg; subst hg;exact⟨p,v,rfl,h1▸DGet.k e2,q v h3⟩
 ·obtain⟨p,ob,kvs,rfl,e2,r,_⟩:=bx.fd;cases e3:zh7 ty with
  |none=>rw[e3] at hg; cases hg
  |some k=>
   rw[e3,j7] at hg;obtain rfl:=zfp by' e3;rcases r.look k with ⟨h1,h2⟩ |⟨v,t',h1,h2,h3⟩
   ·rw[h2] at hg; cases hg
   ·rw[h2] at hg;injection hg with hg; subst hg;exact⟨p,v,rfl,.inl ⟨kvs,k,.inr ⟨ob,e2⟩,rfl,h1.symm⟩,q v h3⟩
 ·cases hg
section
variable {a b:Q4}{fa fb:DE}
theorem zrh(ha:PE X a (cE .e M fa))(hb:PE X b (cE .b M fb))(hm:Qy .NotIn b=false):PE X (.Compare a [.NotIn] [b] pos) (cE .e M (d2 zj4 fa fb)):=weak (zjQ zfI ha hb hm) (zch (zsk (neg:=true)))
theorem zoN(hu:X.A.units+1 < gG)(ha:PE X a (cE .e M fa))(hb:PE X b (cE .b M fb))(hm:Qy .NotIn b=false):PE X (.Compare a [.NotIn] [b] pos) (cE .e M (d2 zka fa fb)):=weak (zsX (ziS hu ha hb) hm) fun σ H Q h=>zch (zsm (neg:=true)) σ H Q h
theorem zxn(hK:X.K=TheK.K)(ha:PE X a (cE .e M fa))(hb:PE X b (cE .b M fb))(hs:zgW b):PE X (.Subscript a b pos) (cE .e M (d2 gIx fa fb)):=weak (zsV (hK▸zpt) ha hb hs) (zch zwi)
theorem zvR{i:Nat}(hK:X.K=TheK.K)(hi:M.contains i=true)(ha:PE X a (zeO i))(hb:PE X b (cE .b M fb))(hs:zgW b):PE X (.Subscript a b pos) (cE .e M (d2v gIx i fb)):=weak (zsV (hK▸zpt) ha hb hs) (zp6 hi zwi)
theorem zvS(hu:X.A.units+1 < gG)(ha:PE X a (cE .e M fa))(hb:PE X b (cE .b M fb))(hs:zue b):PE X (.Subscript a b pos) (cE .e M (d2 zrb fa fb)):=weak (zmZ hu ha hb hs) fun σ H Q h=>zch zsl σ H Q h
theorem ztE{i:Nat}(hi:M.contains i=true)(hu:X.A.units+1 < gG)(ha:PE X a (zeO i))(hb:PE X b (cE .b M fb))(hs:zue b):PE X (.Subscript a b pos) (cE .e M (d2v zrb i fb)):=weak (zmZ hu ha hb hs) fun σ H Q h=>zp6 hi zsl σ H Q h
end
def dB(f:DE):DT:=fun s=>(f s).bind fun p=>match p.1 with
 |.bl b=>some (b,p.2)
 |_=>none
theorem zko{f:DE}{s s':Sg}{b:Bool}(h:dB f s=some (b,s')):f s=some (.bl b,s'):=by
 obtain⟨p,h1,h2⟩:=Qb h;obtain⟨t,s1⟩:=p;cases t<;>simp at h2
 rw[h1,h2.1,h2.2]
theorem tst{M:List Nat}{f:DE}{t:TE}(h:∀ σ H Q,cE .e M f σ H Q->t σ H Q):∀ σ H Q,cT M (dB f) σ H Q->zq3 t σ H Q:=by
 intro σ H Q h_;refine cT_ h_ fun F O s b s' R hf q=>?_;exact h σ H _ ⟨F,O,s,.bl b,s',R,zko hf,fun v H' S p=>⟨b,BRep.bl (.inl p.2),q H' S p.1⟩⟩
def tru:T->Option Bool
 |.non=>some false |.bl b=>some b |.int i=>some (i != 0)
 |.str x=>if x.length<=jn then some ((x.length:Int) != 0) else none
 |.lst xs=>some (!xs.isEmpty) |.tup xs=>some (!xs.isEmpty) |.dct xs=>some (!xs.isEmpty)
 |_=>none
theorem zgC{α β:Type}{xs:List α}{ys:List β}(h:xs.length=ys.length):(!ys.isEmpty)=!xs.isEmpty:=by
 cases xs<;>cases ys<;>simp at h<;>rfl
theorem zq0{K:j8}{C:ji->Prop}{H:Hp}{v:V}{t:T}{b:Bool}(h:BRep C H v t)(e:tru t=some b):zw1 K v H b:=by
 cases t with
 |non=>rw[h.non]; injection e with e; exact e.symm
 |bl x=>rw[h.bl]; injection e with e; exact e.symm
 |int x=>rw[h.int]; injection e with e; exact e.symm
 |str x=>
  rw[h.str]
  by_cases hl:x.length<=jn
  ·have e':(if x.length<=jn then some ((x.length:Int) != 0) else none)=some b:=e
   rw[Ip_ hl] at e';injection e' with e';exact⟨hl,e'.symm⟩
  ·have e':(if x.length<=jn then some ((x.length:Int) != 0) else none)=some b:=e
   rw[In_ hl] at e';cases e'
 |lst xs=>
  obtain⟨p,vs,rfl,e2,r⟩:=h.lst;injection e with e;exact .inl ⟨vs,SqL.of e2,by rw[<-e]; exact zgC r.1⟩
 |tup xs=>
  obtain⟨p,vs,rfl,e2,r⟩:=h.tup;injection e with e;exact .inr (.inl ⟨vs,SqT.of e2,by rw[<-e]; exact zgC r.1⟩)
 |dct xs=>
  obtain⟨p,vs,rfl,e2,r⟩:=h.dct;injection e with e;have l:vs.length=xs.length:=by simpa using congrArg Y5 r.1
  exact .inr (.inr ⟨vs,e2,by rw[<-e]; exact zgC l⟩)
 |_=>cases e
def znU(f:DE):DT:=fun s=>(f s).bind fun p=>(tru p.1).map fun b=>(b,p.2)
def zpC(f g:DT):DT:=fun s=>(f s).bind fun p=>if p.1 then g p.2 else some (false,p.2)
def dOr(f g:DT):DT:=fun s=>(f s).bind fun p=>if p.1 then some (true,p.2) else g p.2
def zoS(f:DT):DT:=fun s=>(f s).map fun p=>(!p.1,p.2)
def zrp(f g:DE):DE:=fun s=>(dB f s).bind fun p=>if p.1 then g p.2 else some (.bl false,p.2)
def dIf(c:DT)(f g:DE):DE:=fun s=>(c s).bind fun p=>if p.1 then f p.2 else g p.2
section
variable {a b c:Q4}{fa fb:DE}{ft fu:DT}{k:Kd}
theorem zq2(ha:PE X a (cE .e M fa))(hb:PE X b (cE .b M fb))(hm:Qy .NotIn b=false):PT X (.Compare a [.NotIn] [b] pos) (cT M (dB (d2 zj4 fa fb))):=zeK (zdg zfI ha hb hm) (tst (zch (zsk (neg:=true))))
theorem zo4(hu:X.A.units+1 < gG)(ha:PE X a (cE .e M fa))(hb:PE X b (cE .b M fb))(hm:Qy .NotIn b=false):PT X (.Compare a [.NotIn] [b] pos) (cT M (dB (d2 zka fa fb))):=zeK (zsJ (ziS hu ha hb) hm) fun σ H Q h=>tst (zch (zsm (neg:=true))) σ H Q h
end
def dAn:DA:=fun s=>some ([],s)
def dAc(f:DE)(g:DA):DA:=fun s=>(f s).bind fun p=>(g p.2).map fun q=>(p.1::q.1,q.2)
def zeI(f:DA):DE:=fun s=>(f s).bind fun p=>if p.1.length<=jn then some (.lst p.1,p.2) else none
def zlg(f:DA):DE:=fun s=>(f s).bind fun p=>if p.1.length<=jn then some (.tup p.1,p.2) else none
section
variable {es:List Q4}
def zlZ:DE:=fun s=>some (.dct [],s)
end
abbrev DO:=Sg->Option (Option Int × Sg)
def cO(M:List Nat)(f:DO):TO:=fun σ H Q=>∃ F O s t s',Rel F O M s σ H/\f s=some (t,s')/\∀ H',Step σ M H H'->Rel F O M s' σ H'->Q t H'
def dOn:DO:=fun s=>some (none,s)
def dOs(f:DE):DO:=fun s=>(f s).bind fun p=>match p.1 with
 |.int i=>some (some i,p.2)
 |_=>none
def zfL{α:Type}(xs:List α)(lo hi:Option Int):List α:=(xs.drop (HT.sIx xs.length 0 lo)).take (HT.sIx xs.length xs.length hi - HT.sIx xs.length 0 lo)
def gSl(t:T)(lo hi:Option Int):Option T:=match t with
 |.lst xs=>some (.lst (zfL xs lo hi))
 |.scr ns=>some (.lst ((zfL ns lo hi).map .int))
 |_=>none
def zpx(t:T)(lo hi:Option Int):Option T:=match t with
 |.str x=>if x.length<=jn then some (.str (Yx x lo hi)) else none
 |_=>none
def dSl(g:T->Option Int->Option Int->Option T)(f:DE)(l h:DO):DE:=fun s=>(f s).bind fun p=>(l p.2).bind fun q=>(h q.2).bind fun r=>(g p.1 q.1 r.1).map fun t=>(t,r.2)
def zu7(g:T->Option Int->Option Int->Option T)(i:Nat)(l h:DO):DE:=fun s=>(s[i]?).join.bind fun _=>(l s).bind fun q=>(h q.2).bind fun r=>(r.2[i]?).join.bind fun x=>(g x q.1 r.1).map fun t=>(t,r.2)
theorem Reps.cut{C:ji->Prop}{H:Hp}{vs:List V}{ts:List T}(h:Reps C H vs ts)(lo hi:Option Int):Reps C H (zpD vs lo hi) (zfL ts lo hi):=by
 unfold zpD zfL;rw[h.1];exact(h.drop _).take _
theorem zdN{C:ji->Prop}{H:Hp}:∀(ns:List Int),Reps C H (ns.map V.int) (ns.map T.int)
 |[]=>.nil
 |n::ns=>.cons (.int n) (zdN ns)
def S3N(r:V->Option Int->Option Int->Hp->VK->Prop)(g:T->Option Int->Option Int->Option T):Prop:=∀(C:ji->Prop) (H:Hp) x lo hi tx t (Q:VK),BRep C H x tx->g tx lo hi=some t->
 (∀ p o,H p=none->(∀ C':ji->Prop,(∀ b,C b/\H b≠none->C' b)->Live C' (upd H p o) p t)->Q (.ref p) (upd H p o))->r x lo hi H Q
theorem zwg:S3N (zwk TheK.K) gSl:=by
 intro C H x lo hi tx t Q bx hg q;cases tx<;>simp[gSl] at hg
 ·subst hg;obtain⟨a,vs,rfl,ha,ra⟩:=bx.lst;refine⟨a,vs,rfl,SqL.of ha,fun p hp=>q p _ hp fun C' hC=>?_⟩;exact .lst zad ((ra.cut lo hi).there.mono hC fun c o _ e=>by rw[za6 (zaa e hp)]; exact e)
 ·rename_i ns;subst hg;obtain⟨a,rfl,ha⟩:=bx.scr;refine⟨a,_,rfl,ha,fun p hp=>q p _ hp fun C' hC=>.lst zad ?_⟩;have:zpD (ns.map V.int) lo hi=(zfL ns lo hi).map V.int:=by
   unfold zpD zfL;rw[j5,<-Wj,<-Wk]
  rw[this];exact zdN _
section
variable {lo hi:Option Q4}{fl fh:DO}{p2:Pos}
theorem zx8{g:T->Option Int->Option Int->Option T}{r:V->Option Int->Option Int->Hp->VK->Prop}(hs:S3N r g):∀ σ H Q,cE .n M (dSl g fe fl fh) σ H Q->tSl r (cE .e M fe) (cO M fl) (cO M fh) σ H Q:=by
 intro σ H Q h_;refine cE_ h_ fun F O s t s' R hf q=>?_;obtain⟨p,h1,h2⟩:=Qb hf;obtain⟨l,h3,h4⟩:=Qb h2;obtain⟨u,h5,h6⟩:=Qb h4;obtain⟨t',h7,h8⟩:=Qm h6;injection h8 with h8 h9;subst h8 h9;refine⟨F,O,s,p.1,p.2,R,h1,fun v H1 S1 p1=>⟨F,O,p.2,l.1,l.2,p1.1,h3,fun H2 S2 R2=>⟨F,O,l.2,u.1,u.2,R2,h5,fun H3 S3 R3=>?_⟩⟩⟩;have S:=(S1.trans S2).trans S3;exact hs (Free F O) H3 v l.1 u.1 p.1 t' Q (.inl (R2.stay S3 (p1.1.stay S2 p1.2))) h7 fun a o ha L=>q _ _ (S.trans (.new ha o)) (.mkN R R3 S ha L)
theorem zv0{g:T->Option Int->Option Int->Option T}{r:V->Option Int->Option Int->Hp->VK->Prop}{i:Nat}(hi:M.contains i=true)(hs:S3N r g):∀ σ H Q,cE .n M (zu7 g i fl fh) σ H Q->tSl r (zeO i) (cO M fl) (cO M fh) σ H Q:=by
 intro σ H Q h_;refine cE_ h_ fun F O s t s' R hf q=>?_;obtain⟨x0,h0,hf⟩:=Qb hf;obtain⟨l,h3,h4⟩:=Qb hf;obtain⟨u,h5,h6⟩:=Qb h4;obtain⟨x,h6',h6⟩:=Qb h6;obtain⟨t',h7,h8⟩:=Qm h6;injection h8 with h8 h9;subst h8 h9;have hi':i∈M:=by simpa using hi
 obtain⟨a,e1,_⟩:=R.own i x0 (zae h0) hi';refine⟨_,e1,F,O,s,l.1,l.2,R,h3,fun H2 S2 R2=>⟨F,O,l.2,u.1,u.2,R2,h5,fun H3 S3 R3=>?_⟩⟩;have S:=S2.trans S3;obtain⟨v,e2,B⟩:=zhF hi' R R3 (zae h0) (zae h6');rw[e1] at e2;injection e2 with e2;injection e2 with e2;subst e2;exact hs (Free F O) H3 _ l.1 u.1 x t' Q B h7 fun a o ha L=>q _ _ (S.trans (.new ha o)) (.mkN R R3 S ha L)
theorem zwv(hK:X.K=TheK.K)(he:PE X e (cE .e M fe))(hl:PO X lo (cO M fl))(hu:PO X hi (cO M fh)):PE X (.Subscript e (.Slice lo hi none p2) pos) (cE .n M (dSl gSl fe fl fh)):=weak (zhR (hK▸zmn) he hl hu) (zx8 zwg)
theorem zvQ(he:PE X e (cE .e M fe))(hl:PO X lo (cO M fl))(hu:PO X hi (cO M fh)):PE X (.Subscript e (.Slice lo hi none p2) pos) (cE .e M (dSl zpx fe fl fh)):=weak (zhR zsc he hl hu) (by
 intro σ H Q h_;refine cE_ h_ fun F O s t s' R hf q=>?_;obtain⟨p,h1,h2⟩:=Qb hf;obtain⟨l,h3,h4⟩:=Qb h2;obtain⟨u,h5,h6⟩:=Qb h4;obtain⟨t',h7,h8⟩:=Qm h6;injection h8 with h8 h9;subst h8 h9;refine⟨F,O,s,p.1,p.2,R,h1,fun v H1 S1 p1=>⟨F,O,p.2,l.1,l.2,p1.1,h3,fun H2 S2 R2=>⟨F,O,l.2,u.1,u.2,R2,h5,fun H3 S3 R3=>?_⟩⟩⟩;have S:=(S1.trans S2).trans S3;obtain⟨pt,ps⟩:=p;cases pt<;>simp[zpx] at h7
 rename_i x;obtain⟨h7,h8⟩:=h7
 exact⟨x,BRep.str (.inl p1.2),h7,q _ _ S ⟨R3,by rw[<-h8]; exact .str _⟩⟩)
end
inductive Fl where
 |nx (s:Sg) |rt (t:T) (s:Sg) |bk (s:Sg) |ct (s:Sg)
abbrev DS:=Sg->Option Fl
structure Ios (F:Fr) (io M:List Nat) (σ:L2.St):Prop where
 at_:∀(i:Nat),i∈io->i∈M/\σ[i]?=some (some (.ref (F.adr i)))
 D:∀ a,F.D a->∃ j,j∈io/\a=F.adr j
def KeepO(O:ji->Prop)(H:Hp)(O':ji->Prop)(H':Hp):Prop:=(∀ b o,¬ O b->H b=some o->H' b=some o/\¬ O' b)/\∀ b,H' b=none->H b=none
def C1(F:Fr):ji->Prop:=fun b=>¬ F.D b/\(F.C0 b∨F.H0 b=none)
structure RetOk (F:Fr) (rk:Kd) (io:List Nat) (s':Sg) (t:T) (v:V) (H':Hp):Prop where
 keep:∀ b o,¬ F.D b->F.H0 b=some o->H' b=some o
 dom:∀ b,H' b=none->F.H0 b=none
 res:match rk with
  |.n=>∃ r,v=.ref r/\F.H0 r=none/\¬ F.D r/\Live (fun b=>C1 F b/\b≠r) H' r t/\∀(i:Nat),i∈io->∃ t',s'[i]?=some (some t')/\Live (fun b=>C1 F b/\b≠r) H' (F.adr i) t'
  |.b=>Rep (fun b=>F.H0 b=none) H' v t
  |.e=>Rep (C1 F) H' v t/\∀(i:Nat),i∈io->∃ t',s'[i]?=some (some t')/\Live (C1 F) H' (F.adr i) t'
def EndOk(F:Fr)(rk:Kd)(io M' Mb:List Nat)(O:ji->Prop)(H:Hp)(D:Ends):Fl->Prop
 |.nx s'=>∀ O' σ' H',KeepO O H O' H'->Rel F O' M' s' σ' H'->Ios F io M' σ'->D.nx σ' H'
 |.bk s'=>∀ O' σ' H',KeepO O H O' H'->Rel F O' Mb s' σ' H'->Ios F io Mb σ'->D.bk σ' H'
 |.ct s'=>∀ O' σ' H',KeepO O H O' H'->Rel F O' Mb s' σ' H'->Ios F io Mb σ'->D.ct σ' H'
 |.rt t s'=>∀ v H',RetOk F rk io s' t v H'->D.rt v H'
def cS(rk:Kd)(io M M' Mb:List Nat)(d:DS):TS:=fun D σ H=>∃ F O s r,Rel F O M s σ H/\Ios F io M σ/\d s=some r/\EndOk F rk io M' Mb O H D r
theorem cS_{rk:Kd}{io M M' Mb:List Nat}{d:DS}{D:_}{σ:L2.St}{H:Hp}(h:cS rk io M M' Mb d D σ H){G:Prop}(g:∀ F O s r,Rel F O M s σ H->Ios F io M σ->d s=some r->EndOk F rk io M' Mb O H D r->G):G:=by
 obtain⟨F,O,s,r,R,I,hd,q⟩:=h;exact g F O s r R I hd q
section
variable {F:Fr}{O O' O'':ji->Prop}{s s':Sg}{σ:L2.St}{H H' H'':Hp}{v:V}{t:T}{a:ji}
theorem KeepO.refl:KeepO O H O H:=⟨fun _ _ n h=>⟨h,n⟩,fun _ h=>h⟩
theorem KeepO.trans(x:KeepO O H O' H')(y:KeepO O' H' O'' H''):KeepO O H O'' H'':=⟨fun b o n h=>by
 obtain⟨h1,n1⟩:=x.1 b o n h
 exact y.1 b o n1 h1,fun b h=>x.2 b (y.2 b h)⟩
theorem Step.keepO(S:Step σ M H H')(R:Rel F O M s σ H):KeepO O H O H':=⟨fun b o n h=>⟨S.keep b o (R.notOwned n) h,n⟩,S.dom⟩
theorem EndOk.more{D:Ends}{r:Fl}(h:EndOk F rk io M' Mb O H D r)(k:KeepO O H O' H'):EndOk F rk io M' Mb O' H' D r:=by
 cases r with
 |nx s'=>exact fun O2 σ2 H2 k2=>h O2 σ2 H2 (k.trans k2)
 |bk s'=>exact fun O2 σ2 H2 k2=>h O2 σ2 H2 (k.trans k2)
 |ct s'=>exact fun O2 σ2 H2 k2=>h O2 σ2 H2 (k.trans k2)
 |rt t s'=>exact h
theorem Rel.freeze(R:Rel F O M s σ H)(I:Ios F io M σ)(hM:∀ i,i∈M'->i∈M)(hio:∀ i,i∈io->i∈M'):∃ O',(∀ b,O' b->O b)/\Rel F O' M' s σ H/\Ios F io M' σ:=by
 refine⟨fun b=>O b/\¬ ∃ j:Nat,j∈M/\j∉M'/\σ[j]?=some (some (.ref b)),fun b z=>z.1,?_,⟨fun i hi=>⟨hio i hi,(I.at_ i hi).2⟩,I.D⟩⟩;have w:∀ b,(O b/\¬ ∃ j:Nat,j∈M/\j∉M'/\σ[j]?=some (some (.ref b)))->O b:=fun b z=>z.1;have notD:∀(i:Nat) b,i∈M->i∉M'->σ[i]?=some (some (.ref b))->¬ F.D b:=fun i b hi hi' e z=>by
  obtain⟨j,hj,rfl⟩:=I.D b z;obtain⟨h1,h2⟩:=I.at_ j hj;have:=R.dis i j _ hi h1 e h2;subst this;exact hi' (hio i hj)
 refine⟨R.len,fun i t e n=>?_,fun i t e n=>?_,fun i b hi e=>⟨R.ow i b (hM i hi) e,fun⟨j,h1,h2,h3⟩=>?_⟩,fun i j b hi hj=>R.dis i j b (hM i hi) (hM j hj),R.keep,R.dom,fun b z=>R.fresh b z.1,fun b z=>⟨R.inD b z,fun⟨j,h1,h2,h3⟩=>notD j b h1 h2 h3 z⟩,fun b z=>R.al b z.1⟩
 ·by_cases hi:i∈M
  ·obtain⟨b,h1,L⟩:=R.own i t e hi;refine⟨_,h1,L.rep (fun c z=>z.weak w) ⟨fun z=>z.2 ⟨i,hi,n,h1⟩,?_⟩⟩;rcases R.fresh b (R.ow i b hi h1) with z |z
   ·exact absurd z (notD i b hi n h1)
   ·exact .inr z
  ·obtain⟨v,h1,h2⟩:=R.val i t e hi;exact⟨v,h1,h2.mono (fun _ c=>c.weak w) fun _ _ _ e=>e⟩
 ·obtain⟨b,h1,h2⟩:=R.own i t e (hM i n);exact⟨b,h1,h2.mono (fun _ c=>c.weak w) (fun _ _ _ e=>e) fun _ e=>e⟩
 ·have:=R.dis j i b h1 (hM i hi) h3 e;subst this;exact h2 hi
theorem zcW{A B:List Nat}(h:A.all (B.contains ·)=true):∀ i,i∈A->i∈B:=fun i hi=>by simpa using js.mp h i hi
theorem zoM{D:Ends}{r:Fl}{Mx:List Nat}(hM:∀ i,i∈Mx->i∈M')(hio:∀ i,i∈io->i∈Mx)(h:EndOk F rk io Mx Mb O H D r):EndOk F rk io M' Mb O H D r:=by
 cases r with
 |nx s'=>
  intro O' σ' H' k R I;obtain⟨O2,w,R',I'⟩:=R.freeze I hM hio;exact h O2 σ' H' (k.trans ⟨fun b o n h=>⟨h,fun z=>n (w b z)⟩,fun _ h=>h⟩) R' I'
 |bk s'=>exact h
 |ct s'=>exact h
 |rt t s'=>exact h
theorem Rel.write{i:Nat}{t0 t':T}{o:HO}(R:Rel F O M s σ H)(hi:i∈M)(e:σ[i]?=some (some (.ref a)))(hs:s[i]?=some (some t0))(L:∀ H1,(∀ b u,Free F O b->H b=some u->H1 b=some u)->H1 a=some o->Live (Free F O) H1 a t'):Rel F O M (s.set i (some t')) σ (upd H a o):=by
 have oa:=R.ow i a hi e;have k:∀ b u,Free F O b->H b=some u->upd H a o b=some u:=fun b u c q=>(za6 (fun z:b=a=>c.1 (z▸oa))).trans q;have hl:i < s.length:=(j9.mp hs).1;refine⟨by rw[Q0]; exact R.len,fun j t e' n=>?_,fun j t e' n=>?_,R.ow,R.dis,fun b u n q=>?_,fun b q=>?_,R.fresh,R.inD,fun b z=>?_⟩
 ·have hij:i≠j:=fun z=>n (z▸hi);rw[jd hij] at e';obtain⟨v,h1,h2⟩:=R.val j t e' n;exact⟨v,h1,h2.mono (fun _ c=>c) k⟩
 ·by_cases hij:i=j
  ·subst hij;rw[jG hl] at e';injection e' with e';injection e' with e';subst e';exact⟨a,e,L _ k zad⟩
  ·rw[jd hij] at e';obtain⟨b,h1,h2⟩:=R.own j t e' n;have hne:b≠a:=fun z=>hij (R.dis i j a hi n e (z▸h1));exact⟨b,h1,h2.mono (fun _ c=>c) k fun u q=>by rw[za6 hne]; exact q⟩
 ·refine(za6 (fun z=>?_)).trans (R.keep b u n q);subst z;rcases R.fresh b oa with z |z
  ·exact n z
  ·rw[z] at q; cases q
 ·refine R.dom b ?_;unfold upd at q;split at q
  ·cases q
  ·exact q
 ·intro q;refine R.al b z ?_;unfold upd at q;split at q
  ·cases q
  ·exact q
theorem Step.write{i:Nat}{o:HO}(hi:i∈M)(e:σ[i]?=some (some (.ref a)))(_:H a≠none):Step σ M H (upd H a o):=⟨fun b u n q=>by
 exact(za6 (fun z:b=a=>n i hi (z▸e))).trans q,fun b q=>by
 unfold upd at q;split at q
 ·cases q
 ·exact q⟩
theorem Rel.setE{i:Nat}(R:Rel F O M s σ H)(hM:∀ j,j∈M'->j∈M/\j≠i)(hk:∀ j,j∈M->j∈M'∨j=i)(hi:i < s.length)(r:Rep (Free F O) H v t):Rel F O M' (s.set i (some t)) (σ.set i (some v)) H:=by
 have hi2:i < σ.length:=by rw[<-R.len]; exact hi
 refine⟨by rw[Q0,Q0]; exact R.len,fun j t' e n=>?_,fun j t' e n=>?_,fun j b hj e=>?_,fun j k b hj hk e1 e2=>?_,R.keep,R.dom,R.fresh,R.inD,R.al⟩
 ·by_cases hij:i=j
  ·subst hij;rw[jG hi] at e;injection e with e;injection e with e;subst e;exact⟨v,jG hi2,r⟩
  ·rw[jd hij] at e;rw[jd hij];exact R.val j t' e fun z=>(hk j z).elim n fun z=>hij z.symm
 ·obtain⟨h1,h2⟩:=hM j n;rw[jd (ZD h2)] at e;rw[jd (ZD h2)];exact R.own j t' e h1
 ·obtain⟨h1,h2⟩:=hM j hj;rw[jd (ZD h2)] at e;exact R.ow j b h1 e
 ·obtain⟨h1,h2⟩:=hM j hj;obtain⟨h3,h4⟩:=hM k hk;rw[jd (ZD h2)] at e1;rw[jd (ZD h4)] at e2;exact R.dis j k b h1 h3 e1 e2
theorem Rel.setN{i:Nat}(R:Rel F O M s σ H)(hM:∀ j,j∈M'->j=i∨j∈M)(hk:∀ j,j∈M->j∈M')(hi:i < s.length)(him:i∈M')(oa:O a)(nw:∀ j,j∈M->j≠i->σ[j]?≠some (some (.ref a)))(L:Live (Free F O) H a t):Rel F O M' (s.set i (some t)) (σ.set i (some (.ref a))) H:=by
 have hi2:i < σ.length:=by rw[<-R.len]; exact hi
 refine⟨by rw[Q0,Q0]; exact R.len,fun j t' e n=>?_,fun j t' e n=>?_,fun j b hj e=>?_,fun j k b hj hk' e1 e2=>?_,R.keep,R.dom,R.fresh,R.inD,R.al⟩
 ·have hij:i≠j:=fun z=>n (z▸him);rw[jd hij] at e;rw[jd hij];exact R.val j t' e fun z=>n (hk j z)
 ·by_cases hij:i=j
  ·subst hij;rw[jG hi] at e;injection e with e;injection e with e;subst e;exact⟨a,jG hi2,L⟩
  ·rw[jd hij] at e;rw[jd hij];exact R.own j t' e ((hM j n).resolve_left fun z=>hij z.symm)
 ·by_cases hij:i=j
  ·subst hij;rw[jG hi2] at e;injection e with e;injection e with e;injection e with e;exact e▸oa
  ·rw[jd hij] at e;exact R.ow j b ((hM j hj).resolve_left fun z=>hij z.symm) e
 ·by_cases hij:i=j
  ·by_cases hik:i=k
   ·exact hij.symm.trans hik
   ·subst hij;rw[jG hi2] at e1;rw[jd hik] at e2;injection e1 with e1;injection e1 with e1;injection e1 with e1;subst e1;exact absurd e2 (nw k ((hM k hk').resolve_left fun z=>hik z.symm) (ZD hik))
  ·rw[jd hij] at e1
   by_cases hik:i=k
   ·subst hik;rw[jG hi2] at e2;injection e2 with e2;injection e2 with e2;injection e2 with e2;subst e2;exact absurd e1 (nw j ((hM j hj).resolve_left fun z=>hij z.symm) (ZD hij))
   ·rw[jd hik] at e2;exact R.dis j k b ((hM j hj).resolve_left fun z=>hij z.symm) ((hM k hk').resolve_left fun z=>hik z.symm) e1 e2
theorem Ios.set{i:Nat}{x:Option V}(I:Ios F io M σ)(hio:i∉io)(hM:∀ j,j∈io->j∈M'):Ios F io M' (σ.set i x):=⟨fun j hj=>by
 refine⟨hM j hj,?_⟩;rw[jd (fun z:i=j=>hio (z▸hj))]
 exact(I.at_ j hj).2,I.D⟩
end
def zaj(f g:DS):DS:=fun s=>(f s).bind fun r=>match r with
 |.nx s'=>g s'
 |r=>some r
def zay:DS:=fun s=>some (.nx s)
def zaB(i:Nat)(f:DE):DS:=fun s=>(f s).bind fun p=>if i < p.2.length then some (.nx (p.2.set i (some p.1))) else none
def zcx(c:DT)(f g:DS):DS:=fun s=>(c s).bind fun p=>if p.1 then f p.2 else g p.2
def dDo(f:DE):DS:=fun s=>(f s).map fun p=>.nx p.2
section
variable {M'':List Nat}{st:Qw}{sts:List Qw}{c:Q4}{a b:List Qw}{d d':DS}{ft:DT}{pos':Pos}
def zsf(M M' io:List Nat)(i:Nat):Bool:=M'.all (fun j=>M.contains j&&j != i)&&M.all (fun j=>M'.contains j||j == i)&&!io.contains i&&io.all (M'.contains ·)
def zse(M M' io:List Nat)(i:Nat):Bool:=M'.all (fun j=>j == i||M.contains j)&&M.all (M'.contains ·)&&M'.contains i&&!io.contains i&&io.all (M'.contains ·)
theorem Free.c1{F:Fr}{O:ji->Prop}{M:List Nat}{s:Sg}{σ:L2.St}{H:Hp}(R:Rel F O M s σ H){b:ji}(c:Free F O b):C1 F b:=⟨fun z=>c.1 (R.inD b z),c.2⟩
theorem zss{F:Fr}{O:ji->Prop}{s:Sg}{σ:L2.St}{H:Hp}{v:V}{t:T}(R:Rel F O M s σ H)(I:Ios F io M σ)(hio:∀ i,i∈io->∃ t,s[i]?=some (some t))(r:Rep (Free F O) H v t):RetOk F .e io s t v H:=by
 refine⟨R.keep,R.dom,r.mono (fun _ c=>c.c1 R) (fun _ _ _ e=>e),fun i hi=>?_⟩;obtain⟨t',ht⟩:=hio i hi;obtain⟨h1,h2⟩:=I.at_ i hi;obtain⟨a,h3,L⟩:=R.own i t' ht h1;rw[h2] at h3;injection h3 with h3;injection h3 with h3;injection h3 with h3;subst h3;exact⟨t',ht,L.mono (fun _ c=>c.c1 R) (fun _ _ _ e=>e) fun _ e=>e⟩
theorem zsr{F:Fr}{O:ji->Prop}{s:Sg}{σ:L2.St}{H:Hp}{t:T}{a:ji}(R:Rel F O M s σ H)(I:Ios F io M σ)(hio:∀ i,i∈io->∃ t,s[i]?=some (some t))(oa:O a)(h0:F.H0 a=none)(nd:¬ F.D a)(L:Live (Free F O) H a t):RetOk F .n io s t (.ref a) H:=by
 have w:∀ b,Free F O b->C1 F b/\b≠a:=fun b c=>⟨c.c1 R,fun z=>c.1 (z▸oa)⟩;refine⟨R.keep,R.dom,a,rfl,h0,nd,L.mono w (fun _ _ _ e=>e) fun _ e=>e,fun i hi=>?_⟩;obtain⟨t',ht⟩:=hio i hi;obtain⟨h1,h2⟩:=I.at_ i hi;obtain⟨b,h3,L⟩:=R.own i t' ht h1;rw[h2] at h3;injection h3 with h3;injection h3 with h3;injection h3 with h3;subst h3;exact⟨t',ht,L.mono w (fun _ _ _ e=>e) fun _ e=>e⟩
def hasAll(io:List Nat)(s:Sg):Bool:=io.all fun i=>(s[i]?).join.isSome
theorem hasAll.get{io:List Nat}{s:Sg}(h:hasAll io s=true):∀ i,i∈io->∃ t,s[i]?=some (some t):=fun i hi=>by
 have:=js.mp h i hi;cases e:(s[i]?).join with
 |none=>rw[e] at this; cases this
 |some t=>exact⟨t,zae e⟩
def zan(io:List Nat)(f:DE):DS:=fun s=>(f s).bind fun p=>if hasAll io p.2 then some (.rt p.1 p.2) else none
end
def znl:T->Bool
 |.lst _=>true
 |_=>false
def SM(r:V->List V->Hp->VK->Prop)(g:T->List T->Option (T × T)):Prop:=∀(C:ji->Prop) (H:Hp) a tx vs ts t' tr (Q:VK),¬ C a->Live C H a tx->Reps C H vs ts->g tx ts=some (t',tr)->
 (∀ o v,(∀ H1,(∀ b u,C b->H b=some u->H1 b=some u)->H1 a=some o->Live C H1 a t')->Rep C H v tr->Q v (upd H a o))->r (.ref a) vs H Q
def zhp(g:T->List T->Option (T × T))(i:Nat)(fa:DA):DE:=fun s=>(s[i]?).join.bind fun t0=>if znl t0 then (fa s).bind fun p=>(p.2[i]?).join.bind fun t=>(g t p.1).map fun q=>(q.2,p.2.set i (some q.1)) else none
def zk1:T->List T->Option (T × T)
 |.lst xs,[t]=>if xs.length < jn then some (.lst (xs++[t]),.non) else none
 |_,_=>none
def zpq:T->List T->Option (T × T)
 |.lst xs,[.lst ys]=>if xs.length+ys.length<=jn then some (.lst (xs++ys),.non) else none
 |_,_=>none
def znS:T->List T->Option (T × T)
 |.lst xs,[]=>(xs[xs.length - 1]?).map fun y=>(.lst xs.dropLast,y)
 |_,_=>none
theorem Live.lst'{C:ji->Prop}{H:Hp}{a:ji}{ts:List T}(h:Live C H a (.lst ts)):∃ vs,H a=some (.lst vs)/\Reps C H vs ts:=by
 cases h with |lst r h=>exact⟨_,r,h⟩
theorem Reps.one{C:ji->Prop}{H:Hp}{vs:List V}{t:T}(h:Reps C H vs [t]):∃ v,vs=[v]/\Rep C H v t:=by
 obtain⟨v,rfl⟩:=gJ.mp (show vs.length=1 from h.1);exact⟨v,rfl,h.head⟩
theorem Reps.none{C:ji->Prop}{H:Hp}{vs:List V}(h:Reps C H vs []):vs=[]:=List.length_eq_zero_iff.mp h.1
theorem Reps.snoc{C:ji->Prop}{H:Hp}{vs:List V}{ts:List T}{v:V}{t:T}(h:Reps C H vs ts)(r:Rep C H v t):Reps C H (vs++[v]) (ts++[t]):=h.append (.cons r .nil)
theorem zvz:SM zhH zk1:=by
 intro C H a tx vs ts t' tr Q hn L R hg q;unfold zk1 at hg;split at hg
 ·split at hg
  ·rename_i hl;injection hg with hg;injection hg with h1 h2;subst h1 h2;obtain⟨us,h1,h2⟩:=L.lst';obtain⟨v,rfl,rv⟩:=R.one;refine⟨a,us,v,rfl,rfl,h1,by rw[h2.1]; exact hl,q _ _ (fun H1 k e=>.lst e ?_) .non⟩
   exact(h2.snoc rv).mono (fun _ c=>c) k
  ·cases hg
 ·cases hg
theorem zvy:SM zjJ zpq:=by
 intro C H a tx vs ts t' tr Q hn L R hg q;unfold zpq at hg;split at hg
 ·split at hg
  ·rename_i hl;injection hg with hg;injection hg with h1 h2;subst h1 h2;obtain⟨us,h1,h2⟩:=L.lst';obtain⟨v,rfl,rv⟩:=R.one;obtain⟨b,ws,rfl,h3,h4⟩:=BRep.lst (.inl rv);refine⟨a,b,us,ws,rfl,rfl,h1,h3,by rw[h2.1,h4.1]; exact hl,q _ _ (fun H1 k e=>.lst e ?_) .non⟩
   exact(h2.append h4).mono (fun _ c=>c) k
  ·cases hg
 ·cases hg
theorem Reps.dropLast{C:ji->Prop}{H:Hp}{vs:List V}{ts:List T}(h:Reps C H vs ts):Reps C H vs.dropLast ts.dropLast:=by
 rw[Nz,Nz,h.1];exact h.take _
theorem Reps.rev{C:ji->Prop}{H:Hp}:∀ {vs:List V} {ts:List T},Reps C H vs ts->Reps C H vs.reverse ts.reverse
 |[],[],_=>.nil
 |v::vs,[],h=>by have:=h.1; simp at this
 |[],t::ts,h=>by have:=h.1; simp at this
 |v::vs,t::ts,h=>by
  rw[QU,QU];exact(Reps.rev h.tail).snoc h.head
theorem zvx:SM zvc znS:=by
 intro C H a tx vs ts t' tr Q hn L R hg q;unfold znS at hg;split at hg
 ·obtain⟨y,hy,h0⟩:=Qm hg;injection h0 with h1 h2;subst h1 h2;obtain⟨us,h1,h2⟩:=L.lst';obtain rfl:=R.none;obtain⟨v,hv,rv⟩:=h2.get hy;exact⟨a,us,v,rfl,rfl,h1,by rw[h2.1]; exact hv,q _ _ (fun H1 k e=>.lst e (h2.dropLast.mono (fun _ c=>c) k)) rv⟩
 ·cases hg
section
theorem zqW{r:V->List V->Hp->VK->Prop}{g:T->List T->Option (T × T)}{i:Nat}(hi:M.contains i=true)(hs:SM r g):∀ σ H Q,cE .e M (zhp g i fa) σ H Q->tBM X.K "list" r (zeO i) (cA M fa) σ H Q:=by
 intro σ H Q h_;refine cE_ h_ fun F O s t s' R hf q=>?_;have hi':i∈M:=by simpa using hi
 obtain⟨t0,h0,hf⟩:=Qb hf;split at hf
 ·rename_i hl;obtain⟨p,h1,hf⟩:=Qb hf;obtain⟨t1,h2,hf⟩:=Qb hf;obtain⟨w,h3,h4⟩:=Qm hf;injection h4 with h4 h5;subst h4 h5;obtain⟨a,e1,L0⟩:=R.own i t0 (zae h0) hi';refine⟨_,e1,?_,F,O,s,p.1,p.2,R,h1,fun vs H1 S1 R1 rs=>?_⟩
  ·cases L0 with
   |lst r h=>exact .inl ⟨rfl,_,SqL.of r⟩
   |_=>cases hl
  obtain⟨b,e2,L⟩:=R1.own i t1 (zae h2) hi';rw[e1] at e2;injection e2 with e2;injection e2 with e2;injection e2 with e2;subst e2;refine hs (Free F O) H1 a t1 vs p.1 w.1 w.2 Q (fun z=>z.1 (R1.ow i a hi' e1)) L rs h3 fun o v hL rv=>?_;have R2:=R1.write (o:=o) hi' e1 (zae h2) hL;refine q v _ (S1.trans (.write hi' e1 L.ne)) ⟨R2,?_⟩;exact R1.stay (.write hi' e1 L.ne) rv
 ·cases hf
theorem zt7{r:V->List V->Hp->VK->Prop}{g:T->List T->Option (T × T)}{i:Nat}(hi:M.contains i=true)(hs:SM r g):∀ σ H Q,cE .e M (zhp g i dAn) σ H Q->zu1 X.K "list" r (zeO i) σ H Q:=by
 rintro σ H Q h;obtain⟨v,e,ty,F,O,s,ts,s',R,hf,q⟩:=zqW (X:=X) hi hs σ H Q h;injection hf with hf;injection hf with h1 h2;subst h1 h2;exact⟨v,e,ty,q [] H .refl R .nil⟩
end
def zfH(kvs:List (Key × T))(k:Key)(v:T):List (Key × T):=
 if kvs.any fun kv=>decide (kv.1=k) then kvs.map fun kv=>if kv.1=k then (kv.1,v) else kv else kvs++[(k,v)]
theorem RepK.any{C:ji->Prop}{H:Hp}(k:Key):∀ {vs:List (Key × V)} {ts:List (Key × T)},RepK C H vs ts->(vs.any fun kv=>decide (kv.1=k))=ts.any fun kv=>decide (kv.1=k)
 |[],[],_=>rfl
 |p::vs,[],h=>by have:=h.1; simp at this
 |[],q::ts,h=>by have:=h.1; simp at this
 |p::vs,q::ts,h=>by
  obtain⟨e,r,h'⟩:=h.tail;rw[Z6,Z6,RepK.any k h',e]
theorem RepK.mapPut{C:ji->Prop}{H:Hp}{k:Key}{v:V}{t:T}(r:Rep C H v t):∀ {vs:List (Key × V)} {ts:List (Key × T)},RepK C H vs ts->RepK C H (vs.map fun kv=>if kv.1=k then (kv.1,v) else kv) (ts.map fun kv=>if kv.1=k then (kv.1,t) else kv)
 |[],[],h=>h
 |p::vs,[],h=>by have:=h.1; simp at this
 |[],q::ts,h=>by have:=h.1; simp at this
 |p::vs,q::ts,h=>by
  obtain⟨e,r',h'⟩:=h.tail;rw[jr,jr]
  by_cases hk:q.1=k
  ·rw[Ip_ hk,Ip_ (e.trans hk)];exact .cons e r (RepK.mapPut r h')
  ·rw[In_ hk,In_ (fun z=>hk (e.symm.trans z))];exact .cons e r' (RepK.mapPut r h')
theorem RepK.append{C:ji->Prop}{H:Hp}:∀ {vs ws:List (Key × V)} {ts us:List (Key × T)},RepK C H vs ts->RepK C H ws us->RepK C H (vs++ws) (ts++us)
 |[],_,[],_,_,h=>h
 |p::vs,_,[],_,h,_=>by have:=h.1; simp at this
 |[],_,q::ts,_,h,_=>by have:=h.1; simp at this
 |p::vs,_,q::ts,_,h,h2=>by
  obtain⟨e,r',h'⟩:=h.tail;exact .cons e r' (RepK.append h' h2)
theorem RepK.put{C:ji->Prop}{H:Hp}{k:Key}{v:V}{t:T}{vs:List (Key × V)}{ts:List (Key × T)}(h:RepK C H vs ts)(r:Rep C H v t):RepK C H (zhh vs k v) (zfH ts k t):=by
 unfold zhh zfH;rw[h.any k];split
 ·exact RepK.mapPut r h
 ·exact RepK.append h (.cons rfl r ⟨rfl,fun i v t e=>by simp at e⟩)
theorem RepK.len{C:ji->Prop}{H:Hp}{vs:List (Key × V)}{ts:List (Key × T)}(h:RepK C H vs ts):vs.length=ts.length:=by simpa using congrArg Y5 h.1
def zpB(i:Nat)(fk fv:DE):DS:=fun s=>(fv s).bind fun p=>(p.2[i]?).join.bind fun _=>(fk p.2).bind fun q=>(q.2[i]?).join.bind fun t=>match t with
 |.dct kvs=>(zh7 q.1).bind fun k=>if kvs.length < jn then some (.nx (q.2.set i (some (.dct (zfH kvs k p.1))))) else none
 |_=>none
def zjg(i:Nat)(fk fv:DE):DS:=fun s=>(fv s).bind fun p=>(p.2[i]?).join.bind fun _=>(fk p.2).bind fun q=>(q.2[i]?).join.bind fun t=>match t,q.1 with
 |.lst xs,.int k=>(ixN xs.length k).map fun j=>.nx (q.2.set i (some (.lst (xs.set j p.1))))
 |_,_=>none
section
variable {st:Qw}{fk fv:DE}
def gsN:List Nat->TGs
 |[]=>zr8
 |i::r=>zj6 (zcw i) (gsN r)
def zbG:List Nat->List T->Sg->Option Sg
 |[],[],s=>some s
 |i::is,t::ts,s=>if i < s.length then zbG is ts (s.set i (some t)) else none
 |_,_,_=>none
theorem zhz{F:Fr}{O:ji->Prop}{H:Hp}{Q:L2.St->Hp->Prop}:∀ {is:List Nat} {ts:List T} {vs:List V} {s s':Sg} {σ:L2.St},Rel F O M s σ H->Ios F io M σ->(∀ i,i∈is->i∉M)->(∀ i,i∈io->i∈M)->Reps (Free F O) H vs ts->zbG is ts s=some s'->
  (∀ σ',Rel F O M s' σ' H->Ios F io M σ'->Q σ' H)->gsN is vs σ H Q
 |[],[],vs,s,s',σ,R,I,_,_,h,e,q=>by
  injection e with e;subst e;exact⟨h.none,q σ R I⟩
 |[],t::ts,vs,s,s',σ,R,I,_,_,h,e,q=>by cases e
 |i::is,[],vs,s,s',σ,R,I,_,_,h,e,q=>by cases e
 |i::is,t::ts,[],s,s',σ,R,I,_,_,h,e,q=>by have:=h.1; simp at this
 |i::is,t::ts,v::vs,s,s',σ,R,I,hm,hio,h,e,q=>by
  unfold zbG at e;split at e
  ·rename_i hl;have hi:i∉M:=hm i jX;exact⟨v,vs,rfl,zhz (R.setE (fun j hj=>⟨hj,fun z=>hi (z▸hj)⟩) (fun j hj=>.inl hj) hl h.head) (I.set (fun z=>hi (hio i z)) hio) (fun j hj=>hm j (jw _ hj)) hio h.tail e q⟩
  ·cases e
def zl0:T->Option (List T)
 |.lst xs=>some xs
 |.tup xs=>some xs
 |_=>none
def dUn(is:List Nat)(f:DE):DS:=fun s=>(f s).bind fun p=>(zl0 p.1).bind fun ts=>(zbG is ts p.2).map .nx
end
def zrE(F:Fr)(O:ji->Prop)(its:List T)(J:It)(H1:Hp):Prop:=∀ H2,(∀ b o,Free F O b->H1 b=some o->H2 b=some o)->
 ∀ i:Nat,(∀ t,its[i]?=some t->J.go i H2/\∀ x H3,J.yld i H2 x H3->(H3=H2∨∃ p o,H2 p=none/\H3=upd H2 p o)/\Rep (fun b=>(Free F O b/\H1 b≠none)∨H2 b=none) H3 x t)/\(its.length<=i->J.stop i H2)
abbrev DI:=Sg->Option (List T × Sg)
def cI(M:List Nat)(f:DI):TI:=fun σ H R=>∃ F O s its s',Rel F O M s σ H/\f s=some (its,s')/\∀ J H',Step σ M H H'->Rel F O M s' σ H'->zrE F O its J H'->R J H'
theorem cI_{M:List Nat}{f:DI}{σ:L2.St}{H:Hp}{R:_}(h:cI M f σ H R){G:Prop}(g:∀ F O s its s',Rel F O M s σ H->f s=some (its,s')->(∀ J H',Step σ M H H'->Rel F O M s' σ H'->zrE F O its J H'->R J H')->G):G:=by
 obtain⟨F,O,s,its,s',Rl,hf,q⟩:=h;exact g F O s its s' Rl hf q
theorem zht{X:Cx}{tg e:Q4}{t t':TI}(h:PI X tg e t)(hw:∀ σ H R,t' σ H R->t σ H R):PI X tg e t':=fun pc s σ H R I q=>h pc s σ H R I (hw _ _ _ q)
def dIt(f:DE):DI:=fun s=>(f s).bind fun p=>match p.1 with
 |.lst xs=>some (xs,p.2)
 |.scr ns=>some (ns.map .int,p.2)
 |_=>none
def zww(f:DE):DI:=fun s=>(f s).bind fun p=>match p.1 with
 |.tup xs=>some (xs,p.2)
 |_=>none
def zaN(lo:Int)(n:Nat):List T:=(jt n).map fun(i:Nat)=>T.int (lo+i)
def zfP(j:Int):Bool:=(j+2000).natAbs.ble 4000
theorem zg0{j:Int}(h:zfP j=true):-(2 ^ 62)<=j/\j < 2 ^ 62:=by
 unfold zfP at h;have:=ZL h;lia
def znV(f:DA):DI:=fun s=>(f s).bind fun p=>match p.1 with
 |[.int j]=>if zfP j=true then some (zaN 0 j.toNat,p.2) else none
 |_=>none
def ztI(f:DA):DI:=fun s=>(f s).bind fun p=>match p.1 with
 |[.int i,.int j]=>if zfP i=true/\zfP j=true then some (zaN i (j - i).toNat,p.2) else none
 |_=>none
def zkj(xs:List T):List T:=(jt xs.length).map fun(i:Nat)=>T.tup [.int i,xs.getD i .non]
def dEn(f:DA):DI:=fun s=>(f s).bind fun p=>match p.1 with
 |[.lst xs]=>some (zkj xs,p.2)
 |_=>none
section
variable {tg:Q4}
theorem zr3{F:Fr}{O:ji->Prop}{H1:Hp}{a:ji}{vs:List V}{ts:List T}{K:j8}(fr:Free F O a)(ha:H1 a=some (.lst vs))(r:Reps (Free F O) H1 vs ts):zrE F O ts (Itl K a) H1:=by
 intro H2 k i;have h2:=k a _ fr ha;refine⟨fun t ht=>?_,fun hl=>⟨vs,SqL.of h2,by rw[r.1]; exact hl⟩⟩
 obtain⟨v,hv,rv⟩:=r.get ht;refine⟨⟨vs,v,SqL.of h2,hv⟩,fun x H3 ⟨e1,e2⟩=>⟨.inl e1,?_⟩⟩;have:=e2 vs (SqL.of h2);rw[hv] at this;obtain rfl:v=x:=jc this;subst e1;exact rv.there.mono (fun b c=>.inl c) fun b o c e=>k b o c.1 e
theorem zpv{F:Fr}{O:ji->Prop}{H1:Hp}{a:ji}{ns:List Int}{K:j8}(h:∀ H2,(∀ b o,Free F O b->H1 b=some o->H2 b=some o)->SqL K H2 a (ns.map V.int)):zrE F O (ns.map T.int) (Itl K a) H1:=by
 intro H2 k i;have h2:=h H2 k;refine⟨fun t ht=>?_,fun hl=>⟨_,h2,by simpa using hl⟩⟩
 obtain⟨v,hv,rv⟩:=(zdN (C:=fun b=>(Free F O b/\H1 b≠none)∨H2 b=none) (H:=H2) ns).get ht;refine⟨⟨_,v,h2,hv⟩,fun x H3 ⟨e1,e2⟩=>⟨.inl e1,?_⟩⟩;have:=e2 _ h2;rw[hv] at this;obtain rfl:v=x:=jc this;subst e1;exact rv
theorem ztp(hK:X.K=TheK.K)(h:PE X e (cE .e M fe)):PI X tg e (cI M (dIt fe)):=zht (t:=ztq TheK.K (cE .e M fe)) (hK▸zqJ h) (by
 intro σ H R h_;refine cI_ h_ fun F O s its s' Rl hf q=>?_;obtain⟨⟨p1,p2⟩,h1,h2⟩:=Qb hf;refine⟨F,O,s,p1,p2,Rl,h1,fun v H1 S1 po=>?_⟩;cases p1<;>simp at h2
 ·obtain⟨h3,h4⟩:=h2;subst h3 h4;have po2:=po.2;cases po2 with
  |lst c r l h=>
   exact⟨_,rfl,⟨_,SqL.of r⟩,q _ H1 S1 po.1 (zr3 c r ⟨l,h⟩)⟩
 ·obtain⟨h3,h4⟩:=h2;subst h3 h4;have po2:=po.2;cases po2 with
  |@scr a ns o c r=>
   refine⟨a,rfl,⟨_,.inl (.inr ⟨o,r⟩)⟩,q _ H1 S1 po.1 ?_⟩;exact zpv fun H2 k=>.inl (.inr ⟨o,k a _ c r⟩)
  |@scrK a ns r=>
   refine⟨a,rfl,⟨_,r H1⟩,q _ H1 S1 po.1 ?_⟩
   exact zpv fun H2 k=>r H2)
theorem zvF(h:PE X e (cE .e M fe)):PI X tg e (cI M (zww fe)):=zht (zsM h) (by
 intro σ H R h_;refine cI_ h_ fun F O s its s' Rl hf q=>?_;obtain⟨⟨p1,p2⟩,h1,h2⟩:=Qb hf;refine⟨F,O,s,p1,p2,Rl,h1,fun v H1 S1 po=>?_⟩;cases p1<;>simp at h2
 obtain⟨h3,h4⟩:=h2;subst h3 h4;have po2:=po.2;cases po2 with
 |tup c r l h=>
  rename_i a vs;refine⟨a,rfl,⟨vs,SqT.of r⟩,q _ H1 S1 po.1 ?_⟩;intro H2 k i;have h2:=k a _ c r;refine⟨fun t ht=>?_,fun hl=>⟨vs,SqT.of h2,by rw[l]; exact hl⟩⟩
  obtain⟨v,hv,rv⟩:=Reps.get (⟨l,h⟩:Reps (Free F O) H1 vs _) ht;refine⟨⟨vs,v,SqT.of h2,hv⟩,fun x H3 ⟨e1,e2⟩=>⟨.inl e1,?_⟩⟩;have:=e2 vs (SqT.of h2);rw[hv] at this;obtain rfl:v=x:=jc this;subst e1
  exact rv.there.mono (fun b c=>.inl c) fun b o c e=>k b o c.1 e)
theorem zl1{F:Fr}{O:ji->Prop}{H1:Hp}{lo:Int}{n:Nat}:zrE F O (zaN lo n) (Itr lo n) H1:=by
 intro H2 k i;unfold zaN;refine⟨fun t ht=>?_,fun hl=>by show n<=i; simpa using hl⟩
 rw[jf] at ht;obtain⟨j,hj,e⟩:=Qm ht;have hi:i < n:=by simpa using (j9.mp hj).1
 rw[ge hi] at hj;obtain rfl:i=j:=jc hj;refine⟨hi,fun x H3 ⟨e1,e2⟩=>⟨.inl e1,?_⟩⟩;subst e1 e2 e;exact .int _
end
abbrev DG:=T->Sg->Option Sg
def cG(io M:List Nat)(g:DG):TG:=fun v σ H Q=>∃ F O s t s',Rel F O M s σ H/\Ios F io M σ/\Rep (Free F O) H v t/\g t s=some s'/\∀ σ',Rel F O M s' σ' H->Ios F io M σ'->Q σ' H
def dGn(i:Nat):DG:=fun t s=>if i < s.length then some (s.set i (some t)) else none
def dGt(is:List Nat):DG:=fun t s=>match t with
 |.tup ts=>zbG is ts s
 |_=>none
theorem zrH{X:Cx}{e:Q4}{t t':TG}(h:PG X e t)(hw:∀ v σ H Q,t' v σ H Q->t v σ H Q):PG X e t':=fun pc s σ H v u Q I r q=>h pc s σ H v u Q I r (hw _ _ _ _ q)
section
variable {tg iter:Q4}{body:List Qw}{fi:DI}{g:DG}{db:DS}
theorem gn{i:Nat}(hi:M.contains i=false)(hio:io.all (M.contains ·)=true):∀ v σ H Q,cG io M (dGn i) v σ H Q->zcw i v σ H Q:=by
 rintro v σ H Q ⟨F,O,s,t,s',R,I,r,hg,q⟩;have hi':i∉M:=by simpa using hi
 unfold dGn at hg;split at hg
 ·rename_i hl;injection hg with hg;subst hg;exact q _ (R.setE (fun j hj=>⟨hj,fun z=>hi' (z▸hj)⟩) (fun j hj=>.inl hj) hl r) (I.set (fun z=>hi' (zcW hio i z)) (zcW hio))
 ·cases hg
theorem gt{is:List Nat}{n:Nat}{K:j8}(hn:is.length=n)(hm:is.all (fun i=>!M.contains i)=true)(hio:io.all (M.contains ·)=true):∀ v σ H Q,cG io M (dGt is) v σ H Q->zlQ K n (gsN is) v σ H Q:=by
 rintro v σ H Q ⟨F,O,s,t,s',R,I,r,hg,q⟩;obtain⟨ts,rfl⟩:∃ ts,t=.tup ts:=by cases t<;>first |exact⟨_,rfl⟩ |cases hg
 have hg:zbG is ts s=some s':=hg;have hl:∀ {is:List Nat} {ts:List T} {s s':Sg},zbG is ts s=some s'->ts.length=is.length:=by
  intro is
  induction is with
  |nil=>intro ts s s' e; cases ts with
   |nil=>rfl
   |cons=>cases e
  |cons i is ih=>intro ts s s' e; cases ts with
   |nil=>cases e
   |cons t ts=>
    unfold zbG at e;split at e
    ·rw[jp,jp,ih e]
    ·cases e
 obtain⟨a,vs,rfl,ha,ra⟩:=BRep.tup (.inl r);exact⟨a,vs,rfl,SqT.of ha,by rw[ra.1,hl hg,hn],zhz R I (fun i hi=>by simpa using js.mp hm i hi) (zcW hio) ra hg q⟩
def zdC(g:DG)(db:DS):List T->Sg->Option Fl
 |[],s=>some (.nx s)
 |x::xs,s=>(g x s).bind fun s1=>(db s1).bind fun r=>match r with
  |.nx s2=>zdC g db xs s2
  |.ct s2=>zdC g db xs s2
  |.bk s2=>some (.nx s2)
  |.rt t s2=>some (.rt t s2)
def zeJ(fi:DI)(g:DG)(db:DS):DS:=fun s=>(fi s).bind fun p=>zdC g db p.1 p.2
theorem zmx{F:Fr}{O O1:ji->Prop}{s:Sg}{σ:L2.St}{H1 H2 H3:Hp}{x:V}{t:T}(k:KeepO O H1 O1 H2)(R:Rel F O1 M s σ H2)(hy:H3=H2∨∃ p o,H2 p=none/\H3=upd H2 p o)(r:Rep (fun b=>(Free F O b/\H1 b≠none)∨H2 b=none) H3 x t) :
  Rel F O1 M s σ H3/\KeepO O1 H2 O1 H3/\Rep (Free F O1) H3 x t:=by
 have fr:∀ b,((Free F O b/\H1 b≠none)∨H2 b=none)->Free F O1 b:=fun b c=>by
  rcases c with ⟨c,n⟩ |n
  ·cases e:H1 b with
   |none=>exact absurd e n
   |some o=>exact⟨(k.1 b o c.1 e).2,c.2⟩
  ·exact⟨fun z=>R.al b z n,.inr (R.dom b n)⟩
 refine⟨?_,?_,r.mono fr fun _ _ _ e=>e⟩
 ·rcases hy with rfl |⟨p,o,hp,rfl⟩
  ·exact R
  ·exact(R.new hp o).less (fun b z=>.inl z) R.ow R.inD
 ·rcases hy with rfl |⟨p,o,hp,rfl⟩
  ·exact .refl
  ·exact⟨fun b u n e=>⟨by rw[za6 (zaa e hp)]; exact e,n⟩,fun b e=>by
    unfold upd at e;split at e
    ·cases e
    ·exact e⟩
theorem ztt:∀ D σ H,cS rk io M M Mb (zeJ fi g db) D σ H->zu0 (cI M fi) (cG io M g) (cS rk io M M M db) D σ H:=by
 intro D σ H h_;refine cS_ h_ fun F O s r R I hd q=>?_;obtain⟨⟨its,s1⟩,h1,h2⟩:=Qb hd;refine⟨F,O,s,its,s1,R,h1,fun J H1 S1 R1 IT=>?_⟩;have k1:KeepO O H O H1:=S1.keepO R;refine⟨fun i m σ' H'=>m=its.length - i/\i<=its.length/\∃ O' s',KeepO O H1 O' H'/\Rel F O' M s' σ' H'/\Ios F io M σ'/\zdC g db (its.drop i) s'=some r,⟨its.length,by simp,Z8 _,O,s1,.refl,R1,I,h2⟩,?_⟩
 rintro i m σ2 H2 ⟨rfl,hi,O2,s2,k2,R2,I2,hl⟩;have it:=IT H2 (fun b o c e=>(k2.1 b o c.1 e).1) i
 by_cases hlt:i < its.length
 ·refine .inr ?_;obtain⟨go,yl⟩:=it.1 its[i] (j3 hlt);rw[Zj hlt] at hl;unfold zdC at hl;obtain⟨s3,hg,hl⟩:=Qb hl;obtain⟨r1,hb,hl⟩:=Qb hl;refine⟨go,fun σ' H'=>∃ O' s',KeepO O H1 O' H'/\Rel F O' M s' σ' H'/\Ios F io M σ'/\zdC g db (its.drop (i+1)) s'=some r,fun σ' H' ⟨O',s',h⟩=>⟨its.length - (i+1),by lia,rfl,hlt,O',s',h⟩,fun x H3 hy=>?_⟩
  obtain⟨y1,y2⟩:=yl x H3 hy;obtain⟨R3,k3,rx⟩:=zmx k2 R2 y1 y2;have k13:=k2.trans k3;refine⟨F,O2,s2,its[i],s3,R3,I2,rx,hg,fun σ4 R4 I4=>⟨F,O2,s3,r1,R4,I4,hb,?_⟩⟩;cases r1 with
  |nx s5=>exact fun O5 σ5 H5 k5 R5 I5=>⟨O5,s5,k13.trans k5,R5,I5,hl⟩
  |ct s5=>exact fun O5 σ5 H5 k5 R5 I5=>⟨O5,s5,k13.trans k5,R5,I5,hl⟩
  |bk s5=>
   injection hl with hl;subst hl;exact fun O5 σ5 H5 k5 R5 I5=>q O5 σ5 H5 (k1.trans (k13.trans k5)) R5 I5
  |rt t s5=>
   injection hl with hl;subst hl;exact q
 ·have e:i=its.length:=by lia
  subst e;rw[N2] at hl;injection hl with hl;subst hl;exact .inl ⟨it.2 (jj _),q O2 σ2 H2 (k1.trans k2) R2 I2⟩
def zbF(ft:DT)(db:DS):Nat->Sg->Option Fl
 |0,_=>none
 |n+1,s=>(ft s).bind fun p=>if p.1 then (db p.2).bind fun r=>match r with
  |.nx s2=>zbF ft db n s2
  |.ct s2=>zbF ft db n s2
  |.bk s2=>some (.nx s2)
  |.rt t s2=>some (.rt t s2)
  else some (.nx p.2)
theorem zo0{ft:DT}{n:Nat}:∀ D σ H,cS rk io M M Mb (zbF ft db n) D σ H->zp8 (cT M ft) (cS rk io M M M db) D σ H:=by
 intro D σ H h_;refine cS_ h_ fun F O s r R I hd q=>?_;refine⟨fun m σ' H'=>∃ O' s',KeepO O H O' H'/\Rel F O' M s' σ' H'/\Ios F io M σ'/\zbF ft db m s'=some r,⟨n,O,s,.refl,R,I,hd⟩,?_⟩;rintro m σ2 H2 ⟨O2,s2,k2,R2,I2,hl⟩;cases m with
 |zero=>cases hl
 |succ m=>
  unfold zbF at hl;obtain⟨⟨b,s3⟩,h1,h2⟩:=Qb hl;refine⟨F,O2,s2,b,s3,R2,h1,fun H3 S3 R3=>?_⟩;have k3:=k2.trans (S3.keepO R2);cases b with
  |true=>
   obtain⟨r1,hb,hl⟩:=Qb h2;refine⟨fun σ' H'=>∃ O' s',KeepO O H O' H'/\Rel F O' M s' σ' H'/\Ios F io M σ'/\zbF ft db m s'=some r,fun σ' H' z=>⟨m,ZZ m,z⟩,F,O2,s3,r1,R3,I2,hb,?_⟩;cases r1 with
   |nx s5=>exact fun O5 σ5 H5 k5 R5 I5=>⟨O5,s5,k3.trans k5,R5,I5,hl⟩
   |ct s5=>exact fun O5 σ5 H5 k5 R5 I5=>⟨O5,s5,k3.trans k5,R5,I5,hl⟩
   |bk s5=>
    injection hl with hl;subst hl;exact fun O5 σ5 H5 k5 R5 I5=>q O5 σ5 H5 (k3.trans k5) R5 I5
   |rt t s5=>
    injection hl with hl;subst hl;exact q
  |false=>
   injection h2 with h2;subst h2;exact q O2 σ2 H3 k3 R3 I2
end
structure CallP (rk:Kd) (C:ji->Prop) (H:Hp) (t:T) (v:V) (H':Hp):Prop where
 keep:∀ b o,H b=some o->H' b=some o
 dom:∀ b,H' b=none->H b=none
 res:match rk with
  |.n=>∃ r,v=.ref r/\H r=none/\Live (fun b=>(C b∨H b=none)/\b≠r) H' r t
  |_=>Rep (fun b=>C b∨H b=none) H' v t
def spP(rk:Kd)(np:Nat)(fn:List T->Option T):Sp:=fun vs H Q _=>∃ C ts t,ts.length=np/\Reps C H vs ts/\fn ts=some t/\∀ v H',CallP rk C H t v H'->Q v H'
structure CallI (rk:Kd) (C:ji->Prop) (a:ji) (H:Hp) (t t0:T) (v:V) (H':Hp):Prop where
 keep:∀ b o,b≠a->H b=some o->H' b=some o
 dom:∀ b,H' b=none->H b=none
 res:match rk with
  |.n=>∃ r,v=.ref r/\H r=none/\Live (fun b=>(b≠a/\(C b∨H b=none))/\b≠r) H' r t/\Live (fun b=>(b≠a/\(C b∨H b=none))/\b≠r) H' a t0
  |_=>Rep (fun b=>b≠a/\(C b∨H b=none)) H' v t/\Live (fun b=>b≠a/\(C b∨H b=none)) H' a t0
def spI(rk:Kd)(np:Nat)(fn:List T->Option (T × T)):Sp:=fun vs H Q _=>∃ C a us t0 ts t t1,(t0::ts).length=np/\vs=.ref a::us/\¬ C a/\Live C H a t0/\Reps C H us ts/\fn (t0::ts)=some (t,t1)/\∀ v H',CallI rk C a H t t1 v H'->Q v H'
def zaE(n:Nat)(ts:List T):Sg:=ts.map some++gQ (n - ts.length) none
def fnP(n:Nat)(d:DS):List T->Option T:=fun ts=>match d (zaE n ts) with
 |some (.rt t _)=>some t
 |some (.nx _)=>some .non
 |_=>none
def zin(n:Nat)(d:DS):List T->Option T:=fun ts=>match d (zaE n ts) with
 |some (.rt t _)=>some t
 |_=>none
def fnI(n:Nat)(d:DS):List T->Option (T × T):=fun ts=>match d (zaE n ts) with
 |some (.rt t s)=>(s[0]?).join.map fun u=>(t,u)
 |_=>none
theorem zeR{N:List Str}{vs:List V}{ts:List T}{C:ji->Prop}{H:Hp}(r:Reps C H vs ts)(hl:ts.length<=N.length):(zaE N.length ts).length=(L2.start N vs).length/\∀(i:Nat) t,(zaE N.length ts)[i]?=some (some t)->∃ v,(L2.start N vs)[i]?=some (some v)/\ts[i]?=some t/\vs[i]?=some v/\Rep C H v t:=by
 have rl:=r.1;unfold zaE L2.start;refine⟨by simp[rl],fun i t e=>?_⟩
 by_cases hi:i < ts.length
 ·rw[Q6 (by rw[j5]; exact hi),jf] at e
  obtain⟨t',h1,h2⟩:=Qm e;injection h2 with h2;subst h2;obtain⟨v,hv,rv⟩:=r.get h1;refine⟨v,?_,h1,hv,rv⟩;rw[Q6 (by rw[j5,rl]; exact hi),jf,hv]
  rfl
 ·rw[Qc (by rw[j5]; lia)] at e
  have:=jJ e;have:=Yy this;cases this
section
variable {d:DS}{N:List Str}{np:Nat}
theorem zqh{fn:List T->Option T}(hfn:∀ ts t,fn ts=some t->(∃ s',d (zaE N.length ts)=some (.rt t s'))∨(rk=.e/\t=.non/\∃ s',d (zaE N.length ts)=some (.nx s')))(hrk:rk=.e∨rk=.n)(hN:np<=N.length){vs:List V}{H:Hp}{Q:VK}{E:XK}(h:spP rk np fn vs H Q E) :
  cS rk [] [] M' Mb d { nx:=fun _ H'=>Q .non H',rt:=Q } (L2.start N vs) H:=by
 obtain⟨C,ts,t,hl,r,hf,q⟩:=h;obtain⟨l1,l2⟩:=zeR (N:=N) r (by lia)
 have w:∀ b,C b->Free ⟨H,C,fun _=>False,fun _=>0⟩ (fun _=>False) b:=fun b c=>⟨fun z=>z,.inl c⟩;have R:Rel ⟨H,C,fun _=>False,fun _=>0⟩ (fun _=>False) [] (zaE N.length ts) (L2.start N vs) H:=by
  refine⟨l1,fun i t e _=>?_,fun i t e n=>by simp at n,fun i a n=>by simp at n,fun i j a n=>by simp at n,fun b o _ e=>e,fun b e=>e,fun a z=>z.elim,fun a z=>z,fun a z=>z.elim⟩
  obtain⟨v,h1,_,_,rv⟩:=l2 i t e;exact⟨v,h1,rv.mono w fun _ _ _ e=>e⟩
 have I:Ios ⟨H,C,fun _=>False,fun _=>0⟩ [] [] (L2.start N vs):=⟨fun i hi=>by simp at hi,fun a z=>z.elim⟩
 rcases hfn ts t hf with ⟨s',hd⟩ |⟨e1,e2,s',hd⟩
 ·refine⟨_,_,_,_,R,I,hd,fun v H' ro=>q v H' ⟨fun b o e=>ro.keep b o (fun z=>z) e,ro.dom,?_⟩⟩;rcases hrk with rfl |rfl
  ·exact ro.res.1.mono (fun b c=>c.2) fun _ _ _ e=>e
  ·obtain⟨r,h1,h2,_,h3,_⟩:=ro.res;exact⟨r,h1,h2,h3.mono (fun b c=>⟨c.1.2,c.2⟩) (fun _ _ _ e=>e) fun _ e=>e⟩
 ·subst e1 e2;refine⟨_,_,_,_,R,I,hd,fun O' σ' H' k R' I'=>q .non H' ⟨fun b o e=>R'.keep b o (fun z=>z) e,R'.dom,.non⟩⟩
theorem zsq(hrk:rk=.e∨rk=.n)(hN:np<=N.length){vs:List V}{H:Hp}{Q:VK}{E:XK}(h:spI rk np (fnI N.length d) vs H Q E) :
  cS rk [0] [0] M' Mb d { nx:=fun _ H'=>Q .non H',rt:=Q } (L2.start N vs) H:=by
 obtain⟨C,a,us,t0,ts,t,t1,hl,rfl,na,L,r,hf,q⟩:=h;have hlu:us.length+1<=N.length:=by rw[r.1]; simpa using Q9 (Nat.le_of_eq hl) hN
 have r':Reps (fun b=>C b∨b=a) H (.ref a::us) (t0::ts):=.cons (L.rep (fun b c=>.inl c) (.inr rfl)) (r.mono (fun b c=>.inl c) fun _ _ _ e=>e);obtain⟨l1,l2⟩:=zeR (N:=N) r' (by rw[hl]; exact hN)
 have w:∀ b,C b->Free ⟨H,C,fun b=>b=a,fun _=>a⟩ (fun b=>b=a) b:=fun b c=>⟨fun z=>na (z▸c),.inl c⟩;have e0:(L2.start N (.ref a::us))[0]?=some (some (.ref a)):=rfl;have R:Rel ⟨H,C,fun b=>b=a,fun _=>a⟩ (fun b=>b=a) [0] (zaE N.length (t0::ts)) (L2.start N (.ref a::us)) H:=by
  refine⟨l1,fun i t e n=>?_,fun i t e n=>?_,fun i b n e=>?_,fun i j b n m _ _=>?_,fun b o _ e=>e,fun b e=>e,fun b z=>.inl z,fun b z=>z,fun b z=>z▸L.ne⟩
  ·obtain⟨v,h1,h2,h3,_⟩:=l2 i t e;cases i with
   |zero=>simp at n
   |succ i=>
    have rv:=r.2 i v t (by simpa using h3) (by simpa using h2)
    exact⟨v,h1,rv.mono w fun _ _ _ e=>e⟩
  ·obtain rfl:i=0:=by simpa using n
   obtain⟨v,h1,h2,h3,_⟩:=l2 0 t e;have:t0=t:=by simpa using h2
   subst this;exact⟨a,e0,L.mono w (fun _ _ _ e=>e) fun _ e=>e⟩
  ·obtain rfl:i=0:=by simpa using n
   rw[e0] at e;injection e with e;injection e with e;injection e with e;exact e.symm
  ·have h1:i=0:=by simpa using n
   have h2:j=0:=by simpa using m
   rw[h1,h2]
 have I:Ios ⟨H,C,fun b=>b=a,fun _=>a⟩ [0] [0] (L2.start N (.ref a::us)):=⟨fun i hi=>by
  obtain rfl:i=0:=by simpa using hi
  exact⟨by simp,e0⟩,fun b z=>⟨0,by simp,z⟩⟩
 unfold fnI at hf;cases hd:d (zaE N.length (t0::ts)) with
 |none=>rw[hd] at hf; cases hf
 |some r1=>
  rw[hd] at hf;cases r1 with
  |rt t' s'=>
   obtain⟨u,h1,h2⟩:=Qm hf;injection h2 with h2 h3;subst h2 h3;refine⟨_,_,_,_,R,I,hd,fun v H' ro=>q v H' ⟨fun b o n e=>ro.keep b o n e,ro.dom,?_⟩⟩;rcases hrk with rfl |rfl
   ·obtain⟨h2,h3⟩:=ro.res;obtain⟨t2,h4,h5⟩:=h3 0 (by simp)
    rw[zae h1] at h4;injection h4 with h4;injection h4 with h4;subst h4;exact⟨h2,h5⟩
   ·obtain⟨r,h2,h3,_,h4,h5⟩:=ro.res;obtain⟨t2,h6,h7⟩:=h5 0 (by simp)
    rw[zae h1] at h6;injection h6 with h6;injection h6 with h6;subst h6;exact⟨r,h2,h3,h4,h7⟩
  |nx s'=>cases hf
  |bk s'=>cases hf
  |ct s'=>cases hf
end
section
variable {F:Fr}{O:ji->Prop}{s:Sg}{σ:L2.St}{H H':Hp}
theorem Rel.ext(R:Rel F O M s σ H)(k:∀ b o,H b=some o->H' b=some o)(dm:∀ b,H' b=none->H b=none):Rel F O M s σ H' where
 len:=R.len
 val:=fun i t e n=>by
  obtain⟨v,h1,h2⟩:=R.val i t e n;exact⟨v,h1,h2.mono (fun _ c=>c) fun b o _ e=>k b o e⟩
 own:=fun i t e n=>by
  obtain⟨a,h1,h2⟩:=R.own i t e n;exact⟨a,h1,h2.mono (fun _ c=>c) (fun b o _ e=>k b o e) fun o e=>k a o e⟩
 ow:=R.ow
 dis:=R.dis
 keep:=fun b o n e=>k b o (R.keep b o n e)
 dom:=fun b e=>R.dom b (dm b e)
 fresh:=R.fresh
 inD:=R.inD
 al:=fun a z e=>R.al a z (dm a e)
theorem Rel.extN{r:ji}(R:Rel F O M s σ H)(k:∀ b o,H b=some o->H' b=some o)(dm:∀ b,H' b=none->H b=none)(hr:H r=none)(hr':H' r≠none):Rel F (fun b=>O b∨b=r) M s σ H':=by
 have R':=R.ext k dm;have fr:∀ b,Free F O b/\H b≠none->Free F (fun b=>O b∨b=r) b:=fun b c=>⟨fun z=>z.elim c.1.1 fun z=>c.2 (z▸hr),c.1.2⟩;refine⟨R.len,fun i t e n=>?_,fun i t e n=>?_,fun i b hi e=>.inl (R.ow i b hi e),R.dis,R'.keep,R'.dom,fun b z=>?_,fun b z=>.inl (R.inD b z),fun b z=>?_⟩
 ·obtain⟨v,h1,h2⟩:=R.val i t e n;exact⟨v,h1,h2.there.mono fr fun b o _ e=>k b o e⟩
 ·obtain⟨b,h1,h2⟩:=R.own i t e n;exact⟨b,h1,h2.there.mono fr (fun b o _ e=>k b o e) fun o e=>k b o e⟩
 ·rcases z with z |z
  ·exact R.fresh b z
  ·subst z; exact .inr (R.dom _ hr)
 ·rcases z with z |z
  ·exact R'.al b z
  ·subst z; exact hr'
theorem Rel.freeNew(R:Rel F O M s σ H){b:ji}(h:Free F O b∨H b=none):Free F O b:=h.elim id fun z=>⟨fun w=>R.al b w z,.inr (R.dom b z)⟩
end
def Ar(fa:DA)(n:Nat):Prop:=∀ s ts s',fa s=some (ts,s')->ts.length=n
theorem ztQ:Ar dAn 0:=fun s ts s' h=>by
 injection h with h;injection h with h1 _;rw[<-h1]; rfl
theorem ar_{f:DE}{fa:DA}{n:Nat}(h:Ar fa n):Ar (dAc f fa) (n+1):=fun s ts s' e=>by
 obtain⟨p,h1,h2⟩:=Qb e;obtain⟨q,h3,h4⟩:=Qm h2;injection h4 with h4 _;rw[<-h4,jp,h _ _ _ h3]
def zai(fn:List T->Option T)(fa:DA):DE:=fun s=>(fa s).bind fun p=>(fn p.1).map fun t=>(t,p.2)
def zfa(fn:List T->Option (T × T))(i:Nat)(fa:DA):DE:=fun s=>(s[i]?).join.bind fun _=>(fa s).bind fun p=>(p.2[i]?).join.bind fun t0=>(fn (t0::p.1)).map fun q=>(q.1,p.2.set i (some q.2))
def zgQ(fn:List T->Option (T × T))(f0:DE)(fa:DA):DE:=fun s=>(f0 s).bind fun p=>(fa p.2).bind fun q=>(fn (p.1::q.1)).map fun r=>(r.1,q.2)
section
variable {f0:DE}{np:Nat}
theorem ztM{fn:List T->Option T}(hn:Ar fa np):∀ σ H Q,cE .e M (zai fn fa) σ H Q->zgd (spP .e np fn) [] E0 (cA M fa) σ H Q:=by
 intro σ H Q h_;refine cE_ h_ fun F O s t s' R hf q=>?_;obtain⟨p,h1,h2⟩:=Qb hf;obtain⟨t',h3,h4⟩:=Qm h2;injection h4 with h4 h5;subst h4 h5;refine⟨F,O,s,p.1,p.2,R,h1,fun vs H1 S1 R1 rs=>?_⟩
 try dsimp only
 rw[Q8];refine⟨Free F O,p.1,t',hn _ _ _ h1,rs,h3,fun v H2 c=>q v H2 (S1.trans ⟨fun b o _ e=>c.keep b o e,c.dom⟩) ⟨R1.ext c.keep c.dom,?_⟩⟩;exact c.res.mono (fun b z=>R1.freeNew z) fun _ _ _ e=>e
theorem ztL{fn:List T->Option T}(hn:Ar fa np):∀ σ H Q,cE .n M (zai fn fa) σ H Q->zgd (spP .n np fn) [] E0 (cA M fa) σ H Q:=by
 intro σ H Q h_;refine cE_ h_ fun F O s t s' R hf q=>?_;obtain⟨p,h1,h2⟩:=Qb hf;obtain⟨t',h3,h4⟩:=Qm h2;injection h4 with h4 h5;subst h4 h5;refine⟨F,O,s,p.1,p.2,R,h1,fun vs H1 S1 R1 rs=>?_⟩
 try dsimp only
 rw[Q8];refine⟨Free F O,p.1,t',hn _ _ _ h1,rs,h3,fun v H2 c=>?_⟩;obtain⟨r,rfl,hr,L⟩:=c.res;refine q _ H2 (S1.trans ⟨fun b o _ e=>c.keep b o e,c.dom⟩) ⟨r,rfl,S1.dom r hr,R1.extN c.keep c.dom hr L.ne,L.mono (fun b z=>?_) (fun _ _ _ e=>e) fun _ e=>e⟩;have:=R1.freeNew z.1;exact⟨fun y=>y.elim this.1 z.2,this.2⟩
theorem zru{fn:List T->Option (T × T)}{i:Nat}(hn:Ar fa np)(hi:M.contains i=true):∀ σ H Q,cE .e M (zfa fn i fa) σ H Q->zgd (spI .e (np+1) fn) [] E0 (zeP (zeO i) (cA M fa)) σ H Q:=by
 intro σ H Q h_;refine cE_ h_ fun F O s t s' R hf q=>?_;have hi':i∈M:=by simpa using hi
 obtain⟨x0,h0,hf⟩:=Qb hf;obtain⟨p,h1,hf⟩:=Qb hf;obtain⟨t0,h2,hf⟩:=Qb hf;obtain⟨w,h3,h4⟩:=Qm hf;injection h4 with h4 h5;subst h4 h5;obtain⟨a,e1,_⟩:=R.own i x0 (zae h0) hi';refine⟨_,e1,F,O,s,p.1,p.2,R,h1,fun vs H1 S1 R1 rs=>?_⟩;obtain⟨b,e2,L⟩:=R1.own i t0 (zae h2) hi';rw[e1] at e2;injection e2 with e2;injection e2 with e2;injection e2 with e2;subst e2;have oa:=R1.ow i a hi' e1
 try dsimp only
 rw[Q8];refine⟨Free F O,a,vs,t0,p.1,w.1,w.2,by rw[jp,hn _ _ _ h1],rfl,fun z=>z.1 oa,L,rs,h3,fun v H2 c=>?_⟩
 obtain⟨c1,c2⟩:=c.res;have S2:Step σ M H1 H2:=⟨fun b o n e=>c.keep b o (fun z=>n i hi' (z▸e1)) e,c.dom⟩;have fr:∀ b,(b≠a/\(Free F O b∨H1 b=none))->Free F O b:=fun b z=>R1.freeNew z.2;have kf:∀ b u,Free F O b->H1 b=some u->H2 b=some u:=fun b u z e=>c.keep b u (fun y=>z.1 (y▸oa)) e;have hl:i < p.2.length:=(j9.mp (zae h2)).1;refine q v H2 (S1.trans S2) ⟨?_,c1.mono fr fun _ _ _ e=>e⟩;refine⟨by rw[Q0]; exact R1.len,fun j t e' n=>?_,fun j t e' n=>?_,R1.ow,R1.dis,fun b u n e=>?_,fun b e=>R1.dom b (c.dom b e),R1.fresh,R1.inD,fun b z e=>R1.al b z (c.dom b e)⟩
 ·have hij:i≠j:=fun z=>n (z▸hi');rw[jd hij] at e';obtain⟨v,h1,h2⟩:=R1.val j t e' n;exact⟨v,h1,h2.mono (fun _ c=>c) kf⟩
 ·by_cases hij:i=j
  ·subst hij;rw[jG hl] at e';injection e' with e';injection e' with e';subst e';exact⟨a,e1,c2.mono fr (fun _ _ _ e=>e) fun _ e=>e⟩
  ·rw[jd hij] at e';obtain⟨b,h1,h2⟩:=R1.own j t e' n;have hne:b≠a:=fun z=>hij (R1.dis i j a hi' n e1 (z▸h1));exact⟨b,h1,h2.mono (fun _ c=>c) kf fun u e=>c.keep b u hne e⟩
 ·refine c.keep b u (fun z=>?_) (R1.keep b u n e);subst z;rcases R1.fresh b oa with z |z
  ·exact n z
  ·rw[z] at e; cases e
theorem zrt{fn:List T->Option (T × T)}(hrk:rk=.e∨rk=.n)(hn:Ar fa np):∀ σ H Q,cE rk M (zgQ fn f0 fa) σ H Q->zgd (spI rk (np+1) fn) [] E0 (zeP (cE .n M f0) (cA M fa)) σ H Q:=by
 intro σ H Q h_;refine cE_ h_ fun F O s t s' R hf q=>?_;obtain⟨p,h1,hf⟩:=Qb hf;obtain⟨w,h2,hf⟩:=Qb hf;obtain⟨u,h3,h4⟩:=Qm hf;injection h4 with h4 h5;subst h4 h5;refine⟨F,O,s,p.1,p.2,R,h1,fun v0 H1 S1 p1=>?_⟩;obtain⟨a,rfl,ha,R1,L⟩:=p1;refine⟨F,_,p.2,w.1,w.2,R1,h2,fun vs H2 S2 R2 rs=>?_⟩;have na:∀(j:Nat),j∈M->σ[j]?≠some (some (.ref a)):=fun j hj e=>R.al a (R.ow j a hj e) ha;have L2:Live (Free F (fun b=>O b∨b=a)) H2 a p.1:=L.mono (fun _ c=>c) (fun b o c e=>S2.keep b o (R1.notOwned c.1) e) fun o e=>S2.keep a o na e
 try dsimp only
 rw[Q8];refine⟨Free F (fun b=>O b∨b=a),a,vs,p.1,w.1,u.1,u.2,by rw[jp,hn _ _ _ h2],rfl,fun z=>z.1 (.inr rfl),L2,rs,h3,fun v H3 c=>?_⟩
 have S:Step σ M H H3:=⟨fun b o n e=>c.keep b o (zaa e ha) ((S1.trans S2).keep b o n e),fun b e=>(S1.trans S2).dom b (c.dom b e)⟩;have RO:Rel F O M w.2 σ H2:=R2.less (fun b z=>.inl z) R.ow R.inD
 -- all but a is kept; a is nobody's
 have k3:∀ b o,b≠a->H2 b=some o->H3 b=some o:=fun b o n e=>c.keep b o n e;have fa':∀ b,Free F (fun b=>O b∨b=a) b->Free F O b:=fun b z=>z.weak fun b y=>.inl y;have R3:Rel F (fun b=>O b∨b=a) M w.2 σ H3:=by
  refine⟨R2.len,fun i t e n=>?_,fun i t e n=>?_,R2.ow,R2.dis,fun b o n e=>?_,fun b e=>R2.dom b (c.dom b e),R2.fresh,R2.inD,fun b z e=>R2.al b z (c.dom b e)⟩
  ·obtain⟨v,h1,h2⟩:=R2.val i t e n;exact⟨v,h1,h2.mono (fun _ c=>c) fun b o z e=>k3 b o (fun y=>z.1 (.inr y)) e⟩
  ·obtain⟨b,h1,h2⟩:=R2.own i t e n;exact⟨b,h1,h2.mono (fun _ c=>c) (fun b o z e=>k3 b o (fun y=>z.1 (.inr y)) e) fun o e=>k3 b o (fun z=>na i n (z▸h1)) e⟩
  ·refine k3 b o (fun z=>?_) (R2.keep b o n e);subst z;have:=R.dom b ha;rw[this] at e; cases e
 have R3O:Rel F O M w.2 σ H3:=R3.less (fun b z=>.inl z) R.ow R.inD;have frn:∀ b,(b≠a/\(Free F (fun b=>O b∨b=a) b∨H2 b=none))->Free F O b:=fun b z=>z.2.elim (fa' b) fun y=>⟨fun x=>RO.al b x y,.inr (RO.dom b y)⟩;rcases hrk with rfl |rfl
 ·exact q v H3 S ⟨R3O,c.res.1.mono frn fun _ _ _ e=>e⟩
 ·obtain⟨r,rfl,hr,c1,_⟩:=c.res;have nr:∀ b,Free F O b/\H2 b≠none->Free F (fun b=>O b∨b=r) b:=fun b z=>⟨fun y=>y.elim z.1.1 fun y=>z.2 (y▸hr),z.1.2⟩;refine q _ H3 S ⟨r,rfl,S1.dom r (S2.dom r hr),?_,c1.mono (fun b z=>?_) (fun _ _ _ e=>e) fun _ e=>e⟩
  ·refine⟨R2.len,fun i t e n=>?_,fun i t e n=>?_,fun i b hi e=>.inl (R.ow i b hi e),R2.dis,R3.keep,R3.dom,fun b z=>?_,fun b z=>.inl (R.inD b z),fun b z=>?_⟩
   ·obtain⟨v,h1,h2⟩:=R2.val i t e n;exact⟨v,h1,h2.there.mono (fun b z=>nr b ⟨fa' b z.1,z.2⟩) fun b o z e=>k3 b o (fun y=>z.1.1 (.inr y)) e⟩
   ·obtain⟨b,h1,h2⟩:=R2.own i t e n;exact⟨b,h1,h2.there.mono (fun b z=>nr b ⟨fa' b z.1,z.2⟩) (fun b o z e=>k3 b o (fun y=>z.1.1 (.inr y)) e) fun o e=>k3 b o (fun z=>na i n (z▸h1)) e⟩
   ·rcases z with z |z
    ·exact RO.fresh b z
    ·subst z; exact .inr (RO.dom _ hr)
   ·rcases z with z |z
    ·exact R3O.al b z
    ·subst z; exact c1.ne
  ·have:=frn b z.1;exact⟨fun y=>y.elim this.1 z.2,this.2⟩
end
def S1E(r:List V->Hp->VK->Prop)(g:T->Option T):Prop:=∀(C:ji->Prop) (H:Hp) x tx t (Q:VK),BRep C H x tx->g tx=some t->(∀ v,Rep C H v t->Q v H)->r [x] H Q
def S1N(r:List V->Hp->VK->Prop)(g:T->Option T):Prop:=∀(C:ji->Prop) (H:Hp) x tx t (Q:VK),BRep C H x tx->g tx=some t->
 (∀ p o,H p=none->(∀ C':ji->Prop,(∀ b,C b/\H b≠none->C' b)->Live C' (upd H p o) p t)->Q (.ref p) (upd H p o))->r [x] H Q
def d1(g:T->Option T)(f:DE):DE:=fun s=>(f s).bind fun p=>(g p.1).map fun t=>(t,p.2)
section
variable {f:DE}
theorem zt6{r:List V->Hp->VK->Prop}{g:T->Option T}(h:S1E r g):∀ σ H Q,cE .e M (d1 g f) σ H Q->tCB r (zeP (cE .b M f) znR) σ H Q:=by
 intro σ H Q h_;refine cE_ h_ fun F O s t s' R hf q=>?_;obtain⟨p,h1,h2⟩:=Qb hf;obtain⟨t',h3,h4⟩:=Qm h2;injection h4 with h4 h5;subst h4 h5;exact⟨F,O,s,p.1,p.2,R,h1,fun v H1 S1 p1=>h (Free F O) H1 v p.1 t' Q p1.view h3 fun w rw=>q w H1 S1 ⟨p1.1,rw⟩⟩
theorem zvt{r:List V->Hp->VK->Prop}{g:T->Option T}(h:S1N r g):∀ σ H Q,cE .n M (d1 g f) σ H Q->tCB r (zeP (cE .b M f) znR) σ H Q:=by
 intro σ H Q h_;refine cE_ h_ fun F O s t s' R hf q=>?_;obtain⟨p,h1,h2⟩:=Qb hf;obtain⟨t',h3,h4⟩:=Qm h2;injection h4 with h4 h5;subst h4 h5;exact⟨F,O,s,p.1,p.2,R,h1,fun v H1 S1 p1=>h (Free F O) H1 v p.1 t' Q p1.view h3 fun a o ha L=>q _ _ (S1.trans (.new ha o)) (.mkN R p1.1 S1 ha L)⟩
end
theorem CallR.or{X:Cx}{f:j6}{r r':List V->Hp->VK->Prop}(h:CallR X f r)(h':CallR X f r'):CallR X f (fun xs H Q=>r xs H Q∨r' xs H Q):=by
 intro pc s σ H xs us Q I rv q;rcases q with q |q
 ·exact h pc s σ H xs us Q I rv q
 ·exact h' pc s σ H xs us Q I rv q
theorem znI{X:Cx}:CallR X (.builtin "len") (fun xs H Q=>∃ a kvs,xs=[V.ref a]/\Rd H a (.dK kvs)/\Q (.int kvs.length) H):=by
 intro pc s σ H xs us Q I r h;obtain⟨a,kvs,rfl,ha,q⟩:=h;obtain⟨u,rfl,ru⟩:=zma r;cases ru;exact zvW I ha fun t s' I'=>⟨.int kvs.length,H,I',⟨t,rfl⟩,q⟩
def zcm:T->Option T
 |.lst xs=>some (.int xs.length) |.tup xs=>some (.int xs.length) |.scr xs=>some (.int xs.length) |.dct xs=>some (.int xs.length) |.fd xs=>some (.int xs.length)
 |.str x=>if x.length<=jn then some (.int x.length) else none
 |_=>none
theorem zv3:S1E (fun xs H Q=>((∃ p ys,xs=[.ref p]/\(SqL TheK.K H p ys∨SqT TheK.K H p ys)/\Q (.int ys.length) H)∨(∃ z,xs=[.str z]/\z.length<=jn/\Q (.int z.length) H))∨∃ a kvs,xs=[V.ref a]/\Rd H a (.dK kvs)/\Q (.int kvs.length) H) zcm:=by
 intro C H x tx t Q bx hg q;cases tx with
 |lst ts=>
  injection hg with hg; subst hg;obtain⟨a,vs,rfl,ha,ra⟩:=bx.lst;exact .inl (.inl ⟨a,vs,rfl,.inl (SqL.of ha),by rw[ra.1]; exact q _ (.int _)⟩)
 |tup ts=>
  injection hg with hg; subst hg;obtain⟨a,vs,rfl,ha,ra⟩:=bx.tup;exact .inl (.inl ⟨a,vs,rfl,.inr (SqT.of ha),by rw[ra.1]; exact q _ (.int _)⟩)
 |scr ns=>
  injection hg with hg; subst hg;obtain⟨a,rfl,ha⟩:=bx.scr;exact .inl (.inl ⟨a,_,rfl,.inl ha,by rw[j5]; exact q _ (.int _)⟩)
 |dct ks=>
  injection hg with hg; subst hg;obtain⟨a,kvs,rfl,ha,ra⟩:=bx.dct;exact .inr ⟨a,kvs,rfl,.inl ha,by rw[ra.len]; exact q _ (.int _)⟩
 |fd ks=>
  injection hg with hg; subst hg;obtain⟨a,ob,kvs,rfl,ha,ra,_⟩:=bx.fd;exact .inr ⟨a,kvs,rfl,.inr ⟨ob,ha⟩,by rw[ra.len]; exact q _ (.int _)⟩
 |str z=>
  have hg:(if z.length<=jn then some (T.int z.length) else none)=some t:=hg
  split at hg
  ·rename_i hl;injection hg with hg; subst hg;exact .inl (.inr ⟨z,by rw[bx.str],hl,q _ (.int _)⟩)
  ·cases hg
 |_=>cases hg
def zvO:T->Option T
 |.lst xs=>some (.lst xs) |.tup xs=>some (.lst xs) |.scr ns=>some (.lst (ns.map .int))
 |_=>none
theorem zmu:S1N (fun xs H Q=>∃ p ys,xs=[.ref p]/\(SqL TheK.K H p ys∨SqT TheK.K H p ys)/\∀ l,H l=none->Q (.ref l) (upd H l (.lst ys))) zvO:=by
 intro C H x tx t Q bx hg q;cases tx with
 |lst ts=>
  injection hg with hg; subst hg;obtain⟨a,vs,rfl,ha,ra⟩:=bx.lst;exact⟨a,vs,rfl,.inl (SqL.of ha),fun p hp=>q p _ hp fun C' hC=>.lst zad (ra.there.mono hC fun c o _ e=>by rw[za6 (zaa e hp)]; exact e)⟩
 |tup ts=>
  injection hg with hg; subst hg;obtain⟨a,vs,rfl,ha,ra⟩:=bx.tup;exact⟨a,vs,rfl,.inr (SqT.of ha),fun p hp=>q p _ hp fun C' hC=>.lst zad (ra.there.mono hC fun c o _ e=>by rw[za6 (zaa e hp)]; exact e)⟩
 |scr ns=>
  injection hg with hg; subst hg;obtain⟨a,rfl,ha⟩:=bx.scr;exact⟨a,_,rfl,.inl ha,fun p hp=>q p _ hp fun C' hC=>.lst zad (zdN _)⟩
 |_=>cases hg
def isi(c:String):T->Option Bool
 |.non=>some (c == "NoneType") |.bl _=>some (c == "bool"||c == "int") |.int _=>some (c == "int") |.str _=>some (c == "str")
 |.lst _=>some (c == "list") |.tup _=>some (c == "tuple") |.dct _=>some (c == "dict")
 |_=>none
def zu9(c:String)(f:DE):DE:=d1 (fun t=>(isi c t).map .bl) f
def zu4(c:String):Bool:=["NoneType","bool","int","str","list","tuple","dict"].contains c
theorem ztn{K:j8}{C:ji->Prop}{H:Hp}{v:V}{t:T}{c:String}{b:Bool}(hc:zu4 c=true)(h:BRep C H v t)(e:isi c t=some b):∃ ty,TyOf K H v ty/\gP K ty (.type c)=some b:=by
 have hc':c="NoneType"∨c="bool"∨c="int"∨c="str"∨c="list"∨c="tuple"∨c="dict":=by simpa[zu4] using hc
 cases t with
 |non=>obtain rfl:=h.non; injection e with e; subst e; refine⟨_,.non,?_⟩; rcases hc' with rfl |rfl |rfl |rfl |rfl |rfl |rfl<;>rfl
 |bl x=>obtain rfl:=h.bl; injection e with e; subst e; refine⟨_,.bl x,?_⟩; rcases hc' with rfl |rfl |rfl |rfl |rfl |rfl |rfl<;>rfl
 |int x=>obtain rfl:=h.int; injection e with e; subst e; refine⟨_,.int x,?_⟩; rcases hc' with rfl |rfl |rfl |rfl |rfl |rfl |rfl<;>rfl
 |str x=>obtain rfl:=h.str; injection e with e; subst e; refine⟨_,.str x,?_⟩; rcases hc' with rfl |rfl |rfl |rfl |rfl |rfl |rfl<;>rfl
 |lst ts=>
  obtain⟨a,vs,rfl,ha,ra⟩:=h.lst;injection e with e; subst e; refine⟨_,.lst ha,?_⟩; rcases hc' with rfl |rfl |rfl |rfl |rfl |rfl |rfl<;>rfl
 |tup ts=>
  obtain⟨a,vs,rfl,ha,ra⟩:=h.tup;injection e with e; subst e; refine⟨_,.tup ha,?_⟩; rcases hc' with rfl |rfl |rfl |rfl |rfl |rfl |rfl<;>rfl
 |dct ts=>
  obtain⟨a,vs,rfl,ha,ra⟩:=h.dct;injection e with e; subst e; refine⟨_,.dK ha,?_⟩; rcases hc' with rfl |rfl |rfl |rfl |rfl |rfl |rfl<;>rfl
 |scr ns=>cases e
 |set=>cases e
 |fd=>cases e
 |any=>cases e
theorem zvE{M:List Nat}{f:DE}{K:j8}{c:String}(hc:zu4 c=true):∀ σ H Q,cE .e M (zu9 c f) σ H Q->tCB (zwo K) (zeP (cE .b M f) (zeP (tC (.ty c)) znR)) σ H Q:=by
 intro σ H Q h_;refine cE_ h_ fun F O s t s' R hf q=>?_;obtain⟨p,h1,h2⟩:=Qb hf;obtain⟨t',h3,h4⟩:=Qm h2;obtain⟨b,h5,h6⟩:=Qm h3;injection h4 with h4 h7;subst h4 h7 h6;refine⟨F,O,s,p.1,p.2,R,h1,fun v H1 S1 p1=>?_⟩;obtain⟨ty,g1,g2⟩:=ztn (K:=K) hc p1.view h5;exact⟨v,c,ty,b,rfl,g1,g2,q _ H1 S1 ⟨p1.1,.bl b⟩⟩
def zhv:List T->Option (List Str)
 |[]=>some []
 |.str x::ts=>(zhv ts).map fun r=>x::r
 |_=>none
theorem zhu{C:ji->Prop}{H:Hp}:∀ {vs:List V} {ts:List T} {ys:List Str},Reps C H vs ts->zhv ts=some ys->vs=ys.map V.str
 |[],[],ys,_,e=>by injection e with e; subst e; rfl
 |v::vs,[],ys,h,_=>by have:=h.1; simp at this
 |[],t::ts,ys,h,_=>by have:=h.1; simp at this
 |v::vs,t::ts,ys,h,e=>by
  cases t with
  |str x=>
   obtain⟨r,h1,h2⟩:=Qm (show (zhv ts).map (fun r=>x::r)=some ys from e);subst h2;rw[jr,zhu h.tail h1,BRep.str (.inl h.head)]
  |_=>cases e
theorem zpE{x:V}:∀ {ys:List V} {us:List j6},Vals ys us->ys.all zft=true->us.countP (eqU x)=ys.countP fun y=>eqV y x
 |[],_,.nil,_=>rfl
 |y::ys,u::us,.cons r t,h=>by
  rw[Y2,jD] at h;rw[J1,J1,zpE t h.2,znA r h.1]
def zjK:V->List V->Hp->VK->Prop:=fun x vs H Q=>∃(l:ji) (ys:List V) (z:V),x=.ref l/\vs=[z]/\zft z=true/\ys.all zft=true/\H l=some (.lst ys)/\Q (.int (ys.countP (fun y=>eqV y z):Nat)) H
theorem zna{X:Cx}:MtR X "list.count" zjK:=by
 intro pc s sg H x vs v us Q I rx rv h;obtain⟨l,ys,z,rfl,rfl,fz,fy,hH,q⟩:=h;cases rx;obtain⟨u,rfl,ru⟩:=rv.one;obtain⟨its,n,r,e,hz⟩:=I.lst hH;refine WA F.slot_list_count ⟨_,e,rfl⟩ F.entry_list_count (F.args_list_count_2 _ _) (SeqAt.list_countAt l its.toArray n none #[] u (eqU z)) ⟨e,fun w hw=>zg2 ru fz r fy w (by simpa using hw),?_⟩
 refine⟨.int (ys.countP (fun y=>eqV y z):Nat),H,I.tok _,⟨s.toks,?_⟩,q⟩;rw[List.toList_toArray,zpE r fy]
def zhn(x y:T):Option T:=match x with
 |.lst ts=>(zkA ts).bind fun vs=>(toV y).map fun v=>.int (vs.countP (fun u=>eqV u v):Nat)
 |_=>none
def S2M(r:V->List V->Hp->VK->Prop)(g:T->T->Option T):Prop:=∀(C:ji->Prop) (H:Hp) x y tx ty t (Q:VK),BRep C H x tx->BRep C H y ty->g tx ty=some t->(∀ v,Rep C H v t->Q v H)->r x [y] H Q
def d2L(g:T->T->Option T)(fa fb:DE):DE:=fun s=>(fa s).bind fun p=>if znl p.1 then (fb p.2).bind fun q=>(g p.1 q.1).map fun t=>(t,q.2) else none
theorem zxh{M:List Nat}{fa fb:DE}{K:j8}{r:V->List V->Hp->VK->Prop}{g:T->T->Option T}(h:S2M r g):∀ σ H Q,cE .e M (d2L g fa fb) σ H Q->tBM K "list" r (cE .e M fa) (zeP (cE .b M fb) znR) σ H Q:=by
 intro σ H Q h_;refine cE_ h_ fun F O s t s' R hf q=>?_;obtain⟨p,h1,h2⟩:=Qb hf;split at h2
 ·rename_i hl;obtain⟨w,h3,h4⟩:=Qb h2;obtain⟨t',h5,h6⟩:=Qm h4;injection h6 with h6 h7;subst h6 h7;refine⟨F,O,s,p.1,p.2,R,h1,fun v H1 S1 pa=>?_⟩;have ty:tyV K "list" v H1:=by
   obtain⟨ts,e⟩:∃ ts,p.1=.lst ts:=by cases e:p.1<;>first |exact⟨_,rfl⟩ |(rw[e] at hl; cases hl)
   have pr:=pa.2;rw[e] at pr;obtain⟨a,vs,rfl,ha,ra⟩:=BRep.lst (.inl pr);exact .inl ⟨rfl,_,SqL.of ha⟩
  refine⟨ty,F,O,p.2,w.1,w.2,pa.1,h3,fun u H2 S2 pb=>?_⟩;exact h (Free F O) H2 v u p.1 w.1 t' Q (.inl (pa.1.stay S2 pa.2)) pb.view h5 fun x rx=>q x H2 (S1.trans S2) ⟨pb.1,rx⟩
 ·cases h2
theorem zqf:S2M zjK zhn:=by
 intro C H x y tx ty t Q bx by' hg q;obtain⟨ts,rfl⟩:∃ ts,tx=.lst ts:=by cases tx<;>first |exact⟨_,rfl⟩ |cases hg
 obtain⟨vs,h1,h2⟩:=Qb (show ((zkA ts).bind fun vs=>(toV ty).map fun v=>T.int (vs.countP (fun u=>eqV u v):Nat))=some t from hg);obtain⟨v,h3,rfl⟩:=Qm h2;obtain⟨a,us,rfl,ha,ra⟩:=bx.lst;obtain⟨e1,e2⟩:=zjB ra h1;obtain⟨e3,e4⟩:=zmj by' h3;subst e1 e3;exact⟨a,_,_,rfl,rfl,e4,e2,ha,q _ (.int _)⟩
end L3
namespace L2
open PySem PySem.Spec PyProof.Rows
variable {X:Cx}{s:ja}{P:jE}{w:Qa}{A:Q3}{E:j6->ja->Prop}
section
variable {pc:List (ji × Obj)}{σ:St}{H:Hp}{a:ji}{kvs:List (Key × V)}
theorem Inv.known(I:Inv X pc σ H s)(e:H a=some (.dK kvs)):∃ o,Inv X pc σ (upd H a (.frz o (.dK kvs))) s:=by
 obtain⟨z,hd,vs,rel,o,es,ep,ho,r⟩:=zri I.hok e;refine⟨o,?_⟩;have ne:∀ {b:ji},H b=none->b≠a:=fun {b} hb z=>by rw[z,e] at hb; cases hb
 refine⟨I.ok,I.os,I.bare,⟨fun b ob hb n1 n2 n3=>I.base.keep b ob hb n1 n2 n3,fun b ob hb n1 n2 n3=>I.base.slot b ob hb n1 n2 n3,fun b ob hb n1 n2=>?_,fun b ob hb n1=>I.base.there b ob hb n1,fun b xs hb=>?_,fun b ob u hb=>?_,fun b ps hb=>?_⟩,I.loc,I.cell,?_,fun x c hc=>?_,fun p hp=>?_,fun b u hb=>?_,I.len⟩
 ·have:=I.base.free b ob hb n1 n2;rw[za6 (ne this)]; exact this
 ·have:=I.base.tups b xs hb;have hne:b≠a:=fun z=>by rw[z,e] at this; cases this
  rw[za6 hne]; exact this
 ·have:=I.base.frzs b ob u hb;have hne:b≠a:=fun z=>by rw[z,e] at this; cases this
  rw[za6 hne]; exact this
 ·obtain⟨more,this⟩:=I.base.tbls b ps hb;have hne:b≠a:=fun z=>by rw[z,e] at this; cases this
  exact⟨more,by rw[za6 hne]; exact this⟩
 ·rw[za6 (ne I.free)]; exact I.free
 ·have:=I.freeC x c hc;rw[za6 (ne this)]; exact this
 ·obtain⟨p1,p2,p3⟩:=I.pin p hp;exact⟨p1,by rw[za6 (ne p2)]; exact p2,p3⟩
 ·by_cases hba:b=a
  ·subst hba;rw[zad] at hb;cases hb;exact⟨ho,z,hd,vs,rel,o,es,ep,ho,r⟩
  ·rw[za6 hba] at hb;refine(I.hok b u hb).stay (fun c v _ q=>q) (fun c q=>?_) fun c xs q=>?_
   ·have hne:c≠a:=fun z=>by rw[z,e] at q; cases q
    rw[za6 hne]; exact q
   ·have hne:c≠a:=fun z=>by rw[z,e] at q; cases q
    rw[za6 hne]; exact q
end
def Itd(f:Key × V->V)(a:ji)(o:Obj):It:=
 ⟨fun i H=>∃ kvs x,H a=some (.frz o (.dK kvs))/\kvs[i]?=some x,fun i H x H'=>H'=H/\∀ kvs,H a=some (.frz o (.dK kvs))->(kvs[i]?).map f=some x,fun i H=>∃ kvs,H a=some (.frz o (.dK kvs))/\kvs.length<=i⟩
theorem zi2{X:Cx}{pc:List (ji × Obj)}{σ:St}{H:Hp}{s:ja}{a:ji}{o:Obj}{kvs:List (Key × V)}(I:Inv X pc σ H s)(e:H a=some (.frz o (.dK kvs))) :
  ∃ vs es ep,KV kvs vs/\s.heap.DictAt (zb9 X.prog X.w) a vs ep/\o.data=.dict es ep/\es.size=vs.length/\(a == ZB)=false:=by
 obtain⟨ho,z,hd,vs,rel,o',es,ep,ho',c,d,k,p,n⟩:=(show ObjOk X.prog X.w H s.heap a (.frz o (.dK kvs)) from I.hok a _ e);rw[ho] at ho';cases ho';exact⟨vs,es,ep,rel,⟨o,es,ho,c,d,k,p,n⟩,d,by rw[<-p.length]; simp,hd⟩
theorem zmi{P:jE}{w:Qa}{K:j8}{tg:Q4}(a it:ji)(o:Obj):Turn P w K tg (Itd (fun kv=>kV kv.1) a o) [it] it (fun i h=>∃ n ep es,h.IsKeyIter it a i n ep/\o.data=.dict es ep/\es.size=n) where
 mem:=by simp
 obj:=fun i h st b hb=>by
  have e:b=it:=by simpa using hb
  subst e;obtain⟨n,ep,es,⟨o',e,c,d⟩,_⟩:=st;exact⟨o',e,fun v z=>by rw[d] at z; cases z⟩
 keep:=fun i h h' ⟨n,ep,es,st,r⟩ k=>⟨n,ep,es,st.at fun o e=>k it (by simp) o e,r⟩
 item:=by
  intro X hP hw hK hc i pc s σ H E I hf st hg;subst hP hw hK;obtain⟨kvs,x,hq,hx⟩:=hg;obtain⟨n,ep,es,st,d1,d2⟩:=st;obtain⟨vs,es',ep',rel,da,d3,d4,hd⟩:=zi2 I hq;rw[d1] at d3;cases d3;obtain⟨y,hy,y1,y2⟩:=zps rel hx;obtain⟨f0,f1,f2,f3,f4,f5⟩:=hf it (by simp)
  rw[<-d2,d4] at st;refine wpAny_pyNext_dict_item st da (k:=y.1) (v:=y.2) hy fun key h' hkey st' sb=>?_;have I1:Inv X pc σ H { s with heap:=h' }:=I.turned (t':=s.toks) (fun b o hb e=>(sb.2 b hb).trans e) f0 f1 f3 f4 f5;obtain⟨o',e,c,d⟩:=id st';refine⟨key,rfl,zno (s:={ s with heap:=h' }) e c d (by decide) ⟨kV x.1,H,I1,y1▸zmy hkey,⟨rfl,fun kvs' h'=>?_⟩,⟨_,ep,es,st',d1,d4⟩,fun b hb=>(hf b hb).1⟩⟩
  rw[hq] at h';cases h';rw[hx]; rfl
 done:=by
  intro X hP hw hK hc i pc s σ H E I hf st hg;subst hP hw hK;obtain⟨kvs,hq,hx⟩:=hg;obtain⟨n,ep,es,st,d1,d2⟩:=st;obtain⟨vs,es',ep',rel,da,d3,d4,hd⟩:=zi2 I hq;rw[d1] at d3;cases d3;obtain⟨f0,f1,f2,f3,f4,f5⟩:=hf it (by simp)
  have hl:=rel.length;rw[<-d2,d4] at st;exact wpAny_pyNext_dict_end (I.ok.hd hc) st da (by rw[Yq]; lia) fun h' eb=>⟨rfl,I.turned (t':=s.toks) (fun b o hb e=>eb b o hb e) f0 f1 f3 f4 f5⟩
 self:=fun _ _ _ _ _ ⟨_,_,_,st,_⟩ h=>wpAny_pyIter_keyiter st h
def zvL(tl:TE):TI:=fun σ H R=>tl σ H fun x H1=>∃ a o kvs,x=.ref a/\H1 a=some (.frz o (.dK kvs))/\R (Itd (fun kv=>kV kv.1) a o) H1
theorem zqL{X:Cx}{tg l:Q4}{tl:TE}(hl:PE X l tl):PI X tg l (zvL tl):=by
 intro pc s σ H R I h;refine thn (hl pc s σ H _ I h) fun v s1 h_=>?_; obtain⟨x,H1,I1,r1,q1⟩:=h_;obtain⟨a,o,kvs,e,hq,q⟩:=q1;subst e;cases r1;obtain⟨vs,es,ep,rel,da,d3,d4,hd⟩:=zi2 I1 hq;refine wpAny_pyIter_dict hd da ?_;refine⟨s1.heap.objs.size,[s1.heap.objs.size],_,_,H1,rfl,I1.kept (t':=s1.toks) fun b o e=>jb _ e,zmi a _ o,⟨_,ep,es,⟨_,jN _ rfl,rfl,rfl⟩,d3,d4⟩,fun b hb=>?_,q⟩;have e:b=s1.heap.objs.size:=by simpa using hb
 subst e;exact I1.fpOk (jj _) (I1.hok.fresh (jj _))
def Its(x:Str):It:=⟨fun i _=>i < x.cps.size,fun i H v H'=>H'=H/\∃ c,x.cps[i]?=some c/\v=.str ⟨#[c]⟩,fun i _=>x.cps.size<=i⟩
theorem ziv{P:jE}{w:Qa}{K:j8}{tg:Q4}(it:ji)(x:Str)(t:Tok)(n:String)(hn:n="str_ascii_iterator"∨n="str_iterator"):Turn P w K tg (Its x) [it] it (fun i h=>h.IsStrIter it n x t i) where
 mem:=by simp
 obj:=fun i h st b hb=>by
  have e:b=it:=by simpa using hb
  subst e;obtain⟨o,e,c,d⟩:=st;exact⟨o,e,fun v z=>by rw[d] at z; cases z⟩
 keep:=fun i h h' st k=>let ⟨o,ho,r⟩:=st; ⟨o,k it (by simp) o ho,r⟩
 item:=by
  intro X hP hw hK hc i pc s σ H E I hf st hg;subst hP hw hK;obtain⟨f0,f1,f2,f3,f4,f5⟩:=hf it (by simp)
  have hg:i < x.cps.size:=hg;have fin:∀ h',h'.IsStrIter it n x t (i+1)->Qd it s.heap h'->∀ u,u=Zx ⟨#[x.cps[i]]⟩ s.toks->∃ u',some u=some u'/\jF (jH X.prog X.w) X.A (ZG tg (.ref it) u') (fun _ s2=>∃ y H',Inv X pc σ H' s2/\RelV y u'/\(Its x).yld i H y H'/\s2.heap.IsStrIter it n x t (i+1)/\∀ b∈[it],H' b=none) E { s with heap:=h',toks:=s.toks+1 }:=by
   intro h' st' sb u hu;have I1:Inv X pc σ H { s with heap:=h',toks:=s.toks+1 }:=I.turned (fun b o hb e=>(sb.2 b hb).trans e) f0 f1 f3 f4 f5;obtain⟨o',e,c,d⟩:=id st';refine⟨u,rfl,zno (s:={ s with heap:=h',toks:=s.toks+1 }) e c d (by rcases hn with rfl |rfl<;>decide) ⟨.str ⟨#[x.cps[i]]⟩,H,I1,⟨_,hu⟩,⟨rfl,_,by simp[hg],rfl⟩,st',fun b hb=>(hf b hb).1⟩⟩
  rcases hn with rfl |rfl
  ·exact wpAny_pyNext_ascii_item st (c:=x.cps[i]) (by simp[hg]) fun h' st' sb=>fin h' st' sb _ rfl
  ·exact wpAny_pyNext_wide_item st (c:=x.cps[i]) (by simp[hg]) fun h' st' sb=>fin h' st' sb _ rfl
 done:=by
  intro X hP hw hK hc i pc s σ H E I hf st hg;subst hP hw hK;obtain⟨f0,f1,f2,f3,f4,f5⟩:=hf it (by simp)
  have hg:x.cps.size<=i:=hg;rcases hn with rfl |rfl
  ·exact wpAny_pyNext_ascii_end (I.ok.hd hc) st (by simp[hg]) fun h' eb=>⟨rfl,I.turned (t':=s.toks) (fun b o hb e=>eb b o hb e) f0 f1 f3 f4 f5⟩
  ·exact wpAny_pyNext_wide_end (I.ok.hd hc) st (by simp[hg]) fun h' eb=>⟨rfl,I.turned (t':=s.toks) (fun b o hb e=>eb b o hb e) f0 f1 f3 f4 f5⟩
 self:=fun _ _ _ _ _ st h=>by
  rcases hn with rfl |rfl
  ·exact wpAny_pyIter_striter_ascii st h
  ·exact wpAny_pyIter_striter_wide st h
def zvH(tl:TE):TI:=fun σ H R=>tl σ H fun v H1=>∃ x,v=.str x/\R (Its x) H1
theorem zqI{X:Cx}{tg l:Q4}{tl:TE}(hl:PE X l tl):PI X tg l (zvH tl):=by
 intro pc s σ H R I h;refine thn (hl pc s σ H _ I h) fun v s1 h_=>?_; obtain⟨y,H1,I1,r1,q1⟩:=h_;obtain⟨x,e,q⟩:=q1;subst e;obtain⟨t,rfl⟩:=r1;have fp:∀ b∈[s1.heap.objs.size],zjv X pc H1 b:=fun b hb=>by
  have e:b=s1.heap.objs.size:=by simpa using hb
  subst e;exact I1.fpOk (jj _) (I1.hok.fresh (jj _))
 cases ha:x.cps.all (· < 128)
 ·exact wpAny_pyIter_wide ha ⟨s1.heap.objs.size,[s1.heap.objs.size],_,_,H1,rfl,I1.kept (t':=s1.toks) fun b o e=>jb _ e,ziv _ x t "str_iterator" (.inr rfl),⟨_,jN _ rfl,rfl,rfl⟩,fp,q⟩
 ·exact wpAny_pyIter_ascii ha ⟨s1.heap.objs.size,[s1.heap.objs.size],_,_,H1,rfl,I1.kept (t':=s1.toks) fun b o e=>jb _ e,ziv _ x t "str_ascii_iterator" (.inl rfl),⟨_,jN _ rfl,rfl,rfl⟩,fp,q⟩
theorem zgG:∀ {ss:List Int} {us:List j6},Vals (ss.map V.int) us->Jj us ss
 |[],_,.nil=>.nil
 |s::ss,_,.cons r t=>by obtain⟨t',rfl⟩:=r; exact .cons s t' (zgG t)
section
variable {R:WQ->ja->Prop}{I:ji}{fp wr:List ji}{G:Array gO->Array gO->Prop}{n:Nat}{Pv:Nat->j6->Prop}{St:Nat->ja->Prop}
def IsSetS(P:jE)(w:Qa)(S:ji)(l:List Str)(h:Qs):Prop:=h.SetOf (strKind P w) S (fun q=>decide (q∈l)) l.length
theorem IsSetS.at{S:ji}{l:List Str}{h h':Qs}(x:IsSetS P w S l h)(k:∀ o,h.get? S=some o->h'.get? S=some o):IsSetS P w S l h':=by
 obtain⟨o,es,ep,t,e,r⟩:=x;exact⟨o,es,ep,t,k _ e,r⟩
theorem IsSetS.next{S:ji}{l:List Str}{x:Str}{h:Qs}(y:h.SetOf (strKind P w) S (fun q=>decide (q∈l)||decide (q=x)) (if decide (x∈l)=true then l.length else l.length+1)):IsSetS P w S (Dw.stp l x) h:=by
 have e1:(fun q=>decide (q∈l)||decide (q=x))=fun q=>decide (q∈Dw.stp l x):=by
  funext q
  unfold Dw.stp
  by_cases hx:x∈l
  ·rw[Ip_ hx]
   by_cases hq:q=x
   ·subst hq; simp[hx]
   ·simp[hq]
  ·rw[In_ hx,Zp]; simp
 have e2:(if decide (x∈l)=true then l.length else l.length+1)=(Dw.stp l x).length:=by
  unfold Dw.stp
  by_cases hx:x∈l
  ·rw[Ip_ hx,Ip_ (by simpa using hx)]
  ·rw[In_ hx,In_ (by simpa using hx),jk]; rfl
 rw[e1,e2] at y;exact y
theorem zhw:∀(l acc:List Str),(l.foldl Dw.stp acc).length<=acc.length+l.length
 |[],acc=>jj _
 |x::l,acc=>by
  rw[Zo];have:=zhw l (Dw.stp acc x);have h2:(Dw.stp acc x).length<=acc.length+1:=by
   unfold Dw.stp;split
   ·lia
   ·rw[jk]; exact jj _
  rw[jp];lia
theorem znx(W:WalksS P w A.in1 I fp wr G n Pv St)(S:ji)(hS:S∉fp)(ss:List Str)(hn:ss.length=n)(hv:∀ i v x,Pv i v->ss[i]?=some x->∃ t,v=.str x t)(hb:n+1 < gB) :
  ∀(k i:Nat) (s:ja),n - i=k->i<=n->St i s->IsSetS P w S (Dw.zab (ss.take i)) s.heap->(∀ s',Moved (S::wr) G s s'->IsSetS P w S (Dw.zab ss) s'.heap->R (.ok (.ret .none)) s')->
   gc (jH P w) A (.builtin "set.update.loop" ⟨[.ref S,.ref I],[]⟩) R s:=by
 have nw:S∉wr:=fun z=>hS (W.sub _ z);have up:∀ b∈wr,b∈S::wr:=fun b z=>.tail _ z;intro k
 induction k with
 |zero=>
  intro i s hk hi st hs q;obtain rfl:i=n:=by lia
  refine Y9 YS ?_;rw[NN gC _];refine j4 (m:=NS (.ref I)) (W.done s _ _ st fun s' mv=>jg (q s' (mv.mono up) ?_));rw[Q2 (by lia)] at hs
  exact hs.at fun o e=>mv.heap S o nw e
 |succ k ih=>
  intro i s hk hi st hs q;have lt:i < n:=by lia
  obtain⟨x,hx⟩:∃ x,ss[i]?=some x:=⟨_,j3 (by lia)⟩
  refine Y9 YS ?_;rw[NN gC _];refine j4 (m:=NS (.ref I)) (W.item i s _ _ lt st fun v s1 pv st1 mv=>?_);obtain⟨t,rfl⟩:=hv i v x pv hx;have hs1:=hs.at fun o e=>mv.heap S o nw e;have ky:(strKind P w).is x (.str x t)=true:=by show QH x (.str x t)=true; simp[QH]
  refine j4 (m:=Y4 [Zx x t] (setAdd S (.str x t))) (Qe ?_);unfold setAdd;refine Qe (j4 ((strKind P w).pyHash (k:=x) ky ?_));have fl:(Dw.zab (ss.take i)).length<=i:=by
   have:=zhw (ss.take i) [];rw[Q7,ZJ] at this;unfold Dw.zab;lia
  refine NA (knd:=strKind P w) (s:={ s1 with toks:=s1.toks+1 }) ky rfl hs1 (by lia) fun h2 sb hs2=>?_
  have hs3:=IsSetS.next hs2
  rw[<-Dw.zkc hx] at hs3;refine jg ⟨plainId_quiet gC _,ih (i+1) _ (by lia) lt (W.frame _ s1 _ _ st1 (gd _) fun b z o e=>(sb.2 b (fun y=>hS (y▸z))).trans e) hs3 fun s2 mv2=>q s2 (Moved.trans W.gtrans ((mv.mono up).then_heap (gd _) fun b o z e=>(sb.2 b (fun y=>z (y▸.head _))).trans e) mv2)⟩
end
section
def zo6(led:Bool):Obj:={ cls:=.type "set",dict:=none,data:=.set #[] 0 (.fresh 0 0 led) }
set_option maxHeartbeats 3200000 in
theorem zjC{l:ji}{its:Array j6}{ss:List Str}{Q:j6->ja->Prop}(hh:A.handled=none)(hl:s.heap.IsList l its)(hn:ss.length=its.size)(hv:∀(i:Nat) v x,its[i]?=some v->ss[i]?=some x->∃ t,v=.str x t)(hb:its.size+1 < gB)
  (q:∀(h':Qs) (tk:Nat),IsSetS P w s.heap.objs.size (Dw.zab ss) h'->(∀ b o,b < s.heap.objs.size->s.heap.get? b=some o->h'.get? b=some o)->Q (.ref s.heap.objs.size) { s with heap:=h',toks:=tk }) :
  jF (jH P w) A (call (.type "set") [.ref l]) Q E s:=by
 have a0:=ZM.mro;obtain⟨mc,mt,a0⟩:=a0;have a1:=ZM.made;have a2:=ZM.sub;refine NI (codeAny_of_tree (show jF _ _ (callAny (.type "set") _) _ _ _ from jg ⟨gD _ (by decide +kernel),Y9 F.entry_type_call ?_⟩))
 rw[Around.under_plain (weight_type_call_type "set" [jS l] []) rfl];have a3:=ZM.notType;have a4:=ZM.canCreate;have a5:=F.typeCall_set_1 (.ref l)
 repeat (any_goals (first |wp_step |assumption))
 refine gT (code_set_new_1 (.ref l) (E:=E) (Q₁:=fun v s1=>∃ led:Bool,v=.ref s.heap.objs.size/\s1={ s with heap:=s.heap.push (zo6 led) }) fun led=>⟨led,rfl,rfl⟩) fun r s1 hr=>?_;cases r with
 |error e=>exact hr
 |ok fl=>
  cases fl with
  |ret v=>
   obtain⟨led,rfl,rfl⟩:=hr;have g0:(s.heap.push (zo6 led)).get? s.heap.objs.size=some (zo6 led):=jN _ rfl;have ty:JM { s with heap:=s.heap.push (zo6 led) } (.ref s.heap.objs.size) "set":=⟨_,g0,rfl⟩;have b1:=ZM.init.lookup;have b2:=ZM.init.bind (.ref s.heap.objs.size)
   repeat (any_goals (first |wp_step |assumption))
   refine gT (ZS (R:=wants (fun r s2=>r=.none/\∃ h' tk,s2={ s with heap:=h',toks:=tk }/\IsSetS P w s.heap.objs.size (Dw.zab ss) h'/\(∀ b o,b < s.heap.objs.size->s.heap.get? b=some o->h'.get? b=some o)) E) ZM.init.plain F.entry_set_init (check_set_init_1 ty ?_)) fun r2 s2 hr2=>?_
   ·obtain⟨⟨c1,c2,c3,c4⟩,ho,hc,nl,hd⟩:=hl;dsimp only at hc hd;subst hc hd;have g1:(s.heap.push (zo6 led)).get? l=some { cls:=.type "list",dict:=c2,data:=.seq its nl,slots:=c4 }:=jb _ ho;have d1:=F.sub_list_set;have d2:=F.sub_list_frozenset;have d3:(Jx "list" == Jx "dict")=false:=by decide
    have il:(s.heap.push (zo6 led)).IsList l its:=⟨_,g1,rfl,nl,rfl⟩;unfold YT.«set.__init__»;unfold noKeywords Jb;generalize hPI:pyIter=PI
    wp_walk
    subst hPI;refine Yt il (j4 (wpAny_runValue ?_));have lS:l < s.heap.objs.size:=jh ho;have ne:l≠(s.heap.push (zo6 led)).objs.size:=by rw[ZT]; exact jI (QV lS)
    have nS:s.heap.objs.size∉[(s.heap.push (zo6 led)).objs.size,l]:=by
     rw[ZT];intro z;rcases ju.mp z with z |z
     ·exact absurd z (jI (ZZ _))
     ·exact absurd (jm.mp z) (gS lS)
    refine znx ((Walks.list (show A.in1.in1.in1.handled=none by simp[hh]) _ l ne its).toS) s.heap.objs.size nS ss hn (fun i v x hv' hx=>hv i v x hv' hx) hb (its.size - 0) 0 _ (by lia) (Z8 _) ⟨⟨_,jN _ rfl,rfl,rfl⟩,il.push _⟩ ?st ?fin
    case st=>exact(setObjOf_fresh (knd:=strKind P w) led).setOf (jb _ g0) (by unfold gB; lia)
    case fin=>
     intro s' mv hs';obtain⟨h',g',d',tk',os'⟩:=s';obtain rfl:g'=s.gens:=mv.gens;obtain rfl:d'=s.drawn:=mv.drawn;obtain rfl:os'=s.os:=mv.os;refine jg (jg ⟨rfl,h',tk',rfl,hs',fun b o z e=>mv.heap b o (fun y=>?_) (jb _ (jb _ e))⟩);rw[ZT] at y;rcases ju.mp y with y |y
     ·exact absurd y (jI z)
     ·exact absurd (jm.mp y) (jI (QV z))
   ·cases r2 with
    |error e=>exact hr2
    |ok f2=>
     cases f2 with
     |ret r=>
      obtain⟨rfl,h',tk,rfl,y1,y2⟩:=hr2
      repeat (any_goals (first |wp_step |assumption))
      exact q _ _ y1 y2
     |_=>exact hr2.elim
  |_=>exact hr.elim
end
section
def zkE(X:Cx)(a:ji)(l:List Str):HO:=.ext (IsSetS X.prog X.w a l)
theorem zjl(hc:X.calm=true):CallR X (.type "set") (fun xs H Q=>∃(a:ji) (ss:List Str),xs=[V.ref a]/\SqL X.K H a (ss.map V.str)/\ss.length < 1000/\∀ l,H l=none->Q (.ref l) (upd H l (zkE X l (Dw.zab ss)))):=by
 intro pc s σ H xs us Q I rv h;obtain⟨a,ss,rfl,hq,hl,q⟩:=h;obtain⟨u,rfl,ru⟩:=rv.one;cases ru;obtain⟨its,r,p,hz⟩:=I.list hq;have hlen:=r.length;rw[j5] at hlen;refine zjC (ss:=ss) (I.ok.hd hc) p.isList (by rw[jq]; exact hlen) (fun i v x hv hx=>?_) (by rw[jq]; unfold gB; lia) fun h' tk hs k=>?_
 ·obtain⟨u,hu,ru⟩:=r.get (i:=i) (x:=V.str x) (by rw[jf,hx]; rfl)
  have e:v=u:=by
   rw[List.getElem?_toArray,hu] at hv;exact(jc hv).symm
  rw[e];exact ru
 ·have new:ObjOk X.prog X.w (upd H s.heap.objs.size (zkE X s.heap.objs.size (Dw.zab ss))) h' s.heap.objs.size (zkE X s.heap.objs.size (Dw.zab ss)):=⟨hs,by obtain⟨o,_,_,_,e,_⟩:=hs; exact⟨o,e⟩,fun h1 h2 x k=>x.at k⟩
  exact⟨.ref s.heap.objs.size,_,I.laid (a:=s.heap.objs.size) (t':=tk) (fun b o e=>k b o (jh e) e) (jj _) new,rfl,q _ (I.hok.fresh (jj _))⟩
theorem znH:CallR X (.builtin "len") (fun xs H Q=>∃(a:ji) (l:List Str),xs=[V.ref a]/\H a=some (zkE X a l)/\Q (.int l.length) H):=by
 intro pc s σ H xs us Q I rv h;obtain⟨a,l,rfl,ha,q⟩:=h;obtain⟨u,rfl,ru⟩:=rv.one;cases ru;obtain⟨hs,_,_⟩:=(show ObjOk X.prog X.w H s.heap a (zkE X a l) from I.hok a _ ha);obtain⟨o,es,ep,t,e,ex,d,_,_,b,f,n⟩:=hs;refine call_len_set e ex d f (by unfold gB at b; lia) ?_
 rw[n];exact⟨.int l.length,H,I.tok _,⟨_,rfl⟩,q⟩
end
section
theorem zhm{P:jE}{w:Qa}(k:Int)(t:Tok):(JG P w).is k (.int k t)=true:=by show NV k (.int k t)=true; simp[NV]
theorem znF:CallR X (.type "set") (fun xs H Q=>xs=[]/\∀ l,H l=none->Q (.ref l) (upd H l (.set (fun _=>false) 0))):=by
 intro pc s σ H xs us Q I rv h;obtain⟨rfl,q⟩:=h;cases rv;refine call_set_0 fun led=>?_;have new:ObjOk X.prog X.w (upd H s.heap.objs.size (.set (fun _=>false) 0)) (s.heap.push (zo6 led)) s.heap.objs.size (.set (fun _=>false) 0):=(setObjOf_fresh (knd:=JG X.prog X.w) led).setOf (jN _ rfl) (by unfold gB; lia)
 exact⟨.ref s.heap.objs.size,_,I.laid (a:=s.heap.objs.size) (t':=s.toks) (fun b o e=>jb _ e) (jj _) new,rfl,q _ (I.hok.fresh (jj _))⟩
def zsv:V->List V->Hp->VK->Prop:=fun x vs H Q=>∃ a S n k,x=.ref a/\vs=[.int k]/\H a=some (.set S n)/\n < 1000/\Q .non (upd H a (.set (fun j=>S j||decide (j=k)) (if S k then n else n+1)))
theorem zqX:MtR X "set.add" zsv:=by
 intro pc s σ H x vs v us Q I rx rv h;obtain⟨a,S,n,k,rfl,rfl,ha,hn,q⟩:=h;cases rx;obtain⟨u,rfl,ru⟩:=rv.one;obtain⟨t,rfl⟩:=ru;have hS:s.heap.SetOf (JG X.prog X.w) a S n:=(show ObjOk X.prog X.w H s.heap a (.set S n) from I.hok a _ ha);refine call_set_add (zhm k t) rfl hS (by unfold gB; lia) fun h' hs hS'=>?_
 have hx:∃ q,h'.get? a=some q:=by obtain⟨o,_,_,_,e,_⟩:=hS'; exact⟨o,e⟩
 exact⟨.non,_,zia (t':=s.toks+1) (ob:=.set (fun j=>S j||decide (j=k)) (if S k then n else n+1)) I (by rw[ha]; exact ZC) hs hx hS',rfl,q⟩
theorem zqQ:OpR X (QP .NotIn) (fun x y H Q=>∃ k a S n,x=.int k/\y=.ref a/\H a=some (.set S n)/\Q (.bl (!S k)) H):=by
 intro pc s σ H x y v u Q I rx ry h;obtain⟨k,a,S,n,rfl,rfl,ha,q⟩:=h;obtain⟨t,rfl⟩:=rx;cases ry;have hS:s.heap.SetOf (JG X.prog X.w) a S n:=(show ObjOk X.prog X.w H s.heap a (.set S n) from I.hok a _ ha);exact wpAny_notInSet_of (zhm k t) rfl hS ⟨.bl (!S k),H,I.tok _,rfl,q⟩
end
theorem zi7:entryFor table "set.__and__"=some YT.«frozenset.__and__»:=
 entryFor_alias (id':="frozenset.__and__") (by kernel_rfl) rfl (by decide +kernel) (by kernel_rfl)
theorem ziy:isSubtype (.type "set") (.type "set")=pure true:=by rw[isSubtype_type]; kernel_rfl
theorem zdi{α:Type}[DecidableEq α]:∀(l m:List α),l.Nodup->(∀ x,x∈l->x∈m)->m.length<=l.length->m.Perm l
 |[],m,_,_,h=>by
  have:m=[]:=gU (by simpa using h)
  rw[this]
 |x::l,m,nd,hs,h=>by
  have hx:x∈m:=hs x (.head _);obtain⟨n1,n2⟩:=Qp.mp nd;have p1:m.Perm (x::m.erase x):=List.perm_cons_erase hx;refine p1.trans (.cons x (zdi l (m.erase x) n2 (fun y hy=>?_) ?_))
  ·have:y≠x:=fun e=>n1 (e▸hy);exact(gY this).mpr (hs y (.tail _ hy))
  ·have:=p1.length_eq;rw[jp] at this;rw[jp] at h;lia
theorem zgN{α:Type}[DecidableEq α](l m:List α)(h1:l.Nodup)(h2:m.Nodup):(l.filter (fun x=>decide (x∈m))).length=(m.filter (fun x=>decide (x∈l))).length:=by
 have n1:=h1.filter (fun x=>decide (x∈m));have n2:=h2.filter (fun x=>decide (x∈l));refine Nat.le_antisymm ?_ ?_
 ·by_cases h:(m.filter (fun x=>decide (x∈l))).length<=(l.filter (fun x=>decide (x∈m))).length
  ·have:=(zdi (l.filter (fun x=>decide (x∈m))) (m.filter (fun x=>decide (x∈l))) n1 (fun x hx=>by
    have:=jZ.mp hx
    exact jZ.mpr ⟨by simpa using this.2,by simpa using this.1⟩) h).length_eq
   lia
  ·lia
 ·by_cases h:(l.filter (fun x=>decide (x∈m))).length<=(m.filter (fun x=>decide (x∈l))).length
  ·have:=(zdi (m.filter (fun x=>decide (x∈l))) (l.filter (fun x=>decide (x∈m))) n2 (fun x hx=>by
    have:=jZ.mp hx
    exact jZ.mpr ⟨by simpa using this.2,by simpa using this.1⟩) h).length_eq
   lia
  ·lia
theorem zcL{α:Type}:∀(l:List α) (i:Nat) (h:i < l.length),(l[i]::l.eraseIdx i).Perm l
 |x::l,0,_=>by simp
 |x::l,i+1,h=>by
  rw[YQ,List.getElem_cons_succ];exact(List.Perm.swap _ _ _).trans (.cons x (zcL l i (by simpa using h)))
theorem zh2{α:Type}(next:Nat->Nat)(xs:Array α):(pickOrder next xs).toList.Perm xs.toList:=by
 have key:∀(n k:Nat) (left:List α) (out:Array α),left.length=n->(WU next n k left out).toList.Perm (out.toList++left):=by
  intro n
  induction n with
  |zero=>
   intro k left out h;have:left=[]:=gU h;subst this;unfold WU;simp
  |succ n ih=>
   intro k left out h;unfold WU;have hlt:next k%left.length < left.length:=Nat.mod_lt _ (by lia)
   rw[j3 hlt];dsimp only;refine(ih _ _ _ (by rw[List.length_eraseIdx,Ip_ hlt]; lia)).trans ?_
   rw[Array.toList_push,Qh];refine Nx _ ?_;exact zcL left _ hlt
 exact(key _ _ _ _ (by simp)).trans (by simp)
section
def zfU:j6->Str
 |.str x _=>x
 |_=>""
theorem zlN{k:Str}:∀ {v:j6},QH k v=true->∃ tk,v=Zx k tk
 |.str x tk,h=>⟨tk,congrArg (fun z=>Zx z tk) (show x=k by simpa[QH] using h)⟩
theorem zk7(q x:Str)(tk:Tok):QH q (.str x tk)=true↔zfU (.str x tk)=q:=by
 unfold QH zfU;simp
theorem IsSetS.ents{S:ji}{l:List Str}{h:Qs}(x:IsSetS P w S l h):∃(o:Obj) (es:Array (Int × j6)) (ep:Nat) (t:Jc),h.get? S=some o/\o.ExactSet/\o.data=.set es ep t/\t.fits es.size=true/\es.size=l.length/\es.size < gB/\(∀ e∈es.toList,(∃ tk,e.2=Zx (zfU e.2) tk)/\e.1=(strKind P w).hash (zfU e.2))/\∀ q,q∈es.toList.map (fun e=>zfU e.2)↔q∈l:=by
 obtain⟨o,es,ep,t,e1,e2,e3,e4,e5,e6,e7,e8⟩:=x;have get:∀ e∈es.toList,(∃ tk,e.2=Zx (zfU e.2) tk)/\e.1=(strKind P w).hash (zfU e.2):=fun e he=>by
  obtain⟨⟨k,hk,hh⟩,_⟩:=e4 e he;obtain⟨tk,h3⟩:=zlN (show QH k e.2=true from hk);have h4:zfU e.2=k:=by rw[h3]; rfl
  rw[h4];exact⟨⟨tk,h3⟩,hh⟩
 refine⟨o,es,ep,t,e1,e2,e3,e7,e8,e6,get,fun q=>?_⟩;have e5:=e5 q;rw[decide_eq_true_iff] at e5;rw[e5,jB];refine exists_congr fun e=>and_congr_right fun he=>?_;obtain⟨⟨tk,h3⟩,_⟩:=get e he;rw[show (strKind P w).is q e.2=QH q e.2 from rfl,h3];exact(zk7 _ _ _).symm
theorem ziq{sets:List ji}{Q:Bool->ja->Prop}(hs:∀ a∈sets,∃ l:List Str,IsSetS P w a l s.heap)(h:Q true s):jF (jH P w) A (setsQuiet sets) Q E s:=by
 unfold setsQuiet;refine j4 ?_;refine wpAny_forIn_list _ (fun rest b s'=>b=⟨none,()⟩/\s'=s/\∀ a∈rest,a∈sets) _ ?_ ?_ sets _ ⟨rfl,rfl,fun a h=>h⟩
 ·rintro a rest b s' ⟨rfl,rfl,hr⟩;obtain⟨l,hl⟩:=hs a (hr a (.head _));obtain⟨o,es,ep,t,e1,e2,e3,e4,e5,e6,e8,_⟩:=IsSetS.ents hl;refine j4 (Ya e1 e3 e4 ?_);refine j4 ?_;refine Wm _ (fun rest b s''=>b=⟨none,()⟩/\s''=s'/\∀ e∈rest,e∈es.toList) _ ?_ ?_ es _ ⟨rfl,rfl,fun a h=>h⟩
  ·rintro e rest2 b s'' ⟨rfl,rfl,hr2⟩;obtain⟨⟨tk,h3⟩,_⟩:=e8 e (hr2 e (.head _));obtain⟨e0,ev⟩:=e;generalize zfU ev=ky at h3;dsimp only at h3 ⊢;subst h3;exact jg ⟨rfl,rfl,fun e he=>hr2 e (.tail _ he)⟩
  ·rintro b s'' ⟨rfl,rfl,_⟩;exact jg ⟨rfl,rfl,fun a ha=>hr a (.tail _ ha)⟩
 ·rintro b s' ⟨rfl,rfl,_⟩;exact jg h
end
section
theorem IsSetS.same{S:ji}{l l':List Str}{h:Qs}(x:IsSetS P w S l h)(e:∀ q,q∈l↔q∈l')(hl:l.length=l'.length):IsSetS P w S l' h:=by
 unfold IsSetS at x ⊢;rw[<-hl,show (fun q=>decide (q∈l'))=fun q=>decide (q∈l) from funext fun q=>decide_eq_decide.mpr (e q).symm];exact x
theorem zlu{a:ji}{o:Obj}{es:Array (Int × j6)}{ep:Nat}{t:Jc}{Q:Array (Int × j6)->ja->Prop}(ho:s.heap.get? a=some o)(hd:o.data=.set es ep t)(hf:t.fits es.size=true)
  (hc:w.params.followText "set-order"=true∨(t.led&&t.plain)=true∨es.size<=1) (q:∀ es':Array (Int × j6),es'.toList.Perm es.toList->Q es' s):jF (jH P w) A (setWalk a) Q E s:=by
 unfold setWalk setsByText;refine j4 (YA ho hd hf ?_);refine j4 (j4 (N3 (jg ?_)));dsimp only;show jF _ _ (if w.params.followText "set-order"=true then _ else _) _ _ _
 by_cases hx:w.params.followText "set-order"=true
 ·rw[Ip_ hx];exact j4 (N3 (jg (q _ (zh2 _ _))))
 ·rw[In_ hx];have hd':(!t.plain&&decide (es.size > 1))=false:=by
   rcases hc with hc |hc |hc
   ·exact absurd hc hx
   ·rw[jD] at hc; rw[hc.2]; rfl
   ·rw[Df_ (by lia),Yo]
  have hd2:(!t.led&&decide (es.size > 1))=false:=by
   rcases hc with hc |hc |hc
   ·exact absurd hc hx
   ·rw[jD] at hc; rw[hc.1]; rfl
   ·rw[Df_ (by lia),Yo]
  show jF _ _ (if (!t.plain&&decide (es.size > 1))=true then _ else _) _ _ _
  rw[In_ (by rw[hd']; exact jK)]
  refine j4 ?_;show jF _ _ (if (!t.led&&decide (es.size > 1))=true then _ else pure ()) _ _ _
  rw[In_ (by rw[hd2]; exact jK)]
  exact jg (jg (q _ (.refl _)))
theorem zhs{a r:ji}{o:Obj}{es:Array (Int × j6)}{ep:Nat}{t:Jc}{Q:Array (Int × j6)->ja->Prop}{others:List ji}{lr:List Str}(ho:s.heap.get? a=some o)(hd:o.data=.set es ep t)(hf:t.fits es.size=true)
  (hs:∀ b∈a::others,∃ l:List Str,IsSetS P w b l s.heap) (hr:IsSetS P w r lr s.heap) (q:∀(es':Array (Int × j6)) (h':Qs),es'.toList.Perm es.toList->Qd r s.heap h'->IsSetS P w r lr h'->Q es' { s with heap:=h' }):jF (jH P w) A (Wn a others (some r)) Q E s:=by
 unfold Wn setsByText;refine j4 (YA ho hd hf ?_);refine j4 (j4 (N3 (jg ?_)));dsimp only;show jF _ _ (if (w.params.followText "set-order"||(t.led&&t.plain)||decide (es.size<=1))=true then _ else _) _ _ _
 have e0:s={ s with heap:=s.heap }:=by cases s; rfl
 by_cases hx:(w.params.followText "set-order"||(t.led&&t.plain)||decide (es.size<=1))=true
 ·rw[Ip_ hx];refine zlu ho hd hf ?_ fun es' p=>e0▸q es' s.heap p (.refl _ _) hr;simpa[Z9,or_assoc] using hx
 ·rw[In_ hx];refine j4 (ziq hs ?_);simp only[JN,Z2,↓reduceIte];refine j4 (JD ?_);obtain⟨o2,es2,ep2,t2,g1,g2,g3,g4,g5,g6,g7,g8⟩:=hr;refine j4 (YA g1 g3 g7 ?_);dsimp only;split
  ·refine j4 (wpAny_storeSet_of g1 g3 (jg ?_) (fits_of_scanBound g6));refine q es _ (.refl _) (Heap.SameBut.update _ _ _) ?_;have:=(SetOf_store (knd:=strKind P w) (t':={ t2 with led:=t2.led&&t.led,plain:=t2.plain&&t.plain }) g1 g2 g3 g4 g5 g6 (by cases t2; exact g7)).2
   rw[g8] at this;exact this
  ·exact j4 (jg (jg (e0▸q es s.heap (.refl _) (.refl _ _) ⟨o2,es2,ep2,t2,g1,g2,g3,g4,g5,g6,g7,g8⟩)))
theorem zir{a b r:ji}{la:List Str}{es:Array (Int × j6)}{ob:Obj}{esb:Array (Int × j6)}{was:Nat}{t:Jc}{id:String}{Q:PUnit->ja->Prop}(har:a≠r)(hbr:b≠r)
  (ha:IsSetS P w a la s.heap) (hb:s.heap.get? b=some ob) (hbd:ob.data=.set esb was t) (hbf:t.fits esb.size=true) (hr:IsSetS P w r [] s.heap) (hn:(es.toList.map fun e=>zfU e.2).Nodup) (hz:es.size+1 < gB)
  (he:∀ e∈es.toList,(∃ tk,e.2=Zx (zfU e.2) tk)/\e.1=(strKind P w).hash (zfU e.2))
  (q:∀ h',Qd r s.heap h'->IsSetS P w r ((es.toList.map fun e=>zfU e.2).filter fun x=>decide (x∈la)) h'->Q ⟨⟩ { s with heap:=h' }) :
  jF (jH P w) A (forIn es NK fun(x:Int × j6) (_:PUnit)=>do
   Y4 [x.2] (do if (<-setFind a x.2 x.1).isSome=true then let _ <-setAddHashed r x.2 x.1)
   Za id b was
   pure (Qg NK)) Q E s:=by
 refine Wm _ (fun rest _ s'=>∃ pre h',pre++rest=es.toList/\s'={ s with heap:=h' }/\Qd r s.heap h'/\IsSetS P w r ((pre.map fun e=>zfU e.2).filter fun x=>decide (x∈la)) h') _ ?_ ?_ es _ ⟨[],s.heap,rfl,by cases s; rfl,.refl _ _,hr⟩
 ·rintro⟨e0,ev⟩ rest b' s' ⟨pre,h',hp,rfl,sb,hr'⟩;have hmem:(e0,ev)∈es.toList:=by rw[<-hp]; simp
  obtain⟨⟨tk,h3⟩,h4⟩:=he _ hmem;dsimp only at h3 h4;generalize hk:zfU ev=k at h3 h4;subst h3 h4;have ky:(strKind P w).is k (.str k tk)=true:=by show QH k (.str k tk)=true; simp[QH]
  have ha':IsSetS P w a la h':=ha.at fun o e=>(sb.2 a har).trans e;have hb':h'.get? b=some ob:=(sb.2 b hbr).trans hb;have hnk:k∉pre.map fun e=>zfU e.2:=by
   rw[<-hp,jy,jr] at hn;have:=(jT.mp hn).2.2;intro hc;exact this k hc k (by dsimp only; rw[hk]; exact .head _) rfl
  have hlen:pre.length < es.size:=by rw[<-QC,<-hp]; simp
  have fl:((pre.map fun e=>zfU e.2).filter fun x=>decide (x∈la)).length<=pre.length:=by
   refine Q9 (Zf _ _) ?_;rw[j5]; exact jj _
  have fin:∀ h2 (Qx:ForInStep PUnit->ja->Prop),Qd r h' h2->Qx (.yield ⟨⟩) { s with heap:=h2 }->jF (jH P w) A (do
    Za id b was
    pure (Qg NK)) Qx E { s with heap:=h2 }:=fun h2 Qx sb2 hq=>by
   unfold Za;refine j4 (j4 (WH (s:={ s with heap:=h2 }) ((sb2.2 b hbr).trans hb') hbd hbf ?_));simp only[bne_self_eq_false,Z2,↓reduceIte];exact jg (jg hq)
  have pq:(pre++[((strKind P w).hash k,Zx k tk)])++rest=es.toList:=by rw[Qh]; exact hp
  refine j4 (Qe (j4 (wpAny_setFind_of (knd:=strKind P w) (s:={ s with heap:=h' }) ky rfl ha' fun f hf=>?_)));rw[hf]
  by_cases hin:k∈la
  ·rw[Ip_ (by simpa using hin)]
   refine j4 (NA (knd:=strKind P w) (s:={ s with heap:=h' }) ky rfl hr' (by lia) fun h2 sb2 hs2=>jg (fin h2 _ sb2 ⟨_,h2,pq,rfl,sb.trans sb2,?_⟩))
   have hs3:=IsSetS.next hs2
   refine hs3.same (fun x=>?_) ?_
   ·unfold Dw.stp;rw[In_ (by simp[hnk]),jy,Zg]
    simp[zfU,hin]
   ·unfold Dw.stp;rw[In_ (by simp[hnk]),jy,Zg]
    simp[zfU,hin]
  ·rw[In_ (by simpa using hin)]
   refine jg (fin h' _ (.refl _ _) ⟨_,h',pq,rfl,sb,hr'.same (fun x=>?_) ?_⟩)
   ·rw[jy,Zg]; simp[zfU,hin]
   ·rw[jy,Zg]; simp[zfU,hin]
 ·rintro b' s' ⟨pre,h',hp,rfl,sb,hr'⟩;rw[Q8] at hp;subst hp;exact q h' sb hr'
end
section
theorem zp2{a b:ji}{l m:List Str}{Q:j6->ja->Prop}(hab:a≠b)(ha:IsSetS P w a l s.heap)(hb:IsSetS P w b m s.heap)(hl:l.Nodup)(hm:m.Nodup)(hz:l.length+m.length < 2000)
  (q:∀ h':Qs,IsSetS P w s.heap.objs.size (l.filter fun x=>decide (x∈m)) h'->(∀ x o,s.heap.get? x=some o->h'.get? x=some o)->Q (.ref s.heap.objs.size) { s with heap:=h' }):jF (jH P w) A (gv .BitAnd (.ref a) (.ref b)) Q E s:=by
 have ta:s.TypeIs (.ref a) "set":=YB ha;have tb:s.TypeIs (.ref b) "set":=YB hb;refine wpAny_binaryOp_same ta tb F.fills_set_and F.slot_set_and (N4 F.slot_set_and ta zi7 ?_ (F.args_set_and_2 _ _));unfold YT.«frozenset.__and__»;have st:=ziy
 show jF _ _ (do
  let (self,other) <-YU "__and__" ⟨[.ref a,.ref b],[]⟩
  let (l,r):=if false=true then (other,self) else (self,other)
  if !(<-ZQ l <&&> ZQ r) then rule s!"frozenset.{"__and__"}.declined"; return <-ret .notImplemented
  ret (<-WV s!"frozenset.{"__and__"}" (<-YC l) r)) _ _ _
 unfold YU slotArgs;simp only[List.isEmpty_nil,JN,Z2,↓reduceIte,bind_assoc,ZJ,bne_self_eq_false,pure_bind]
 repeat (any_goals (first |wp_step |assumption))
 rw[In_ (by dsimp only; simpa using fun e:b=a=>hab e.symm)]
 unfold JE;refine j4 (j4 (N5 ta st ?_));refine jg ?_;simp only[↓reduceIte];refine j4 (wpAny_newSet_of (knd:=strKind P w) fun led hr=>?_);unfold YC;refine j4 (jg ?_);dsimp only;generalize hs1:s.heap.push { cls:=.type "set",dict:=none,data:=.set #[] 0 (.fresh 0 0 led) }=h1 at hr ⊢;have k1:∀ x o,s.heap.get? x=some o->h1.get? x=some o:=fun x o e=>by rw[<-hs1]; exact jb _ e
 have ha1:IsSetS P w a l h1:=ha.at (k1 a);have hb1:IsSetS P w b m h1:=hb.at (k1 b);have hr1:IsSetS P w s.heap.objs.size [] h1:=by
  unfold IsSetS;simpa using hr
 have tb1:JM { s with heap:=h1 } (.ref b) "set":=YB hb1;have nea:∀ x l',IsSetS P w x l' s.heap->x≠s.heap.objs.size:=fun x l' hx e=>by
  obtain⟨o,_,_,_,e1,_⟩:=hx;exact jI (jh e1) e
 have na:=nea a l ha;have nb:=nea b m hb;unfold ZQ;refine j4 (Qe (j4 ?_));have orr:jF (jH P w) A.in1 (YD (.ref b) (.type "set") <||> YD (.ref b) (.type "frozenset")) (fun r s2=>r=true/\s2={ s with heap:=h1 }) E { s with heap:=h1 }:=by
  refine j4 (N5 tb1 st ?_);exact jg ⟨rfl,rfl⟩
 refine jO orr ?_ fun _ _ h=>h;rintro r s2 ⟨rfl,rfl⟩;rw[Ip_ rfl];refine j4 (jg ?_);obtain⟨oa,esa,epa,sta,a1,a2,a3,a4,a5,a6,a7,a8⟩:=ha1.ents;obtain⟨ob,esb,epb,stb,b1,b2,b3,b4,b5,b6,b7,b8⟩:=hb1.ents;unfold JF;refine j4 (j4 (Ya (s:={ s with heap:=h1 }) b1 b3 b4 (jg ?_)));refine j4 (j4 (Ya (s:={ s with heap:=h1 }) a1 a3 a4 (jg ?_)));have done:∀ h2,Qd s.heap.objs.size h1 h2->IsSetS P w s.heap.objs.size (l.filter fun x=>decide (x∈m)) h2->jF (jH P w) A.in1 (pure (jS s.heap.objs.size)) (fun a s'=>jF (jH P w) A.in1 (ret a) (fun fin s'=>∃ v,fin=Fin.done (Flow.ret v)/\v≠NO/\Q v s') E s') E { s with heap:=h2 }:=fun h2 sb hs=>by
  refine jg ?_;refine jg ⟨_,rfl,by simp,q h2 hs fun x o e=>(sb.2 x ?_).trans (k1 x o e)⟩
  exact jI (jh e)
 have half:∀(x y:ji) (lx ly:List Str) (oy:Obj) (ey:Array (Int × j6)) (py:Nat) (ty:Jc),x≠s.heap.objs.size->y≠s.heap.objs.size->IsSetS P w x lx h1->ly.Nodup->ly.length < 2000->h1.get? y=some oy->oy.data=.set ey py ty->ty.fits ey.size=true->IsSetS P w y ly h1->ey.size=ly.length->
   (∀ e∈ey.toList,(∃ tk,e.2=Zx (zfU e.2) tk)/\e.1=(strKind P w).hash (zfU e.2))->(∀ q,q∈ey.toList.map (fun e=>zfU e.2)↔q∈ly)->(ly.filter fun q=>decide (q∈lx)).length=(l.filter fun q=>decide (q∈m)).length->(∀ q,q∈(ly.filter fun q=>decide (q∈lx))↔q∈(l.filter fun q=>decide (q∈m)))->
   jF (jH P w) A.in1 (do
         let was <-setEpoch y
         let __do_lift <-Wn y [x,s.heap.objs.size] (some s.heap.objs.size)
         forIn __do_lift NK fun(x_1:Int × j6) __s=>do
            Y4 [x_1.2] do
              let __do_lift <-setFind x x_1.2 x_1.1
              if __do_lift.isSome=true then do
                let _ <-setAddHashed s.heap.objs.size x_1.2 x_1.1
                pure ()
               else pure ()
            Za (toString "frozenset."++toString "__and__") y was
            pure (Qg NK)
         pure ()) (fun _ s'=>jF (jH P w) A.in1 (pure (jS s.heap.objs.size)) (fun a s'=>jF (jH P w) A.in1 (ret a) (fun fin s'=>∃ v,fin=Fin.done (Flow.ret v)/\v≠NO/\Q v s') E s') E s') E { s with heap:=h1 }:=by
  intro x y lx ly oy ey py ty hx hy sx nd hz' y1 y2 y3 sy y4 y5 y6 y7 y8;refine j4 (WH (s:={ s with heap:=h1 }) y1 y2 y3 ?_);refine j4 (zhs (s:={ s with heap:=h1 }) y1 y2 y3 (fun z hz=>?_) hr1 fun es' h2 p sb hr2=>?_)
  ·simp only[ju,Zd,or_false] at hz;rcases hz with rfl |rfl |rfl
   ·exact⟨_,sy⟩
   ·exact⟨_,sx⟩
   ·exact⟨_,hr1⟩
  ·have pm:(es'.toList.map fun e=>zfU e.2).Perm ly:=by
    refine(p.map _).trans (zdi ly _ nd (fun q hq=>(y6 q).mpr hq) ?_);rw[j5,QC,y4]; exact jj _
   refine j4 (zir (s:={ s with heap:=h2 }) hx hy (sx.at fun o e=>(sb.2 x hx).trans e) ((sb.2 y hy).trans y1) y2 y3 hr2 (pm.nodup_iff.mpr nd) ?_ (fun e he=>y5 e (p.mem_iff.mp he)) fun h3 sb3 hs3=>?_)
   ·rw[<-QC,p.length_eq,QC,y4];unfold gB;lia
   ·refine jg (done h3 (sb.trans sb3) (hs3.same (fun q=>?_) ?_))
    ·rw[<-y8 q,jZ,jZ,pm.mem_iff]
    ·rw[<-y7]; exact(pm.filter _).length_eq
 by_cases hlt:esb.size > esa.size
 ·rw[Ip_ hlt];exact half b a m l oa esa epa sta nb na hb1 hl (by lia) a1 a3 a4 ha1 a5 a7 a8 rfl fun q=>Iff.rfl
 ·rw[In_ hlt];exact half a b l m ob esb epb stb na nb ha1 hm (by lia) b1 b3 b4 hb1 b5 b7 b8 (zgN m l hm hl) fun q=>by simp[jZ,and_comm]
end
section
theorem zqT:OpR X (gv .BitAnd) (fun x y H Q=>∃ a b l m,x=.ref a/\y=.ref b/\a≠b/\H a=some (zkE X a l)/\H b=some (zkE X b m)/\l.Nodup/\m.Nodup/\l.length+m.length < 2000/\∀ c,H c=none->Q (.ref c) (upd H c (zkE X c (l.filter fun x=>decide (x∈m))))):=by
 intro pc s σ H x y v u Q I rx ry h;obtain⟨a,b,l,m,rfl,rfl,hab,ha,hb,hl,hm,hz,q⟩:=h;cases rx;cases ry;obtain⟨sa,_,_⟩:=(show ObjOk X.prog X.w H s.heap a (zkE X a l) from I.hok a _ ha);obtain⟨sb,_,_⟩:=(show ObjOk X.prog X.w H s.heap b (zkE X b m) from I.hok b _ hb);refine zp2 hab sa sb hl hm hz fun h' hs k=>?_;have new:ObjOk X.prog X.w (upd H s.heap.objs.size (zkE X s.heap.objs.size (l.filter fun x=>decide (x∈m)))) h' s.heap.objs.size (zkE X s.heap.objs.size (l.filter fun x=>decide (x∈m))):=⟨hs,by obtain⟨o,_,_,_,e,_⟩:=hs; exact⟨o,e⟩,fun h1 h2 x k=>x.at k⟩
 exact⟨.ref s.heap.objs.size,_,I.laid (a:=s.heap.objs.size) (t':=s.toks) (fun b o e=>k b o e) (jj _) new,rfl,q _ (I.hok.fresh (jj _))⟩
end
section
variable {R:WQ->ja->Prop}{I:ji}{fp wr:List ji}{G:Array gO->Array gO->Prop}{n:Nat}{Pv:Nat->j6->Prop}{St:Nat->ja->Prop}
def two(v:j6)(c:Nat):Obj:={ cls:=.type "list",dict:=none,data:=.seq #[v,v] c,slots:=#[] }
end
section
variable {prog:jE}
def zm4(prog:jE)(w:Qa)(A:Q3)(it:ji)(S:Qs->Prop):Prop:=∀(s:ja) (Q:j6->ja->Prop) (E:j6->ja->Prop),S s.heap->
 (∀ h' e,YR it s.heap h'->(∃ o,h'.get? e=some o/\o.cls=.type "StopIteration")->E (.ref e) { s with heap:=h' })->jF (jH prog w) A (QY (.ref it)) Q E s
structure ZAp (z TI TO i1 i2:ji) (f1 f2:List ji):Prop where
 TIz:TI≠z
 TOz:TO≠z
 i1z:i1≠z
 i2z:i2≠z
 TITO:TI≠TO
 TIi1:TI≠i1
 TIi2:TI≠i2
 TOi1:TO≠i1
 TOi2:TO≠i2
 z1:z∉f1
 z2:z∉f2
 o1:TO∉f1
 o2:TO∉f2
 a1:i1∉f2
 a2:i2∉f1
theorem zm8{z TI TO i1 i2:ji}{f1 f2:List ji}{n1 n2 k:Nat}{P1 P2:Nat->j6->Prop}{S1 S2:Nat->Qs->Prop}{a b:j6}{Q:j6->ja->Prop}(D:ZAp z TI TO i1 i2 f1 f2)
  (D1:Ua prog w A i1 f1 n1 P1 S1) (D2:Ua prog w A i2 f2 n2 P2 S2) (hz:Wo s.heap z TI TO .none) (hTI:gk s.heap TI (.ref i1) (.ref i2)) (hTO:gk s.heap TO a b)
  (h1:S1 k s.heap) (h2:S2 k s.heap) (k1:k < n1) (k2:k < n2)
  (hQ:∀ x y h' tk,P1 k x->P2 k y->Wo h' z TI TO (rawInt s.heap.objs.size)->gk h' TO x y->S1 (k+1) h'->S2 (k+1) h'->gk h' s.heap.objs.size x y->h'.objs.size=s.heap.objs.size+1->
   (∀ c o,c≠z->c≠TO->c≠i1->c≠i2->s.heap.get? c=some o->h'.get? c=some o)->Q (.ref s.heap.objs.size) { s with heap:=h',toks:=tk }) :
  jF (jH prog w) A (YT.«zip.__next__» ⟨[.ref z],[]⟩) (fun fin s'=>∃ v,fin=.done (.ret v)/\Q v s') E s:=by
 show jF _ _ (field (.ref z) 2 >>= _) _ _ _;refine j4 (gf hz rfl (x:=.bool false) rfl ?_);show jF _ _ (field (.ref z) 3 >>= _) _ _ _;refine j4 (gf hz rfl (x:=.ref TI) rfl ?_);refine j4 (ZV hTI rfl ?_);show jF _ _ (QD (.ref z) >>= _) _ _ _;refine j4 ?_;unfold QD;refine j4 (gf hz rfl (x:=.none) rfl (jg ?_));simp only[if_true];refine j4 (JD ?_);refine j4 (gf hz rfl (x:=.ref TO) rfl ?_);refine j4 (Zh hz (by simp) fun g1 hz₁ hs₁=>?_)
 replace hz₁:Wo g1 z TI TO .ellipsis:=hz₁
 refine j4 ?_;simp only[N6,Jl,Y7,Js];have fr:∀ {f:List ji} {b:ji} {h h':Qs},Qd b h h'->b∉f->∀ c∈f,∀ o,h.get? c=some o->h'.get? c=some o:=fun hs hb c hc o e=>hs.extBut _ _ (fun z=>hb (z▸hc)) e;refine j4 (j4 (YV ?_));show jF _ _ (QY (.ref i1) >>= _) _ _ _;refine j4 (D1.item k _ _ _ k1 (D1.frame _ _ _ h1 (fr hs₁ D.z1)) fun x g2 t2 hx st1 hs₂=>jg ?_)
 replace hs₂:Qd i1 g1 g2:=hs₂
 have hTO₂:gk g2 TO a b:=hs₂.extBut _ _ D.TOi1 (hs₁.extBut _ _ D.TOz hTO);refine j4 (ZV hTO₂ rfl ?_);refine j4 (gZ hTO₂ fun g3 hTO₃ hs₃=>?_)
 replace hTO₃:gk g3 TO x b:=hTO₃
 replace hs₃:Qd TO g2 g3:=hs₃
 refine j4 (Jm (jg ?_));refine j4 (j4 (YV ?_));show jF _ _ (QY (.ref i2) >>= _) _ _ _;refine j4 (D2.item k _ _ _ k2 (D2.frame _ _ _ (D2.frame _ _ _ (D2.frame _ _ _ h2 (fr hs₁ D.z2)) (fr hs₂ D.a1)) (fr hs₃ D.o2)) fun y g4 t4 hy st2 hs₄=>jg ?_)
 replace hs₄:Qd i2 g3 g4:=hs₄
 have hTO₄:gk g4 TO x b:=hs₄.extBut _ _ D.TOi2 hTO₃;refine j4 (ZV hTO₄ rfl ?_);refine j4 (gZ hTO₄ fun g5 hTO₅ hs₅=>?_)
 replace hTO₅:gk g5 TO x y:=hTO₅
 replace hs₅:Qd TO g4 g5:=hs₅
 refine j4 (Jm (jg (jg ?_)));refine j4 (ZV hTO₅ rfl ?_);refine j4 (wpAny_newTuple ?_);have hsz:g5.objs.size=s.heap.objs.size:=by rw[hs₅.1,hs₄.1,hs₃.1,hs₂.1,hs₁.1]
 have hz₅:Wo g5 z TI TO .ellipsis:=hs₅.extBut _ _ D.TOz.symm (hs₄.extBut _ _ D.i2z.symm (hs₃.extBut _ _ D.TOz.symm (hs₂.extBut _ _ D.i1z.symm hz₁)));have hk₅:∀ c o,c≠z->c≠TO->c≠i1->c≠i2->s.heap.get? c=some o->g5.get? c=some o:=fun c o c1 c2 c3 c4 e=>
  hs₅.extBut _ _ c2 (hs₄.extBut _ _ c4 (hs₃.extBut _ _ c2 (hs₂.extBut _ _ c3 (hs₁.extBut _ _ c1 e))))
 have st1':S1 (k+1) g5:=D1.frame _ _ _ (D1.frame _ _ _ (D1.frame _ _ _ st1 (fr hs₃ D.o1)) (fr hs₄ D.a2)) (fr hs₅ D.o1);have st2':S2 (k+1) g5:=D2.frame _ _ _ st2 (fr hs₅ D.o2);have hzlt:z < g5.objs.size:=jh hz₅;show jF _ _ (ZW (.ref z) (.ref g5.objs.size) >>= _) _ _ _;refine j4 ?_;unfold ZW;have hz₆:Wo (g5.push { cls:=.type "tuple",data:=.seq #[x,y] }) z TI TO .ellipsis:=jb _ hz₅;refine j4 (Zh hz₆ (by simp) fun g7 hz₇ hs₇=>?_)
 replace hz₇:Wo g7 z TI TO (rawInt g5.objs.size):=hz₇
 refine Zh hz₇ (by simp) fun g8 hz₈ hs₈=>?_
 replace hz₈:Wo g8 z TI TO (rawInt g5.objs.size):=hz₈
 have up:∀ c o,c≠z->g5.get? c=some o->g8.get? c=some o:=fun c o c1 e=>hs₈.extBut _ _ c1 (hs₇.extBut _ _ c1 (jb _ e));have hT₈:gk g8 g5.objs.size x y:=hs₈.extBut _ _ (gS hzlt) (hs₇.extBut _ _ (gS hzlt) (jN _ rfl));have hz8:g8.objs.size=g5.objs.size+1:=by rw[hs₈.1,hs₇.1,ZT]
 rw[hsz] at hz₈ hT₈ hz8;refine jg ⟨_,rfl,?_⟩;show Q (.ref g5.objs.size) _;rw[hsz];exact hQ x y g8 _ hx hy hz₈ (up _ _ D.TOz hTO₅) (D1.frame _ _ _ st1' fun c hc o e=>up c o (fun q=>D.z1 (q▸hc)) e) (D2.frame _ _ _ st2' fun c hc o e=>up c o (fun q=>D.z2 (q▸hc)) e) hT₈ hz8 fun c o c1 c2 c3 c4 e=>up c o c1 (hk₅ c o c1 c2 c3 c4 e)
theorem znX{z TI TO i1 i2:ji}{f1 f2:List ji}{n1 n2 k:Nat}{P1 P2:Nat->j6->Prop}{S1 S2:Nat->Qs->Prop}{a b:j6}{Q:Fin->ja->Prop}(D:ZAp z TI TO i1 i2 f1 f2)
  (D1:Ua prog w A i1 f1 n1 P1 S1) (D2:Ua prog w A i2 f2 n2 P2 S2) (hz:Wo s.heap z TI TO .none) (hTI:gk s.heap TI (.ref i1) (.ref i2)) (hTO:gk s.heap TO a b)
  (h1:S1 k s.heap) (h2:S2 k s.heap) (he:zm4 prog w A i1 (S1 k)∨(k < n1/\zm4 prog w A i2 (S2 k)))
  (hE:∀ h' e tk,(∀ c o,c≠z->c≠TO->c≠i1->c≠i2->s.heap.get? c=some o->h'.get? c=some o)->(∃ o,h'.get? e=some o/\o.cls=.type "StopIteration")->E (.ref e) { s with heap:=h',toks:=tk }) :
  jF (jH prog w) A (YT.«zip.__next__» ⟨[.ref z],[]⟩) Q E s:=by
 show jF _ _ (field (.ref z) 2 >>= _) _ _ _;refine j4 (gf hz rfl (x:=.bool false) rfl ?_);show jF _ _ (field (.ref z) 3 >>= _) _ _ _;refine j4 (gf hz rfl (x:=.ref TI) rfl ?_);refine j4 (ZV hTI rfl ?_);show jF _ _ (QD (.ref z) >>= _) _ _ _;refine j4 ?_;unfold QD;refine j4 (gf hz rfl (x:=.none) rfl (jg ?_));simp only[if_true];refine j4 (JD ?_);refine j4 (gf hz rfl (x:=.ref TO) rfl ?_);refine j4 (Zh hz (by simp) fun g1 hz₁ hs₁=>?_)
 replace hz₁:Wo g1 z TI TO .ellipsis:=hz₁
 refine j4 ?_;simp only[N6,Jl,Y7,Js];have fr:∀ {f:List ji} {b:ji} {h h':Qs},Qd b h h'->b∉f->∀ c∈f,∀ o,h.get? c=some o->h'.get? c=some o:=fun hs hb c hc o e=>hs.extBut _ _ (fun z=>hb (z▸hc)) e;refine j4 (j4 (YV ?_));show jF _ _ (QY (.ref i1) >>= _) _ _ _;rcases he with e1 |⟨k1,e2⟩
 ·refine j4 (e1 _ _ _ (D1.frame _ _ _ h1 (fr hs₁ D.z1)) fun g2 e hs₂ he=>?_);obtain⟨oe,hoe,hce⟩:=he
  replace hs₂:YR i1 g1 g2:=hs₂
  have hz₂:Wo g2 z TI TO .ellipsis:=hs₂ _ _ D.i1z.symm hz₁;have hez:e≠z:=fun x=>by subst x; rw[hz₂] at hoe; cases hoe; simp at hce
  exact Zh hz₂ (by simp) fun g3 _ hs₃=>hE g3 e _ (fun c o c1 _ c3 _ x=>hs₃.extBut _ _ c1 (hs₂ _ _ c3 (hs₁.extBut _ _ c1 x))) ⟨oe,hs₃.extBut _ _ hez hoe,hce⟩
 ·refine j4 (D1.item k _ _ _ k1 (D1.frame _ _ _ h1 (fr hs₁ D.z1)) fun x g2 t2 hx st1 hs₂=>jg ?_)
  replace hs₂:Qd i1 g1 g2:=hs₂
  have hTO₂:gk g2 TO a b:=hs₂.extBut _ _ D.TOi1 (hs₁.extBut _ _ D.TOz hTO);refine j4 (ZV hTO₂ rfl ?_);refine j4 (gZ hTO₂ fun g3 hTO₃ hs₃=>?_)
  replace hs₃:Qd TO g2 g3:=hs₃
  refine j4 (Jm (jg ?_));refine j4 (j4 (YV ?_));show jF _ _ (QY (.ref i2) >>= _) _ _ _;refine j4 (e2 _ _ _ (D2.frame _ _ _ (D2.frame _ _ _ (D2.frame _ _ _ h2 (fr hs₁ D.z2)) (fr hs₂ D.a1)) (fr hs₃ D.o2)) fun g4 e hs₄ he=>?_);obtain⟨oe,hoe,hce⟩:=he
  replace hs₄:YR i2 g3 g4:=hs₄
  have hz₄:Wo g4 z TI TO .ellipsis:=hs₄ _ _ D.i2z.symm (hs₃.extBut _ _ D.TOz.symm (hs₂.extBut _ _ D.i1z.symm hz₁));have hez:e≠z:=fun x=>by subst x; rw[hz₄] at hoe; cases hoe; simp at hce
  exact Zh hz₄ (by simp) fun g5 _ hs₅=>hE g5 e _ (fun c o c1 c2 c3 c4 x=>hs₅.extBut _ _ c1 (hs₄ _ _ c4 (hs₃.extBut _ _ c2 (hs₂.extBut _ _ c3 (hs₁.extBut _ _ c1 x))))) ⟨oe,hs₅.extBut _ _ hez hoe,hce⟩
theorem zh6{z TI TO i1 i2:ji}{f1 f2:List ji}{n1 n2 k:Nat}{P1 P2:Nat->j6->Prop}{S1 S2:Nat->Qs->Prop}{a b:j6}{Q:Option j6->ja->Prop}(D:ZAp z TI TO i1 i2 f1 f2)
  (D1:Ua prog w A.in1 i1 f1 n1 P1 S1) (D2:Ua prog w A.in1 i2 f2 n2 P2 S2) (hz:Wo s.heap z TI TO .none) (hTI:gk s.heap TI (.ref i1) (.ref i2)) (hTO:gk s.heap TO a b)
  (h1:S1 k s.heap) (h2:S2 k s.heap) (k1:k < n1) (k2:k < n2)
  (hQ:∀ x y h' tk,P1 k x->P2 k y->Wo h' z TI TO (rawInt s.heap.objs.size)->gk h' TO x y->S1 (k+1) h'->S2 (k+1) h'->gk h' s.heap.objs.size x y->h'.objs.size=s.heap.objs.size+1->
   (∀ c o,c≠z->c≠TO->c≠i1->c≠i2->s.heap.get? c=some o->h'.get? c=some o)->Q (some (.ref s.heap.objs.size)) { s with heap:=h',toks:=tk }) :
  jF (jH prog w) A (NS (.ref z)) Q E s:=by
 have hT:s.TypeIs (.ref z) "zip":=⟨_,hz,rfl⟩;unfold NS
 exact j4 (wpAny_attempt (YW (name:=NB "__next__") hT Yb
  (N4 Yb hT J2
   (zm8 D D1 D2 hz hTI hTO h1 h2 k1 k2 fun x y h' tk a1 a2 a3 a4 a5 a6 a7 a8 a9=>jg (hQ x y h' tk a1 a2 a3 a4 a5 a6 a7 a8 a9)) (WI _))))
theorem zi1{z TI TO i1 i2:ji}{f1 f2:List ji}{n1 n2 k:Nat}{P1 P2:Nat->j6->Prop}{S1 S2:Nat->Qs->Prop}{a b:j6}{Q:Option j6->ja->Prop}(D:ZAp z TI TO i1 i2 f1 f2)
  (D1:Ua prog w A.in1 i1 f1 n1 P1 S1) (D2:Ua prog w A.in1 i2 f2 n2 P2 S2) (hz:Wo s.heap z TI TO .none) (hTI:gk s.heap TI (.ref i1) (.ref i2)) (hTO:gk s.heap TO a b)
  (h1:S1 k s.heap) (h2:S2 k s.heap) (he:zm4 prog w A.in1 i1 (S1 k)∨(k < n1/\zm4 prog w A.in1 i2 (S2 k)))
  (hQ:∀ h' tk,(∀ c o,c≠z->c≠TO->c≠i1->c≠i2->s.heap.get? c=some o->h'.get? c=some o)->Q none { s with heap:=h',toks:=tk }):jF (jH prog w) A (NS (.ref z)) Q E s:=by
 have hT:s.TypeIs (.ref z) "zip":=⟨_,hz,rfl⟩;unfold NS
 refine j4 (wpAny_attempt (YW (name:=NB "__next__") hT Yb
  (N4 Yb hT J2 (znX D D1 D2 hz hTI hTO h1 h2 he fun h' e tk hk he=>?_) (WI _))))
 obtain⟨o,ho,hc⟩:=he;refine j4 (N5 (T:="StopIteration") (b:=true) ⟨o,ho,hc⟩ isSubtype_stop ?_);exact jg (hQ _ _ hk)
end
theorem Inv.pair{X:Cx}{pc:List (ji × Obj)}{sg:St}{H:Hp}{s:ja}{h2:Qs}{tk:Nat}{ch:List ji}{x y:V}{u v:j6}(I:Inv X pc sg H s)(hf:∀ b∈ch,zjv X pc H b)
  (keep2:∀ b o,b∉ch->s.heap.get? b=some o->h2.get? b=some o) (tup2:gk h2 s.heap.objs.size u v) (ru:RelV x u) (rv:RelV y v) :
  Inv X pc sg (upd H s.heap.objs.size (.tup [x,y])) { s with heap:=h2,toks:=tk }:=by
 have hn:H s.heap.objs.size=none:=I.hok.fresh (jj _);have nH:∀ b v,H b=some v->b∉ch/\b≠s.heap.objs.size:=fun b v q=>⟨(fun z=>by rw[(hf b z).1] at q; cases q),zaa q hn⟩
 refine I.step (g':=s.gens) (d':=s.drawn) (ch:=ch) (fun b hb=>?_) (fun b o _ _ hc q _=>keep2 b o hc q)
  (fun b o _ _ hc q _=>⟨o.slots,keep2 b o hc q⟩) (fun b o hc q n=>by rw[za6 (jI (jh q))]; exact n)
  (fun b o hc q=>⟨o,keep2 b o hc q⟩) (fun b ys q=>by rw[za6 (nH b _ q).2]; exact q) (fun b o v q=>by rw[za6 (nH b _ q).2]; exact q)
  (fun b ps q=>⟨#[],by rw[za6 (nH b _ q).2,q]; simp⟩) (fun m hm=>?_) (fun b v' q=>?_) I.bare
 ·obtain⟨f0,f1,f2,f3,f4,f5⟩:=hf b hb;exact⟨f3,f1,f4,f5⟩
 ·obtain⟨o,es,ep,ho,r⟩:=hm;exact⟨o,es,ep,keep2 _ o (fun z=>(hf _ z).2.1 rfl) ho,r⟩
 ·by_cases hb:b=s.heap.objs.size
  ·subst hb;rw[zad] at q;cases q;exact⟨by show 2<=jn; decide,[u,v],.cons ru (.cons rv .nil),_,tup2,rfl,_,rfl⟩
  ·rw[za6 hb] at q;refine(I.hok b v' q).stay (fun c v'' hc q'=>?_) (fun c q'=>by rw[za6 (nH c _ q').2]; exact q') fun c ys q'=>by rw[za6 (nH c _ q').2]; exact q'
   rcases hc with z |z
   ·exact keep2 c v'' (by rw[z]; exact(nH b v' q).1) q'
   ·exact keep2 c v'' (nH c _ z).1 q'
theorem Inv.turnedS{X:Cx}{pc:List (ji × Obj)}{sg:St}{H:Hp}{s:ja}{h':Qs}{t':Nat}{ch:List ji}(I:Inv X pc sg H s)(hf:∀ b∈ch,zjv X pc H b)
  (k:∀ b o,b∉ch->s.heap.get? b=some o->h'.get? b=some o):Inv X pc sg H { s with heap:=h',toks:=t' }:=by
 have nH:∀ b v,H b=some v->b∉ch:=fun b v q z=>by rw[(hf b z).1] at q; cases q
 refine I.step (g':=s.gens) (d':=s.drawn) (ch:=ch) (fun b hb=>?_) (fun b o _ _ hc e _=>k b o hc e) (fun b o _ _ hc e _=>⟨o.slots,k b o hc e⟩) (fun _ _ _ _ n=>n)
  (fun b o hc e=>⟨o,k b o hc e⟩) (fun _ _ e=>e) (fun _ _ _ e=>e) (fun b ps e=>⟨#[],by rw[e]; simp⟩) (fun m hm=>?_) (fun b u e=>?_) I.bare
 ·obtain⟨f0,f1,f2,f3,f4,f5⟩:=hf b hb;exact⟨f3,f1,f4,f5⟩
 ·obtain⟨o,es,ep,ho,r⟩:=hm;exact⟨o,es,ep,k _ o (fun z=>(hf _ z).2.1 rfl) ho,r⟩
 ·refine(I.hok b u e).stay (fun c v hc q=>?_) (fun c q=>q) fun c xs q=>q;rcases hc with z |z
  ·exact k c v (by rw[z]; exact nH b u e) q
  ·exact k c v (nH c _ z) q
section
theorem znW(n l d:Nat)(h1:l < n)(h2:d < n):ZAp (n+4) (n+2) (n+3) n (n+1) [n,l] [n+1,d]:=by
 constructor<;>first |(show @Ne Nat _ _; lia) |(intro h; simp only[ju,g9,or_false] at h; rcases h with h |h<;>(replace h:@Eq Nat _ _:=h; lia))
end
def zwz(K:j8)(a b:ji):It:=
  ⟨fun i H=>∃ xs x ys y,SqL K H a xs/\xs[i]?=some x/\SqL K H b ys/\ys[i]?=some y,
   fun i H v H'=>∃ p x y,v=.ref p/\H p=none/\H'=upd H p (.tup [x,y])/\(∀ xs,SqL K H a xs->xs[i]?=some x)/\∀ ys,SqL K H b ys->ys[i]?=some y,
   fun i H=>∃ xs ys,SqL K H a xs/\SqL K H b ys/\(xs.length<=i∨ys.length<=i)⟩
theorem zmf{P:jE}{w:Qa}{K:j8}{elts:List Q4}{x1:Nat}{tp:Pos}(a d z TI TO i1 i2:ji)(D:ZAp z TI TO i1 i2 [i1,a] [i2,d])(hai:a≠i1)(hdi:d≠i2) :
  Turn P w K (.Tuple elts x1 tp) (zwz K a d) [z,TI,TO,i1,i2] z
   (fun i h=>Wo h z TI TO .none/\gk h TI (.ref i1) (.ref i2)/\(∃ u v,gk h TO u v)/\h.IsListIter i1 a i/\h.IsListIter i2 d i) where
 mem:=by simp
 obj:=fun i h st b hb=>by
  obtain⟨hz,hTI,⟨u,v,hTO⟩,⟨o1,e1,c1,d1⟩,⟨o2,e2,c2,d2⟩⟩:=st;simp only[ju,g9,or_false] at hb;rcases hb with q |q |q |q |q
  ·rw[q]; exact⟨_,hz,fun v z=>by have z':Jg _=W9 v:=z; cases z'⟩
  ·rw[q]; exact⟨_,hTI,fun v z=>by have z':Uc _ _=W9 v:=z; cases z'⟩
  ·rw[q]; exact⟨_,hTO,fun v z=>by have z':Uc _ _=W9 v:=z; cases z'⟩
  ·rw[q]; exact⟨_,e1,fun v z=>by rw[d1] at z; cases z⟩
  ·rw[q]; exact⟨_,e2,fun v z=>by rw[d2] at z; cases z⟩
 keep:=fun i h h' st k=>by
  obtain⟨hz,hTI,⟨u,v,hTO⟩,h1,h2⟩:=st;exact⟨k z (by simp) _ hz,k TI (by simp) _ hTI,⟨u,v,k TO (by simp) _ hTO⟩,h1.at fun o e=>k i1 (by simp) o e,h2.at fun o e=>k i2 (by simp) o e⟩
 item:=by
  intro X hP hw hK hc i pc s sg H E I hf st hg;subst hP hw hK;obtain⟨hz,hTI,⟨u,v,hTO⟩,h1,hit⟩:=st;obtain⟨xs,x,ys,y,hqx,hx,hqy,hy⟩:=hg;obtain⟨its,rv,p,hz'⟩:=I.list hqx;obtain⟨w1,hw1,rw1⟩:=rv.get hx;obtain⟨its2,rv2,p2,hz2⟩:=I.list hqy;obtain⟨w2,hw2,rw2⟩:=rv2.get hy;have hlt1:i < its.toArray.size:=by simpa using (j9.mp hw1).1
  have hlt2:i < its2.toArray.size:=by simpa using (j9.mp hw2).1
  have D1:=WJ (prog:=X.prog) (w:=X.w) (A:=X.A.in1) (I.ok.hd hc) i1 a hai its.toArray;have D2:=WJ (prog:=X.prog) (w:=X.w) (A:=X.A.in1) (I.ok.hd hc) i2 d hdi its2.toArray;refine zh6 D D1 D2 hz hTI hTO ⟨h1,p.isList⟩ ⟨hit,p2.isList⟩ hlt1 hlt2 fun ux uy h1' tk hux huy zo to st1 st2 htup hsz keep1=>?_;have hux':its[i]?=some ux:=by simpa using hux
  rw[hw1] at hux';obtain rfl:=jc hux';have huy':its2[i]?=some uy:=by simpa using huy
  rw[hw2] at huy';obtain rfl:=jc huy';refine⟨_,rfl,wpAny_letOwnedTupleGo_zip zo fun h2 zn sb=>?_⟩;have keep2:∀ b o,b∉[z,TI,TO,i1,i2]->s.heap.get? b=some o->h2.get? b=some o:=fun b o nn q=>(sb.2 b (fun e=>nn (by simp[e]))).trans (keep1 b o (fun e=>nn (by simp[e])) (fun e=>nn (by simp[e])) (fun e=>nn (by simp[e])) (fun e=>nn (by simp[e])) q)
  have zlt:z < s.heap.objs.size:=jh hz;have I2:=I.pair (tk:=tk) (x:=x) (y:=y) hf keep2 ((sb.2 _ (gS zlt)).trans htup) rw1 rw2;refine⟨.ref s.heap.objs.size,_,I2,rfl,⟨s.heap.objs.size,x,y,rfl,I.hok.fresh (jj _),rfl,fun ys h'=>by rw[I.list_inj h' hqx]; exact hx,fun ys h'=>by rw[I.list_inj h' hqy]; exact hy⟩,⟨zn,(sb.2 _ D.TIz).trans (keep1 _ _ D.TIz D.TITO D.TIi1 D.TIi2 hTI),⟨_,_,(sb.2 _ D.TOz).trans to⟩,st1.1.at fun o q=>(sb.2 _ D.i1z).trans q,st2.1.at fun o q=>(sb.2 _ D.i2z).trans q⟩,fun b hb=>?_⟩
  rw[za6 (jI ?_)]
  ·exact(hf b hb).1
  ·simp only[ju,g9,or_false] at hb;rcases hb with q |q |q |q |q
   ·rw[q]; exact zlt
   ·rw[q]; exact jh hTI
   ·rw[q]; exact jh hTO
   ·rw[q]; obtain⟨o,ho,_⟩:=h1; exact jh ho
   ·rw[q]; obtain⟨o,ho,_⟩:=hit; exact jh ho
 done:=by
  intro X hP hw hK hc i pc s sg H E I hf st hg;subst hP hw hK;obtain⟨hz,hTI,⟨u,v,hTO⟩,h1,hit⟩:=st;obtain⟨xs,ys,hqx,hqy,hx⟩:=hg;obtain⟨its,rv,p,hz'⟩:=I.list hqx;obtain⟨its2,rv2,p2,hz2⟩:=I.list hqy;have hl:=rv2.length;have hl2:=rv.length;have D1:=WJ (prog:=X.prog) (w:=X.w) (A:=X.A.in1) (I.ok.hd hc) i1 a hai its.toArray;have D2:=WJ (prog:=X.prog) (w:=X.w) (A:=X.A.in1) (I.ok.hd hc) i2 d hdi its2.toArray;have he:zm4 X.prog X.w X.A.in1 i1 (fun h=>h.IsListIter i1 a i/\h.IsList a its.toArray)∨(i < its.toArray.size/\zm4 X.prog X.w X.A.in1 i2 (fun h=>h.IsListIter i2 d i/\h.IsList d its2.toArray)):=by
   rcases Nat.lt_or_ge i its.toArray.size with hi |hi
   ·have hi2:i < its.length:=by simpa using hi
    exact .inr ⟨hi,fun s Q E st hE=>NC (I.ok.hd hc) st.1 st.2 (Ng (by simp; lia)) hE⟩
   ·exact .inl fun s Q E st hE=>NC (I.ok.hd hc) st.1 st.2 (Ng hi) hE
  refine zi1 D D1 D2 hz hTI hTO ⟨h1,p.isList⟩ ⟨hit,p2.isList⟩ he fun h' tk kp=>⟨rfl,?_⟩;exact I.turnedS (t':=tk) (ch:=[z,TO,i1,i2]) (fun b hb=>hf b (by simp only[ju,g9,or_false] at hb ⊢; rcases hb with q |q |q |q<;>simp[q])) (fun b o hb q=>kp b o (fun e=>hb (by simp[e])) (fun e=>hb (by simp[e])) (fun e=>hb (by simp[e])) (fun e=>hb (by simp[e])) q)
 self:=fun _ _ _ _ _ st h=>wpAny_pyIter_zip st.1 h
section
def zvG(K:j8)(ta:TA):TI:=fun sg H R=>ta sg H fun vs H1=>∃ a b xs ys,vs=[.ref a,.ref b]/\SqL K H1 a xs/\SqL K H1 b ys/\R (zwz K a b) H1
theorem zqH{elts:List Q4}{x1:Nat}{tp:Pos}{a b:Q4}{ta:TA}{p pos:Pos}(hg:Gl X "zip")(hm:X.mg "zip"=none)(ha:PA X [a,b] ta)(hs:je [a,b] X.env=(false,eval a X.env)::je [b] X.env:=by rfl)(hs2:(QB pos (je [b] X.env)).any (·.1)=false:=by rfl) :
  PI X (.Tuple elts x1 tp) (.Call (.Name "zip" p) [a,b] [] pos) (zvG X.K ta):=by
 intro pc s sg H R I h;refine Call_ (zel I hg hm PyProof.Rows.boot_zip (Qf (thn (ha pos pc s sg H _ I h) fun us s1 ⟨vs,H1,I1,r1,q1⟩=>?_) hs hs2));obtain⟨a1,a2,xs,ys,e,hqx,hqy,q⟩:=q1;subst e;cases r1 with
 |cons r rr=>
  cases rr with
  |cons r' rr=>
   cases rr;cases r;cases r';obtain⟨its,rv,pl,hz⟩:=I1.list hqx;obtain⟨its2,rv2,pl2,hz2⟩:=I1.list hqy;have lt1:a1 < s1.heap.objs.size:=by obtain⟨o,ho,_⟩:=pl.isList; exact jh ho
   have lt2:a2 < s1.heap.objs.size:=by obtain⟨o,ho,_⟩:=pl2.isList; exact jh ho
   refine call_zip_2 pl.isList pl2.isList fun h' hz hTI hTO hi1 hi2 hsz kp=>wpAny_pyIter_zip hz ?_;refine⟨s1.heap.objs.size+4,[s1.heap.objs.size+4,s1.heap.objs.size+2,s1.heap.objs.size+3,s1.heap.objs.size,s1.heap.objs.size+1],_,_,H1,rfl,I1.kept (t':=s1.toks) kp,zmf a1 a2 _ _ _ _ _ (znW _ a1 a2 lt1 lt2) (jI lt1) (jI (QV lt2)),⟨hz,hTI,⟨_,_,hTO⟩,hi1,hi2⟩,fun b hb=>?_,q⟩;have le:s1.heap.objs.size<=b:=by
    simp only[ju,g9,or_false] at hb;rcases hb with h |h |h |h |h<;>rw[h]<;>first |exact jj _ |exact Nat.le_add_right _ _
   exact I1.fpOk le (I1.hok.fresh le)
end
def zs8:List Int->Int
 |[]=>0
 |x::xs=>xs.foldl (fun a b=>if a < b then b else a) x
theorem zq1{ns:List Int}{m:Int}(hm:m∈ns)(h:∀ x∈ns,x<=m):zs8 ns=m:=by
 cases ns with
 |nil=>cases hm
 |cons x xs=>
  show xs.foldl (fun a b=>if a < b then b else a) x=m
  have h1:=fold_max xs x;have:m<=xs.foldl (fun a b=>if a < b then b else a) x:=by
   rcases ju.mp hm with e |e
   ·rw[e]; exact h1.2.1
   ·exact h1.2.2 m e
  have:xs.foldl (fun a b=>if a < b then b else a) x<=m:=by
   rcases h1.1 with e |e
   ·rw[e]; exact h x (jX ..)
   ·exact h _ (jw _ e)
  lia
theorem zkQ{zs:Array (Int × Tok)}{ns:List Int}(e:ns=zs.toList.map (·.1))(i:Nat):numAt zs i=ns[i]?.getD 0:=by
 subst e;unfold numAt;rw[jf,Nr]
section
theorem znG(hc:X.calm=true):CallR X (.builtin "max") (fun xs H Q=>∃(a:ji) (ns:List Int),xs=[V.ref a]/\SqL X.K H a (ns.map V.int)/\0 < ns.length/\Q (.int (zs8 ns)) H):=by
 intro pc s σ H xs us Q I rv h;obtain⟨a,ns,rfl,hq,hn,q⟩:=h;obtain⟨u,rfl,ru⟩:=rv.one;cases ru;obtain⟨its,r,p,hz⟩:=I.list hq;have hi:=zgG r;obtain⟨zs,hx⟩:=hi.allInts.items;have e1:ns=zs.toList.map (·.1):=by
  rw[<-nums_intItems,<-hx];exact(show numsOf its.toArray.toList=ns from hi.numsOf).symm
 have el:zs.size=ns.length:=by rw[e1]; simp
 refine max_intList (xs:=zs) (I.ok.hd hc) (hx▸p.isList) (by lia) fun v h' tk hv k=>?_
 obtain⟨t,rfl⟩:=intItems_at hv;have b:=argBest_gt (numAt zs) (zs.size - 1);have e2:zs8 ns=numAt zs (argBest (fun i j=>decide (numAt zs i > numAt zs j)) (zs.size - 1)):=by
  refine zq1 ?_ fun x hx=>?_
  ·rw[zkQ e1,j3 (by lia)]
   exact Qz _
  ·obtain⟨j,hj,rfl⟩:=Yc hx;have:=b.2 j (by lia)
   rw[zkQ e1 j,j3 hj] at this;exact this
 rw[<-e2];exact⟨.int (zs8 ns),H,I.kept k,⟨_,rfl⟩,q⟩
end
end L2
namespace L2
open PySem PySem.Spec PyProof.Rows
open PySem.W (hideAll hideAll_get of_hideAll hideAll_none funFrames_hide)
structure Fly (P:jE) (w:Qa) (outer:List Env) (H:Hp) (s:ja) (x C:ji) (a0:j6) (B:Qs) (H':Hp) (s':ja):Prop where
 os:s'.os=s.os
 bare:YK s'.gens
 fly:U3 B outer x (.ref C) a0 s'.heap
 hok:HOk P w H' B
 un:Un (frs outer) [] H H' s.heap s'.heap
 keep:∀ b o,s.heap.get? b=some o->H b=none->b∉frs outer->B.get? b=some o
 has:∀ b o,s.heap.get? b=some o->b∉frs outer->∃ o',B.get? b=some o'
 fr:∀ b∈frs outer,H' b=none
def CX1(P:jE)(w:Qa):CXT:=fun outer H s E e s'=>∃ x C a0 B H',e=.ref x/\Fly P w outer H s x C a0 B H' s'/\E (.ref C) none H'
theorem Fly.on{P:jE}{w:Qa}{outer:List Env}{H H':Hp}{s s':ja}{x C:ji}{a0:j6}{B h'':Qs}(F:Fly P w outer H s x C a0 B H' s')(st:B.StaysIn h'')(up:s'.heap.UpToSlots h'')(funs:s.heap.FunFrames base outer) :
  Un (frs outer) [] H H' s.heap h'':=by
 have sl:∀ b o,s.heap.get? b=some o->H b=none->b∈frs outer->∃ sl,h''.get? b=some { o with slots:=sl }:=fun b o e n hb=>by
  obtain⟨sl,e1⟩:=F.un.slot b o e n hb (by simp)
  obtain⟨_,o',ho',hd'⟩:=funs.mem hb;rw[e] at ho';obtain rfl:=jc ho';obtain⟨sl2,e2⟩:=up b _ e1 hd';exact⟨sl2,e2⟩
 refine⟨fun b o e n hb _=>st b o (F.keep b o e n hb),fun b o e n hb _=>sl b o e n hb,F.un.free,fun b o e _=>?_,F.un.tups,F.un.frzs,F.un.tbls⟩
 by_cases hb:b∈frs outer
 ·obtain⟨o1,e1⟩:=F.un.there b o e (by simp)
  obtain⟨_,o',ho',hd'⟩:=funs.mem hb
  by_cases n:H b=none
  ·obtain⟨sl,e2⟩:=sl b o e n hb;exact⟨_,e2⟩
  ·obtain⟨_,_,ho2,hd2⟩:=F.fly.2.2.1.mem hb;obtain⟨sl,e2⟩:=up b _ ho2 hd2;exact⟨_,e2⟩
 ·obtain⟨o',e1⟩:=F.has b o e hb;exact⟨o',st b o' e1⟩
section
variable {P:jE}{w:Qa}{K:j8}{mg:Str->Option j6}{base:Qs}{N:List Str}{qual:Str}{scope:gr}{f:ji}{cd:j6}{A:Q3}{outer:List Env}{s:ja}{H:Hp}{E:XK}
theorem zlB{pc:List (ji × Obj)}{σ:St}{Hc:Hp}{s2:ja}{h':Qs}{e C:ji}{vs:List j6}{tk:Nat}
  (I:Inv (zff (CX1 P w) P w K mg base N qual scope f cd A outer s H E) pc σ Hc s2) (hA:A.frames=some outer) (hx:Jt s2.heap h' e (.ref C) vs) (hE:E (.ref C) none Hc) :
  (zff (CX1 P w) P w K mg base N qual scope f cd A outer s H E).xe (.ref e) { s2 with heap:=h',toks:=tk }:=by
 show jF (jH P w) (A.deeper (QJ qual scope s.heap.objs.size f cd)) (leaving (QJ qual scope s.heap.objs.size f cd) (.ref e)) _ _ _;have stk:=I.stack;have fsub:∀ env∈(QJ qual scope s.heap.objs.size f cd::outer),∀ b,env.frame=some b->b∈frs (QJ qual scope s.heap.objs.size f cd::outer):=fun env he b hb=>gs.mpr ⟨env,he,hb⟩;refine wpAny_leaves_madeW (base:=hideAll s2.heap (frs (QJ qual scope s.heap.objs.size f cd::outer))) (ZR hA) rfl (fun b o q=>of_hideAll _ q) (funFrames_hide stk fsub) hx fun h'' t x1 x2 x3 x4=>?_;have own:∀ b o,s.heap.get? b=some o->b∉frs outer->b∉frs (QJ qual scope s.heap.objs.size f cd::outer):=fun b o q hb hm=>by
  unfold frs at hm;rw[QQ] at hm;rcases ju.mp hm with z |z
  ·exact absurd (jh q) (by rw[z]; exact Qk _)
  ·exact hb z
 have un:Un (frs outer) [] H Hc s.heap s2.heap:=I.base;have up:s2.heap.UpToSlots h'':=(YX hx.keeps).trans x4;refine⟨e,C,_,hideAll s2.heap (frs (QJ qual scope s.heap.objs.size f cd::outer)),Hc,rfl,⟨I.os,I.bare,x1,fun a o q=>?_,⟨fun b o q n hb _=>?_,fun b o q n hb _=>?_,un.free,fun b o q _=>?_,un.tups,un.frzs,un.tbls⟩,fun b o q n hb=>?_,fun b o q hb=>?_,fun b hb=>?_⟩,hE⟩
 ·have nf:∀ b u,Hc b=some u->b∉frs (QJ qual scope s.heap.objs.size f cd::outer):=fun b u hu hm=>by
   rw[I.stkFree b hm] at hu;cases hu
  exact(I.hok a o q).stay (fun b u hb r=>Zv _ r (by
   rcases hb with rfl |hb
   ·exact nf _ _ q
   ·exact nf _ _ hb)) (fun _ r=>r) fun _ _ r=>r
 ·exact x1.1 b o (Zv _ (un.keep b o q n hb (by simp)) (own b o q hb))
 ·obtain⟨sl,e1⟩:=un.slot b o q n hb (by simp)
  obtain⟨_,o',ho',hd'⟩:=I.funs.mem hb;rw[e1] at ho';obtain rfl:=jc ho';obtain⟨sl2,e2⟩:=up b _ e1 hd';exact⟨sl2,e2⟩
 ·obtain⟨o1,e1⟩:=un.there b o q (by simp)
  by_cases hb:b∈frs outer
  ·obtain⟨_,o',ho',hd'⟩:=I.funs.mem hb;obtain⟨sl2,e2⟩:=up b _ ho' hd';exact⟨_,e2⟩
  ·exact⟨o1,x1.1 b o1 (Zv _ e1 (own b o q hb))⟩
 ·exact Zv _ (un.keep b o q n hb (by simp)) (own b o q hb)
 ·obtain⟨o1,e1⟩:=un.there b o q (by simp)
  exact⟨o1,Zv _ e1 (own b o q hb)⟩
 ·refine I.stkFree b ?_;show b∈frs (QJ qual scope s.heap.objs.size f cd::outer);unfold frs;rw[QQ];exact jw _ hb
end
end L2
namespace L2
open PySem PySem.Spec PyProof.Rows
variable {X:Cx}
structure XCls (h:Qs) (C:ji) (bm:List j6):Prop where
 obj:∃ N nm q bs hdct sn sub ab col dd k0 k1 k2 k3 k5 mN,h.get? C=some (gN nm q C N bs bm hdct sn sub ab col dd k0 k1 k2 k3 k5 "ValueError.__new__")/\h.Ns N mN/\mN "__init__"=none/\JO h [.type "ValueError",.type "Exception",.type "BaseException",.type "object"] bm
theorem XCls.keeps{h h':Qs}{C:ji}{bm:List j6}(x:XCls h C bm)(k:∀ b o,h.get? b=some o->h'.get? b=some o):XCls h' C bm:=by
 obtain⟨N,nm,q,bs,hdct,sn,sub,ab,col,dd,k0,k1,k2,k3,k5,mN,e1,e2,e3,e4⟩:=x.obj;exact⟨N,nm,q,bs,hdct,sn,sub,ab,col,dd,k0,k1,k2,k3,k5,mN,k _ _ e1,e2.keeps k,e3,e4.keeps k⟩
def zlr(X:Cx)(E:XK):Prop:=∀(pc:List (ji × Obj)) (σ:St) (H:Hp) (s:ja) (h':Qs) (e C:ji) (vs:List j6),Inv X pc σ H s->Jt s.heap h' e (.ref C) vs->E (.ref C) none H->X.xe (.ref e) { s with heap:=h' }
theorem ziH{P:jE}{w:Qa}{K:j8}{mg:Str->Option j6}{base:Qs}{N:List Str}{qual:Str}{scope:gr}{f:ji}{cd:j6}{A:Q3}{outer:List Env}{s:ja}{H:Hp}{E:XK}(hA:A.frames=some outer) :
  zlr (zff (CX1 P w) P w K mg base N qual scope f cd A outer s H E) E:=fun pc σ Hc s2 h' e C vs I hx hE=>zlB (tk:=s2.toks) I hA hx hE
section
variable {E:XK}{C:ji}{bm:List j6}{x:Str}{np cpos pos:Pos}{e0:Q4}{es:List Q4}{t:TA}
theorem zor(hR:zlr X E)(hc:X.calm=true)(xc:XCls X.base C bm)(hg:Gl X x)(hm:X.mg x=some (.ref C))(ha:PA X (e0::es) t)
  (he:je (e0::es) X.env=(false,eval e0 X.env)::je es X.env:=by rfl) (hpl:(QB cpos (je es X.env)).any (·.1)=false:=by rfl) (hd:(x == ("__debug__":Str))=false:=by decide) (hz:(e0::es).length<=100:=by decide) :
  PS X (.Raise (some (.Call (.Name x np) (e0::es) [] cpos)) none pos) (fun D σ H=>t σ H fun vs H1=>vs.length<=1000/\E (.ref C) none H1):=by
 intro pc s σ H D I h;obtain⟨N,nm,q,bs,hdct,sn,sub,ab,col,dd,k0,k1,k2,k3,k5,mN,e1,e2,e3,e4⟩:=xc.obj;refine wpAny_Raise_call_subT (C:=C) (nm:=nm) (q:=q) (N:=N) (bs:=bs) (bm:=bm) (hdct:=hdct) (sn:=sn) (sub:=sub) (ab:=ab) (col:=col) (dd:=dd) (k0:=k0) (k1:=k1) (k2:=k2) (k3:=k3) (k5:=k5)
  Z4 (mN:=mN) (e4.hasType Z4.hasBase) (I.ok.hd hc) (by rw[he]; show (false||(QB cpos (je es X.env)).any (·.1))=false; rw[hpl]; rfl) e3 (zeu I hg hm ⟨rfl,?_⟩ hd)
 have a:=ha cpos pc s σ H _ I h;rw[he] at a ⊢;refine gX (jO a (fun us s2 h2=>?_) fun _ _ y=>y);obtain⟨vs,H1,I1,r,hl,hE⟩:=h2;have xc2:=I1.bk;refine⟨rfl,?_,xc2 _ _ e1,e2.keeps xc2,e4.keeps xc2,fun h' e hx=>hR pc σ H1 s2 h' e C us I1 hx hE⟩;show us.length<=jn;rw[<-r.length,Zs];lia
end
def zcD(X:Cx):St:=gQ X.N.length none
def ztB(x C:ji):HO:=.ext fun h=>∃ o,h.get? x=some o/\o.cls=.ref C
abbrev Cx.held(X:Cx)(x:ji):Cx:={ X with A:=X.A.mark (some (.ref x)),calm:=false,xe:=fun _ _=>False }
section
variable {pc:List (ji × Obj)}{σ:St}{H H':Hp}{s:ja}{x:ji}
theorem Inv.held(I:Inv X pc σ H s)(x:ji):Inv (X.held x) pc σ H s:=
 ⟨⟨I.ok.mod,I.ok.kind,I.ok.glob,I.ok.blt,I.ok.above,I.ok.inj,I.ok.has,I.ok.cab,(fun z=>by cases z),I.ok.frames,I.ok.stk,I.ok.exf,I.ok.bs,I.ok.bsz,I.ok.noex,I.ok.exfs,I.ok.funs,I.ok.frf⟩,I.os,I.bare,I.base,I.loc,I.cell,I.free,I.freeC,I.pin,I.hok,I.len⟩
theorem Inv.unheld(ok:X.Ok)(I:Inv (X.held x) pc σ H s):Inv X pc σ H s:=
 ⟨ok,I.os,I.bare,I.base,I.loc,I.cell,I.free,I.freeC,I.pin,I.hok,I.len⟩
theorem Inv.nopins(I:Inv X pc σ H s):Inv X [] σ H s:=Inv.unpinned (pc:=[]) (pl:=pc) (by simpa using I)
theorem zkR{i:Nat}{v:V}:(zcD X)[i]?≠some (some v):=fun e=>by
 unfold zcD at e;rw[gy] at e;split at e<;>cases e
theorem Inv.noNames(I:Inv X pc σ H s):Inv X pc (zcD X) H s:=I.forget (by unfold zcD; rw[ZH]; exact I.len.symm) fun i v e=>absurd e zkR
theorem Inv.relocal{h':Qs}{tk:Nat}{m':Str->Option j6}(I:Inv X [] σ H s)(hp:X.pn=[])(hn:h'.Ns X.env.locals m')(hs:Qd X.env.locals s.heap h'):Inv X [] (zcD X) H { s with heap:=h',toks:=tk }:=by
 have old:∀ b o,X.s₀.heap.get? b=some o->b≠X.env.locals:=fun b o e=>jI (jQ (jh e) I.ok.above);refine⟨I.ok,I.os,I.bare,⟨fun b o e n hb hx=>?_,fun b o e n hb hx=>?_,I.base.free,fun b o e hx=>?_,I.base.tups,I.base.frzs,I.base.tbls⟩,⟨m',hn,fun i y v _ e _=>absurd e zkR⟩,fun y c e=>?_,I.free,I.freeC,fun p hp'=>?_,fun a o e=>?_,by unfold zcD; rw[ZH]⟩
 ·exact(hs.2 b (old b o e)).trans (I.base.keep b o e n hb hx)
 ·obtain⟨sl,e1⟩:=I.base.slot b o e n hb hx;exact⟨sl,(hs.2 b (old b o e)).trans e1⟩
 ·obtain⟨o',e1⟩:=I.base.there b o e hx;exact⟨o',(hs.2 b (old b o e)).trans e1⟩
 ·obtain⟨v,o,ho,hd⟩:=I.cell y c e;exact⟨v,o,(hs.2 c (I.cne y c e)).trans ho,hd⟩
 ·rw[hp] at hp';simp at hp'
 ·refine(I.hok a o e).stay (fun b u hb q=>(hs.2 b ?_).trans q) (fun _ q=>q) fun _ _ q=>q;rintro rfl;rcases hb with z |z
  ·rw[<-z,I.free] at e; cases e
  ·rw[I.free] at z; cases z
end
section
variable {M:JY}{A:Q3}{E:j6->ja->Prop}
theorem zkf{h:Qs}{g:Array gO}{d:Drawn}{t:Nat}{os:JP}{e C D:ji}{oe:Obj}{bm bmD:List j6}{Q:Bool->ja->Prop}(xc:XCls h C bm)(xd:XCls h D bmD)(he:h.get? e=some oe)(hcls:oe.cls=.ref C)(hm:(jS C::bm).contains (.ref D)=true)
  (hq:Q true ⟨h,g,d,t,os⟩):jF M A (WK (.ref e) (.ref D)) Q E ⟨h,g,d,t,os⟩:=by
 obtain⟨N,nm,q,bs,hdct,sn,sub,ab,col,dd,k0,k1,k2,k3,k5,mN,hC,_,_,_⟩:=xc.obj;obtain⟨N',nm',q',bs',hdct',sn',sub',ab',col',dd',k0',k1',k2',k3',k5',mN',hD,_,_,T⟩:=xd.obj;have hcB:(jS D::bmD).contains (.type "BaseException")=true:=by rw[gE,T.hasType (X:="BaseException") (b:=true) Z4.hasBase,ND]
 have f:=tc_notTuple;unfold WK
 repeat (first |(with_reducible refine Qr he ?_; rw[hcls]) |with_reducible refine Qr hD ?_ |(with_reducible refine Zb hD ?_; rw[hcB]) |(with_reducible refine Zb hC ?_; rw[hm]) |wp_step)
 exact hq
end
def PS0(X:Cx)(st:Qw)(t:TS):Prop:=∀(s:ja) (σ:St) (H:Hp) (D:Ends),Inv X [] σ H s->t D σ H->jF (jH X.prog X.w) X.A (exec st X.env) (SP X [] D) X.xe s
def znP(X:Cx)(st:List Qw)(t:TS):Prop:=∀(s:ja) (σ:St) (H:Hp) (D:Ends),Inv X [] σ H s->t D σ H->jF (jH X.prog X.w) X.A (execs st X.env) (SP X [] D) X.xe s
section
theorem Inv.track{σ:St}{H:Hp}{s:ja}{x C:ji}{oe:Obj}{vs:Array j6}(I:Inv X [] σ H s)(hp:X.pn=[])(hx:H x=none)(he:s.heap.get? x=some oe)(hc:oe.cls=.ref C)(hd:oe.data=.fields vs)(new:∀ o,X.s₀.heap.get? x≠some o):Inv X [] σ (upd H x (ztB x C)) s:=by
 have ne:∀ b u,H b=some u->b≠x:=fun b u e z=>by rw[z,hx] at e; cases e
 refine⟨I.ok,I.os,I.bare,⟨I.base.keep,I.base.slot,fun b o e n hb=>?_,I.base.there,fun b xs e=>?_,fun b o u e=>?_,fun b ps e=>?_⟩,I.loc,I.cell,?_,fun y c e=>?_,fun p hp'=>?_,fun a o e=>?_,I.len⟩
 ·have nb:b≠x:=fun z=>new o (by rw[<-z]; exact e)
  rw[za6 nb];exact I.base.free b o e n hb
 ·have:=I.base.tups b xs e;rw[za6 (ne b _ this)]; exact this
 ·have:=I.base.frzs b o u e;rw[za6 (ne b _ this)]; exact this
 ·obtain⟨more,this⟩:=I.base.tbls b ps e;exact⟨more,by rw[za6 (ne b _ this)]; exact this⟩
 ·refine(za6 fun z=>?_).trans I.free;obtain⟨m,⟨o',es,ep,ho',hd',_⟩,_⟩:=I.loc;rw[z,he] at ho';obtain rfl:=jc ho';rw[hd] at hd';cases hd'
 ·refine(za6 fun z=>?_).trans (I.freeC y c e);obtain⟨v,o',ho',hd'⟩:=I.cell y c e;rw[z,he] at ho';obtain rfl:=jc ho';rw[hd] at hd';cases hd'
 ·rw[hp] at hp';simp at hp'
 ·by_cases hb:a=x
  ·subst hb;rw[zad] at e;obtain rfl:=jc e;exact⟨⟨oe,he,hc⟩,⟨oe,he⟩,fun h1 h2 ⟨o,e1,e2⟩ k=>⟨o,k o e1,e2⟩⟩
  ·rw[za6 hb] at e;exact(I.hok a o e).stay (fun _ _ _ q=>q) (fun b q=>by rw[za6 (ne b _ q)]; exact q) fun b xs q=>by rw[za6 (ne b _ q)]; exact q
def zlk(X:Cx)(D:ji)(i:Nat)(ts:ji->TS)(En:Ends):XK:=fun cls _ H'=>∃ C bm,cls=.ref C/\XCls X.base C bm/\(jS C::bm).contains (.ref D)=true /\
 ∀ x,H' x=none->ts x { nx:=fun _ _=>False,rt:=En.rt } ((zcD X).set i (some (.ref x))) (upd H' x (ztB x C))
theorem Fly.inv{pc:List (ji × Obj)}{σ:St}{H1 H':Hp}{s1 s':ja}{x C:ji}{a0:j6}{B h'':Qs}{tk:Nat}(I1:Inv X pc σ H1 s1)(F:Fly X.prog X.w X.stack H1 s1 x C a0 B H' s')(st:B.StaysIn h'')(up:s'.heap.UpToSlots h''):Inv X [] (zcD X) H' { s' with heap:=h'',toks:=tk }:=
 (I1.nopins.noNames).call' (ch:=[]) (s':={ s' with heap:=h'',toks:=tk }) F.os (F.on st up I1.stack) (F.hok.kept st) F.bare (fun b hb=>by simp at hb)
theorem Fly.new{pc:List (ji × Obj)}{σ:St}{H1 H':Hp}{s1 s':ja}{x C:ji}{a0:j6}{B:Qs}(I1:Inv X pc σ H1 s1)(F:Fly X.prog X.w X.stack H1 s1 x C a0 B H' s')(hx:X.ex=[]):H' x=none/\∀ o,X.s₀.heap.get? x≠some o:=by
 have hB:B.get? x=none:=F.fly.2.1;refine⟨?_,fun o e=>?_⟩
 ·cases q:H' x with
  |none=>rfl
  |some u=>
   obtain⟨o,ho⟩:∃ o,B.get? x=some o:=by
    have hok:=F.hok x u q;cases u with
    |lst xs=>obtain⟨_,_,_,_,e⟩:=hok; exact⟨_,e⟩
    |tup xs=>obtain⟨_,_,_,o,e,_⟩:=hok; exact⟨o,e⟩
    |dK kvs=>obtain⟨_,_,_,_,o,_,_,e,_⟩:=hok; exact⟨o,e⟩
    |dT kvs=>obtain⟨_,_,_,_,o,_,_,e,_⟩:=hok; exact⟨o,e⟩
    |set S n=>obtain⟨o,_,_,_,e,_⟩:=hok; exact⟨o,e⟩
    |ins C dx fs=>obtain⟨_,_,_,e,_⟩:=hok; exact⟨_,e⟩
    |own y=>exact hok
    |xd fs=>obtain⟨_,⟨o,_,_,e,_⟩,_⟩:=hok; exact⟨o,e⟩
    |rng lo hi=>obtain⟨_,_,_,e⟩:=hok; exact⟨_,e⟩
    |frz ob u=>obtain⟨e,_⟩:=hok; exact⟨_,e⟩
    |tbl ps=>exact⟨_,show B.get? x=some _ from hok⟩
    |met f y=>exact⟨_,show B.get? x=some _ from hok⟩
    |ext φ=>obtain⟨_,e,_⟩:=hok; exact e
   rw[hB] at ho; cases ho
 ·obtain⟨o1,e1⟩:=I1.base.there x o e (by rw[hx]; simp)
  by_cases hf:x∈frs X.stack
  ·obtain⟨oe,vs,T,oT,ts,he,_,hd,_⟩:=F.fly.2.2.2;obtain⟨_,o',ho',hd'⟩:=F.fly.2.2.1.mem hf;rw[he] at ho';obtain rfl:=jc ho';exact hd' vs hd
  ·obtain⟨o2,e2⟩:=F.has x o1 e1 hf;rw[hB] at e2; cases e2
theorem zmS{body suite:List Qw}{b0:Qw}{d n:Str}{np hpos pos:Pos}{tb:XK->TS}{ts:ji->TS}{i:Nat}{D:ji}{bmD:List j6}
  (hb:∀ W E,zen (CX1 X.prog X.w) (X.wish W) E->PSs (X.wish W) body (tb E)) (hst:X.stack=X.env::X.outer) (hfr:X.env.frame=some X.env.locals) (hpn:X.pn=[]) (hex:X.ex=[])
  (hN:X.N.Nodup) (hi:X.N[i]?=some n) (hk:X.env.scope.names.lookup n=some .local) (hgd:Gl X d) (hmd:X.mg d=some (.ref D)) (xd:XCls X.base D bmD) (hs:∀ x,PSs (X.held x) (b0::suite) (ts x))
  (hdb:(d == ("__debug__":Str))=false:=by decide) :
  PS0 X (.Try body [.ExceptHandler (some (.Name d np)) (some n) (b0::suite) hpos] [] [] pos) (fun En σ H=>tb (zlk X D i ts En) En σ H):=by
 intro s σ H En I h;refine wpAny_Try_except ?_;have pass:zen (CX1 X.prog X.w) (X.wish (fun e s1=>jF (jH X.prog X.w) X.A (Nt e X.env) (fun _ s2=>jF (jH X.prog X.w) X.A (setFlight e none) (fun _ s3=>jF (jH X.prog X.w) X.A (handleBy e X.env [.ExceptHandler (some (.Name d np)) (some n) (b0::suite) hpos]) (SP X [] En) X.xe s3) X.xe s2) X.xe s1)) (zlk X D i ts En):=by
  intro pc σ' H1 s1 ev s' I1 hq;obtain⟨x,C,a0,B,H',rfl,F,C',bm,eC,xc,hm,hsuite⟩:=hq;obtain rfl:C=C':=by injection eC
  have I1:=I1.unwish;have F:Fly X.prog X.w X.stack H1 s1 x C a0 B H' s':=F;obtain⟨hx0,hnew⟩:=F.new I1 hex;have fl:=F.fly;rw[hst] at fl;have hA:X.A.frames=some (X.env::X.outer):=by rw[<-hst]; exact I.ok.frames
  show jF (jH X.prog X.w) X.A (Nt (.ref x) X.env) _ _ _;refine wpAny_looks_onW hA hfr fl fun h4 held4 up4=>?_;refine wpAny_landsW held4 fun h5 fly5 up5=>?_;have J5:Inv X [] (zcD X) H' { s' with heap:=h5 }:=F.inv (tk:=s'.toks) I1 fly5.1 (up4.trans up5);obtain⟨oe,he,hcls⟩:=fly5.there;refine NZ (NE ?_) (by intro q; cases q)
  refine zeu (J5.held x) hgd hmd ?_ hdb;refine zkf (xc.keeps J5.bk) (xd.keeps J5.bk) he hcls hm ?_;show gc _ _ _ _ _;refine codeAny_handlers_suite_as ?_;refine lands_againW fly5 fun h6 fly6 up6=>?_;have J6:Inv X [] (zcD X) H' { s' with heap:=h6 }:=F.inv (tk:=s'.toks) I1 fly6.1 ((up4.trans up5).trans up6);obtain⟨oe6,vs6,T6,oT6,ts6,he6,⟨hc6,_⟩,hd6,_⟩:=fly6.2.2.2;have J7:=J6.track hpn hx0 he6 hc6 hd6 hnew;refine zeQ J7 hN hi (.inl hk) (v:=.ref x) rfl (fun s8 I8 _=>?_) (.inr hk);refine jO (hs x [] s8 _ _ _ (I8.held x) (hsuite x hx0)) (fun f s9 q=>?_) fun _ _ z=>Qu z;cases f with
  |next=>obtain⟨_,_,_,q⟩:=q; exact q.elim
  |brk=>obtain⟨_,_,_,q⟩:=q; exact q.elim
  |cont=>obtain⟨_,_,_,q⟩:=q; exact q.elim
  |ret u=>
   obtain⟨v,σ9,H9,I9,r,q⟩:=q;have I9:=I9.unheld I.ok;obtain⟨m,hn,_⟩:=I9.loc;exact wpAny_nameGoes hk hn (by rw[I.ok.kind]; rfl) fun h' m' hn' hs'=>⟨v,zcD X,H9,I9.relocal hpn hn' hs',r,q⟩
 refine jO (hb _ _ pass [] s σ H En (I.wish _) h) (fun f s1 q=>?_) fun _ _ z=>z;have q:=q.unwish;cases f with
 |next=>exact Z7 q
 |brk=>exact q
 |cont=>exact q
 |ret u=>exact q
end
end L2
namespace L2
open PySem PySem.Spec PySem.Calls PyProof.Rows PySem.W Builtin Builtin.ObjectAttr Builtin.Getset_descriptor
def zha(x C:ji)(h:Qs):Prop:=∃ o,h.get? x=some o/\o.cls=.ref C
structure XIn (K:Frag) (C:ji):Prop where
 ga:Jn K (.ref C) "__getattribute__"=some (some (.builtin "BaseException.__getattribute__"))
 no:Jn K (.ref C) "__getattr__"=some none
 cl:Jn K (.ref C) "__class__"=some (some (.builtin "object.__class__"))
 ob:Ub K C (.type "object")=some true
 be:Ub K C (.type "BaseException")=some true
 it:(clsIn K C).isSome=true
section
variable {prog:jE}{w:Qa}{A:Q3}{E:j6->ja->Prop}{K:Frag}{x C:ji}{h:Qs}{g:Array gO}{d:Drawn}{t:Nat}{os:JP}
theorem zds(M:JY)(h:Qs)(p:zha x C h):Looks M h (typeOf (.ref x)) (.ref C):=by
 obtain⟨o,h1,h2⟩:=p;exact h2▸(Looks.ld h1).andThen .now
theorem zny{R:WQ->ja->Prop}{tp:j6}(X:K.In h)(p:zha x C h)(hm:Ub K C (.type "object")=some true)(hq:R (.ok (.ret (.ref C))) ⟨h,g,d,t,os⟩) :
  gc (jH prog w) A (.call (.builtin "getset_descriptor.__get__") ⟨[.builtin "object.__class__",.ref x,tp],[]⟩) R ⟨h,g,d,t,os⟩:=by
 have L0:=zds (jH prog w) h p;have L1:=Jo (M:=jH prog w) X hm;refine ZS KF.slot_gs.plain KF.entry_gs (KF.slot_gs.check _ _ _ _ _ _ _ _ KF.type_class (KF.args_gs _ _ _) ?_);unfold YT.«getset_descriptor.__get__» descrGet;rw[dga_obj];refine j4 (jg ?_);unfold descrGetter descrCheckInstance descrNameAndClass YD;simp only[KF.owner_class]
 repeat lk
 refine⟨gD _ (by decide +kernel),Y9 KF.entry_class ?_⟩
 unfold YT.«object.__class__» shownTypeOf
 repeat lk
 exact hq
theorem zkd{tk:Tok}{Q:Fin->ja->Prop}(X:K.In h)(p:zha x C h)(c:XIn K C)(hq:Q (.done (.ret (.ref C))) ⟨h,g,d,t,os⟩) :
  jF (jH prog w) A (YT.«object.__getattribute__» ⟨[.ref x,.str "__class__" tk],[]⟩) Q E ⟨h,g,d,t,os⟩:=by
 have L0:=zds (jH prog w) h p;have L1:=Yi (M:=jH prog w) X c.cl;have hT5:(⟨h,g,d,t,os⟩:ja).TypeIs (.builtin "object.__class__") "getset_descriptor":=NF;have f5:=NF;have f6:=F.slot_gs_get.lookup;have f7:=F.slot_gs_set.lookup
 repeat (any_goals (first |assumption |with_reducible refine L0.at ?_ |with_reducible refine L1.at ?_ |wp_step))
 refine zny X p c.ob ?_
 repeat (any_goals (first |assumption |wp_step))
theorem zke{nameV:j6}{Q:Unit->ja->Prop}(X:K.In h)(p:zha x C h)(c:XIn K C)(hq:Q () ⟨h,g,d,t,os⟩) :
  jF (jH prog w) A (checkBuiltinCall "BaseException.__getattribute__" ⟨[.ref x,nameV],[]⟩) Q E ⟨h,g,d,t,os⟩:=by
 have hk:builtinKind "BaseException.__getattribute__"=some .slot:=by decide +kernel
 have hsplit:splitId "BaseException.__getattribute__"=some ("BaseException","__getattribute__"):=by decide +kernel
 have L0:=zds (jH prog w) h p;have L1:=Jo (M:=jH prog w) X c.be;have ha:=F.args_bexc_ga (.ref x) nameV;simp only[checkBuiltinCall,hk,hsplit];refine j4 ?_
 ·unfold YD
  repeat (first |with_reducible refine L0.at ?_ |with_reducible refine L1.at ?_ |wp_step)
  exact hq
theorem zlT{tk:Tok}{R:WQ->ja->Prop}(X:K.In h)(p:zha x C h)(c:XIn K C)(hq:R (.ok (.ret (.ref C))) ⟨h,g,d,t,os⟩) :
  gc (jH prog w) A (.call (.builtin "BaseException.__getattribute__") ⟨[.ref x,.str "__class__" tk],[]⟩) R ⟨h,g,d,t,os⟩:=
 ZS NP.ga.plain F.entry_bexc_ga (zke X p c (zkd X p c hq))
theorem zoJ{tk:Tok}{Q:j6->ja->Prop}(X:K.In h)(p:zha x C h)(c:XIn K C)(hq:Q (.ref C) ⟨h,g,d,t,os⟩) :
  jF (jH prog w) A (getAttrBy (.ref x) (.str "__class__" tk) false) Q E ⟨h,g,d,t,os⟩:=by
 have L0:=zds (jH prog w) h p;have L1:=Yi (M:=jH prog w) X c.ga;have L2:=Yi (M:=jH prog w) X c.no;have f3:=NP.ga.bind (.ref x);have hx2:(YY "BaseException.__getattribute__" == YY "object.__getattribute__")=false:=by decide +kernel
 have hx1:(onTheHeap (jS C)&&YY "BaseException.__getattribute__" == YY "object.__getattribute__")=false:=by rw[hx2]; rfl
 repeat (any_goals (first |assumption |with_reducible refine L0.at ?_ |with_reducible refine L1.at ?_ |with_reducible refine L2.at ?_ |wp_step))
 refine zlT X p c ?_
 repeat (any_goals (first |assumption |wp_step))
theorem zlU{Q:Option j6->ja->Prop}(X:K.In h)(p:zha x C h)(c:XIn K C)(hq:Q (some (.ref C)) ⟨h,g,d,t+1,os⟩):jF (jH prog w) A (getAttr? (.ref x) "__class__") Q E ⟨h,g,d,t,os⟩:=by
 unfold getAttr? getAttrBy?
 repeat (any_goals (first |assumption |with_reducible apply zoJ X p c |wp_step))
theorem zkY(c:XIn K C):KitX K (.ref x) (.ref C) (zha x C) where
 ty:=fun M h _ p=>zds M h p
 it:=fun _ _ X _=>by
  have hcD:=c.it;unfold clsIn at hcD;split at hcD
  ·rename_i c' d' cd' sl' ho;intro A' Q' E' s' k q;unfold isType loadHead;exact j4 (wpAny_loadPart (k _ _ (X _ _ ho)) (jg q))
  ·cases hcD
 ne:=fun h tp dd its n sl X htp=>by
  have hcD:=c.it;refine Bool.eq_false_iff.mpr fun q=>?_;have e:C=tp:=Value.ref.inj (beq_iff_eq.mp q);subst e;unfold clsIn at hcD;split at hcD
  ·rename_i c' d' cd' sl' ho;have z:=(X _ _ ho).symm.trans htp;cases z
  ·cases hcD
 ca:=fun {_ _ _ _ _ s} X p k=>by
  obtain⟨h,g,d,t,os⟩:=s;exact zlU X p c k
end
section
variable {X:Cx}
def zxe(K:Frag):List V->Hp->VK->Prop:=fun xs H Q=>∃ x C v c k,xs=[.ref x,v]/\RelV v c/\H x=some (ztB x C)/\XIn K C/\kitOne K (.ref C) c=some k/\Q (.bl k) H
theorem zlm:CallR X (.builtin "isinstance") (zxe X.K):=by
 intro pc s sg H xs us Q I r h;obtain⟨x,C,v,c,k,rfl,rc,ex,xi,e,q⟩:=h;obtain⟨u,u2,rfl,ru,ru2⟩:=zpO r;obtain rfl:u=jS x:=ru;have p:zha x C s.heap:=by
  obtain⟨p,_⟩:=I.hok x _ ex;exact p
 obtain rfl:u2=c:=by
  have:v≠.str ""∨True:=.inr trivial;cases v<;>first |exact(show u2=_ from ru2).trans (show c=_ from rc).symm |(exfalso; obtain⟨t,rfl⟩:=rc; cases e) |(exfalso; cases (show c=_ from rc); cases e)
 exact kia_one (zkY xi) I.kIn p e (fun z=>nomatch z) fun tk=>⟨.bl k,H,I.tok _,rfl,q⟩
def zvd(K:Frag):List V->Hp->VK->Prop:=fun xs H Q=>∃(x C tp:ji) (cs:List ji) (k:Bool),xs=[.ref x,.ref tp]/\H x=some (ztB x C)/\XIn K C/\H tp=some (.tup (cs.map V.ref))/\kitAny K (.ref C) (cs.map jS)=some k/\Q (.bl k) H
theorem zky:∀ {cs:List ji} {us:List j6},Vals (cs.map V.ref) us->us=cs.map jS
 |[],_,r=>by cases r; rfl
 |c::cs,_,r=>by
  cases r with
  |cons r1 r2=>rw[zky r2,show _=jS c from r1]; rfl
theorem znJ:CallR X (.builtin "isinstance") (zvd X.K):=by
 intro pc s sg H xs us Q I r h;obtain⟨x,C,tp,cs,k,rfl,ex,xi,et,e,q⟩:=h;obtain⟨u,u2,rfl,ru,ru2⟩:=zpO r;obtain rfl:u=jS x:=ru;obtain rfl:u2=jS tp:=ru2;have p:zha x C s.heap:=by
  obtain⟨p,_⟩:=I.hok x _ ex;exact p
 obtain⟨_,its,rv,⟨oc,od,oda,osl⟩,h1,h2,n,h3⟩:=(show ObjOk X.prog X.w H s.heap tp (.tup (cs.map V.ref)) from I.hok tp _ et);obtain rfl:=zky rv;dsimp only at h2 h3;subst h2 h3;exact kia_tup (zkY xi) I.kIn p h1 e (fun z=>nomatch z) fun tk=>⟨.bl k,H,I.tok _,rfl,q⟩
end
end L2
namespace L2
open PySem PySem.Spec PyProof.Rows
abbrev Cx.rough(X:Cx):Cx:={ X with calm:=false,xe:=fun _ _=>False }
structure RoomH (k:Nat) (A:Q3):Prop where
 dp:A.depth+3*k+5 < Yn
 un:A.units+16*k+200 < gG
theorem Room.h{k:Nat}{A:Q3}(r:Room k A):RoomH k A:=⟨r.dp,r.un⟩
theorem RoomH.deeper{k:Nat}{A:Q3}(r:RoomH (k+1) A)(env:Env):RoomH k (A.deeper env):=
 ⟨by have:=r.dp; show A.depth+1+3*k+5 < _; lia,by have:=r.un; show A.units+3+16*k+200 < _; lia⟩
theorem RoomH.mono{j k:Nat}{A:Q3}(r:RoomH k A)(h:j<=k):RoomH j A:=⟨by have:=r.dp; lia,by have:=r.un; lia⟩
theorem RoomH.mark{k:Nat}{A:Q3}(r:RoomH k A)(v:Option j6):RoomH k (A.mark v):=⟨r.dp,r.un⟩
structure FnOkH (P:jE) (w:Qa) (K:j8) (mg:Str->Option j6) (base:Qs) (k:Nat) (f:ji) (fd:QN) (ps:List Str) (sp:Sp):Prop where
 len:∀ vs H Q E,sp vs H Q E->vs.length=ps.length
 run:∀(A:Q3) (outer:List Env) (s:ja) (H:Hp) (args:Args) (us:List j6) (vs:List V) (Q:VK) (E:XK),RoomH k A->Env0 P w K mg base A outer s H->Nm s fd args (ps.zip us)->Vals vs us->sp vs H Q E->
  gc (jH P w) A (.call (.ref f) args) (CR CX0 outer P w H s Q E) s
theorem ztu{P:jE}{w:Qa}{K:j8}{mg:Str->Option j6}{base:Qs}{k:Nat}{f:ji}{name qual:Str}{params:No}{body:List Qw}{scope:gr}{dV kV doc pm cdv ct oc:j6}{an od:Option ji}
  {osl:Array (Option j6)} {N ps:List Str} {sp:Sp} (lk:K.lookup f=some ⟨oc,od,.func (jU name qual params body scope dV kV doc pm an cdv ct),osl⟩) (hcd:QF K cdv qual=true) (S:FnScope N ps scope)
  (len:∀ vs H Q E,sp vs H Q E->vs.length=ps.length)
  (hbody:∀(A:Q3) (outer:List Env) (s:ja) (H:Hp) (vs:List V) (Q:VK) (E:XK),RoomH k (A.deeper (QJ qual scope s.heap.objs.size f cdv))->sp vs H Q E->
   ∃ t,znP (zff CX0 P w K mg base N qual scope f cdv A outer s H E).rough body t/\t { nx:=fun _ H'=>Q .non H',rt:=Q } (start N vs) H) :
  FnOkH P w K mg base (k+1) f (jU name qual params body scope dV kV doc pm an cdv ct) ps sp:=by
 refine⟨len,fun A outer s H args us vs Q E hr e0 hb r hsp=>?_⟩;have hl:=len _ _ _ _ hsp;have KX:K.In s.heap:=e0.mod.kin.keeps fun b o e=>(e0.bs b o e).1;have lim:s.heap.NoLimit:=e0.mod.nolimit.keeps fun b o e=>(e0.bs b o e).1;have hkind:∀ y∈ps.zip us,scope.names.lookup y.1=some .local∨(scope.names.lookup y.1=some .cell/\((Nn (s.heap.objs.size+1) scope.names []).lookup y.1).isSome=true):=fun⟨n,v⟩ hy=>by
  rcases S.par n (gx hy).1 with q |q
  ·exact .inl q
  ·exact .inr ⟨q,ZE _ _ _ (.inl q)⟩
 refine ZI (by have:=hr.dp; lia) (KX _ _ lk) rfl S.co S.gen rfl (gz KX hcd) (hb _ _ _ _ ?_)
 refine Zc S.kind hkind fun env he s1 x=>?_;subst he;refine⟨lim.keeps x.toInCall.keep,Np ?_⟩;obtain⟨t,ht,hq⟩:=hbody A outer s H vs Q E (hr.deeper _) hsp;have e1:Env0 P w K mg base { A with handled:=none } outer s H:=⟨e0.frames,e0.mod,e0.bs,e0.bsz,e0.funs,e0.frf,e0.hok,e0.bare⟩;have I0:Inv (zff CX0 P w K mg base N qual scope f cdv { A with handled:=none } outer s H E) [] (start N vs) H s1:=zgE S rfl e1 hl r x;have I:Inv (zff CX0 P w K mg base N qual scope f cdv A outer s H E).rough [] (start N vs) H s1:=
  ⟨⟨I0.ok.mod,I0.ok.kind,I0.ok.glob,I0.ok.blt,I0.ok.above,I0.ok.inj,I0.ok.has,I0.ok.cab,(fun z=>by cases z),ZR e0.frames,I0.ok.stk,I0.ok.exf,I0.ok.bs,I0.ok.bsz,I0.ok.noex,I0.ok.exfs,I0.ok.funs,I0.ok.frf⟩,I0.os,I0.bare,I0.base,I0.loc,I0.cell,I0.free,I0.freeC,I0.pin,I0.hok,I0.len⟩
 refine jO (ht s1 (start N vs) H _ I hq) (fun fl s' hs=>?_) fun e s' hs=>hs.elim;have fin:∀ {σ':St} {H':Hp} {v:V} {u:j6},Inv (zff CX0 P w K mg base N qual scope f cdv A outer s H E).rough [] σ' H' s'->RelV v u->Q v H'->CE outer P w H s Q u s':=
  fun {σ' H' v u} J rv q=>⟨v,H',J.os,J.bare,J.base,J.hok,rv,q⟩
 cases fl with
 |ret u=>
  obtain⟨v,σ',H',J,rv,q⟩:=hs;exact fin J rv q
 |next=>
  obtain⟨σ',H',J,q⟩:=hs;exact fin (v:=V.non) (u:=Y3) J rfl q
 |brk=>
  obtain⟨_,_,_,q⟩:=hs;exact Qu q
 |cont=>
  obtain⟨_,_,_,q⟩:=hs;exact Qu q
section
variable {X:Cx}{k:Nat}{f:ji}{fd:QN}{ps:List Str}{sp:Sp}{E:XK}{x:Str}{p pos:Pos}{e:Q4}{es:List Q4}{t:TA}
theorem zow(F:FnOkH X.prog X.w X.K X.mg X.base k f fd ps sp)(hr:RoomH k X.A)(hg:Gl X x)(hm:X.mg x=some (.ref f))(hk:jY X.K (.ref f)=true)(hb:Binds X.K fd ps [])
  (ha:PA X (e::es) t) (hdb:(x == ("__debug__":Str))=false:=by decide) (he:je (e::es) X.env=(false,eval e X.env)::je es X.env:=by rfl) (hpl:(QB pos (je es X.env)).any (·.1)=false:=by rfl) :
  PE X (.Call (.Name x p) (e::es) [] pos) (zgd sp [] E t):=by
 intro pc s σ H Q I h;refine ZF (zeu I hg hm ?_ hdb);refine Wd (h₀:=X.base) I.ok.mod.kin hk (thn (ha pos pc s σ H _ I h) fun us s1 ⟨vs,H1,I1,r,q⟩=>⟨I1.kIn,?_⟩) he hpl;have hl:(us++[]).length=ps.length:=by rw[Q8,<-r.length,<-F.len _ _ _ _ q,Q8]
 have q:sp (vs++[]) H1 Q E:=q;refine NI (gT (F.run X.A X.stack s1 H1 ⟨us,[]⟩ (us++[]) (vs++[]) Q E hr I1.env0 (hb s1 us I1.kIn hl) (by rw[Q8,Q8]; exact r) q) fun r s' hq=>?_)
 cases r with
 |error e=>exact(show False from hq).elim
 |ok fl=>
  cases fl with
  |ret u=>exact I1.after hq
  |next=>exact Qu hq
  |brk=>exact Qu hq
  |cont=>exact Qu hq
end
theorem ztv{CX:CXT}{P:jE}{w:Qa}{K:j8}{mg:Str->Option j6}{base:Qs}{k:Nat}{f:ji}{name qual:Str}{params:No}{body:List Qw}{scope:gr}{dV kV doc pm cdv ct oc:j6}{an od:Option ji}
  {osl:Array (Option j6)} {N ps:List Str} {sp:Sp} (lk:K.lookup f=some ⟨oc,od,.func (jU name qual params body scope dV kV doc pm an cdv ct),osl⟩) (hcd:QF K cdv qual=true) (S:FnScope N ps scope)
  (len:∀ vs H Q E,sp vs H Q E->vs.length=ps.length)
  (hbody:∀(A:Q3) (outer:List Env) (s:ja) (H:Hp) (vs:List V) (Q:VK) (E:XK),Room k (A.deeper (QJ qual scope s.heap.objs.size f cdv))->A.frames=some outer->sp vs H Q E->
   ∃ t,znP (zff CX P w K mg base N qual scope f cdv A outer s H E) body t/\t { nx:=fun _ H'=>Q .non H',rt:=Q } (start N vs) H) :
  FnOk P w K mg base CX (k+1) f (jU name qual params body scope dV kV doc pm an cdv ct) ps sp:=by
 refine⟨len,fun A outer s H args us vs Q E hr e0 hb r hsp=>?_⟩;have hl:=len _ _ _ _ hsp;have KX:K.In s.heap:=e0.mod.kin.keeps fun b o e=>(e0.bs b o e).1;have lim:s.heap.NoLimit:=e0.mod.nolimit.keeps fun b o e=>(e0.bs b o e).1;have hkind:∀ y∈ps.zip us,scope.names.lookup y.1=some .local∨(scope.names.lookup y.1=some .cell/\((Nn (s.heap.objs.size+1) scope.names []).lookup y.1).isSome=true):=fun⟨n,v⟩ hy=>by
  rcases S.par n (gx hy).1 with q |q
  ·exact .inl q
  ·exact .inr ⟨q,ZE _ _ _ (.inl q)⟩
 refine ZI hr.depth (KX _ _ lk) rfl S.co S.gen rfl (gz KX hcd) (hb _ _ _ _ ?_);refine Zc S.kind hkind fun env he s1 x=>?_;subst he;refine⟨lim.keeps x.toInCall.keep,Np ?_⟩;obtain⟨t,ht,hq⟩:=hbody A outer s H vs Q E (hr.deeper _) e0.frames hsp;have I:Inv (zff CX P w K mg base N qual scope f cdv A outer s H E) [] (start N vs) H s1:=zgE S hr.hd e0 hl r x;refine jO (ht s1 (start N vs) H _ I hq) (fun fl s' hs=>?_) fun e s' hs=>hs;have fin:∀ {σ':St} {H':Hp} {v:V} {u:j6},Inv (zff CX P w K mg base N qual scope f cdv A outer s H E) [] σ' H' s'->RelV v u->Q v H'->CE outer P w H s Q u s':=
  fun {σ' H' v u} J rv q=>⟨v,H',J.os,J.bare,J.base,J.hok,rv,q⟩
 cases fl with
 |ret u=>
  obtain⟨v,σ',H',J,rv,q⟩:=hs;exact fin J rv q
 |next=>
  obtain⟨σ',H',J,q⟩:=hs;exact fin (v:=V.non) (u:=Y3) J rfl q
 |brk=>
  obtain⟨_,_,_,q⟩:=hs;exact Qu q
 |cont=>
  obtain⟨_,_,_,q⟩:=hs;exact Qu q
theorem PSs.zero{X:Cx}{st:List Qw}{t:TS}(h:PSs X st t):znP X st t:=fun s σ H D I q=>h [] s σ H D I q
theorem zon{X:Cx}{st:Qw}{t:TS}(h:PS0 X st t):znP X [st] t:=fun s σ H D I q=>by
 refine ZY (jO (h s σ H D I q) (fun f s1 z=>?_) fun _ _ z=>z);cases f with
 |next=>exact Z7 z
 |brk=>exact z
 |cont=>exact z
 |ret u=>exact z
def zdB(h:Qs)(C:ji)(rest:List j6):Qs:=(h.push { cls:=.type "tuple",data:=.seq rest.toArray }).push { cls:=.ref C,data:=.fields #[.ref h.objs.size,.none,.none,.none,.bool false,.none] }
section
variable {prog:jE}{w:Qa}{A:Q3}{E:j6->ja->Prop}{h:Qs}{g:Array gO}{d:Drawn}{t:Nat}{os:JP}
variable {nm q:Str}{C N:ji}{bs bm bmB:List j6}{hdct:Bool}{sn:List Str}{sub:List j6}{ab:Bool}{col:Option Bool}{dd:Option ji}{k0 k1 k2 k3 k5:Option j6}{B newId initId:String}
theorem zgX(F:ExcBaseFacts B newId initId bmB)(T:JO h bmB bm){mN:Str->Option j6}{rest:List j6}{f:ji}{of:Obj}{Q:Fin->ja->Prop}
  (hC:h.get? C=some (gN nm q C N bs bm hdct sn sub ab col dd k0 k1 k2 k3 k5 newId)) (hn:h.Ns N mN) (hi:mN "__init__"=some (.ref f)) (hfo:h.get? f=some of) (hfc:of.cls=.type "function")
  (hq:jF (jH prog w) A (call (.ref f) (.ref (h.objs.size+1)::rest)) (fun v s'=>v=.none/\Q (.done (.ret (.ref (h.objs.size+1)))) s') E ⟨zdB h C rest,g,d,t,os⟩) (hrest:rest.length<=jn:=by size_fits) :
  jF (jH prog w) A (YT.«type.__call__» ⟨.ref C::rest,[]⟩) Q E ⟨h,g,d,t,os⟩:=by
 repeat (first |with_reducible refine Qr hC ?_ |with_reducible refine wpAny_madeBy_exc hC ?_ |wp_step)
 refine codeAny_call_builtin_code (gD _ F.quiet) (wpAny_check_new_subT F T hC ?_);refine codeAny_exc_new_subT F T hC ?_ hrest;show jF _ _ _ _ _ _;have keep:∀ b o,h.get? b=some o->(zdB h C rest).get? b=some o:=fun b o e=>jb _ (jb _ e);have hC₁:=keep _ _ hC;have hn₁:(zdB h C rest).Ns N mN:=let ⟨o,es,ep,e,r⟩:=hn; ⟨o,es,ep,keep _ _ e,r⟩
 have hget:(zdB h C rest).get? (h.objs.size+1)=some { cls:=.ref C,data:=.fields #[.ref h.objs.size,.none,.none,.none,.bool false,.none] }:=by
  unfold zdB
  heap_get
 have hcC:(jS C::bm).contains (.ref C)=true:=by simp
 have T₁:=T.keeps keep;have hfo₁:=keep _ _ hfo;unfold zdB at hC₁ hn₁ hget T₁ hfo₁ hq;unfold YD
 repeat (first |with_reducible refine Qr hget ?_ |(with_reducible refine Zb hC₁ ?_; rw[hcC]) |wp_step)
 show jF _ _ (JA (.ref C) _) _ _ _;refine wpAny_typeLookup_tail hC₁ hn₁ T₁ F.mroIs F.init.lookup ?_;rw[hi];refine Qe (j4 (wpAny_bindSpecial_def hfo₁ hfc ?_));refine j4 (jO hq (fun v s' z=>?_) fun _ _ z=>z);obtain⟨rfl,z⟩:=z;refine jg ?_;show jF _ _ (if (Y3 != Y3)=true then _ else _) _ _ _
 rw[In_ (by decide)]
 exact jg z
theorem znK(F:ExcBaseFacts B newId initId bmB)(T:JO h bmB bm){mN:Str->Option j6}{rest:List j6}{f:ji}{of:Obj}{Q:j6->ja->Prop}
  (hC:h.get? C=some (gN nm q C N bs bm hdct sn sub ab col dd k0 k1 k2 k3 k5 newId)) (hn:h.Ns N mN) (hi:mN "__init__"=some (.ref f)) (hfo:h.get? f=some of) (hfc:of.cls=.type "function")
  (hq:jF (jH prog w) (A.under (.builtin "type.__call__" ⟨.ref C::rest,[]⟩)) (call (.ref f) (.ref (h.objs.size+1)::rest)) (fun v s'=>v=.none/\Q (.ref (h.objs.size+1)) s') E ⟨zdB h C rest,g,d,t,os⟩) (hrest:rest.length<=jn:=by size_fits) :
  jF (jH prog w) A (call (.ref C) rest) Q E ⟨h,g,d,t,os⟩:=by
 have f1:=tc_lookup;have f2:=tc_bind (.ref C);have hT:(⟨h,g,d,t,os⟩:ja).TypeIs (.ref C) "type":=⟨_,hC,rfl⟩;refine NI (codeAny_of_tree ?_);show jF _ _ (callAny (.ref C) _) _ _ _
 repeat (any_goals (first |assumption |with_reducible refine Qr hC ?_ |wp_step))
 refine⟨rfl,?_⟩;refine codeAny_call_builtin_at (gD _ (by decide +kernel)) entry_typeCall (wpAny_check_type_call_sub hC (zgX (hrest:=hrest) F T hC hn hi hfo hfc ?_))
 exact jO hq (fun v s' z=>z) fun e s' z=>z
end
end L2
namespace L2
open PySem PySem.Spec PySem.Calls PyProof.Rows PySem.W Builtin Builtin.ObjectAttr
section
variable {prog:jE}{w:Qa}{A:Q3}{E:j6->ja->Prop}{h:Qs}{g:Array gO}{d:Drawn}{t:Nat}{os:JP}{K:Frag}{x C D:ji}{cd:Jp}{name:Str}{v:j6}
structure XStore (K:Frag) (C D:ji) (cd:Jp) (name:Str):Prop where
 cl:clsIn K C=some cd
 mro:cd.mro=[.ref C,.ref D,.type "ValueError",.type "Exception",.type "BaseException",.type "object"]
 hd:cd.hasDict=true
 sa:Jn K (.ref C) "__setattr__"=some (some (.builtin "object.__setattr__"))
 no:Jn K (.ref C) name=some none
theorem zio{tk:Tok}{Q:Fin->ja->Prop}{o:Obj}(X:K.In h)(c:XStore K C D cd name)(hx:h.get? x=some o)(hc:o.cls=.ref C)(hnc:∀ c,o.data≠.cls c)(hdn:o.dict=none)
  (hq:∀ h' tk',h'.Ns1 h.objs.size (fun y=>if y=name then some v else none)->(∀ b o,b≠x->h.get? b=some o->h'.get? b=some o)->h'.get? x=some { o with dict:=some h.objs.size }->Q (.done (.ret .none)) ⟨h',g,d,tk',os⟩) :
  jF (jH prog w) A (YT.«object.__setattr__» ⟨[.ref x,.str name tk,v],[]⟩) Q E ⟨h,g,d,t,os⟩:=by
 have hpass:=Wp.passes (.ref x);have L0:=zds (jH prog w) h ⟨o,hx,hc⟩;have LC:=looks_clsIn (M:=jH prog w) X c.cl;have LM:Looks (jH prog w) h (mroOf (.ref C)) cd.mro:=LC.andThen .now;have LN:=Yi (M:=jH prog w) X c.no;rw[osa_eq,refuse_eq];refine j4 (j4 (L0.at (j4 (LM.at ?_))));rw[c.mro,refuseLoop_ref,refuseLoop_ref,hpass];refine jg (j4 (L0.at (j4 (LN.at (j4 (jg ?_))))));dsimp only
 repeat (first |(with_reducible refine Qr hx ?_; rw[hc]) |with_reducible refine LC.at ?_ |wp_step)
 rw[c.hd,In_ (by decide)]
 dsimp only;rw[hdn,In_ (by simp[typeHasDict])]
 split
 ·rename_i hcd;cases hcd
 split
 ·rename_i c' hcd;exact absurd hcd (hnc c')
 ·have hx₁:(h.push { cls:=.type "dict",data:=.dict #[] }).get? x=some o:=jb _ hx;have hxs:x≠h.objs.size:=jI (jh hx);refine j4 (wpAny_alloc' ?_);refine j4 (wpAny_update' hx₁ ?_);refine jg ?_;have hgd:((h.push { cls:=.type "dict",data:=.dict #[] }).update x fun o=>{ cls:=o.cls,dict:=some h.objs.size,data:=o.data,slots:=o.slots }).get? h.objs.size
    = some { cls:=.type "dict",data:=.dict #[] }:=
   (W3 _ _ _ _ hxs.symm).trans (Heap.get?_push_at rfl rfl)
  have hnd:((h.push { cls:=.type "dict",data:=.dict #[] }).update x fun o=>{ cls:=o.cls,dict:=some h.objs.size,data:=o.data,slots:=o.slots }).Ns h.objs.size (fun _=>none):=
   ⟨_,#[],_,hgd,rfl,fun e he=>absurd he (by simp),fun _=>rfl⟩
  show jF _ _ (storeInDict h.objs.size (.str name tk) name v) _ _ _;unfold storeInDict newKeyGuard;refine j4 (jg (j4 (wpAny_nsSet1 (Heap.Ns1.of_empty hnd) fun h' hn' hs=>?_)));obtain⟨oD,esD,epD,hoD,hdD,hcD⟩:=hn'.count (Within.cons name v Within.nil);refine j4 (wpAny_lookBehind hoD (by rw[hdD]; exact pastItsLine_dict (Q9 hcD (by rw[jp,ZJ,Zs]; lia))) ?_)
  wp_walk
  refine hq h' _ hn' (fun b ob hbx hb=>?_) ?_
  ·exact(hs.2 b (jI (jh hb))).trans ((W3 _ _ _ _ hbx).trans (jb _ hb))
  ·refine(hs.2 x hxs).trans (Nq _ hx₁ ?_);have hfr:=(Heap.get?_some_iff.mp hx).2;obtain⟨oc,od,odt,osl⟩:=o;cases odt<;>first |rfl |exact hfr
theorem zjx{Q:Unit->ja->Prop}{o:Obj}(X:K.In h)(c:XStore K C D cd name)(hx:h.get? x=some o)(hc:o.cls=.ref C)(hnc:∀ c,o.data≠.cls c)(hdn:o.dict=none)
  (hq:∀ h' tk',h'.Ns1 h.objs.size (fun y=>if y=name then some v else none)->(∀ b o,b≠x->h.get? b=some o->h'.get? b=some o)->h'.get? x=some { o with dict:=some h.objs.size }->Q () ⟨h',g,d,tk',os⟩) :
  jF (jH prog w) A (setAttr (.ref x) name v) Q E ⟨h,g,d,t,os⟩:=by
 have L0:=zds (jH prog w) h ⟨o,hx,hc⟩;have LS:=Yi (M:=jH prog w) X c.sa;have LC:=looks_clsIn (M:=jH prog w) X c.cl;have LO:Looks (jH prog w) h (YD (.ref x) (.type "object")) true:=L0.andThen (Jo X (by unfold Ub; rw[c.cl,j7,c.mro]; rfl))
 have f3:=Wp.slot.bind (.ref x);have SF:=F.store_object;unfold setAttr callSpecial? specialOf
 repeat (any_goals (first |assumption |with_reducible refine L0.at ?_ |with_reducible refine LS.at ?_ |wp_step))
 refine ZS SF.slot.plain SF.entry (@check_slot (jH prog w) _ _ _ "object.__setattr__" "object" "__setattr__" (.ref x) [.str name t,v] [] _ SF.kind SF.split LO (SF.args (.ref x) (.str name t) v) ?_);refine zio X c hx hc hnc hdn fun h' tk' a1 a2 a3=>?_
 repeat (any_goals (first |assumption |wp_step))
 exact hq h' tk' a1 a2 a3
end
end L2
namespace L2
open PySem PySem.Spec PyProof.Rows
variable {A:Q3}
section
variable {M:JY}{E:j6->ja->Prop}{env:Env}
variable {nm q:Str}{C N:ji}{bs bm:List j6}{hdct:Bool}{sn:List Str}{sub:List j6}{ab:Bool}{col:Option Bool}{dd:Option ji}{k0 k1 k2 k3 k5:Option j6}{newId:String}
theorem zjI{s:ja}{x:Sem j6}{Q:Flow->ja->Prop}(hbase:bm.contains (.type "BaseException")=true)(hh:A.handled=none)
  (h:jF M A x (fun v s₁=>∃ e t dx sl,v=.ref e/\s₁.heap.get? C=some (gN nm q C N bs bm hdct sn sub ab col dd k0 k1 k2 k3 k5 newId) /\
   s₁.heap.get? e=some { cls:=.ref C,dict:=dx,data:=.fields #[.ref t,.none,.none,.none,.bool false,.none],slots:=sl }/\E (.ref e) s₁) E s) :
  jF M A (raiseStmt env (some x) none) Q E s:=by
 have hcB:(jS C::bm).contains (.type "BaseException")=true:=by rw[gE,hbase,ND]
 unfold raiseStmt;refine j4 (jO h (fun v s₁ h₁=>?_) fun _ _ x=>x);obtain⟨e,t,dx,sl,rfl,hC,he,hE⟩:=h₁;obtain⟨hp,g,d,tk,os⟩:=s₁
 repeat (first |with_reducible refine Qr he ?_ |with_reducible refine Qr hC ?_ |(with_reducible refine Zb hC ?_; rw[hcB]) |wp_step)
 exact wpAny_raiseNew_none hh hE
end
structure MadeD (h h':Qs) (e C:ji):Prop where
 keeps:∀ b o,h.get? b=some o->h'.get? b=some o
 new:h.get? e=none
 there:∃ t dx sl,h'.get? e=some { cls:=.ref C,dict:=dx,data:=.fields #[.ref t,.none,.none,.none,.bool false,.none],slots:=sl }
section
variable {M:JY}{E:j6->ja->Prop}{s:ja}
theorem zj1{base h:Qs}{env:Env}{outer:List Env}{L e C:ji}{Q:Unit->ja->Prop}
  (hfr:A.frames=some (env::outer)) (hf:env.frame=some L) (hkb:base.StaysIn h) (hl:h.FunFrames base (env::outer)) (hx:MadeD h s.heap e C)
  (hQ:∀ h' t,U3 base outer e (.ref C) (.ref t) h'->s.heap.UpToSlots h'->Q () { s with heap:=h' }):jF M A (leaving env (.ref e)) Q E s:=by
 obtain⟨t,dx,sl,he⟩:=hx.there;have fresh:∀ b,h.get? b=none->base.get? b=none:=fun b hb=>by
  cases hq:base.get? b with
  |none=>rfl
  |some o'=>have:=hkb b o' hq; rw[hb] at this; cases this
 refine wpAny_leaving_firstW (a0:=.ref t) hfr (hl.of_keeps fun b o hb _=>⟨o,hx.keeps b o hb,rfl⟩) hf he (fun b o hb=>hx.keeps b o (hkb b o hb)) (fresh e hx.new) rfl rfl rfl fun h' hL=>?_;obtain⟨k1,⟨_,_,k2⟩,k3,k4⟩:=hL;exact hQ h' t ⟨k1,fresh e hx.new,k2,k3⟩ k4
end
open PySem.W (hideAll hideAll_get of_hideAll hideAll_none funFrames_hide)
section
variable {P:jE}{w:Qa}{K:j8}{mg:Str->Option j6}{base:Qs}{N:List Str}{qual:Str}{scope:gr}{f:ji}{cd:j6}{outer:List Env}{s:ja}{H:Hp}{E:XK}
theorem zjH{pc:List (ji × Obj)}{σ:St}{Hc:Hp}{s2:ja}{h':Qs}{e C:ji}{tk:Nat}
  (I:Inv (zff (CX1 P w) P w K mg base N qual scope f cd A outer s H E) pc σ Hc s2) (hA:A.frames=some outer) (hx:MadeD s2.heap h' e C) (hE:E (.ref C) none Hc) :
  (zff (CX1 P w) P w K mg base N qual scope f cd A outer s H E).xe (.ref e) { s2 with heap:=h',toks:=tk }:=by
 show jF (jH P w) (A.deeper (QJ qual scope s.heap.objs.size f cd)) (leaving (QJ qual scope s.heap.objs.size f cd) (.ref e)) _ _ _;have stk:=I.stack;have fsub:∀ env∈(QJ qual scope s.heap.objs.size f cd::outer),∀ b,env.frame=some b->b∈frs (QJ qual scope s.heap.objs.size f cd::outer):=fun env he b hb=>gs.mpr ⟨env,he,hb⟩;refine zj1 (base:=hideAll s2.heap (frs (QJ qual scope s.heap.objs.size f cd::outer))) (ZR hA) rfl (fun b o q=>of_hideAll _ q) (funFrames_hide stk fsub) hx fun h'' t x1 x4=>?_;have own:∀ b o,s.heap.get? b=some o->b∉frs outer->b∉frs (QJ qual scope s.heap.objs.size f cd::outer):=fun b o q hb hm=>by
  unfold frs at hm;rw[QQ] at hm;rcases ju.mp hm with z |z
  ·exact absurd (jh q) (by rw[z]; exact Qk _)
  ·exact hb z
 have un:Un (frs outer) [] H Hc s.heap s2.heap:=I.base;have up:s2.heap.UpToSlots h'':=(YX hx.keeps).trans x4;refine⟨e,C,_,hideAll s2.heap (frs (QJ qual scope s.heap.objs.size f cd::outer)),Hc,rfl,⟨I.os,I.bare,x1,fun a o q=>?_,⟨fun b o q n hb _=>?_,fun b o q n hb _=>?_,un.free,fun b o q _=>?_,un.tups,un.frzs,un.tbls⟩,fun b o q n hb=>?_,fun b o q hb=>?_,fun b hb=>?_⟩,hE⟩
 ·have nf:∀ b u,Hc b=some u->b∉frs (QJ qual scope s.heap.objs.size f cd::outer):=fun b u hu hm=>by
   rw[I.stkFree b hm] at hu;cases hu
  exact(I.hok a o q).stay (fun b u hb r=>Zv _ r (by
   rcases hb with rfl |hb
   ·exact nf _ _ q
   ·exact nf _ _ hb)) (fun _ r=>r) fun _ _ r=>r
 ·exact x1.1 b o (Zv _ (un.keep b o q n hb (by simp)) (own b o q hb))
 ·obtain⟨sl,e1⟩:=un.slot b o q n hb (by simp)
  obtain⟨_,o',ho',hd'⟩:=I.funs.mem hb;rw[e1] at ho';obtain rfl:=jc ho';obtain⟨sl2,e2⟩:=up b _ e1 hd';exact⟨sl2,e2⟩
 ·obtain⟨o1,e1⟩:=un.there b o q (by simp)
  by_cases hb:b∈frs outer
  ·obtain⟨_,o',ho',hd'⟩:=I.funs.mem hb;obtain⟨sl2,e2⟩:=up b _ ho' hd';exact⟨_,e2⟩
  ·exact⟨o1,x1.1 b o1 (Zv _ e1 (own b o q hb))⟩
 ·exact Zv _ (un.keep b o q n hb (by simp)) (own b o q hb)
 ·obtain⟨o1,e1⟩:=un.there b o q (by simp)
  exact⟨o1,Zv _ e1 (own b o q hb)⟩
 ·refine I.stkFree b ?_;show b∈frs (QJ qual scope s.heap.objs.size f cd::outer);unfold frs;rw[QQ];exact jw _ hb
end
end L2
namespace L2
open PySem PySem.Spec PyProof.Rows
theorem zoE{P:jE}{w:Qa}{K:j8}{A:Q3}{E:j6->ja->Prop}{s:ja}{f e C D:ji}{cdt:Jp}{u:j6}{o:Obj}{n1 n2:Str}{p1 p2 p3 p4:Pos}
  {name qual:Str} {params:No} {scope:gr} {dV kV doc pm cdv ct oc:j6} {an od:Option ji} {osl:Array (Option j6)} {Q:j6->ja->Prop}
  (KX:K.In s.heap) (lim:s.heap.NoLimit) (lk:K.lookup f=some ⟨oc,od,.func (jU name qual params [.Assign [.Attribute (.Name n1 p1) n2 p2] (.Name n2 p3) p4] scope dV kV doc pm an cdv ct),osl⟩) (hcd:QF K cdv qual=true)
  (S:FnScope [n1,n2] [n1,n2] scope) (l1:scope.names.lookup n1=some .local) (l2:scope.names.lookup n2=some .local) (hd1:(n1 == ("__debug__":Str))=false) (hd2:(n2 == ("__debug__":Str))=false)
  (hb:Nm s (jU name qual params [.Assign [.Attribute (.Name n1 p1) n2 p2] (.Name n2 p3) p4] scope dV kV doc pm an cdv ct) ⟨[.ref e,u],[]⟩ ([n1,n2].zip [.ref e,u])) (hdp:A.depth < Yn)
  (c:XStore K C D cdt n2) (he:s.heap.get? e=some o) (hc:o.cls=.ref C) (hnc:∀ c,o.data≠.cls c) (hdn:o.dict=none)
  (hq:∀ h' tk dx,(∀ b ob,b≠e->s.heap.get? b=some ob->h'.get? b=some ob)->h'.get? e=some { o with dict:=some dx }->Q .none { s with heap:=h',toks:=tk }) :
  jF (jH P w) A (call (.ref f) [.ref e,u]) Q E s:=by
 have hkind:∀ y∈[n1,n2].zip [jS e,u],scope.names.lookup y.1=some .local∨(scope.names.lookup y.1=some .cell/\((Nn (s.heap.objs.size+1) scope.names []).lookup y.1).isSome=true):=fun⟨n,v⟩ hy=>by
  rcases ju.mp (show (n,v)∈[(n1,jS e),(n2,u)] from hy) with z |z
  ·cases z; exact .inl l1
  ·rcases ju.mp z with z |z
   ·cases z; exact .inl l2
   ·cases z
 refine NI (ZI hdp (KX _ _ lk) rfl S.co S.gen rfl (gz KX hcd) (hb _ _ _ _ ?_));refine Zc S.kind hkind fun env henv s1 x=>?_;subst henv;refine⟨lim.keeps x.toInCall.keep,Np ?_⟩;have hns:=x.toInCall.ns;obtain⟨h1,tk,rfl,hk⟩:=x.done;have nd:[n1,n2].Nodup:=S.nd;have g1:=zfb (kindOf:=(QJ qual scope s.heap.objs.size f cdv).kindOf) (m:=fun _=>none) (i:=0) (vs:=[jS e,u]) nd rfl rfl l1;have g2:=zfb (kindOf:=(QJ qual scope s.heap.objs.size f cdv).kindOf) (m:=fun _=>none) (i:=1) (vs:=[jS e,u]) nd rfl rfl l2;refine ZY (plainObj_wpAny_Assign_Attribute (NH (gW S.kind l2 hns g2 (NH (gW S.kind l1 hns g1 ?_) hd1)) hd2) rfl);refine zjx (KX.keeps hk) c (hk _ _ he) hc hnc hdn fun h' tk' a1 a2 a3=>Z7 ?_;exact hq h' tk' h1.objs.size (fun b ob hb q=>a2 b ob hb (hk b ob q)) a3
structure XClsI (K:j8) (h:Qs) (C D:ji) (bm:List j6):Prop where
 obj:∃ N nm q bs hdct sn sub ab col dd k0 k1 k2 k3 k5 mN f,h.get? C=some (gN nm q C N bs bm hdct sn sub ab col dd k0 k1 k2 k3 k5 "ValueError.__new__")/\h.Ns N mN/\mN "__init__"=some (.ref f)/\JO h [.type "ValueError",.type "Exception",.type "BaseException",.type "object"] bm /\
  ∃ n1 n2 p1 p2 p3 p4 name qual params scope dV kV doc pm cdv ct od an osl cdt,K.lookup f=some ⟨.type "function",od,.func (jU name qual params [.Assign [.Attribute (.Name n1 p1) n2 p2] (.Name n2 p3) p4] scope dV kV doc pm an cdv ct),osl⟩/\QF K cdv qual=true /\
   FnScope [n1,n2] [n1,n2] scope/\scope.names.lookup n1=some .local/\scope.names.lookup n2=some .local/\(n1 == ("__debug__":Str))=false/\(n2 == ("__debug__":Str))=false /\
   Binds K (jU name qual params [.Assign [.Attribute (.Name n1 p1) n2 p2] (.Name n2 p3) p4] scope dV kV doc pm an cdv ct) [n1,n2] []/\XStore K C D cdt n2
def zil(X:Cx)(E:XK):Prop:=∀(pc:List (ji × Obj)) (σ:St) (H:Hp) (s:ja) (h':Qs) (tk:Nat) (e C:ji),Inv X pc σ H s->MadeD s.heap h' e C->E (.ref C) none H->X.xe (.ref e) { s with heap:=h',toks:=tk }
theorem zlA{P:jE}{w:Qa}{K:j8}{mg:Str->Option j6}{base:Qs}{N:List Str}{qual:Str}{scope:gr}{f:ji}{cd:j6}{A:Q3}{outer:List Env}{s:ja}{H:Hp}{E:XK}(hA:A.frames=some outer) :
  zil (zff (CX1 P w) P w K mg base N qual scope f cd A outer s H E) E:=fun pc σ Hc s2 h' tk e C I hx hE=>zjH (tk:=tk) I hA hx hE
section
variable {X:Cx}{E:XK}{C D:ji}{bm:List j6}{x:Str}{np cpos pos:Pos}{e0:Q4}{t:TA}
theorem zmT{k:Nat}(hR:zil X E)(hc:X.calm=true)(hr:Room (k+1) X.A)(xc:XClsI X.K X.base C D bm)(hg:Gl X x)(hm:X.mg x=some (.ref C))(ha:PA X [e0] t)
  (he:je [e0] X.env=(false,eval e0 X.env)::je [] X.env:=by rfl) (hpl:(QB cpos (je [] X.env)).any (·.1)=false:=by rfl) (hd:(x == ("__debug__":Str))=false:=by decide) :
  PS X (.Raise (some (.Call (.Name x np) [e0] [] cpos)) none pos) (fun D σ H=>t σ H fun vs H1=>vs.length=1/\E (.ref C) none H1):=by
 intro pc s σ H D' I h;obtain⟨N,nm,q,bs,hdct,sn,sub,ab,col,dd,k0,k1,k2,k3,k5,mN,f,e1,e2,e3,e4,n1,n2,p1,p2,p3,p4,name,qual,params,scope,dV,kV,doc,pm,cdv,ct,od,an,osl,cdt,lk,hcd,S,l1,l2,d1,d2,hbi,xs⟩:=xc.obj;have hbase:=e4.hasType Z4.hasBase;have hplain:(QB cpos (je [e0] X.env)).any (·.1)=false:=by rw[he]; show (false||(QB cpos (je [] X.env)).any (·.1))=false; rw[hpl]; rfl
 have start:jF (jH X.prog X.w) X.A (eval (.Name x np) X.env) (fun fv s₁=>fv=.ref C/\jF (jH X.prog X.w) X.A (evalArgs (.ref C) true (QB cpos (je [e0] X.env)) []) (fun a s₂=>∃ u vs H1,a=⟨[u],[]⟩/\Inv X pc σ H1 s₂/\Vals vs [u]/\E (.ref C) none H1) X.xe s₁) X.xe s:=by
  refine zeu I hg hm ⟨rfl,?_⟩ hd;have a:=ha cpos pc s σ H _ I h;rw[he] at a ⊢;refine gX (jO a (fun us s2 h2=>?_) fun _ _ y=>y);obtain⟨vs,H1,I1,r,hl,hE⟩:=h2;have hlu:us.length=1:=by rw[<-r.length]; exact hl
  obtain⟨u,rfl⟩:=gJ.mp hlu;exact⟨u,vs,H1,rfl,I1,r,hE⟩
 rw[arm_exec_Raise];simp only[evalOpt,Option.map];refine j4 (Z5 (zjI (C:=C) (nm:=nm) (q:=q) (N:=N) (bs:=bs) (bm:=bm) (hdct:=hdct) (sn:=sn) (sub:=sub) (ab:=ab) (col:=col) (dd:=dd) (k0:=k0) (k1:=k1) (k2:=k2) (k3:=k3) (k5:=k5) (newId:="ValueError.__new__") hbase (I.ok.hd hc) ?_));refine j4 (jO (wpAny_Call_ofName (jO start (fun fv s₁ h₁=>?_) fun _ _ y=>y)) (fun v s₃ h₃=>j4 (Z5 (jg h₃))) fun _ _ y=>y);obtain⟨rfl,h₁⟩:=h₁;unfold callWith;refine j4 (Qe (jO h₁ (fun a s₂ h₂=>j4 (Z5 ?_)) fun _ _ y=>y));obtain⟨u,vs,H1,rfl,I1,r,hE⟩:=h₂;have bk:=I1.bk;have hC2:=bk _ _ e1;have KX2:=I1.kIn;have lim2:s₂.heap.NoLimit:=I1.mod.nolimit.keeps bk;obtain⟨hp,g,d,tk,os⟩:=s₂;simp only[hplain];refine j4 (PySem.wpAny_keeperOf_exc hC2 ?_);have kp:∀ b o,hp.get? b=some o->(zdB hp C [u]).get? b=some o:=fun b o q=>jb _ (jb _ q);refine j4 (znK (rest:=[u]) (f:=f) Z4 (e4.keeps bk) hC2 (e2.keeps bk) e3 (KX2 _ _ lk) rfl ?_ (by show 1<=jn; decide))
 have hget:(zdB hp C [u]).get? (hp.objs.size+1)=some { cls:=.ref C,data:=.fields #[.ref hp.objs.size,.none,.none,.none,.bool false,.none] }:=by
  unfold zdB
  heap_get
 refine zoE (s:=⟨zdB hp C [u],g,d,tk,os⟩) (K:=X.K) (D:=D) (KX2.keeps kp) (lim2.keeps kp) lk hcd S l1 l2 d1 d2 (hbi ⟨zdB hp C [u],g,d,tk,os⟩ [.ref (hp.objs.size+1),u] (KX2.keeps kp) rfl) (by rw[zlJ]; have:=hr.dp; lia) xs hget rfl (fun c z=>by cases z) rfl fun h' tk' dx a1 a2=>⟨rfl,?_⟩
 have ne:∀ b o,hp.get? b=some o->b≠hp.objs.size+1:=fun b o q z=>absurd (jh q) (by rw[z]; exact Nat.not_lt.mpr (gd _))
 have md:MadeD hp h' (hp.objs.size+1) C:=⟨fun b o q=>a1 b o (ne b o q) (kp b o q),NL (gd _),_,_,_,a2⟩;refine j4 (Qe (wpAny_point (jg ?_)));exact⟨_,_,_,_,rfl,md.keeps _ _ hC2,a2,hR pc σ H1 ⟨hp,g,d,tk,os⟩ h' tk' _ C I1 md hE⟩
end
structure XObj (h:Qs) (C:ji) (bm:List j6):Prop where
 obj:∃ N nm q bs hdct sn sub ab col dd k0 k1 k2 k3 k5,h.get? C=some (gN nm q C N bs bm hdct sn sub ab col dd k0 k1 k2 k3 k5 "ValueError.__new__")/\JO h [.type "ValueError",.type "Exception",.type "BaseException",.type "object"] bm
theorem XObj.keeps{h h':Qs}{C:ji}{bm:List j6}(x:XObj h C bm)(k:∀ b o,h.get? b=some o->h'.get? b=some o):XObj h' C bm:=by
 obtain⟨N,nm,q,bs,hdct,sn,sub,ab,col,dd,k0,k1,k2,k3,k5,e1,e4⟩:=x.obj;exact⟨N,nm,q,bs,hdct,sn,sub,ab,col,dd,k0,k1,k2,k3,k5,k _ _ e1,e4.keeps k⟩
theorem XClsI.o{K:j8}{h:Qs}{C D:ji}{bm:List j6}(x:XClsI K h C D bm):XObj h C bm:=by
 obtain⟨N,nm,q,bs,hdct,sn,sub,ab,col,dd,k0,k1,k2,k3,k5,mN,f,e1,e2,e3,e4,_⟩:=x.obj;exact⟨N,nm,q,bs,hdct,sn,sub,ab,col,dd,k0,k1,k2,k3,k5,e1,e4⟩
section
variable {M:JY}{A:Q3}{E:j6->ja->Prop}
theorem zj9{h:Qs}{g:Array gO}{d:Drawn}{t:Nat}{os:JP}{e C D:ji}{oe:Obj}{bm bmD:List j6}{Q:Bool->ja->Prop}(xc:XObj h C bm)(xd:XObj h D bmD)(he:h.get? e=some oe)(hcls:oe.cls=.ref C)(hm:(jS C::bm).contains (.ref D)=true)
  (hq:Q true ⟨h,g,d,t,os⟩):jF M A (WK (.ref e) (.ref D)) Q E ⟨h,g,d,t,os⟩:=by
 obtain⟨N,nm,q,bs,hdct,sn,sub,ab,col,dd,k0,k1,k2,k3,k5,hC,_⟩:=xc.obj;obtain⟨N',nm',q',bs',hdct',sn',sub',ab',col',dd',k0',k1',k2',k3',k5',hD,T⟩:=xd.obj;have hcB:(jS D::bmD).contains (.type "BaseException")=true:=by rw[gE,T.hasType (X:="BaseException") (b:=true) Z4.hasBase,ND]
 have f:=tc_notTuple;unfold WK
 repeat (first |(with_reducible refine Qr he ?_; rw[hcls]) |with_reducible refine Qr hD ?_ |(with_reducible refine Zb hD ?_; rw[hcB]) |(with_reducible refine Zb hC ?_; rw[hm]) |wp_step)
 exact hq
end
section
variable {X:Cx}
def zlj(X:Cx)(D:ji)(ts:TS)(En:Ends):XK:=fun cls _ H'=>∃ C bm,cls=.ref C/\XObj X.base C bm/\(jS C::bm).contains (.ref D)=true/\ts { nx:=fun _ _=>False,rt:=En.rt } (zcD X) H'
theorem zmR{body suite:List Qw}{b0:Qw}{d:Str}{np hpos pos:Pos}{tb:XK->TS}{ts:TS}{D:ji}{bmD:List j6}
  (hb:∀ W E,zen (CX1 X.prog X.w) (X.wish W) E->PSs (X.wish W) body (tb E)) (hst:X.stack=X.env::X.outer) (hfr:X.env.frame=some X.env.locals) (hex:X.ex=[])
  (hgd:Gl X d) (hmd:X.mg d=some (.ref D)) (xd:XObj X.base D bmD) (hs:∀ x,PSs (X.held x) (b0::suite) ts)
  (hdb:(d == ("__debug__":Str))=false:=by decide) :
  PS0 X (.Try body [.ExceptHandler (some (.Name d np)) none (b0::suite) hpos] [] [] pos) (fun En σ H=>tb (zlj X D ts En) En σ H):=by
 intro s σ H En I h;refine wpAny_Try_except ?_;have pass:zen (CX1 X.prog X.w) (X.wish (fun e s1=>jF (jH X.prog X.w) X.A (Nt e X.env) (fun _ s2=>jF (jH X.prog X.w) X.A (setFlight e none) (fun _ s3=>jF (jH X.prog X.w) X.A (handleBy e X.env [.ExceptHandler (some (.Name d np)) none (b0::suite) hpos]) (SP X [] En) X.xe s3) X.xe s2) X.xe s1)) (zlj X D ts En):=by
  intro pc σ' H1 s1 ev s' I1 hq;obtain⟨x,C,a0,B,H',rfl,F,C',bm,eC,xc,hm,hsuite⟩:=hq;obtain rfl:C=C':=by injection eC
  have I1:=I1.unwish;have F:Fly X.prog X.w X.stack H1 s1 x C a0 B H' s':=F;have fl:=F.fly;rw[hst] at fl;have hA:X.A.frames=some (X.env::X.outer):=by rw[<-hst]; exact I.ok.frames
  show jF (jH X.prog X.w) X.A (Nt (.ref x) X.env) _ _ _;refine wpAny_looks_onW hA hfr fl fun h4 held4 up4=>?_;refine wpAny_landsW held4 fun h5 fly5 up5=>?_;have J5:Inv X [] (zcD X) H' { s' with heap:=h5 }:=F.inv (tk:=s'.toks) I1 fly5.1 (up4.trans up5);obtain⟨oe,he,hcls⟩:=fly5.there;refine NZ (NE ?_) (by intro q; cases q)
  refine zeu (J5.held x) hgd hmd ?_ hdb;refine zj9 (xc.keeps J5.bk) (xd.keeps J5.bk) he hcls hm ?_;show gc _ _ _ _ _;refine codeAny_handlers_suite ?_;refine lands_againW fly5 fun h6 fly6 up6=>?_;have J6:Inv X [] (zcD X) H' { s' with heap:=h6 }:=F.inv (tk:=s'.toks) I1 fly6.1 ((up4.trans up5).trans up6);refine jO (hs x [] _ _ _ _ (J6.held x) hsuite) (fun f s9 q=>?_) fun _ _ z=>Qu z;cases f with
  |next=>obtain⟨_,_,_,q⟩:=q; exact q.elim
  |brk=>obtain⟨_,_,_,q⟩:=q; exact q.elim
  |cont=>obtain⟨_,_,_,q⟩:=q; exact q.elim
  |ret u=>
   obtain⟨v,σ9,H9,I9,r,q⟩:=q;exact⟨v,σ9,H9,I9.unheld I.ok,r,q⟩
 refine jO (hb _ _ pass [] s σ H En (I.wish _) h) (fun f s1 q=>?_) fun _ _ z=>z;have q:=q.unwish;cases f with
 |next=>exact Z7 q
 |brk=>exact q
 |cont=>exact q
 |ret u=>exact q
end
end L2
namespace L3
open PySem PySem.Spec PyProof.Rows L2
variable [TheK]
variable {X:Cx}{M:List Nat}{a b c e:Q4}{fa fb fe:DE}{p pos:Pos}
def zjw(caps:List (Option Nat))(s:Sg):Sg:=caps.map fun o=>o.bind fun j=>(s[j]?).join
def zaA(M:List Nat):List (Option Nat)->Sg->Sg->Sg
 |some j::cs,x::xs,s=>zaA M cs xs (if M.contains j then s.set j x else s)
 |none::cs,_::xs,s=>zaA M cs xs s
 |_,_,s=>s
structure CapOk (caps:List (Option Nat)) (M Mi:List Nat):Prop where
 yes:∀(i:Nat),i∈Mi->∃ j,caps[i]?=some (some j)/\j∈M
 no:∀(i j:Nat),caps[i]?=some (some j)->i∉Mi->j∉M
 inj:∀(i i' j:Nat),caps[i]?=some (some j)->caps[i']?=some (some j)->i=i'
def zrD(caps:List (Option Nat))(M Mi:List Nat):Bool:=
 Mi.all (fun i=>match caps[i]? with |some (some j)=>M.contains j |_=>false) &&
 (jt caps.length).all (fun i=>match caps[i]? with |some (some j)=>Mi.contains i||!M.contains j |_=>true) &&
 (jt caps.length).all (fun i=>(jt caps.length).all fun i'=>match caps[i]?,caps[i']? with |some (some j),some (some j')=>j != j'||i == i' |_,_=>true)
theorem CapOk.of{caps:List (Option Nat)}{M Mi:List Nat}(h:zrD caps M Mi=true):CapOk caps M Mi:=by
 unfold zrD at h;rw[jD,jD] at h;obtain⟨⟨h1,h2⟩,h3⟩:=h;have lt:∀ {i:Nat} {o:Option Nat},caps[i]?=some o->i∈jt caps.length:=fun e=>jR.mpr (j9.mp e).1;refine⟨fun i hi=>?_,fun i j e n=>?_,fun i i' j e e'=>?_⟩
 ·have:=js.mp h1 i hi;cases hc:caps[i]? with
  |none=>rw[hc] at this; cases this
  |some o=>cases o with
   |none=>rw[hc] at this; cases this
   |some j=>rw[hc] at this; exact⟨j,rfl,by simpa using this⟩
 ·have:=js.mp h2 i (lt e);rw[e] at this;intro hj;have a:Mi.contains i=false:=by simpa using n
  have b:M.contains j=true:=by simpa using hj
  dsimp only at this;rw[a,b] at this;cases this
 ·have:=js.mp (js.mp h3 i (lt e)) i' (lt e');rw[e,e'] at this;simpa using this
theorem zll{caps:List (Option Nat)}{s:Sg}{i:Nat}{t:T}(h:(zjw caps s)[i]?=some (some t)):∃ j,caps[i]?=some (some j)/\s[j]?=some (some t):=by
 unfold zjw at h;rw[jf] at h;obtain⟨o,h1,h2⟩:=Qm h;cases o with
 |none=>cases h2
 |some j=>exact⟨j,h1,zae h2⟩
theorem zjk{caps:List (Option Nat)}{σ:L2.St}{i j:Nat}(h:caps[i]?=some (some j)):(zbr caps σ)[i]?=some (σ[j]?).join:=by
 unfold zbr;rw[jf,h];rfl
theorem zbV{caps:List (Option Nat)}{σ:L2.St}{i:Nat}{v:V}(h:(zbr caps σ)[i]?=some (some v)):∃ j,caps[i]?=some (some j)/\σ[j]?=some (some v):=by
 unfold zbr at h;rw[jf] at h;obtain⟨o,h1,h2⟩:=Qm h;cases o with
 |none=>cases h2
 |some j=>
  refine⟨j,h1,?_⟩;have h2:(σ[j]?).join=some v:=h2;cases e:σ[j]? with
  |none=>rw[e] at h2; cases h2
  |some x=>rw[e] at h2; cases x with
   |none=>cases h2
   |some y=>injection h2 with h2; rw[h2]
theorem Rel.cap{F:Fr}{O:ji->Prop}{M Mi:List Nat}{s:Sg}{σ:L2.St}{H:Hp}{caps:List (Option Nat)}(R:Rel F O M s σ H)(c:CapOk caps M Mi):Rel F O Mi (zjw caps s) (zbr caps σ) H:=by
 refine⟨by unfold zjw zbr; simp,fun i t e n=>?_,fun i t e n=>?_,fun i a hi e=>?_,fun i i' a hi hi' e e'=>?_,R.keep,R.dom,R.fresh,R.inD,R.al⟩
 ·obtain⟨j,h1,h2⟩:=zll e;obtain⟨v,h3,h4⟩:=R.val j t h2 (c.no i j h1 n);exact⟨v,by rw[zjk h1,h3]; rfl,h4⟩
 ·obtain⟨j,h1,h2⟩:=zll e;obtain⟨j',h1',h3⟩:=c.yes i n;rw[h1] at h1';obtain rfl:j=j':=by injection h1' with h; injection h
  obtain⟨a,h4,L⟩:=R.own j t h2 h3;exact⟨a,by rw[zjk h1,h4]; rfl,L⟩
 ·obtain⟨j,h1,h2⟩:=zbV e;obtain⟨j',h1',h3⟩:=c.yes i hi;rw[h1] at h1';obtain rfl:j=j':=by injection h1' with h; injection h
  exact R.ow j a h3 h2
 ·obtain⟨j,h1,h2⟩:=zbV e;obtain⟨j',h1',h2'⟩:=zbV e';obtain⟨k,hk,h3⟩:=c.yes i hi;obtain⟨k',hk',h3'⟩:=c.yes i' hi';rw[h1] at hk;rw[h1'] at hk';obtain rfl:j=k:=by injection hk with h; injection h
  obtain rfl:j'=k':=by injection hk' with h; injection h
  have:=R.dis j j' a h3 h3' h2 h2';subst this;exact c.inj i i' j h1 h1'
theorem zec(M:List Nat):∀(caps:List (Option Nat)) (si s:Sg),(zaA M caps si s).length=s.length
 |[],_,_=>by unfold zaA; rfl
 |none::cs,[],s=>by unfold zaA; rfl
 |some j::cs,[],s=>by unfold zaA; rfl
 |none::cs,x::xs,s=>by unfold zaA; exact zec M cs xs s
 |some j::cs,x::xs,s=>by
  unfold zaA;rw[zec M cs xs];split
  ·rw[Q0]
  ·rfl
theorem zd9(M:List Nat){j:Nat}:∀(caps:List (Option Nat)) (si s:Sg),(j∉M∨∀ i:Nat,caps[i]?≠some (some j))->(zaA M caps si s)[j]?=s[j]?
 |[],_,_,_=>by unfold zaA; rfl
 |none::cs,[],s,_=>by unfold zaA; rfl
 |some k::cs,[],s,_=>by unfold zaA; rfl
 |none::cs,x::xs,s,h=>by
  unfold zaA;exact zd9 M cs xs s (h.imp id fun z i=>by simpa using z (i+1))
 |some k::cs,x::xs,s,h=>by
  unfold zaA;rw[zd9 M cs xs _ (h.imp id fun z i=>by simpa using z (i+1))]
  split
  ·rename_i hk;refine jd fun z=>?_;subst z;rcases h with h |h
   ·exact h (by simpa using hk)
   ·exact h 0 rfl
  ·rfl
theorem zgT(M:List Nat){j:Nat}(hj:j∈M):∀(caps:List (Option Nat)) (si s:Sg) (i:Nat),caps[i]?=some (some j)->(∀ i':Nat,caps[i']?=some (some j)->i'=i)->i < si.length->j < s.length->(zaA M caps si s)[j]?=si[i]?
 |[],_,_,i,e,_,_,_=>by simp at e
 |c::cs,[],s,i,_,_,hi,_=>by simp at hi
 |none::cs,x::xs,s,i,e,u,hi,hl=>by
  unfold zaA;cases i with
  |zero=>simp at e
  |succ i=>
   rw[gF];exact zgT M hj cs xs s i (by simpa using e) (fun i' e'=>by simpa using u (i'+1) (by simpa using e')) (by simpa using hi) hl
 |some k::cs,x::xs,s,i,e,u,hi,hl=>by
  unfold zaA;cases i with
  |zero=>
   have hk:k=j:=by simpa using e
   subst hk;rw[zd9 M cs xs _ (.inr fun i' e'=>by simpa using u (i'+1) (by simpa using e')),Ip_ (by simpa using hj),jG hl]
   rfl
  |succ i=>
   rw[gF];refine zgT M hj cs xs _ i (by simpa using e) (fun i' e'=>by simpa using u (i'+1) (by simpa using e')) (by simpa using hi) ?_
   split
   ·rw[Q0]; exact hl
   ·exact hl
theorem Rel.back{F:Fr}{O:ji->Prop}{M Mi:List Nat}{s si:Sg}{σ σ2:L2.St}{H2 H4:Hp}{caps:List (Option Nat)}(R:Rel F O M s σ H2)(c:CapOk caps M Mi)(S:Step σ2 Mi H2 H4)(Ri:Rel F O Mi si σ2 H4)
  (hk:∀(i j:Nat),caps[i]?=some (some j)->σ2[i]?=(zbr caps σ)[i]?) (hl:si.length=caps.length):Rel F O M (zaA M caps si s) σ H4:=by
 have addr:∀(i:Nat) b,i∈Mi->σ2[i]?=some (some (.ref b))->∃ j,caps[i]?=some (some j)/\j∈M/\σ[j]?=some (some (.ref b)):=fun i b hi e=>by
  obtain⟨j,h1,h2⟩:=c.yes i hi;rw[hk i j h1] at e;obtain⟨j',h3,h4⟩:=zbV e;rw[h1] at h3;obtain rfl:j=j':=by injection h3 with h; injection h
  exact⟨j,h1,h2,h4⟩
 have kf:∀ b u,Free F O b->H2 b=some u->H4 b=some u:=fun b u z e=>S.keep b u (fun i hi e'=>by
  obtain⟨j,_,h2,h3⟩:=addr i b hi e'
  exact z.1 (R.ow j b h2 h3)) e
 refine⟨by rw[zec]; exact R.len,fun j t e n=>?_,fun j t e n=>?_,R.ow,R.dis,Ri.keep,Ri.dom,R.fresh,R.inD,Ri.al⟩
 ·rw[zd9 M caps si s (.inl n)] at e;obtain⟨v,h1,h2⟩:=R.val j t e n;exact⟨v,h1,h2.mono (fun _ c=>c) kf⟩
 ·by_cases hc:∃ i:Nat,caps[i]?=some (some j)
  ·obtain⟨i,hi⟩:=hc;have hlt:i < caps.length:=(j9.mp hi).1;have hjl:j < s.length:=by
    have:=(j9.mp e).1
    rwa [zec] at this
   rw[zgT M n caps si s i hi (fun i' e'=>c.inj i' i j e' hi) (by lia) hjl] at e
   have him:i∈Mi:=Decidable.byContradiction fun z=>c.no i j hi z n;obtain⟨a,h1,L⟩:=Ri.own i t e him;obtain⟨j',h2,_,h3⟩:=addr i a him h1;rw[hi] at h2;obtain rfl:j=j':=by injection h2 with h; injection h
   exact⟨a,h3,L⟩
  ·rw[zd9 M caps si s (.inr fun i z=>hc ⟨i,z⟩)] at e;obtain⟨a,h1,L⟩:=R.own j t e n;refine⟨a,h1,L.mono (fun _ c=>c) kf fun u e'=>S.keep a u (fun i hi e''=>?_) e'⟩;obtain⟨j',h2,h3,h4⟩:=addr i a hi e'';have:=R.dis j j' a n h3 h1 h4;subst this;exact hc ⟨i,h2⟩
def zpG(g:TG)(dg:DG)(Mi:List Nat)(caps:List (Option Nat)):Prop:=∀ F O s t s' v σ H (Q:L2.St->Hp->Prop),Rel F O Mi s σ H->Rep (Free F O) H v t->dg t s=some s'->
 (∀ σ',Rel F O Mi s' σ' H->(∀(i j:Nat),caps[i]?=some (some j)->σ'[i]?=σ[i]?)->σ'.length=σ.length->Q σ' H)->g v σ H Q
theorem zbo{i:Nat}{Mi:List Nat}{caps:List (Option Nat)}(hc:caps[i]?=some none:=by rfl)(hi:Mi.contains i=false:=by rfl):zpG (zcw i) (dGn i) Mi caps:=by
 intro F O s t s' v σ H Q R r hg q;have hi':i∉Mi:=by simpa using hi
 unfold dGn at hg;split at hg
 ·rename_i hl;injection hg with hg;subst hg;refine q _ (R.setE (fun j hj=>⟨hj,fun z=>hi' (z▸hj)⟩) (fun j hj=>.inl hj) hl r) (fun k j e=>?_) ?_;exact jd fun z=>by subst z; rw[hc] at e; cases e
  exact Q0
 ·cases hg
theorem zp7{Mi:List Nat}{caps:List (Option Nat)}{F:Fr}{O:ji->Prop}{H:Hp}{Q:L2.St->Hp->Prop}:∀ {is:List Nat} {ts:List T} {vs:List V} {s s':Sg} {σ:L2.St},Rel F O Mi s σ H->(∀ i,i∈is->i∉Mi/\caps[i]?=some none)->Reps (Free F O) H vs ts->zbG is ts s=some s'->
  (∀ σ',Rel F O Mi s' σ' H->(∀(i j:Nat),caps[i]?=some (some j)->σ'[i]?=σ[i]?)->σ'.length=σ.length->Q σ' H)->gsN is vs σ H Q
 |[],[],vs,s,s',σ,R,_,h,e,q=>by
  injection e with e;subst e;exact⟨h.none,q σ R (fun _ _ _=>rfl) rfl⟩
 |[],t::ts,vs,s,s',σ,R,_,h,e,q=>by cases e
 |i::is,[],vs,s,s',σ,R,_,h,e,q=>by cases e
 |i::is,t::ts,[],s,s',σ,R,_,h,e,q=>by have:=h.1; simp at this
 |i::is,t::ts,v::vs,s,s',σ,R,hm,h,e,q=>by
  unfold zbG at e;split at e
  ·rename_i hl;obtain⟨hi,hc⟩:=hm i jX;refine⟨v,vs,rfl,zp7 (R.setE (fun j hj=>⟨hj,fun z=>hi (z▸hj)⟩) (fun j hj=>.inl hj) hl h.head) (fun j hj=>hm j (jw _ hj)) h.tail e fun σ' R' k l=>q σ' R' (fun k' j e'=>(k k' j e').trans ?_) (l.trans Q0)⟩;exact jd fun z=>by subst z; rw[hc] at e'; cases e'
  ·cases e
theorem zhc:∀ {is:List Nat} {ts:List T} {s s':Sg},zbG is ts s=some s'->ts.length=is.length
 |[],[],_,_,_=>rfl
 |[],_::_,_,_,e=>by cases e
 |_::_,[],_,_,e=>by cases e
 |i::is,t::ts,s,s',e=>by
  unfold zbG at e;split at e
  ·rw[jp,jp,zhc e]
  ·cases e
theorem zmk{is:List Nat}{n:Nat}{K:j8}{Mi:List Nat}{caps:List (Option Nat)}(hn:is.length=n:=by rfl)(h:is.all (fun i=>!Mi.contains i&&caps[i]? == some none)=true:=by rfl):zpG (zlQ K n (gsN is)) (dGt is) Mi caps:=by
 intro F O s t s' v σ H Q R r hg q;obtain⟨ts,rfl⟩:∃ ts,t=.tup ts:=by cases t<;>first |exact⟨_,rfl⟩ |cases hg
 have hg:zbG is ts s=some s':=hg;obtain⟨a,vs,rfl,ha,ra⟩:=BRep.tup (.inl r);refine⟨a,vs,rfl,SqT.of ha,by rw[ra.1,zhc hg,hn],zp7 R (fun i hi=>?_) ra hg q⟩
 have:=js.mp h i hi;rw[jD] at this;exact⟨by simpa using this.1,by simpa using this.2⟩
@[irreducible] def zfT:Nat:=1000000
theorem zkX:zfT=1000000:=by unfold zfT; rfl
def zpr(M:List Nat)(caps:List (Option Nat))(dg:DG)(ft:DT)(fe:DE):List T->List T->Sg->Option (List T × Sg)
 |[],acc,s=>some (acc,s)
 |x::xs,acc,s=>(dg x (zjw caps s)).bind fun s1=>(ft s1).bind fun p=>if p.1 then (fe p.2).bind fun q=>zpr M caps dg ft fe xs (acc++[q.1]) (zaA M caps q.2 s) else zpr M caps dg ft fe xs acc (zaA M caps p.2 s)
def dLC(M:List Nat)(caps:List (Option Nat))(fi:DI)(dg:DG)(ft:DT)(fe:DE):DE:=fun s=>(fi s).bind fun p=>if p.1.length<=zfT then (zpr M caps dg ft fe p.1 [] p.2).map fun q=>(.lst q.1,q.2) else none
def zg6:DT:=fun s=>some (true,s)
theorem ztb{M Mi:List Nat}{caps:List (Option Nat)}{fi:DI}{g:TG}{dg:DG}{ft:DT}{fe:DE}{tt:TT}(c:CapOk caps M Mi)(hg:zpG g dg Mi caps)(htt:∀ σ H Q,cT Mi ft σ H Q->tt σ H Q) :
  ∀ σ H Q,cE .n M (dLC M caps fi dg ft fe) σ H Q->tLC caps (cI M fi) g tt (cE .e Mi fe) σ H Q:=by
 intro σ H Q h_;refine cE_ h_ fun F O s t s' R hf q=>?_;obtain⟨⟨its,s1⟩,h1,h2⟩:=Qb hf;split at h2
 case isFalse=>cases h2
 rename_i hsz;have hsz:its.length<=zfT:=hsz;rw[zkX] at hsz;obtain⟨⟨tsE,sE⟩,h3,h4⟩:=Qm h2;injection h4 with h4 h5;subst h4 h5;refine⟨F,O,s,its,s1,R,h1,fun J H1 S1 R1 IT D hD=>?_⟩;have nD:∀(j:Nat),j∈M->σ[j]?≠some (some (.ref D)):=fun j hj e=>R1.al D (R1.ow j D hj e) hD;have RD:=R1.new hD (.lst [])
 refine⟨fun i m H'=>m=its.length - i/\i<=its.length/\∃ s' acc ys,Rel F (fun b=>O b∨b=D) M s' σ H'/\H' D=some (.lst ys)/\ys.length<=i/\Reps (Free F (fun b=>O b∨b=D)) H' ys acc/\Step σ M H H' /\
  (∀ b o,Free F O b->H1 b=some o->H' b=some o)/\zpr M caps dg ft fe (its.drop i) acc s'=some (tsE,sE),⟨its.length,by simp,Z8 _,s1,[],[],RD,zad,jj _,.nil,S1.trans (.new hD _),fun b o _ e=>by rw[za6 (zaa e hD)]; exact e,h3⟩,?_⟩
 rintro i m H2 ⟨rfl,hi,s2,acc,ys,R2,hD2,hy,ry,S2,k2,hl⟩;have it:=IT H2 k2 i
 by_cases hlt:i < its.length
 ·refine .inr ?_;obtain⟨go,yl⟩:=it.1 its[i] (j3 hlt);rw[Zj hlt] at hl;unfold zpr at hl;obtain⟨si1,hdg,hl⟩:=Qb hl;obtain⟨⟨b,si2⟩,hft,hl⟩:=Qb hl;refine⟨go,fun x H3 hy3=>?_⟩;obtain⟨y1,y2⟩:=yl x H3 hy3
  -- what was yielded is free of D
  have R3:Rel F (fun b=>O b∨b=D) M s2 σ H3/\(∀ b u,H2 b=some u->H3 b=some u)/\(∀ b,H3 b=none->H2 b=none):=by
   rcases y1 with rfl |⟨p,o,hp,rfl⟩
   ·exact⟨R2,fun _ _ e=>e,fun _ e=>e⟩
   ·exact⟨(R2.new hp o).less (fun b z=>.inl z) R2.ow R2.inD,fun b u e=>by rw[za6 (zaa e hp)]; exact e,fun b e=>by
     unfold upd at e;split at e
     ·cases e
     ·exact e⟩
  obtain⟨R3,k3,dm3⟩:=R3
  have rx:Rep (Free F (fun b=>O b∨b=D)) H3 x its[i]:=y2.mono (fun b z=>by
   rcases z with ⟨z,n⟩ |n
   ·exact⟨fun y=>y.elim z.1 fun y=>n (y▸hD),z.2⟩
   ·exact⟨fun y=>R2.al b y n,.inr (R2.dom b n)⟩) fun _ _ _ e=>e
  have ry3:Reps (Free F (fun b=>O b∨b=D)) H3 ys acc:=ry.mono (fun _ z=>z) fun b o _ e=>k3 b o e;have hD3:=k3 _ _ hD2;refine hg F _ (zjw caps s2) its[i] si1 x (zbr caps σ) H3 _ (R3.cap c) rx hdg fun σ4 R4 hk4 hl4=>?_;have hsl:∀ {sx:Sg} {Hx:Hp},Rel F (fun b=>O b∨b=D) Mi sx σ4 Hx->sx.length=caps.length:=fun {sx Hx} Rx=>by
   rw[Rx.len,hl4];unfold zbr;rw[j5]
  have nD4:∀(k:Nat),k∈Mi->σ4[k]?≠some (some (.ref D)):=fun k hk e=>by
   obtain⟨j,e1,e2⟩:=c.yes k hk;rw[hk4 k j e1] at e;obtain⟨j',e3,e4⟩:=zbV e;rw[e1] at e3;obtain rfl:j=j':=by injection e3 with h; injection h
   exact nD j e2 e4
  refine htt _ _ _ ⟨F,_,si1,b,si2,R4,hft,fun H5 S5 R5=>?_⟩;have freeK:∀ {Hx Hy:Hp},Step σ4 Mi Hx Hy->∀ b o,(Free F O b/\b≠D)->Hx b=some o->Hy b=some o:=fun {Hx Hy} Sx b o z e=>Sx.keep b o (R4.notOwned fun y=>y.elim z.1.1 z.2) e
  have S3':∀ {Hx:Hp},Step σ4 Mi H3 Hx->Step σ M H Hx:=fun {Hx} Sx=>⟨fun b o n e=>Sx.keep b o (fun k hk e'=>by
   obtain⟨j,e1,e2⟩:=c.yes k hk;rw[hk4 k j e1] at e';obtain⟨j',e3,e4⟩:=zbV e';rw[e1] at e3;obtain rfl:j=j':=by injection e3 with h; injection h
   exact n j e2 e4) (k3 b o (S2.keep b o n e)),fun b e=>S2.dom b (dm3 b (Sx.dom b e))⟩
  have keepF:∀ {Hx:Hp},Step σ4 Mi H3 Hx->∀ b o,Free F O b->H1 b=some o->Hx b=some o:=fun {Hx} Sx b o z e=>freeK Sx b o ⟨z,fun y=>by rw[y,hD] at e; cases e⟩ (k3 b o (k2 b o z e))
  cases b with
  |false=>
   rw[In_ jK] at hl;dsimp only;rw[In_ jK];exact⟨its.length - (i+1),by lia,rfl,hlt,zaA M caps si2 s2,acc,ys,R3.back c S5 R5 hk4 (hsl R5),S5.keep D _ nD4 hD3,WL hy,ry3.mono (fun _ z=>z) fun b o z e=>S5.keep b o (R4.notOwned z.1) e,S3' S5,keepF S5,hl⟩
  |true=>
   rw[Ip_ rfl] at hl;dsimp only;rw[Ip_ rfl];obtain⟨⟨te,si3⟩,hfe,hl⟩:=Qb hl;refine⟨F,_,si2,te,si3,R5,hfe,fun y H6 S6 p6=>?_⟩;have S56:=S5.trans S6;have hD6:H6 D=some (.lst ys):=S56.keep D _ nD4 hD3;have R6:=R3.back c S56 p6.1 hk4 (hsl p6.1);refine⟨ys,hD6,by rw[Zs]; lia,its.length - (i+1),by lia,rfl,hlt,zaA M caps si3 s2,acc++[te],ys++[y],?_,zad,by rw[jk,Ze]; lia,?_,?_,?_,hl⟩
   ·-- D is nobody's: writing there keeps the relation
    have kD:∀ b u,b≠D->H6 b=some u->upd H6 D (.lst (ys++[y])) b=some u:=fun b u n e=>by rw[za6 n]; exact e
    refine⟨R6.len,fun j t e n=>?_,fun j t e n=>?_,R6.ow,R6.dis,fun b u n e=>?_,fun b e=>?_,R6.fresh,R6.inD,fun b z e=>?_⟩
    ·obtain⟨v,a1,a2⟩:=R6.val j t e n;exact⟨v,a1,a2.mono (fun _ z=>z) fun b u z e=>kD b u (fun w=>z.1 (.inr w)) e⟩
    ·obtain⟨a,a1,a2⟩:=R6.own j t e n;exact⟨a,a1,a2.mono (fun _ z=>z) (fun b u z e=>kD b u (fun w=>z.1 (.inr w)) e) fun u e=>kD a u (fun w=>nD j n (w▸a1)) e⟩
    ·refine kD b u (fun w=>?_) (R6.keep b u n e);subst w;have:=R1.dom b hD;rw[this] at e; cases e
    ·refine R6.dom b ?_;unfold upd at e;split at e
     ·cases e
     ·exact e
    ·refine R6.al b z ?_;unfold upd at e;split at e
     ·cases e
     ·exact e
   ·have r1:Reps (Free F (fun b=>O b∨b=D)) H6 (ys++[y]) (acc++[te]):=(ry3.mono (fun _ z=>z) fun b o z e=>S56.keep b o (R4.notOwned z.1) e).snoc p6.2;exact r1.mono (fun _ z=>z) fun b u z e=>by rw[za6 (fun w=>z.1 (.inr w))]; exact e
   ·exact⟨fun b o n e=>by rw[za6 (zaa e (S1.dom D hD))]; exact(S3' S56).keep b o n e,fun b e=>(S3' S56).dom b (by
     unfold upd at e;split at e
     ·cases e
     ·exact e)⟩
   ·exact fun b o z e=>by rw[za6 (zaa e hD)]; exact keepF S56 b o z e
 ·have e:i=its.length:=by lia
  subst e;rw[N2] at hl;injection hl with hl;injection hl with e1 e2;subst e1 e2;exact .inl ⟨it.2 (jj _),q _ H2 S2 ⟨D,rfl,S1.dom D hD,R2,.lst hD2 ry⟩⟩
theorem zsP{X:Cx}{e:Q4}{t t':TE}(h:PE X e t)(h':PE X e t'):PE X e (fun σ H Q=>t σ H Q∨t' σ H Q):=fun pc s σ H Q I q=>q.elim (h pc s σ H Q I) (h' pc s σ H Q I)
theorem zxg{X:Cx}{e:Q4}{t t':TT}(h:PT X e t)(h':PT X e t'):PT X e (fun σ H Q=>t σ H Q∨t' σ H Q):=fun pc s σ H Q I q=>q.elim (h pc s σ H Q I) (h' pc s σ H Q I)
theorem zvl{X:Cx}{tg e:Q4}{t t':TI}(h:PI X tg e t)(h':PI X tg e t'):PI X tg e (fun σ H R=>t σ H R∨t' σ H R):=fun pc s σ H R I q=>q.elim (h pc s σ H R I) (h' pc s σ H R I)
theorem zje{M:List Nat}{k k' k2:Kd}{f f' f2:DE}(hs:∀ s p,f2 s=some p->f s=some p∨f' s=some p)(hk:∀ F O σ H s' t v H' (s:Sg),Rel F O M s σ H->Post k F O M σ H s' t v H'->Post k2 F O M σ H s' t v H')(hk':∀ F O σ H s' t v H' (s:Sg),Rel F O M s σ H->Post k' F O M σ H s' t v H'->Post k2 F O M σ H s' t v H') :
  ∀ σ H Q,cE k2 M f2 σ H Q->cE k M f σ H Q∨cE k' M f' σ H Q:=by
 intro σ H Q h_;refine cE_ h_ fun F O s t s' R hf q=>?_;rcases hs s _ hf with h |h
 ·exact .inl ⟨F,O,s,t,s',R,h,fun v H' S p=>q v H' S (hk F O σ H s' t v H' s R p)⟩
 ·exact .inr ⟨F,O,s,t,s',R,h,fun v H' S p=>q v H' S (hk' F O σ H s' t v H' s R p)⟩
def orG(g g':T->T->Option T):T->T->Option T:=fun x y=>match g x y with
 |some t=>some t
 |none=>g' x y
theorem zpl{g g':T->T->Option T}{x y:T}{t:T}(h:orG g g' x y=some t):g x y=some t∨g' x y=some t:=by
 unfold orG at h;cases e:g x y with
 |none=>rw[e] at h; exact .inr h
 |some u=>rw[e] at h; exact .inl h
theorem zoU{g g':T->T->Option T}{fa fb:DE}:∀ s p,d2 (orG g g') fa fb s=some p->d2 g fa fb s=some p∨d2 g' fa fb s=some p:=fun s p h=>by
 obtain⟨t,s'⟩:=p;obtain⟨x,s1,y,h1,h2,h3⟩:=zie h;rcases zpl h3 with e |e
 ·left; unfold d2; rw[h1,j7,h2,j7,e]; rfl
 ·right; unfold d2; rw[h1,j7,h2,j7,e]; rfl
theorem ztK{g g':T->T->Option T}{i:Nat}{fb:DE}:∀ s p,d2v (orG g g') i fb s=some p->d2v g i fb s=some p∨d2v g' i fb s=some p:=fun s p h=>by
 obtain⟨t,s'⟩:=p;obtain⟨x0,x,y,h0,h1,h2,h3⟩:=zid h;have j0:(s[i]?).join=some x0:=by rw[h0]; rfl
 have j2:(s'[i]?).join=some x:=by rw[h2]; rfl
 rcases zpl h3 with e |e
 ·left; unfold d2v; rw[j0,j7,h1,j7,j2,j7,e]; rfl
 ·right; unfold d2v; rw[j0,j7,h1,j7,j2,j7,e]; rfl
def za3:=orG gIx zrb
def ztr:=orG gIn zxm
def zaK:=orG zj4 zka
def zax:=orG zrd zoH
section
theorem idE:∀(F:Fr) (O:ji->Prop) (σ:L2.St) (H:Hp) (s':Sg) (t:T) (v:V) (H':Hp) (s:Sg),Rel F O M s σ H->Post .e F O M σ H s' t v H'->Post .e F O M σ H s' t v H':=fun _ _ _ _ _ _ _ _ _ _ p=>p
theorem neE:∀(F:Fr) (O:ji->Prop) (σ:L2.St) (H:Hp) (s':Sg) (t:T) (v:V) (H':Hp) (s:Sg),Rel F O M s σ H->Post .n F O M σ H s' t v H'->Post .e F O M σ H s' t v H':=fun _ _ _ _ _ _ _ _ _ R p=>p.ne R
theorem zrg{f f' f2:DE}(hs:∀ s p,f2 s=some p->f s=some p∨f' s=some p):∀ σ H Q,cT M (dB f2) σ H Q->cT M (dB f) σ H Q∨cT M (dB f') σ H Q:=by
 intro σ H Q h_;refine cT_ h_ fun F O s b s' R hf q=>?_;rcases hs s _ (zko hf) with h |h
 ·exact .inl ⟨F,O,s,b,s',R,by unfold dB; rw[h]; rfl,q⟩
 ·exact .inr ⟨F,O,s,b,s',R,by unfold dB; rw[h]; rfl,q⟩
def zeH(x:T)(lo hi:Option Int):Option T:=match x with
 |.str _=>zpx x lo hi
 |_=>gSl x lo hi
theorem ztH{fl fh:DO}:∀ s p,dSl zeH fa fl fh s=some p->dSl zpx fa fl fh s=some p∨dSl gSl fa fl fh s=some p:=fun s p h=>by
 obtain⟨p1,h1,h2⟩:=Qb h;obtain⟨q1,h3,h4⟩:=Qb h2;obtain⟨r1,h5,h6⟩:=Qb h4;obtain⟨t,h7,h8⟩:=Qm h6;have e:zpx p1.1 q1.1 r1.1=some t∨gSl p1.1 q1.1 r1.1=some t:=by
  unfold zeH at h7;split at h7
  ·exact .inl h7
  ·exact .inr h7
 rcases e with e |e
 ·left; unfold dSl; rw[h1,j7,h3,j7,h5,j7,e]; exact congrArg some h8
 ·right; unfold dSl; rw[h1,j7,h3,j7,h5,j7,e]; exact congrArg some h8
def kT:Key->T
 |.inl i=>.int i
 |.inr x=>.str x
theorem ztk{C:ji->Prop}{H:Hp}(k:Key):Rep C H (kV k) (kT k):=by
 cases k with
 |inl i=>exact .int i
 |inr x=>exact .str x
theorem zf5{C:ji->Prop}{H:Hp}:∀ {vs:List (Key × V)} {ts:List (Key × T)},vs.map (·.1)=ts.map (·.1)->Reps C H (vs.map fun kv=>kV kv.1) (ts.map fun kv=>kT kv.1)
 |[],[],_=>.nil
 |p::vs,[],h=>by simp at h
 |[],q::ts,h=>by simp at h
 |p::vs,q::ts,h=>by
  rw[jr,jr] at h;injection h with h1 h2;rw[jr,jr,h1];exact .cons (ztk _) (zf5 h2)
def zly(c:Nat):T:=.str ⟨#[c]⟩
def zcs(f:DE):DI:=fun s=>(f s).bind fun p=>match p.1 with
 |.lst xs=>some (xs,p.2)
 |.scr ns=>some (ns.map .int,p.2)
 |.tup xs=>some (xs,p.2)
 |.fd kvs=>some (kvs.map fun kv=>kT kv.1,p.2)
 |.str x=>some (x.cps.toList.map zly,p.2)
 |_=>none
def zwy(f:DE):DI:=fun s=>(f s).bind fun p=>match p.1 with
 |.fd kvs=>some (kvs.map fun kv=>kT kv.1,p.2)
 |_=>none
def zwx(f:DE):DI:=fun s=>(f s).bind fun p=>match p.1 with
 |.str x=>some (x.cps.toList.map zly,p.2)
 |_=>none
theorem zr4{F:Fr}{O:ji->Prop}{H1:Hp}{a:ji}{o:Obj}{kvs:List (Key × V)}{f:Key × V->V}{ts:List T}(fr:Free F O a)(ha:H1 a=some (.frz o (.dK kvs)))(r:Reps (Free F O) H1 (kvs.map f) ts):zrE F O ts (Itd f a o) H1:=by
 intro H2 k i;have h2:=k a _ fr ha;have hl0:kvs.length=ts.length:=by have:=r.1; simpa using this
 refine⟨fun t ht=>?_,fun hl=>⟨kvs,h2,by rw[hl0]; exact hl⟩⟩
 obtain⟨v,hv,rv⟩:=r.get ht;rw[jf] at hv;obtain⟨y,hy,hyv⟩:=Qm hv;refine⟨⟨kvs,y,h2,hy⟩,fun x H3 ⟨e1,e2⟩=>⟨.inl e1,?_⟩⟩;have:=e2 kvs h2;rw[hy] at this;have hx:f y=x:=jc this;subst hx hyv e1;exact rv.there.mono (fun b c=>.inl c) fun b o c e=>k b o c.1 e
theorem zxk{tg:Q4}(h:PE X e (cE .e M fe)):PI X tg e (cI M (zwy fe)):=zht (zqL h) (by
 intro σ H R h_;refine cI_ h_ fun F O s its s' Rl hf q=>?_;obtain⟨⟨p1,p2⟩,h1,h2⟩:=Qb hf;obtain⟨ks,rfl⟩:∃ ks,p1=.fd ks:=by cases p1<;>first |exact⟨_,rfl⟩ |cases h2
 injection h2 with h2;injection h2 with h3 h4;subst h3 h4;refine⟨F,O,s,_,_,Rl,h1,fun v H1 S1 p=>?_⟩;obtain⟨a,o,kvs,rfl,ha,ra,fr⟩:=BRep.fd (.inl p.2)
 exact⟨a,o,kvs,rfl,ha,q _ H1 S1 p.1 (zr4 fr ha (zf5 ra.1))⟩)
theorem zto{tg:Q4}(h:PE X e (cE .e M fe)):PI X tg e (cI M (zwx fe)):=zht (zqI h) (by
 intro σ H R h_;refine cI_ h_ fun F O s its s' Rl hf q=>?_;obtain⟨⟨p1,p2⟩,h1,h2⟩:=Qb hf;obtain⟨x,rfl⟩:∃ x,p1=.str x:=by cases p1<;>first |exact⟨_,rfl⟩ |cases h2
 injection h2 with h2;injection h2 with h3 h4;subst h3 h4;refine⟨F,O,s,_,_,Rl,h1,fun v H1 S1 p=>?_⟩;refine⟨x,BRep.str (.inl p.2),q _ H1 S1 p.1 ?_⟩;intro H2 k i;refine⟨fun t ht=>?_,fun hl=>by simpa[Its] using hl⟩
 rw[jf] at ht;obtain⟨c,hc,rfl⟩:=Qm ht;have hc':x.cps[i]?=some c:=by simpa using hc
 refine⟨(Array.getElem?_eq_some_iff.mp hc').1,fun y H3 ⟨e1,c',e2,e3⟩=>⟨.inl e1,?_⟩⟩;rw[hc'] at e2;cases e2;subst e3
 exact .str _)
variable {es:List Q4}{fs:DA}{x:Str}{k:Nat}{f:ji}{fd:QN}{ps:List Str}{np:Nat}
theorem zdz{Mi:List Nat}:∀ σ H Q,cT Mi zg6 σ H Q->zuZ σ H Q:=by
 intro σ H Q h_;refine cT_ h_ fun F O s b s' R hf q=>?_;injection hf with hf;injection hf with h1 h2;subst h1 h2;exact q H .refl R
theorem zrz{st:Qw}{t t':TE}{g:TG}(h:PS X st (zgY t g))(hw:∀ σ H Q,t' σ H Q->t σ H Q):PS X st (zgY t' g):=zcv h fun D σ H q=>hw σ H _ q
end
def znT(M:List Nat)(caps:List (Option Nat))(dg:DG)(ft:DT)(fk fe:DE):List T->List (Key × T)->Sg->Option (List (Key × T) × Sg)
 |[],acc,s=>some (acc,s)
 |x::xs,acc,s=>(dg x (zjw caps s)).bind fun s1=>(ft s1).bind fun p=>if p.1 then (fk p.2).bind fun r=>(zh7 r.1).bind fun k=>(fe r.2).bind fun q=>znT M caps dg ft fk fe xs (zfH acc k q.1) (zaA M caps q.2 s) else znT M caps dg ft fk fe xs acc (zaA M caps p.2 s)
def dDC(M:List Nat)(caps:List (Option Nat))(fi:DI)(dg:DG)(ft:DT)(fk fe:DE):DE:=fun s=>(fi s).bind fun p=>if p.1.length<=zfT then (znT M caps dg ft fk fe p.1 [] p.2).map fun q=>(.dct q.1,q.2) else none
theorem ztF{M Mi:List Nat}{caps:List (Option Nat)}{fi:DI}{g:TG}{dg:DG}{ft:DT}{fk fe:DE}{tt:TT}(c:CapOk caps M Mi)(hg:zpG g dg Mi caps)(htt:∀ σ H Q,cT Mi ft σ H Q->tt σ H Q) :
  ∀ σ H Q,cE .n M (dDC M caps fi dg ft fk fe) σ H Q->tDC caps (cI M fi) g tt (cE .e Mi fk) (cE .e Mi fe) σ H Q:=by
 intro σ H Q h_;refine cE_ h_ fun F O s t s' R hf q=>?_;obtain⟨⟨its,s1⟩,h1,h2⟩:=Qb hf;split at h2
 case isFalse=>cases h2
 rename_i hsz;have hsz:its.length<=zfT:=hsz;rw[zkX] at hsz;obtain⟨⟨tsE,sE⟩,h3,h4⟩:=Qm h2;injection h4 with h4 h5;subst h4 h5;refine⟨F,O,s,its,s1,R,h1,fun J H1 S1 R1 IT D hD=>?_⟩;have nD:∀(j:Nat),j∈M->σ[j]?≠some (some (.ref D)):=fun j hj e=>R1.al D (R1.ow j D hj e) hD;have RD:=R1.new hD (.dK [])
 refine⟨fun i m H'=>m=its.length - i/\i<=its.length/\∃ s' acc ys,Rel F (fun b=>O b∨b=D) M s' σ H'/\H' D=some (.dK ys)/\ys.length<=i/\RepK (Free F (fun b=>O b∨b=D)) H' ys acc/\Step σ M H H' /\
  (∀ b o,Free F O b->H1 b=some o->H' b=some o)/\znT M caps dg ft fk fe (its.drop i) acc s'=some (tsE,sE),⟨its.length,by simp,Z8 _,s1,[],[],RD,zad,jj _,⟨rfl,fun i v t e=>by simp at e⟩,S1.trans (.new hD _),fun b o _ e=>by rw[za6 (zaa e hD)]; exact e,h3⟩,?_⟩
 rintro i m H2 ⟨rfl,hi,s2,acc,ys,R2,hD2,hy,ry,S2,k2,hl⟩;have it:=IT H2 k2 i
 by_cases hlt:i < its.length
 ·refine .inr ?_;obtain⟨go,yl⟩:=it.1 its[i] (j3 hlt);rw[Zj hlt] at hl;unfold znT at hl;obtain⟨si1,hdg,hl⟩:=Qb hl;obtain⟨⟨b,si2⟩,hft,hl⟩:=Qb hl;refine⟨go,fun x H3 hy3=>?_⟩;obtain⟨y1,y2⟩:=yl x H3 hy3
  -- what was yielded is free of D
  have R3:Rel F (fun b=>O b∨b=D) M s2 σ H3/\(∀ b u,H2 b=some u->H3 b=some u)/\(∀ b,H3 b=none->H2 b=none):=by
   rcases y1 with rfl |⟨p,o,hp,rfl⟩
   ·exact⟨R2,fun _ _ e=>e,fun _ e=>e⟩
   ·exact⟨(R2.new hp o).less (fun b z=>.inl z) R2.ow R2.inD,fun b u e=>by rw[za6 (zaa e hp)]; exact e,fun b e=>by
     unfold upd at e;split at e
     ·cases e
     ·exact e⟩
  obtain⟨R3,k3,dm3⟩:=R3
  have rx:Rep (Free F (fun b=>O b∨b=D)) H3 x its[i]:=y2.mono (fun b z=>by
   rcases z with ⟨z,n⟩ |n
   ·exact⟨fun y=>y.elim z.1 fun y=>n (y▸hD),z.2⟩
   ·exact⟨fun y=>R2.al b y n,.inr (R2.dom b n)⟩) fun _ _ _ e=>e
  have ry3:RepK (Free F (fun b=>O b∨b=D)) H3 ys acc:=ry.mono (fun _ z=>z) fun b o _ e=>k3 b o e;have hD3:=k3 _ _ hD2;refine hg F _ (zjw caps s2) its[i] si1 x (zbr caps σ) H3 _ (R3.cap c) rx hdg fun σ4 R4 hk4 hl4=>?_;have hsl:∀ {sx:Sg} {Hx:Hp},Rel F (fun b=>O b∨b=D) Mi sx σ4 Hx->sx.length=caps.length:=fun {sx Hx} Rx=>by
   rw[Rx.len,hl4];unfold zbr;rw[j5]
  have nD4:∀(k:Nat),k∈Mi->σ4[k]?≠some (some (.ref D)):=fun k hk e=>by
   obtain⟨j,e1,e2⟩:=c.yes k hk;rw[hk4 k j e1] at e;obtain⟨j',e3,e4⟩:=zbV e;rw[e1] at e3;obtain rfl:j=j':=by injection e3 with h; injection h
   exact nD j e2 e4
  refine htt _ _ _ ⟨F,_,si1,b,si2,R4,hft,fun H5 S5 R5=>?_⟩;have freeK:∀ {Hx Hy:Hp},Step σ4 Mi Hx Hy->∀ b o,(Free F O b/\b≠D)->Hx b=some o->Hy b=some o:=fun {Hx Hy} Sx b o z e=>Sx.keep b o (R4.notOwned fun y=>y.elim z.1.1 z.2) e
  have S3':∀ {Hx:Hp},Step σ4 Mi H3 Hx->Step σ M H Hx:=fun {Hx} Sx=>⟨fun b o n e=>Sx.keep b o (fun k hk e'=>by
   obtain⟨j,e1,e2⟩:=c.yes k hk;rw[hk4 k j e1] at e';obtain⟨j',e3,e4⟩:=zbV e';rw[e1] at e3;obtain rfl:j=j':=by injection e3 with h; injection h
   exact n j e2 e4) (k3 b o (S2.keep b o n e)),fun b e=>S2.dom b (dm3 b (Sx.dom b e))⟩
  have keepF:∀ {Hx:Hp},Step σ4 Mi H3 Hx->∀ b o,Free F O b->H1 b=some o->Hx b=some o:=fun {Hx} Sx b o z e=>freeK Sx b o ⟨z,fun y=>by rw[y,hD] at e; cases e⟩ (k3 b o (k2 b o z e))
  cases b with
  |false=>
   rw[In_ jK] at hl;dsimp only;rw[In_ jK];exact⟨its.length - (i+1),by lia,rfl,hlt,zaA M caps si2 s2,acc,ys,R3.back c S5 R5 hk4 (hsl R5),S5.keep D _ nD4 hD3,WL hy,ry3.mono (fun _ z=>z) fun b o z e=>S5.keep b o (R4.notOwned z.1) e,S3' S5,keepF S5,hl⟩
  |true=>
   rw[Ip_ rfl] at hl;dsimp only;rw[Ip_ rfl];obtain⟨⟨tk,si3⟩,hfk,hl⟩:=Qb hl;obtain⟨k,hkk,hl⟩:=Qb hl;obtain⟨⟨te,si4⟩,hfe,hl⟩:=Qb hl;refine⟨F,_,si2,tk,si3,R5,hfk,fun ky H5' S5' p5=>⟨F,_,si3,te,si4,p5.1,hfe,fun y H6 S6 p6=>?_⟩⟩;have S56:=(S5.trans S5').trans S6;have hD6:H6 D=some (.dK ys):=S56.keep D _ nD4 hD3;have R6:=R3.back c S56 p6.1 hk4 (hsl p6.1);obtain rfl:=zfp (.inl p5.2) hkk;have lp:=zdm ys k y;refine⟨ys,k,hD6,rfl,by rw[Zs]; lia,its.length - (i+1),by lia,rfl,hlt,zaA M caps si4 s2,zfH acc k te,zhh ys k y,?_,zad,by lia,?_,?_,?_,hl⟩
   ·-- D is nobody's: writing there keeps the relation
    have kD:∀ b u,b≠D->H6 b=some u->upd H6 D (.dK (zhh ys k y)) b=some u:=fun b u n e=>by rw[za6 n]; exact e
    refine⟨R6.len,fun j t e n=>?_,fun j t e n=>?_,R6.ow,R6.dis,fun b u n e=>?_,fun b e=>?_,R6.fresh,R6.inD,fun b z e=>?_⟩
    ·obtain⟨v,a1,a2⟩:=R6.val j t e n;exact⟨v,a1,a2.mono (fun _ z=>z) fun b u z e=>kD b u (fun w=>z.1 (.inr w)) e⟩
    ·obtain⟨a,a1,a2⟩:=R6.own j t e n;exact⟨a,a1,a2.mono (fun _ z=>z) (fun b u z e=>kD b u (fun w=>z.1 (.inr w)) e) fun u e=>kD a u (fun w=>nD j n (w▸a1)) e⟩
    ·refine kD b u (fun w=>?_) (R6.keep b u n e);subst w;have:=R1.dom b hD;rw[this] at e; cases e
    ·refine R6.dom b ?_;unfold upd at e;split at e
     ·cases e
     ·exact e
    ·refine R6.al b z ?_;unfold upd at e;split at e
     ·cases e
     ·exact e
   ·have r1:RepK (Free F (fun b=>O b∨b=D)) H6 (zhh ys k y) (zfH acc k te):=(ry3.mono (fun _ z=>z) fun b o z e=>S56.keep b o (R4.notOwned z.1) e).put p6.2;exact r1.mono (fun _ z=>z) fun b u z e=>by rw[za6 (fun w=>z.1 (.inr w))]; exact e
   ·exact⟨fun b o n e=>by rw[za6 (zaa e (S1.dom D hD))]; exact(S3' S56).keep b o n e,fun b e=>(S3' S56).dom b (by
     unfold upd at e;split at e
     ·cases e
     ·exact e)⟩
   ·exact fun b o z e=>by rw[za6 (zaa e hD)]; exact keepF S56 b o z e
 ·have e:i=its.length:=by lia
  subst e;rw[N2] at hl;injection hl with hl;injection hl with e1 e2;subst e1 e2;exact .inl ⟨it.2 (jj _),q _ H2 S2 ⟨D,rfl,S1.dom D hD,R2,.dct hD2 ry⟩⟩
section
variable {fc fk:DE}
def zd5:T->Option T
 |.lst xs=>some (.lst xs) |.tup xs=>some (.lst xs) |.scr ns=>some (.lst (ns.map .int)) |.dct kvs=>some (.lst (kvs.map fun kv=>kT kv.1)) |.fd kvs=>some (.lst (kvs.map fun kv=>kT kv.1))
 |_=>none
theorem zqc:S1N (fun xs H Q=>(∃ p ys,xs=[.ref p]/\(SqL TheK.K H p ys∨SqT TheK.K H p ys)/\∀ l,H l=none->Q (.ref l) (upd H l (.lst ys)))∨∃ a kvs,xs=[V.ref a]/\Rd H a (.dK kvs)/\∀ l,H l=none->Q (.ref l) (upd H l (.lst (kvs.map fun kv=>kV kv.1)))) zd5:=by
 intro C H x tx t Q bx hg q;cases tx with
 |dct ts=>
  injection hg with hg; subst hg;obtain⟨a,kvs,rfl,ha,ra⟩:=bx.dct;exact .inr ⟨a,kvs,rfl,.inl ha,fun p hp=>q p _ hp fun C' hC=>.lst zad (zf5 ra.1)⟩
 |fd ts=>
  injection hg with hg; subst hg;obtain⟨a,ob,kvs,rfl,ha,ra,_⟩:=bx.fd;exact .inr ⟨a,kvs,rfl,.inr ⟨ob,ha⟩,fun p hp=>q p _ hp fun C' hC=>.lst zad (zf5 ra.1)⟩
 |lst ts=>exact .inl (zmu C H x (.lst ts) t Q bx hg q)
 |tup ts=>exact .inl (zmu C H x (.tup ts) t Q bx hg q)
 |scr ts=>exact .inl (zmu C H x (.scr ts) t Q bx hg q)
 |_=>cases hg
def zl5:T->Option T
 |.int i=>some (.int (-i))
 |_=>none
def dCh(g g':T->T->Option T)(fa fb fc:DE):DE:=fun s=>(fa s).bind fun x=>(fb x.2).bind fun y=>(g x.1 y.1).bind fun r=>match r with
 |.bl true=>(fc y.2).bind fun z=>(g' y.1 z.1).map fun t=>(t,z.2)
 |.bl false=>some (.bl false,y.2)
 |_=>none
theorem zrs{r r':R2}{g g':T->T->Option T}(h:S2E r g)(h':S2E r' g'):∀ σ H Q,cE .e M (dCh g g' fa fb fc) σ H Q->zp9 r r' (cE .e M fa) (cE .e M fb) (cE .e M fc) σ H Q:=by
 intro σ H Q h_;refine cE_ h_ fun F O s t s' R hf q=>?_;obtain⟨x,h1,hf⟩:=Qb hf;obtain⟨y,h2,hf⟩:=Qb hf;obtain⟨u,h3,hf⟩:=Qb hf;refine⟨F,O,s,x.1,x.2,R,h1,fun v H1 S1 p1=>⟨F,O,x.2,y.1,y.2,p1.1,h2,fun w H2 S2 p2=>?_⟩⟩;refine h (Free F O) H2 v w x.1 y.1 u _ (.inl (p1.1.stay S2 p1.2)) (.inl p2.2) h3 fun z rz=>?_;cases u with
 |bl k=>
  obtain rfl:z=.bl k:=BRep.bl (.inl rz);refine⟨k,rfl,?_⟩;cases k with
  |true=>
   obtain⟨w2,h4,h5⟩:=Qb (show ((fc y.2).bind fun z=>(g' y.1 z.1).map fun t=>(t,z.2))=some (t,s') from hf);obtain⟨t',h6,h7⟩:=Qm h5;injection h7 with h7 h8;subst h7 h8;refine⟨F,O,y.2,w2.1,w2.2,p2.1,h4,fun a H3 S3 p3=>?_⟩;exact h' (Free F O) H3 w a y.1 w2.1 t' Q (.inl (p2.1.stay S3 p2.2)) (.inl p3.2) h6 fun a' ra=>q a' H3 ((S1.trans S2).trans S3) ⟨p3.1,ra⟩
  |false=>
   injection hf with hf;injection hf with h7 h8;subst h7 h8;exact q _ H2 (S1.trans S2) ⟨p2.1,.bl false⟩
 |_=>cases hf
end
def zu5:T->Option T
 |.lst xs=>some (.lst xs.reverse)
 |_=>none
def zvX(f:DE)(k:DO):DE:=fun s=>(f s).bind fun p=>(k p.2).bind fun q=>if q.1=some (-1) then (zu5 p.1).map fun t=>(t,q.2) else none
section
variable {st:Q4}{fk:DO}{p2:Pos}
def dLR(f:DA):DE:=fun s=>(f s).bind fun p=>match p.1 with
 |[.int j]=>if zfP j=true then some (.lst (zaN 0 j.toNat),p.2) else none
 |_=>none
theorem zlz{j:Int}(h:zfP j=true):-16777216<=j/\j<=16777216:=by
 have:=ZL h;lia
end
def ztN:List T->Option (List Bool)
 |[]=>some []
 |.bl b::ts=>(ztN ts).map (b::·)
 |_=>none
def zwu:T->Option T
 |.lst ts=>(ztN ts).map fun bs=>.bl (bs.all id)
 |_=>none
def zwt:T->Option T
 |.lst ts=>(ztN ts).map fun bs=>.bl (bs.any id)
 |_=>none
def zx4(t:TS):TS:=fun D σ H=>∃ a kvs,H a=some (.dK kvs)/\∀ o,t D σ (upd H a (.frz o (.dK kvs)))
theorem zos{X:Cx}{st:Qw}{t:TS}(h:PS X st t):PS X st (zx4 t):=fun pc s σ H D I ⟨a,kvs,e,q⟩=>by
 obtain⟨o,I2⟩:=I.known e;exact h pc s σ _ D I2 (q o)
def zrn(i:Nat)(d:DS):DS:=fun s=>match (s[i]?).join with
 |some (.dct kvs)=>d (s.set i (some (.fd kvs)))
 |_=>none
def znm:List T->Option (List Int)
 |[]=>some []
 |.int i::ts=>(znm ts).map (i::·)
 |_=>none
theorem zl2{C:ji->Prop}{H:Hp}:∀ {vs:List V} {ts:List T} {ns:List Int},Reps C H vs ts->znm ts=some ns->vs=ns.map V.int
 |[],[],ns,_,h=>by injection h with h; subst h; rfl
 |[],_::_,_,r,_=>by have:=r.1; simp at this
 |_::_,[],_,r,_=>by have:=r.1; simp at this
 |v::vs,t::ts,ns,r,h=>by
  obtain⟨b,rfl⟩:∃ b,t=.int b:=by cases t<;>first |exact⟨_,rfl⟩ |cases h
  obtain⟨l,h1,rfl⟩:=Qm (show (znm ts).map (b::·)=some ns from h)
  rw[zl2 r.tail h1,BRep.int (.inl r.head)]; rfl
def zfK:DS:=fun _=>none
def zh8:T->Bool
 |.non |.bl _ |.int _ |.str _=>true
 |_=>false
theorem zl7{C C':ji->Prop}{H H':Hp}{v:V}{t:T}(h:Rep C H v t)(f:zh8 t=true):Rep C' H' v t:=by
 cases h<;>first |exact .non |exact .bl _ |exact .int _ |exact .str _ |cases f
theorem znL:QK "set"=some (.type "set"):=by decide +kernel
theorem Rel.plus{F:Fr}{O:ji->Prop}{M:List Nat}{s:Sg}{σ:L2.St}{H:Hp}{l:ji}(R:Rel F O M s σ H)(h:H l=none)(o:HO):Rel F O M s σ (upd H l o):=
 R.ext (fun b u e=>by rw[za6 (zaa e h)]; exact e) fun b e=>by
  unfold upd at e;split at e
  ·cases e
  ·exact e
section
def zrk:DE:=fun s=>some (.set (fun _=>false) 0,s)
def zrl(i:Nat)(fe:DE):DE:=fun s=>(s[i]?).join.bind fun t0=>match t0 with
 |.set _ _=>(fe s).bind fun p=>(p.2[i]?).join.bind fun t1=>match p.1,t1 with
  |.int k,.set S n=>if n < 1000 then some (.non,p.2.set i (some (.set (fun j=>S j||decide (j=k)) (if S k then n else n+1)))) else none
  |_,_=>none
 |_=>none
def zlR:T->T->Option T
 |.int k,.set S _=>some (.bl (!S k))
 |_,_=>none
theorem BRep.setI{C:ji->Prop}{H:Hp}{v:V}{S:Int->Bool}{n:Nat}(h:BRep C H v (.set S n)):∃ a,v=.ref a/\H a=some (.set S n):=by
 rcases h with h |⟨a,rfl,h⟩
 ·cases h with |set c r=>exact⟨_,rfl,r⟩
 ·cases h with |set r=>exact⟨_,rfl,r⟩
theorem zsj:S2E (fun x y H Q=>∃ k a S n,x=.int k/\y=.ref a/\H a=some (.set S n)/\Q (.bl (!S k)) H) zlR:=by
 intro C H x y tx ty t Q bx by' hg q;obtain⟨k,rfl⟩:∃ k,tx=.int k:=by cases tx<;>first |exact⟨_,rfl⟩ |cases hg
 obtain⟨S,n,rfl⟩:∃ S n,ty=.set S n:=by cases ty<;>first |exact⟨_,_,rfl⟩ |cases hg
 injection hg with hg;subst hg;obtain rfl:=BRep.int bx;obtain⟨a,rfl,r⟩:=BRep.setI by';exact⟨k,a,S,n,rfl,rfl,r,q _ (.bl _)⟩
end
def zgR(fn:List T->Option T)(i:Nat)(f0:DE)(fa:DA):DE:=fun s=>(f0 s).bind fun p=>(p.2[i]?).join.bind fun _=>(fa p.2).bind fun q=>(q.2[i]?).join.bind fun t0=>(fn (p.1::t0::q.1)).bind fun t=>if zh8 t=true then some (t,q.2) else none
theorem zoY{M:List Nat}{f0:DE}{fa:DA}{np:Nat}{fn:List T->Option T}{i:Nat}(hn:Ar fa np)(hi:M.contains i=true):∀ σ H Q,cE .e M (zgR fn i f0 fa) σ H Q->zgd (spP .e (np+2) fn) [] E0 (zeP (cE .e M f0) (zeP (zeO i) (cA M fa))) σ H Q:=by
 intro σ H Q h_;refine cE_ h_ fun F O s t s' R hf q=>?_;have hi':i∈M:=by simpa using hi
 obtain⟨p,h0,hf⟩:=Qb hf;obtain⟨x0,h1,hf⟩:=Qb hf;obtain⟨r,h2,hf⟩:=Qb hf;obtain⟨t0,h3,hf⟩:=Qb hf;obtain⟨w,h4,h5⟩:=Qb hf
 by_cases hfl:zh8 w=true
 ·rw[Ip_ hfl] at h5;injection h5 with h5;injection h5 with h5 h6;subst h5 h6;refine⟨F,O,s,p.1,p.2,R,h0,fun v H1 S1 p1=>?_⟩;obtain⟨a,e1,_⟩:=p1.1.own i x0 (zae h1) hi';refine⟨_,e1,F,O,p.2,r.1,r.2,p1.1,h2,fun vs H2 S2 R2 rs=>?_⟩;obtain⟨b,e2,L⟩:=R2.own i t0 (zae h3) hi';rw[e1] at e2;injection e2 with e2;injection e2 with e2;injection e2 with e2;subst e2;have rv:=p1.1.stay S2 p1.2
  try dsimp only
  rw[Q8];refine⟨fun _=>True,p.1::t0::r.1,w,by rw[jp,jp,hn _ _ _ h2],.cons (rv.mono (fun _ _=>trivial) fun _ _ _ e=>e) (.cons (L.rep (fun _ _=>trivial) trivial) (rs.mono (fun _ _=>trivial) fun _ _ _ e=>e)),h4,fun v H3 c=>q v H3 ((S1.trans S2).trans ⟨fun b o _ e=>c.keep b o e,c.dom⟩) ⟨R2.ext c.keep c.dom,?_⟩⟩
  exact zl7 c.res hfl
 ·rw[In_ hfl] at h5; cases h5
theorem zgA:∀(l acc:List Str),acc.Nodup->(l.foldl Dw.stp acc).Nodup
 |[],_,h=>h
 |x::l,acc,h=>by
  rw[Zo];refine zgA l _ ?_;unfold Dw.stp;split
  ·exact h
  ·rename_i hx;exact jT.mpr ⟨h,by simp,fun a ha b hb e=>by rw[jm] at hb; subst hb e; exact hx ha⟩
theorem zf6(l:List Str):(Dw.zab l).Nodup:=zgA l [] ZX
def znN(xs ys:List Str):Nat:=((Dw.zab xs).filter fun x=>decide (x∈Dw.zab ys)).length
def zi4:T->T->Option T
 |.lst xs,.lst ys=>(zhv xs).bind fun a=>(zhv ys).bind fun b=>if a.length < 900 then if b.length < 900 then some (.int (znN a b)) else none else none
 |_,_=>none
def zty:T->Bool
 |.lst ts=>ts.all zh8
 |_=>false
theorem zj7{C C':ji->Prop}{H H':Hp}{vs:List V}{ts:List T}(r:Reps C H vs ts)(f:ts.all zh8=true):Reps C' H' vs ts:=
 ⟨r.1,fun i v t hv ht=>zl7 (r.2 i v t hv ht) (js.mp f t (jJ ht))⟩
theorem znv{C C':ji->Prop}{H:Hp}{a:ji}{t:T}(h:Live C H a t)(f:zty t=true):Live C' H a t:=by
 cases h with
 |lst r h=>exact .lst r (zj7 h f)
 |_=>cases f
theorem Rel.but{F:Fr}{O:ji->Prop}{M:List Nat}{s:Sg}{σ:L2.St}{H H':Hp}{D:ji}(R:Rel F O M s σ H)(hO:O D)(nD:∀(j:Nat),j∈M->σ[j]?≠some (some (.ref D)))(h0:F.H0 D=none)
  (k:∀ b u,b≠D->H b=some u->H' b=some u) (d:∀ b,H' b=none->H b=none):Rel F O M s σ H':=by
 refine⟨R.len,fun j t e n=>?_,fun j t e n=>?_,R.ow,R.dis,fun b u n e=>?_,fun b e=>R.dom b (d b e),R.fresh,R.inD,fun b z e=>R.al b z (d b e)⟩
 ·obtain⟨v,a1,a2⟩:=R.val j t e n;exact⟨v,a1,a2.mono (fun _ z=>z) fun b u z e=>k b u (fun w=>z.1 (w▸hO)) e⟩
 ·obtain⟨a,a1,a2⟩:=R.own j t e n;exact⟨a,a1,a2.mono (fun _ z=>z) (fun b u z e=>k b u (fun w=>z.1 (w▸hO)) e) fun u e=>k a u (fun w=>nD j n (w▸a1)) e⟩
 ·refine k b u (fun w=>?_) (R.keep b u n e);subst w;rw[h0] at e;cases e
theorem zp4{H:Hp}{p b:ji}{o:HO}(e:upd H p o b=none):H b=none:=by
 unfold upd at e;split at e
 ·cases e
 ·exact e
def zpJ(xs ys:List T):List T:=(xs.zip ys).map fun p=>.tup [p.1,p.2]
theorem zox{F:Fr}{O:ji->Prop}{H1 H2:Hp}{p:ji}{x y:V}{t u:T}(k:∀ b o,Free F O b->H1 b=some o->H2 b=some o)(hp:H2 p=none)(rx:Rep (Free F O) H1 x t)(ry:Rep (Free F O) H1 y u) :
  Rep (fun b=>(Free F O b/\H1 b≠none)∨H2 b=none) (upd H2 p (.tup [x,y])) (.ref p) (.tup [t,u]):=by
 have up:∀ {v:V} {w:T},Rep (Free F O) H1 v w->Rep (fun b=>(Free F O b/\H1 b≠none)∨H2 b=none) (upd H2 p (.tup [x,y])) v w:=fun r=>
  r.there.mono (fun b c=>.inl c) fun b o c e=>by rw[za6 (zaa (k b o c.1 e) hp)]; exact k b o c.1 e
 have rr:Reps (fun b=>(Free F O b/\H1 b≠none)∨H2 b=none) (upd H2 p (.tup [x,y])) [x,y] [t,u]:=.cons (up rx) (.cons (up ry) .nil);exact .tup (.inr hp) zad rr.1 rr.2
def zm2(M:List Nat)(s:Sg):Prop:=∀ i:Nat,i∈M->∀ t,s[i]?=some (some t)->zty t=true
structure DRel (F:Fr) (O W:ji->Prop) (M:List Nat) (x:Nat) (s:Sg) (σ:L2.St) (H:Hp) (v:V) (t:T):Prop where
 R:Rel F O M (s.set x none) σ H
 sx:s[x]?=some (some t)
 vx:σ[x]?=some (some v)
 xM:x∉M
 rep:Rep W H v t
 wO:∀ b,W b->O b
 wM:∀(i:Nat) b,i∈M->σ[i]?=some (some (.ref b))->¬ W b
 wD:∀ b,W b->¬ F.D b
section
variable {F:Fr}{O W:ji->Prop}{x:Nat}{s:Sg}{σ:L2.St}{H H':Hp}{v:V}{t:T}
theorem DRel.rel(d:DRel F O W M x s σ H v t):Rel F (fun b=>O b/\¬ W b) M s σ H:=by
 have hx:x < s.length:=(j9.mp d.sx).1;have R1:Rel F (fun b=>O b/\¬ W b) M (s.set x none) σ H:=d.R.less (fun b z=>z.1) (fun i a hi e=>⟨d.R.ow i a hi e,d.wM i a hi e⟩) fun a ha=>⟨d.R.inD a ha,fun z=>d.wD a z ha⟩;have R2:=R1.setE (M':=M) (i:=x) (v:=v) (t:=t) (fun j hj=>⟨hj,fun z=>d.xM (z▸hj)⟩) (fun j hj=>.inl hj) (by rw[Q0]; exact hx) (d.rep.mono (fun b w=>⟨fun z=>z.2 w,.inr ((d.R.fresh b (d.wO b w)).resolve_left (d.wD b w))⟩) fun _ _ _ e=>e)
 have e1:(s.set x none).set x (some t)=s:=by
  rw[WW];refine WM fun j=>?_;rw[Yz]
  by_cases h:x=j
  ·subst h;rw[Ip_ rfl,Ip_ hx,d.sx]
  ·rw[In_ h]
 have e2:σ.set x (some v)=σ:=by
  refine WM fun j=>?_;rw[Yz]
  by_cases h:x=j
  ·subst h;rw[Ip_ rfl,Ip_ (j9.mp d.vx).1,d.vx]
  ·rw[In_ h]
 rw[e1,e2] at R2;exact R2
theorem DRel.back(d:DRel F O W M x s σ H v t)(S:Step σ M H H')(R1:Rel F (fun b=>O b/\¬ W b) M s σ H')(hf:zm2 M s):DRel F O W M x s σ H' v t:=by
 have wk:∀ b o,W b->H b=some o->H' b=some o:=fun b o w e=>S.keep b o (fun i hi z=>d.wM i b hi z w) e;refine⟨⟨d.R.len,fun j t' e n=>?_,fun j t' e n=>?_,d.R.ow,d.R.dis,R1.keep,R1.dom,d.R.fresh,d.R.inD,fun a z e=>d.R.al a z (S.dom a e)⟩,d.sx,d.vx,d.xM,d.rep.mono (fun _ w=>w) wk,d.wO,d.wM,d.wD⟩
 ·obtain⟨u,h1,h2⟩:=d.R.val j t' e n;exact⟨u,h1,d.R.stay S h2⟩
 ·have hj:x≠j:=fun z=>d.xM (z▸n);rw[jd hj] at e;obtain⟨a,h1,h2⟩:=R1.own j t' e n;exact⟨a,h1,znv h2 (hf j n t' e)⟩
end
def DEnd(F:Fr)(rk:Kd)(io M:List Nat)(x:Nat)(O:ji->Prop)(H:Hp)(D:Ends):Fl->Prop
 |.nx s'=>∀ O' W' σ' H' v' t',KeepO O H O' H'->DRel F O' W' M x s' σ' H' v' t'->Ios F io M σ'->D.nx σ' H'
 |.rt t s'=>∀ v H',RetOk F rk io s' t v H'->D.rt v H'
 |_=>False
def cD(rk:Kd)(io M:List Nat)(x:Nat)(d:DS):TS:=fun D σ H=>∃ F O W s v t r,DRel F O W M x s σ H v t/\Ios F io M σ/\d s=some r/\DEnd F rk io M x O H D r
theorem DEnd.more{F:Fr}{rk:Kd}{io M:List Nat}{x:Nat}{O O':ji->Prop}{H H':Hp}{D:Ends}{r:Fl}(h:DEnd F rk io M x O H D r)(k:KeepO O H O' H'):DEnd F rk io M x O' H' D r:=by
 cases r with
 |nx s'=>exact fun O2 W2 σ2 H2 v2 t2 k2=>h O2 W2 σ2 H2 v2 t2 (k.trans k2)
 |rt t s'=>exact h
 |bk s'=>exact h
 |ct s'=>exact h
noncomputable def zrm(M:List Nat)(ft:DT)(d d':DS):DS:=fun s=>(ft s).bind fun p=>@ite _ (p.2=s/\zm2 M s) (YZ _) (if p.1 then d s else d' s) none
def zu8(d:DS):DS:=fun s=>match d s with
 |some (.rt t s')=>some (.rt t s')
 |_=>none
def unD(x:Nat):Fl->Option Fl
 |.nx s=>some (.nx (s.set x none))
 |.rt t s=>some (.rt t s)
 |_=>none
def spD(np:Nat)(fn:List T->Option T):Sp:=fun vs H Q _=>∃ C ts t,ts.length=np/\Reps C H vs ts/\fn ts=some t/\∀ v H',(∀ b o,H b=some o->H' b=some o)->(∀ b,H' b=none->H b=none)->Rep (fun b=>H b=none) H' v t->Q v H'
def zjh(fn:List T->Option T)(fa:DA)(x:Nat)(d:DS):DS:=fun s=>(fa s).bind fun p=>(fn p.1).bind fun t=>if x < p.2.length then (d (p.2.set x (some t))).bind (unD x) else none
section
variable {rk:Kd}{io:List Nat}{x a y:Nat}{ft:DT}{tg xe ae:Q4}{rb:List Qw}{dr:DS}{p1 p2:Pos}{z:Str}
noncomputable def zro(M:List Nat)(x:Nat)(fe:DE):DS:=fun s=>(fe s).bind fun p=>@ite _ (p.2=s/\zm2 M s/\∃ ts,s[x]?=some (some (.lst ts))/\ts.length<=10000) (YZ _) (some (.nx (s.set x (some T.any)))) none
end
def cED(M:List Nat)(f:DE):TE:=fun σ H Q=>∃ F O s t s',Rel F O M s σ H/\f s=some (t,s')/\∀ v H',Step σ M H H'->Rel F O M s' σ H'->Rep (fun b=>H b=none) H' v t->Q v H'
section
variable {rk:Kd}{M' Mb:List Nat}{d:DS}{N:List Str}{np:Nat}
theorem zv7(hN:np<=N.length){vs:List V}{H:Hp}{Q:VK}{E:XK}(h:spD np (zin N.length d) vs H Q E) :
  cS .b [] [] M' Mb d { nx:=fun _ H'=>Q .non H',rt:=Q } (L2.start N vs) H:=by
 obtain⟨C,ts,t,hl,r,hf,q⟩:=h;obtain⟨l1,l2⟩:=zeR (N:=N) r (by lia)
 have w:∀ b,C b->Free ⟨H,C,fun _=>False,fun _=>0⟩ (fun _=>False) b:=fun b c=>⟨fun z=>z,.inl c⟩;have R:Rel ⟨H,C,fun _=>False,fun _=>0⟩ (fun _=>False) [] (zaE N.length ts) (L2.start N vs) H:=by
  refine⟨l1,fun i t e _=>?_,fun i t e n=>by simp at n,fun i a n=>by simp at n,fun i j a n=>by simp at n,fun b o _ e=>e,fun b e=>e,fun a z=>z.elim,fun a z=>z,fun a z=>z.elim⟩
  obtain⟨v,h1,_,_,rv⟩:=l2 i t e;exact⟨v,h1,rv.mono w fun _ _ _ e=>e⟩
 have I:Ios ⟨H,C,fun _=>False,fun _=>0⟩ [] [] (L2.start N vs):=⟨fun i hi=>by simp at hi,fun a z=>z.elim⟩
 unfold zin at hf;split at hf
 case h_2=>cases hf
 rename_i hd;obtain rfl:=jc hf;exact⟨_,_,_,_,R,I,hd,fun v H' ro=>q v H' (fun b o e=>ro.keep b o (fun z=>z) e) ro.dom ro.res⟩
end
def zu6(f:DA):DI:=fun s=>(f s).bind fun p=>match p.1 with
 |[.lst xs,.lst ys]=>some (zpJ xs ys,p.2)
 |_=>none
def zws(f:List Int->Int):T->Option T
 |.lst ts=>(znm ts).bind fun ns=>if 0 < ns.length then some (.int (f ns)) else none
 |_=>none
def znq:=zws zs8
theorem zv2{f:List Int->Int}:S1E (fun xs H Q=>∃(a:ji) (ns:List Int),xs=[V.ref a]/\SqL TheK.K H a (ns.map V.int)/\0 < ns.length/\Q (.int (f ns)) H) (zws f):=by
 intro C H x tx t Q bx hg q;cases tx with
 |lst ts=>
  obtain⟨ns,h1,h2⟩:=Qb (show ((znm ts).bind fun ns=>if 0 < ns.length then some (T.int (f ns)) else none)=some t from hg)
  split at h2
  ·rename_i hn;injection h2 with h2; subst h2;obtain⟨a,us,rfl,ha,ra⟩:=bx.lst;rw[zl2 ra h1] at ha;exact⟨a,ns,rfl,SqL.of ha,hn,q _ (.int _)⟩
  ·cases h2
 |_=>cases hg
theorem zrv:QK "max"=some (.builtin "max"):=by first |exact PySem.boot_max |exact PyProof.Rows.boot_max |decide +kernel
def zw5(i j:Int):Prop:=i.natAbs < 2 ^ 200/\j.natAbs < 2 ^ 200
theorem znO{k:Int}(h:k.natAbs < 2 ^ 200):W4 k<=2 ^ 20:=by
 unfold W4;split
 ·exact Z8 _
 ·rename_i hne;have h0:k.natAbs≠0:=by
   intro z;exact hne (by simpa using z)
  have:=(Nat.log2_lt h0).mpr h;have e:(2:Nat) ^ 20=1048576:=by decide
  lia
theorem zqR{X:Cx}:OpR X (gv .Mult) (rI zw5 fun i j=>.int (i*j)):=opI fun _ _ _ _ _ _ _ hc q=>mul_int q (.of_bits (znO hc.1) (znO hc.2))
def ztO(i j:Int):Bool:=Nat.ble i.natAbs 10000000000000000000000000000000000000000&&Nat.ble j.natAbs 10000000000000000000000000000000000000000
def zr9:=gI ztO fun i j=>i*j
def ztJ(fe:DE):DE:=fun s=>(fe s).bind fun p=>match p.1 with
 |.lst ts=>if ts.all zh8=true then some p else none
 |_=>none
abbrev DR:=Sg->Bool
def cR(E:XK)(N:ji)(d:DR):TS:=fun D σ H=>∃ F O s,Rel F O [] s σ H/\Ios F [] [] σ/\d s=true/\∀ O' H',KeepO O H O' H'->E (.ref N) none H'
def zoT(ft:DT)(da db:DR):DR:=fun s=>match ft s with
 |some (b,s')=>if b then da s' else db s'
 |none=>false
def zf9(d1:DR)(dn:DS)(d2:DR):DR:=fun s=>d1 s||match dn s with
 |some (.nx s')=>d2 s'
 |_=>false
def spR(N:ji)(np:Nat)(rs:List T->Bool):Sp:=fun vs H _ E=>∃ C ts,ts.length=np/\Reps C H vs ts/\rs ts=true/\∀ H',(∀ b o,H b=some o->H' b=some o)->(∀ b,H' b=none->H b=none)->E (.ref N) none H'
def zoR:DR:=fun _=>true
def zm6:DR:=fun _=>false
section
variable {E:XK}{N:ji}{da db d1 d2:DR}{dn:DS}{ft:DT}{a b sts:List Qw}{st:Qw}
theorem zxc(hc:PT X c (cT [] ft))(ha:PSs X a (cR E N da))(hb:PSs X b (cR E N db)):PS X (.If c a b pos) (cR E N (zoT ft da db)):=zcv (zmU hc ha hb) (by
 intro D σ H hz; obtain⟨F,O,s,R,I,hd,q⟩:=hz;unfold zoT at hd;split at hd
 case h_2=>cases hd
 rename_i k s' hf;refine⟨F,O,s,k,s',R,hf,fun H1 S1 R1=>?_⟩;have k1:=S1.keepO R;cases k with
 |true=>exact⟨F,O,s',R1,I,hd,fun O' H' k=>q O' H' (k1.trans k)⟩
 | false=>exact⟨F,O,s',R1,I,hd,fun O' H' k=>q O' H' (k1.trans k)⟩)
theorem zxb:PSs X sts (cR E N zm6):=fun pc s σ H D I hz=>by
 obtain⟨F,O,s,R,I,hd,q⟩:=hz;cases hd
theorem zvb:PS X st (cR E N zm6):=fun pc s σ H D I hz=>by
 obtain⟨F,O,s,R,I,hd,q⟩:=hz;cases hd
theorem zva(h:PS X st (cR E N da)):PSs X [st] (cR E N da):=zfA (zc1 h) (fun D σ H hz=>hz)
theorem zv9{rk:Kd}(h1:PS X st (cR E N d1))(hn:PS X st (cS rk [] [] [] [] dn))(h2:PSs X sts (cR E N d2)):PSs X (st::sts) (cR E N (zf9 d1 dn d2)):=by
 intro pc s0 σ H D I0 hz;obtain⟨F,O,s,R,I,hd,q⟩:=hz;unfold zf9 at hd;rcases Bool.or_eq_true_iff.mp hd with hd |hd
 ·exact zdh h1 h2 pc s0 σ H D I0 ⟨F,O,s,R,I,hd,q⟩
 ·split at hd
  case h_2=>cases hd
  rename_i s' hf;refine zdh hn h2 pc s0 σ H D I0 ⟨F,O,s,_,R,I,hf,fun O' σ' H' k R' I'=>⟨F,O',s',R',I',hd,fun O2 H2 k2=>q O2 H2 (k.trans k2)⟩⟩
theorem zqk{C:ji}{bm:List j6}{x:Str}{np cpos:Pos}{e0:Q4}{y:Str}(hR:zlr X E)(hc:X.calm=true)(xc:XCls X.base N bm)(hg:Gl X x)(hm:X.mg x=some (.ref N))(he0:PE X e0 (tC (.str y)))
  (he:je [e0] X.env=(false,eval e0 X.env)::je [] X.env:=by rfl) (hpl:(QB cpos (je [] X.env)).any (·.1)=false:=by rfl) (hd:(x == ("__debug__":Str))=false:=by decide) :
  PS X (.Raise (some (.Call (.Name x np) [e0] [] cpos)) none pos) (cR E N zoR):=zcv (zor hR hc xc hg hm (zak he0 zbI he) he hpl hd (by show 1<=100; decide)) (by
 intro D σ H hz; obtain⟨F,O,s,R,I,hd,q⟩:=hz
 exact⟨by show 1<=1000; decide,q _ _ .refl⟩)
end
def zkn(fe:DE):DR:=fun s=>(fe s).isSome
section
variable {E:XK}{N D:ji}
theorem zoa{k:Nat}{bm:List j6}{x:Str}{np cpos:Pos}{e0:Q4}{fe:DE}(hR:zil X E)(hc:X.calm=true)(hr:Room (k+1) X.A)(xc:XClsI X.K X.base N D bm)(hg:Gl X x)(hm:X.mg x=some (.ref N))(he0:PE X e0 (cE .e [] fe))
  (he:je [e0] X.env=(false,eval e0 X.env)::je [] X.env:=by rfl) (hpl:(QB cpos (je [] X.env)).any (·.1)=false:=by rfl) (hd:(x == ("__debug__":Str))=false:=by decide) :
  PS X (.Raise (some (.Call (.Name x np) [e0] [] cpos)) none pos) (cR E N (zkn fe)):=zcv (zmT hR hc hr xc hg hm (zak he0 zbI he) he hpl hd) (by
 intro D' σ H hz; obtain⟨F,O,s,R,I,hd,q⟩:=hz;obtain⟨⟨t,s'⟩,h1⟩:=gg.mp (show (fe s).isSome=true from hd)
 exact⟨F,O,s,t,s',R,h1,fun v H' S po=>⟨rfl,q O H' (S.keepO R)⟩⟩)
end
end L3
namespace L3
open PySem PySem.Spec PyProof.Rows L2
def Here(K:j8)(mg:Str->Option j6)(x:Str)(st:Qw)(ps:List Str):Prop:=
 ∃ f fd,Fun K x x st f fd/\Binds K fd ps []/\jY K (.ref f)=true/\mg x=some (.ref f)
def Cal(P:jE)(w:Qa)(K:j8)(mg:Str->Option j6)(base:Qs)(n:Nat)(x:Str)(ps:List Str)(sp:Sp):Prop:=
 ∃ f fd,FnOk P w K mg base CX0 n f fd ps sp/\Binds K fd ps []/\jY K (.ref f)=true/\mg x=some (.ref f)
theorem zr7{K:j8}{h:Qs}{mg:Str->Option j6}(X:K.In h)(G:h.Ns jC mg){x:Str}{st:Qw}{ps:List Str}{f:ji}{oc:j6}{od an:Option ji}{osl:Array (Option j6)}{kV doc pm cdv ct:j6}
  (hb:∀(kV doc pm:j6) (an:Option ji) (cdv ct:j6) (us:List j6),us.length=ps.length->Y1 (jU x x (zbq st) (zau st) (za0 st) .none kV doc pm an cdv ct) ⟨us,[]⟩=pure (ps.zip us))
  (a:jV K jC x=some (some (.ref f))) (l:K.lookup f=some ⟨oc,od,.func (jU x x (zbq st) (zau st) (za0 st) .none kV doc pm an cdv ct),osl⟩)
  (c:QF K cdv x=true) (k:jY K (.ref f)=true):Here K mg x st ps:=by
 have F:=zpy (st:=st) l c k;exact⟨f,_,F,F.binds hb,k,Zw X G a⟩
section
variable {P:jE}{w:Qa}{K:j8}{mg:Str->Option j6}{base:Qs}
theorem Here.ok{x:Str}{st:Qw}{N ps:List Str}{k:Nat}{sp:Sp}(h:Here K mg x st ps)(S:FnScope N ps (za0 st))(len:∀ vs H Q E,sp vs H Q E->vs.length=ps.length)
  (hbody:∀(f:ji) (cdv:j6) (A:Q3) (outer:List Env) (s:ja) (H:Hp) (vs:List V) (Q:VK) (E:XK),Room k (A.deeper (QJ x (za0 st) s.heap.objs.size f cdv))->sp vs H Q E->
   ∃ t,PSs (zff CX0 P w K mg base N x (za0 st) f cdv A outer s H E).nox (zau st) t/\t { nx:=fun _ H'=>Q .non H',rt:=Q } (L2.start N vs) H):Cal P w K mg base (k+1) x ps sp:=by
 obtain⟨f,fd,F,b,kp,m⟩:=h;exact⟨f,fd,F.ok S len fun cdv A outer s H vs Q E hr hs=>hbody f cdv A outer s H vs Q E hr hs,b,kp,m⟩
theorem Cal.mono{j k:Nat}{x:Str}{ps:List Str}{sp:Sp}(h:Cal P w K mg base j x ps sp)(hjk:j<=k):Cal P w K mg base k x ps sp:=by
 obtain⟨f,fd,F,b,kp,m⟩:=h;exact⟨f,fd,F.mono hjk,b,kp,m⟩
end
def zrF(tk:TheK)(P:jE)(w:Qa)(mg:Str->Option j6)(base:Qs)(k:Nat)(x:Str)(st:Qw)(N:List Str)(t:TS):Prop:=
 ∀(f:ji) (cdv:j6) (A:Q3) (outer:List Env) (s:ja) (H:Hp) (E:XK),Room k (A.deeper (QJ x (za0 st) s.heap.objs.size f cdv))->PSs (zff CX0 P w tk.K mg base N x (za0 st) f cdv A outer s H E).nox (zau st) t
variable [tk:TheK]
section
variable {P:jE}{w:Qa}{mg:Str->Option j6}{base:Qs}{x:Str}{st:Qw}{N ps:List Str}{k:Nat}{d:DS}{M' Mb:List Nat}
theorem Here.okP(h:Here tk.K mg x st ps)(S:FnScope N ps (za0 st))(hb:zrF tk P w mg base k x st N (cS .e [] [] M' Mb d))(hN:ps.length<=N.length:=by decide):Cal P w tk.K mg base (k+1) x ps (spP .e ps.length (fnP N.length d)):=by
 refine h.ok S (fun vs H Q E ⟨C,ts,t,hl,r,_⟩=>by rw[r.1,hl]) fun f cdv A outer s H vs Q E hr hs=>⟨_,hb f cdv A outer s H E hr,?_⟩
 refine zqh (fun ts t e=>?_) (.inl rfl) hN hs;unfold fnP at e;split at e
 ·injection e with e; subst e; exact .inl ⟨_,by assumption⟩
 ·injection e with e; subst e; exact .inr ⟨rfl,rfl,_,by assumption⟩
 ·cases e
theorem Here.okN(h:Here tk.K mg x st ps)(S:FnScope N ps (za0 st))(hb:zrF tk P w mg base k x st N (cS .n [] [] M' Mb d))(hN:ps.length<=N.length:=by decide):Cal P w tk.K mg base (k+1) x ps (spP .n ps.length (zin N.length d)):=by
 refine h.ok S (fun vs H Q E ⟨C,ts,t,hl,r,_⟩=>by rw[r.1,hl]) fun f cdv A outer s H vs Q E hr hs=>⟨_,hb f cdv A outer s H E hr,?_⟩
 refine zqh (fun ts t e=>?_) (.inr rfl) hN hs;unfold zin at e;split at e
 ·injection e with e; subst e; exact .inl ⟨_,by assumption⟩
 ·cases e
theorem Here.okD(h:Here tk.K mg x st ps)(S:FnScope N ps (za0 st))(hb:zrF tk P w mg base k x st N (cS .b [] [] M' Mb d))(hN:ps.length<=N.length:=by decide):Cal P w tk.K mg base (k+1) x ps (spD ps.length (zin N.length d)):=
 h.ok S (fun vs H Q E ⟨C,ts,t,hl,r,_⟩=>by rw[r.1,hl]) fun f cdv A outer s H vs Q E hr hs=>⟨_,hb f cdv A outer s H E hr,zv7 hN hs⟩
theorem zmm{rk:Kd}{np:Nat}{fn:List T->Option (T × T)}{vs:List V}{H:Hp}{Q:VK}{E:XK}(h:spI rk np fn vs H Q E):vs.length=np:=by
 obtain⟨C,a,us,t0,ts,t,t1,hl,rfl,_,_,r,_⟩:=h;rw[<-hl,jp,jp,r.1]
theorem Here.okI(h:Here tk.K mg x st ps)(S:FnScope N ps (za0 st))(hb:zrF tk P w mg base k x st N (cS .e [0] [0] M' Mb d))(hN:ps.length<=N.length:=by decide):Cal P w tk.K mg base (k+1) x ps (spI .e ps.length (fnI N.length d)):=
 h.ok S (fun vs H Q E h=>zmm h) fun f cdv A outer s H vs Q E hr hs=>⟨_,hb f cdv A outer s H E hr,zsq (.inl rfl) hN hs⟩
def zlx(K:j8):Sp:=fun vs H Q _=>∃(a:ji) (ns:List Int),vs=[.ref a]/\zud H/\SqL K H a (ns.map V.int)/\ns.length<=63/\∀ H',Q (.bl true) H'
theorem ztc{fw:ji}{dw:QN}(F:Fun tk.K x x st fw dw)(S:FnScope N [ps0] (za0 st))(hb:zrF tk P w mg base k x st N (cS .e [] [] M' Mb d))(hN:1<=N.length)(hd:∀ ns:List Int,ns.length<=63->fnP N.length d [.scr ns]=some (.bl true)):FnOk P w tk.K mg base CX0 (k+1) fw dw [ps0] (zlx tk.K):=by
 refine F.ok S (fun vs H Q E ⟨a,ns,e,_⟩=>by rw[e]; rfl) fun cdv A outer s H vs Q E hr hs=>⟨_,hb fw cdv A outer s H E hr,?_⟩
 obtain⟨a,ns,rfl,hO,hS,h63,q⟩:=hs;have rp:Rep (fun _=>True) H (.ref a) (.scr ns):=by
  rcases hS with (hS |⟨o,hS⟩) |hS
  ·rcases hO a with z |⟨_,_,z⟩<;>rw[hS] at z<;>cases z
  ·exact .scr trivial hS
  ·exact .scrK fun H'=>.inr hS
 refine zqh (np:=1) (N:=N) (fn:=L3.fnP N.length d) (fun ts t e=>?_) (.inl rfl) hN (E:=E) ⟨fun _=>True,[.scr ns],.bl true,rfl,.cons rp .nil,hd ns h63,fun v H' c=>?_⟩
 ·unfold L3.fnP at e;split at e
  ·injection e with e; subst e; exact .inl ⟨_,by assumption⟩
  ·injection e with e; subst e; exact .inr ⟨rfl,rfl,_,by assumption⟩
  ·cases e
 ·have:v=.bl true:=BRep.bl (.inl c.res);rw[this];exact q H'
end
end L3
namespace L3
open PySem PySem.Spec PyProof.Rows L2
variable {X:Cx}{st:Qw}{a c e iter tg:Q4}{te:TE}{p p2 pos pos':Pos}{es:List Q4}{N ps:List Str}{M M' Mb io:List Nat}{fa fb fe:DE}{ft:DT}{rk:Kd}{sts:List Qw}{d:DS}{x:Str}{k np:Nat}{P:jE}{w:Qa}{mg:Str->Option j6}{base:Qs}
theorem zbd{A:Q3}{k:Nat}(hr:Room k A):A.units+8 < gG:=by have:=hr.un; lia
structure QE (X:Cx) (e:Q4) (t:TE):Prop where
 un:L2.PE X e t
structure QT (X:Cx) (e:Q4) (t:TT):Prop where
 un:L2.PT X e t
structure QW (X:Cx) (e:Q4) (t:TT):Prop where
 un:L2.PW X e t
structure QA (X:Cx) (e:List Q4) (t:TA):Prop where
 un:L2.PA X e t
structure QSs (X:Cx) (e:List Qw) (t:TS):Prop where
 un:L2.PSs X e t
structure QS (X:Cx) (e:Qw) (t:TS):Prop where
 un:L2.PS X e t
structure QI (X:Cx) (tg iter:Q4) (t:TI):Prop where
 un:L2.PI X tg iter t
structure QGs (X:Cx) (e:List Q4) (t:TGs):Prop where
 un:L2.PGs X e t
structure QG (X:Cx) (e:Q4) (t:TG):Prop where
 un:L2.PG X e t
structure QTs (X:Cx) (e:List Q4) (t:TT):Prop where
 un:L2.PTs X e t
structure QO (X:Cx) (e:Option Q4) (t:TO):Prop where
 un:L2.PO X e t
section
theorem zmG{x j pos}:QE X (.Constant (.str x) j pos) (tC (.str x)):=⟨L2.zkP ⟩
theorem zoe{x:Str}{v:V}{u:j6}{pos:Pos}(hg:Gl X x)(hm:X.mg x=none)(hv:QK x=some u)(r:RelV v u)(hn:x≠"__name__":=by decide)(hd:(x == ("__debug__":Str))=false:=by decide):QE X (.Name x pos) (tC v):=⟨L2.zn0 hg hm hv r hn hd⟩
end
section
variable {rest:List Qw}{t u:TS}
theorem zod(he:QE X e te)(hs:Zy e none pos.line X.env=pure false:=by rfl):QS X (.Expr e pos) (zq5 te):=⟨L2.zmV he.un hs⟩
end
section
theorem za4{i:Nat}{x:Str}(hN:X.N.Nodup)(hi:X.N[i]?=some x)(hx:Loc X.env.scope x)(hf:X.fn x=true∨X.env.scope.names.lookup x=some .local:=by first |exact .inl rfl |exact .inr rfl |assumption):QG X (.Name x pos) (zcw i):=⟨L2.zqO hN hi hx hf⟩
theorem zbj :QGs X [] zr8:=⟨L2.zqM ⟩
theorem zah{e:Q4}{es:List Q4}{t:TG}{u:TGs}(h1:QG X e t)(h2:QGs X es u)(hs:(Qi (e::es) X.env).map (·.2)=gR e X.env::(Qi es X.env).map (·.2):=by rfl):QGs X (e::es) (zj6 t u):=⟨L2.zot h1.un h2.un hs⟩
theorem zfl{es:List Q4}{k:Nat}{t:TGs}{n:Nat}(hc:X.calm=true)(h:QGs X es t)(hn:(Qi es X.env).length=n:=by rfl)(hst:(Qi es X.env).findIdx? (·.1)=none:=by rfl):QG X (.Tuple es k pos) (zlQ X.K n t):=⟨L2.zpi hc h.un hn hst⟩
theorem zhL{o i:Q4}{to ti:TE}{t:zuc}(ho:QE X o to)(hi:QE X i ti)(hs:zw3 X t)(ha:∀ v,gR (.Subscript o i pos) X.env v=(do
   let ov <-Y4 [v] (eval o X.env)
   let iv <-Y4 [v,ov] (eval i X.env)
   JH pos
   Y4 [v,ov,iv] (setItem ov iv v)
   release [v,ov,iv] []):=by intro _; rfl):QG X (.Subscript o i pos) (zvN to ti t):=⟨L2.zsO ho.un hi.un hs ha⟩
theorem zet{tg e:Q4}{te:TE}{g:TG}(he:QE X e te)(hg:QG X tg g)(hs:swapsWithSole [tg] e pos.line X.env=pure false:=by rfl)(hw:swappedStores [tg] e X.env=pure none:=by rfl)(h1:(Qi [tg] X.env).map (·.2)=[gR tg X.env]:=by rfl):QS X (.Assign [tg] e pos) (zgY te g):=⟨L2.zsL he.un hg.un hs hw h1⟩
theorem za7{i:Nat}{x:Str}{e:Q4}{te:TE}{pos':Pos}(hN:X.N.Nodup)(hi:X.N[i]?=some x)(hx:Loc X.env.scope x)(he:QE X e te)(hs:Zy e (some (.Name x pos')) pos.line X.env=pure false:=by rfl)(hf:X.fn x=true∨X.env.scope.names.lookup x=some .local:=by first |exact .inl rfl |exact .inr rfl |assumption):QS X (.Assign [.Name x pos'] e pos) (zgY te (zcw i)):=⟨L2.zph hN hi hx he.un hs hf⟩
end
section
theorem zaP{iter:Q4}{body:List Qw}{wi:TI}{g:TG}{tb:TS}{pos:Pos}(hp:Jf (jH X.prog X.w) X.A X.env X.xe)(hc:X.calm=true)(hi:QI X tg iter wi)(hg:QG X tg g)(hb:QSs X body tb)(hs:∀ x,Qq iter X.env x=pure x:=by intro _; rfl):QS X (.For tg iter body [] pos) (zu0 wi g tb):=⟨L2.zsK hp hc hi.un hg.un hb.un hs⟩
end
section
variable {t:TA}
theorem zjP :QA X [] znR:=⟨L2.zbI ⟩
theorem zhN(ha:QE X e te)(hr:QA X es t)(hs:je (e::es) X.env=(false,eval e X.env)::je es X.env:=by rfl):QA X (e::es) (zeP te t):=⟨L2.zak ha.un hr.un hs⟩
end
section
variable {b:Q4}{ta tb:TE}
variable {o:Q4}{to:TE}{t:TA}{name:Str}{apos cpos:Pos}{T id:String}{r:V->List V->Hp->VK->Prop}
theorem zhM(pa:Wz T)(slot:Slot T name id)(hty:typeOf (.builtin id)=pure (.type "method_descriptor"))(hm:MtR X id r)(ho:QE X o to)(hbase:YO o name X.env (eval o X.env)=eval o X.env:=by rfl)(hline:(apos.endLine == cpos.line)=true:=by rfl):QE X (.Call (.Attribute o name apos) [] [] cpos) (zu1 X.K T r to):=⟨L2.zsY pa slot hty hm ho.un hbase hline⟩
theorem zdO(pa:Wz T)(slot:Slot T name id)(hty:typeOf (.builtin id)=pure (.type "method_descriptor"))(hm:MtR X id r)(ho:QE X o to)(ha:QA X (e::es) t)(hbase:YO o name X.env (eval o X.env)=eval o X.env:=by rfl)(hfew:((QB cpos (je (e::es) X.env)).all (fun x=>!x.1)&&(backToKw cpos (keywordEach [] X.env)).all (fun x=>x.1.isSome)
   && decide ((e::es).length+([]:List Keyword).length+(if ([]:List Keyword).isEmpty then 0 else 1) < 30))=true:=by rfl) (hline:(apos.endLine == cpos.line)=true:=by rfl) (hs:je (e::es) X.env=(false,eval e X.env)::je es X.env:=by rfl) (hplain:(QB cpos (je es X.env)).any (·.1)=false:=by rfl):QE X (.Call (.Attribute o name apos) (e::es) [] cpos) (tBM X.K T r to t):=⟨L2.zvp pa slot hty hm ho.un ha.un hbase hfew hline hs hplain⟩
end
section
variable {o i value:Q4}{tpos:Pos}{td ty tv:TE}
theorem zeZ(hu:X.A.units+1 < gG)(ho:QE X o td)(hi:QE X i ty)(hv:QE X value tv)(hs:Zy value (some (.Subscript o i pos')) pos.line X.env=pure false):QS X (.Assign [.Subscript o i pos'] value pos) (zqg td ty tv):=⟨L2.zqE hu ho.un hi.un hv.un hs⟩
end
section
theorem qpv(i:Nat){x:Str}{pos:Pos}(hN:X.N[i]?=some x:=by rfl)(hv:Vis X.env.scope x:=by first |exact jA rfl |exact ZP (jA rfl) |exact ZP (ZP rfl))(hd:(x == ("__debug__":Str))=false:=by decide)(hcd:(x == ("__classdict__":Str))=false:=by decide):QE X (.Name x pos) (zeO i):=⟨L2.pv i hN hv hd hcd⟩
end
section
theorem zbi{X:Cx}:QTs X [] zuZ:=⟨L2.zqD ⟩
theorem ze6{X:Cx}{c:Q4}{t:TT}(h:QT X c t):QTs X [c] t:=⟨L2.zqC h.un⟩
end
section
variable {scope:gr}{caps:List (Option Nat)}{elt:Q4}{ifs:List Q4}{wi:TI}{g:TG}{tt:TT}
theorem zeh(hc:X.calm=true)(hi:QI X tg iter wi)(hg:∀ cl C s0 H0 fp,QG (zaq X N scope cl C s0 H0 fp) tg g)(hgk:zfd caps g)(ht:∀ cl C s0 H0 fp,QTs (zaq X N scope cl C s0 H0 fp) ifs tt)(he:∀ cl C s0 H0 fp,QE (zaq X N scope cl C s0 H0 fp) elt te)(hcap:capOk N X.N scope X.env.scope caps=true:=by rfl)(hkind:scope.kind=.function:=by rfl)(hcell:scope.names.all (fun p=>p.2 != .cell)=true:=by rfl)(hnames:scope.names.all (fun p=>p.2 != .local||scope.names.lookup p.1 == some .local)=true:=by rfl)(hfr:scope.names.all (fun p=>p.2 != .free||(X.env.scope.names.lookup p.1 == some .cell||X.env.scope.names.lookup p.1 == some .free))=true:=by rfl)(hs:∀ x,Qq iter X.env x=pure x:=by intro _; rfl):QE X (.ListComp elt [⟨tg,iter,ifs,0⟩] scope pos) (tLC caps wi g tt te):=⟨L2.zvn hc hi.un (fun cl C s0 H0 fp=>(hg cl C s0 H0 fp).un) hgk (fun cl C s0 H0 fp=>(ht cl C s0 H0 fp).un) (fun cl C s0 H0 fp=>(he cl C s0 H0 fp).un) hcap hkind hcell hnames hfr hs⟩
theorem zd0{i:Nat}{y:Str}{py spos:Pos}(hN:X.N.Nodup)(hiy:X.N[i]?=some y)(hy:X.env.scope.names.lookup y=some .local)(hc:X.calm=true)(hi:QI X tg iter wi)(hg:∀ cl C s0 H0 fp,QG (zaq X N scope cl C s0 H0 fp) tg g)(hgk:zfd caps g)(ht:∀ cl C s0 H0 fp,QTs (zaq X N scope cl C s0 H0 fp) ifs tt)(he:∀ cl C s0 H0 fp,QE (zaq X N scope cl C s0 H0 fp) elt te)(hsw:Zy (.ListComp elt [⟨tg,iter,ifs,0⟩] scope pos) (some (.Name y py)) spos.line X.env=pure true:=by rfl)(hcap:capOk N X.N scope X.env.scope caps=true:=by rfl)(hkind:scope.kind=.function:=by rfl)(hcell:scope.names.all (fun p=>p.2 != .cell)=true:=by rfl)(hnames:scope.names.all (fun p=>p.2 != .local||scope.names.lookup p.1 == some .local)=true:=by rfl)(hfr:scope.names.all (fun p=>p.2 != .free||(X.env.scope.names.lookup p.1 == some .cell||X.env.scope.names.lookup p.1 == some .free))=true:=by rfl)(hs:∀ x,Qq iter X.env x=pure x:=by intro _; rfl):QS X (.Assign [.Name y py] (.ListComp elt [⟨tg,iter,ifs,0⟩] scope pos) spos) (zgY (tLC caps wi g tt te) (zcw i)):=⟨L2.zop hN hiy hy hc hi.un (fun cl C s0 H0 fp=>(hg cl C s0 H0 fp).un) hgk (fun cl C s0 H0 fp=>(ht cl C s0 H0 fp).un) (fun cl C s0 H0 fp=>(he cl C s0 H0 fp).un) hsw hcap hkind hcell hnames hfr hs⟩
end
section
variable {K:j8}
theorem zhK{es:List Q4}{k:Nat}{t:TGs}{n:Nat}{pos:Pos}(hK:X.K=K)(hc:X.calm=true)(h:QGs X es t)(hn:(Qi es X.env).length=n:=by rfl)(hst:(Qi es X.env).findIdx? (·.1)=none:=by rfl):QG X (.Tuple es k pos) (zlQ K n t):=⟨L2.zqN hK hc h.un hn hst⟩
end
section
theorem zjO{es:List Q4}{k:Nat}{t:TGs}{n:Nat}(hc:X.calm=true)(h:QGs X es t)(hn:(Qi es X.env).length=n:=by rfl)(hst:(Qi es X.env).findIdx? (·.1)=none:=by rfl):QG X (.Tuple es k pos) (zvM X.K n t):=⟨L2.zsN hc h.un hn hst⟩
end
section
variable {scope:gr}{caps:List (Option Nat)}{kx vx:Q4}{ifs:List Q4}{wi:TI}{g:TG}{tt:TT}{tk tv:TE}
theorem zsz(hc:X.calm=true)(hi:QI X tg iter wi)(hg:∀ cl C s0 H0 fp,QG (zaq X N scope cl C s0 H0 fp) tg g)(hgk:zfd caps g)(ht:∀ cl C s0 H0 fp,QTs (zaq X N scope cl C s0 H0 fp) ifs tt)(hk:∀ cl C s0 H0 fp,QE (zaq X N scope cl C s0 H0 fp) kx tk)(he:∀ cl C s0 H0 fp,QE (zaq X N scope cl C s0 H0 fp) vx tv)(hcap:capOk N X.N scope X.env.scope caps=true:=by rfl)(hkind:scope.kind=.function:=by rfl)(hcell:scope.names.all (fun p=>p.2 != .cell)=true:=by rfl)(hnames:scope.names.all (fun p=>p.2 != .local||scope.names.lookup p.1 == some .local)=true:=by rfl)(hfr:scope.names.all (fun p=>p.2 != .free||(X.env.scope.names.lookup p.1 == some .cell||X.env.scope.names.lookup p.1 == some .free))=true:=by rfl)(hs:∀ x,Qq iter X.env x=pure x:=by intro _; rfl):QE X (.DictComp kx vx [⟨tg,iter,ifs,0⟩] scope pos) (tDC caps wi g tt tk tv):=⟨L2.zvo hc hi.un (fun cl C s0 H0 fp=>(hg cl C s0 H0 fp).un) hgk (fun cl C s0 H0 fp=>(ht cl C s0 H0 fp).un) (fun cl C s0 H0 fp=>(hk cl C s0 H0 fp).un) (fun cl C s0 H0 fp=>(he cl C s0 H0 fp).un) hcap hkind hcell hnames hfr hs⟩
theorem zmF{i:Nat}{y:Str}{py spos:Pos}(hN:X.N.Nodup)(hiy:X.N[i]?=some y)(hy:X.env.scope.names.lookup y=some .local)(hc:X.calm=true)(hi:QI X tg iter wi)(hg:∀ cl C s0 H0 fp,QG (zaq X N scope cl C s0 H0 fp) tg g)(hgk:zfd caps g)(ht:∀ cl C s0 H0 fp,QTs (zaq X N scope cl C s0 H0 fp) ifs tt)(hk:∀ cl C s0 H0 fp,QE (zaq X N scope cl C s0 H0 fp) kx tk)(he:∀ cl C s0 H0 fp,QE (zaq X N scope cl C s0 H0 fp) vx tv)(hsw:Zy (.DictComp kx vx [⟨tg,iter,ifs,0⟩] scope pos) (some (.Name y py)) spos.line X.env=pure true:=by rfl)(hcap:capOk N X.N scope X.env.scope caps=true:=by rfl)(hkind:scope.kind=.function:=by rfl)(hcell:scope.names.all (fun p=>p.2 != .cell)=true:=by rfl)(hnames:scope.names.all (fun p=>p.2 != .local||scope.names.lookup p.1 == some .local)=true:=by rfl)(hfr:scope.names.all (fun p=>p.2 != .free||(X.env.scope.names.lookup p.1 == some .cell||X.env.scope.names.lookup p.1 == some .free))=true:=by rfl)(hs:∀ x,Qq iter X.env x=pure x:=by intro _; rfl):QS X (.Assign [.Name y py] (.DictComp kx vx [⟨tg,iter,ifs,0⟩] scope pos) spos) (zgY (tDC caps wi g tt tk tv) (zcw i)):=⟨L2.zoq hN hiy hy hc hi.un (fun cl C s0 H0 fp=>(hg cl C s0 H0 fp).un) hgk (fun cl C s0 H0 fp=>(ht cl C s0 H0 fp).un) (fun cl C s0 H0 fp=>(hk cl C s0 H0 fp).un) (fun cl C s0 H0 fp=>(he cl C s0 H0 fp).un) hsw hcap hkind hcell hnames hfr hs⟩
end
section
variable [TheK]
variable {b:Q4}
theorem qne(h:QE X e (cE .n M fa)):QE X e (cE .e M fa):=⟨L3.ne h.un⟩
theorem qeb(h:QE X e (cE .e M fa)):QE X e (cE .b M fa):=⟨L3.eb h.un⟩
theorem qnb(h:QE X e (cE .n M fa)):QE X e (cE .b M fa):=⟨L3.nb h.un⟩
theorem qv_{i:Nat}(hi:M.contains i=false)(h:QE X e (zeO i)):QE X e (cE .e M (dV i)):=⟨have h:=h.un;weak h fun σ H Q h_=>cE_ h_ fun F O s t s' R hf q=>by
 obtain⟨e1,rfl⟩:=zkl hf;obtain⟨v,h1,h2⟩:=R.val i t e1 (by simpa using hi)
 exact⟨v,h1,q v H .refl ⟨R,h2⟩⟩⟩
theorem zd2{i:Nat}(hi:M.contains i=true)(h:QE X e (zeO i)):QE X e (cE .b M (dV i)):=⟨have h:=h.un;weak h fun σ H Q h_=>cE_ h_ fun F O s t s' R hf q=>by
 obtain⟨e1,rfl⟩:=zkl hf;obtain⟨a,h1,h2⟩:=R.own i t e1 (by simpa using hi)
 exact⟨_,h1,q _ H .refl ⟨R,.inr ⟨i,by simpa using hi,h1,e1⟩⟩⟩⟩
theorem qi_{i j pos}:QE X (.Constant (.int i) j pos) (cE .e M (dC (.int i))):=⟨zoO (fun _ _=>.int i) zsW⟩
theorem zok{i j pos}:QE X (.Constant (.bool i) j pos) (cE .e M (dC (.bl i))):=⟨zoO (fun _ _=>.bl i) zsZ⟩
theorem zd1{i j pos}:QE X (.Constant (.str i) j pos) (cE .e M (dC (.str i))):=⟨zoO (fun _ _=>.str i) zkP⟩
theorem zek{j pos}:QE X (.Constant .none j pos) (cE .e M (dC .non)):=⟨zoO (fun _ _=>.non) zpk⟩
end
section
variable [TheK]
variable {b:Q4}
theorem zqy{i:Nat}(hi:M.contains i=true)(ha:QE X a (zeO i))(hb:QE X b (cE .b M fb)):QE X (.BinOp a .Add b pos) (cE .n M (d2v zoH i fb)):=⟨have ha:=ha.un;have hb:=hb.un;weak (zh3 zpo ha hb) (zs6 hi zso)⟩
theorem ziO(ha:QE X a (cE .e M fa))(hb:QE X b (cE .b M fb)):QE X (.BinOp a .Sub b pos) (cE .e M (d2 gSb fa fb)):=⟨have ha:=ha.un;have hb:=hb.un;weak (zh3 zt1 ha hb) (zch zxa)⟩
theorem zbH(ha:QE X a (cE .e M fa))(hb:QE X b (cE .b M fb)):QE X (.BinOp a .Mult b pos) (cE .e M (d2 zgI fa fb)):=⟨have ha:=ha.un;have hb:=hb.un;weak (zh3 zt3 ha hb) (zch (s_I fun i j h=>by
 unfold zpF at h;rw[Z9,decide_eq_true_iff,decide_eq_true_iff] at h
 exact h))⟩
theorem zby(ha:QE X a (cE .e M fa))(hb:QE X b (cE .b M fb)):QE X (.BinOp a .FloorDiv b pos) (cE .e M (d2 zfe fa fb)):=⟨have ha:=ha.un;have hb:=hb.un;weak (zh3 zqS ha hb) (zch (s_I fun i j h=>of_decide_eq_true (p:=0 < j/\j < 1073741824) h))⟩
theorem zaH(ha:QE X a (cE .e M fa))(hb:QE X b (cE .b M fb)):QE X (.BinOp a .Mod b pos) (cE .e M (d2 ze8 fa fb)):=⟨have ha:=ha.un;have hb:=hb.un;weak (zh3 zt4 ha hb) (zch (s_I fun i j h=>of_decide_eq_true h))⟩
theorem zmJ(ha:QE X a (cE .e M fa))(hb:QE X b (cE .b M fb)):QE X (.BinOp a .Pow b pos) (cE .e M (d2 zrC fa fb)):=⟨have ha:=ha.un;have hb:=hb.un;weak (zh3 zt2 ha hb) (zch (s_I fun i j h=>of_decide_eq_true (p:=0<=j/\j<=1000000/\i.natAbs < 2 ^ 64) h))⟩
end
section
variable [TheK]
variable {b:Q4}
theorem zvh(hu:X.A.units+8 < gG)(ha:QE X a (cE .e M fa))(hb:QE X b (cE .b M fb)):QE X (.Compare a [.Eq] [b] pos) (cE .e M (d2 gEq fa fb)):=⟨have ha:=ha.un;have hb:=hb.un;weak (zjQ (zpn hu) ha hb (zf4 _)) (zch zwj)⟩
theorem zvg(hu:X.A.units+8 < gG)(ha:QE X a (cE .e M fa))(hb:QE X b (cE .b M fb)):QE X (.Compare a [.NotEq] [b] pos) (cE .e M (d2 gNe fa fb)):=⟨have ha:=ha.un;have hb:=hb.un;weak (zjQ (zpm hu) ha hb (zf4 _)) (zch zwh)⟩
end
section
variable [TheK]
variable {b:Q4}{fu:DT}{k:Kd}
theorem zgo(h:QE X a (cE .b M fa))(he:∀ whole,Je a X.env whole=(do let v <-whole; JH a.pos; Y4 [v] (truthy v)):=by intro _; rfl):QT X a (cT M (znU fa)):=⟨have h:=h.un;zeK (zol h he) (by
 intro σ H Q h_;refine cT_ h_ fun F O s b s' R hf q=>?_;obtain⟨p,h1,h2⟩:=Qb hf;obtain⟨b',h3,h4⟩:=Qm h2;injection h4 with h4 h5;subst h4 h5
 exact⟨F,O,s,p.1,p.2,R,h1,fun v H' S po=>⟨b',zq0 po.view h3,q H' S po.1⟩⟩)⟩
theorem zee(hu:X.A.units+8 < gG)(ha:QE X a (cE .e M fa))(hb:QE X b (cE .b M fb)):QT X (.Compare a [.Eq] [b] pos) (cT M (dB (d2 gEq fa fb))):=⟨have ha:=ha.un;have hb:=hb.un;zeK (zdg (zpn hu) ha hb (zf4 _)) (tst (zch zwj))⟩
theorem zgp(hu:X.A.units+8 < gG)(ha:QE X a (cE .e M fa))(hb:QE X b (cE .b M fb)):QT X (.Compare a [.NotEq] [b] pos) (cT M (dB (d2 gNe fa fb))):=⟨have ha:=ha.un;have hb:=hb.un;zeK (zdg (zpm hu) ha hb (zf4 _)) (tst (zch zwh))⟩
theorem zqm(ha:QE X a (cE .e M fa))(hb:QE X b (cE .b M fb)):QT X (.Compare a [.Lt] [b] pos) (cT M (dB (d2 gLt fa fb))):=⟨have ha:=ha.un;have hb:=hb.un;zeK (zdg (op_lt.or ziT) ha hb (zf4 _)) (tst (zch zsn))⟩
theorem zlC(ha:QE X a (cE .e M fa))(hb:QE X b (cE .b M fb)):QT X (.Compare a [.Gt] [b] pos) (cT M (dB (d2 gGt fa fb))):=⟨have ha:=ha.un;have hb:=hb.un;zeK (zdg zvr ha hb (zf4 _)) (tst (zch zv5))⟩
theorem zsx(ha:QE X a (cE .e M fa))(hb:QE X b (cE .b M fb)):QT X (.Compare a [.GtE] [b] pos) (cT M (dB (d2 gGe fa fb))):=⟨have ha:=ha.un;have hb:=hb.un;zeK (zdg zvs ha hb (zf4 _)) (tst (zch zv5))⟩
theorem zsw(ha:QE X a (cE .e M fa))(hb:QE X b (cE .b M fb)):QT X (.Compare a [.Is] [b] pos) (cT M (dB (d2 gIs fa fb))):=⟨have ha:=ha.un;have hb:=hb.un;zeK (zdg (op_isF.or zt5) ha hb (zf4 _)) (tst (zch zx9))⟩
theorem zg1(ha:QE X a (cE .e M fa))(hb:QE X b (cE .b M fb)):QT X (.Compare a [.IsNot] [b] pos) (cT M (dB (d2 zbz fa fb))):=⟨have ha:=ha.un;have hb:=hb.un;zeK (zdg (op_isnotF.or zqP) ha hb (zf4 _)) (tst (zch zqe))⟩
theorem ziI(h:QT X a (cT M ft)):QT X (.UnaryOp .Not a pos) (cT M (zoS ft)):=⟨have h:=h.un;zeK (zmP h) (by
 intro σ H Q h_;refine cT_ h_ fun F O s b s' R hf q=>?_;obtain⟨p,h1,h2⟩:=Qm hf;injection h2 with h2 h3;subst h2 h3
 exact⟨F,O,s,p.1,p.2,R,h1,fun H' S R'=>q H' S R'⟩)⟩
theorem zjM(h:QT X a (cT M ft)):QW X (.BoolOp .And [a] pos) (cT M ft):=⟨have h:=h.un;zqA h⟩
theorem zhf(h:QT X a (cT M ft)):QW X (.BoolOp .Or [a] pos) (cT M ft):=⟨have h:=h.un;zpd h⟩
theorem zkK{rest:List Q4}(ha:QT X a (cT M ft))(hb:QW X (.BoolOp .And (b::rest) pos) (cT M fu)):QW X (.BoolOp .And (a::b::rest) pos) (cT M (zpC ft fu)):=⟨have ha:=ha.un;have hb:=hb.un;zrG (zsI ha hb) (by
 intro σ H Q h_;refine cT_ h_ fun F O s b s' R hf q=>?_;obtain⟨p,h1,h2⟩:=Qb hf;refine⟨F,O,s,p.1,p.2,R,h1,fun H' S R'=>?_⟩;split at h2
 ·rename_i hp;rw[Ip_ hp];exact⟨F,O,p.2,b,s',R',h2,fun H2 S2 R2=>q H2 (S.trans S2) R2⟩
 ·rename_i hp;rw[In_ hp];injection h2 with h2;injection h2 with h2 h3;subst h2 h3
  exact q H' S R')⟩
theorem zjL{rest:List Q4}(ha:QT X a (cT M ft))(hb:QW X (.BoolOp .Or (b::rest) pos) (cT M fu)):QW X (.BoolOp .Or (a::b::rest) pos) (cT M (dOr ft fu)):=⟨have ha:=ha.un;have hb:=hb.un;zrG (zsH ha hb) (by
 intro σ H Q h_;refine cT_ h_ fun F O s b s' R hf q=>?_;obtain⟨p,h1,h2⟩:=Qb hf;refine⟨F,O,s,p.1,p.2,R,h1,fun H' S R'=>?_⟩;split at h2
 ·rename_i hp;rw[Ip_ hp];injection h2 with h2;injection h2 with h2 h3;subst h2 h3;exact q H' S R'
 ·rename_i hp;rw[In_ hp]
  exact⟨F,O,p.2,b,s',R',h2,fun H2 S2 R2=>q H2 (S.trans S2) R2⟩)⟩
theorem zsD{op}(h:QE X a (cE .e M fa)):QE X (.BoolOp op [a] pos) (cE .e M fa):=⟨have h:=h.un;zsS h⟩
theorem zsG{rest:List Q4}(ha:QE X a (cE .e M fa))(hb:QE X (.BoolOp .And (b::rest) pos) (cE .e M fb)):QE X (.BoolOp .And (a::b::rest) pos) (cE .e M (zrp fa fb)):=⟨have ha:=ha.un;have hb:=hb.un;weak (zt0 ha hb) (by
 intro σ H Q h_;refine cE_ h_ fun F O s t s' R hf q=>?_;obtain⟨p,h1,h2⟩:=Qb hf;refine⟨F,O,s,.bl p.1,p.2,R,zko h1,fun v H' S po=>⟨p.1,BRep.bl (.inl po.2),?_⟩⟩;split at h2
 ·rename_i hp;rw[Ip_ hp];exact⟨F,O,p.2,t,s',po.1,h2,fun w H2 S2 p2=>q w H2 (S.trans S2) p2⟩
 ·rename_i hp;rw[In_ hp];injection h2 with h2;injection h2 with h2 h3;subst h2 h3
  exact q _ H' S ⟨po.1,.bl false⟩)⟩
theorem zsF(hc:QT X c (cT M ft))(ha:QE X a (cE .e M fa))(hb:QE X b (cE .e M fb)):QE X (.IfExp c a b pos) (cE .e M (dIf ft fa fb)):=⟨have hc:=hc.un;have ha:=ha.un;have hb:=hb.un;weak (zou hc ha hb) (by
 intro σ H Q h_;refine cE_ h_ fun F O s t s' R hf q=>?_;obtain⟨p,h1,h2⟩:=Qb hf;refine⟨F,O,s,p.1,p.2,R,h1,fun H' S R'=>?_⟩;split at h2
 ·rename_i hp;rw[Ip_ hp];exact⟨F,O,p.2,t,s',R',h2,fun w H2 S2 p2=>q w H2 (S.trans S2) p2⟩
 ·rename_i hp;rw[In_ hp]
  exact⟨F,O,p.2,t,s',R',h2,fun w H2 S2 p2=>q w H2 (S.trans S2) p2⟩)⟩
end
section
variable [TheK]
variable {fa:DA}
theorem za2 :QA X [] (cA M dAn):=⟨zrI zbI (by
 rintro σ H Q ⟨F,O,s,ts,s',R,hf,q⟩;injection hf with hf;injection hf with h1 h2;subst h1 h2
 exact q [] H .refl R .nil)⟩
theorem qa_(h:QE X e (cE .e M fe))(ha:QA X es (cA M fa))(hs:je (e::es) X.env=(false,eval e X.env)::je es X.env:=by rfl):QA X (e::es) (cA M (dAc fe fa)):=⟨have h:=h.un;have ha:=ha.un;zrI (zak h ha hs) (by
 rintro σ H Q ⟨F,O,s,ts,s',R,hf,q⟩;obtain⟨p,h1,h2⟩:=Qb hf;obtain⟨r,h3,h4⟩:=Qm h2;injection h4 with h4 h5;subst h4 h5;refine⟨F,O,s,p.1,p.2,R,h1,fun v H1 S1 p1=>⟨F,O,p.2,r.1,r.2,p1.1,h3,fun vs H2 S2 R2 rs=>?_⟩⟩
 exact q _ H2 (S1.trans S2) R2 (.cons (p1.1.stay S2 p1.2) rs))⟩
theorem zaI(h:QA X es (cA M fa)):QE X (.List es pos) (cE .n M (zeI fa)):=⟨have h:=h.un;weak (zsU h) (by
 intro σ H Q h_;refine cE_ h_ fun F O s t s' R hf q=>?_;obtain⟨p,h1,h2⟩:=Qb hf;split at h2
 ·rename_i hl;injection h2 with h2;injection h2 with h2 h3;subst h2 h3;refine⟨F,O,s,p.1,p.2,R,h1,fun vs H1 S1 R1 rs=>⟨by rw[rs.1]; exact hl,fun a ha=>?_⟩⟩
  exact q _ _ (S1.trans (.new ha _)) (.mkN R R1 S1 ha fun C hC=>.lst zad (rs.there.mono hC fun c o _ e=>by rw[za6 (zaa e ha)]; exact e))
 ·cases h2)⟩
theorem zei{x1}(h:QA X es (cA M fa)):QE X (.Tuple es x1 pos) (cE .e M (zlg fa)):=⟨have h:=h.un;weak (zpj h) (by
 intro σ H Q h_;refine cE_ h_ fun F O s t s' R hf q=>?_;obtain⟨p,h1,h2⟩:=Qb hf;split at h2
 ·rename_i hl;injection h2 with h2;injection h2 with h2 h3;subst h2 h3;refine⟨F,O,s,p.1,p.2,R,h1,fun vs H1 S1 R1 rs=>⟨by rw[rs.1]; exact hl,fun a ha=>?_⟩⟩
  refine q _ _ (S1.trans (.new ha _)) (.mkE R1 ha fun C hC hp=>?_);have:=rs.there.mono (C':=C) (H':=upd H1 a (.tup vs)) hC fun c o _ e=>by rw[za6 (zaa e ha)]; exact e
  exact .tup hp zad this.1 this.2
 ·cases h2)⟩
theorem zhO :QE X (.Dict [] [] pos) (cE .n M zlZ):=⟨weak zov (by
 intro σ H Q h_;refine cE_ h_ fun F O s t s' R hf q=>?_;injection hf with hf;injection hf with h1 h2;subst h1 h2;intro a ha
 exact q _ _ (.new ha _) (.mkN R R .refl ha fun C hC=>.dct zad ⟨rfl,fun i v t e=>by simp at e⟩))⟩
end
section
variable [TheK]
variable {lo hi:Option Q4}{fl fh:DO}
theorem zcl :QO X none (cO M dOn):=⟨fun pc s σ H Q I h=>by
 obtain⟨F,O,s',t,s'',R,hf,q⟩:=h;injection hf with hf;injection hf with h1 h2;subst h1 h2
 exact zqG pc s σ H Q I (q H .refl R)⟩
theorem zbx(h:QE X e (cE .e M fe)):QO X (some e) (cO M (dOs fe)):=⟨have h:=h.un;fun pc s σ H Q I hw=>by
 obtain⟨F,O,s',t,s'',R,hf,q⟩:=hw;obtain⟨⟨t',s1⟩,h1,h2⟩:=Qb hf;cases t'<;>simp at h2
 rename_i i;obtain⟨h2,h3⟩:=h2;subst h2 h3
 exact zqF h pc s σ H Q I ⟨F,O,s',.int i,s1,R,h1,fun v H' S p=>⟨i,BRep.int (.inl p.2),q H' S p.1⟩⟩⟩
theorem zvf(hK:X.K=TheK.K)(he:QE X e (cE .e M fe))(hl:QO X lo (cO M fl))(hu:QO X hi (cO M fh)):QE X (.Subscript e (.Slice lo hi none p2) pos) (cE .n M (dSl gSl fe fl fh)):=⟨L3.zwv hK he.un hl.un hu.un⟩
theorem zsB{i:Nat}(hK:X.K=TheK.K)(hi':M.contains i=true)(he:QE X e (zeO i))(hl:QO X lo (cO M fl))(hu:QO X hi (cO M fh)):QE X (.Subscript e (.Slice lo hi none p2) pos) (cE .n M (zu7 gSl i fl fh)):=⟨have he:=he.un;have hl:=hl.un;have hu:=hu.un;weak (zhR (hK▸zmn) he hl hu) (zv0 hi' zwg)⟩
end
section
variable [TheK]
variable {F:Fr}{O O' O'':ji->Prop}{s s':Sg}{σ:L2.St}{H H' H'':Hp}{v:V}{t:T}{a:ji}
theorem ziK{X:Cx}{st:Qw}{d:DS}{Mx:List Nat}(h:QS X st (cS rk io M' Mx Mb d))(hM:M'.all (M.contains ·)=true:=by rfl)(hio:io.all (M'.contains ·)=true:=by rfl):QS X st (cS rk io M Mx Mb d):=⟨have h:=h.un;zcv h (by
 intro D σ H h_;refine cS_ h_ fun F O s r R I hd q=>?_;obtain⟨O',w,R',I'⟩:=R.freeze I (zcW hM) (zcW hio)
 exact⟨F,O',s,r,R',I',hd,q.more ⟨fun b o n h=>⟨h,fun z=>n (w b z)⟩,fun _ h=>h⟩⟩)⟩
theorem zhI{X:Cx}{st:List Qw}{d:DS}{Mx:List Nat}(h:QSs X st (cS rk io M M' Mb d))(hM:Mx.all (M'.contains ·)=true:=by rfl)(hio:io.all (Mx.contains ·)=true:=by rfl):QSs X st (cS rk io M Mx Mb d):=⟨have h:=h.un;zfA h (by
 intro D σ H h_;refine cS_ h_ fun F O s r R I hd q=>?_
 exact⟨F,O,s,r,R,I,hd,zoM (zcW hM) (zcW hio) q⟩)⟩
end
section
variable [TheK]
variable {M'':List Nat}{a b:List Qw}{d':DS}
theorem zam :QSs X [] (cS rk io M M Mb zay):=⟨zfA zhQ (by
 intro D σ H h_;refine cS_ h_ fun F O s r R I hd q=>?_;injection hd with hd;subst hd
 exact q O σ H .refl R I)⟩
theorem za1(h:QS X st (cS rk io M M' Mb d)):QSs X [st] (cS rk io M M' Mb d):=⟨have h:=h.un;zc1 h⟩
theorem qs_(h:QS X st (cS rk io M M' Mb d))(h2:QSs X sts (cS rk io M' M'' Mb d')):QSs X (st::sts) (cS rk io M M'' Mb (zaj d d')):=⟨have h:=h.un;have h2:=h2.un;zfA (zdh h h2) (by
 intro D σ H h_;refine cS_ h_ fun F O s r R I hd q=>?_;obtain⟨r1,h1,h2⟩:=Qb hd;refine⟨F,O,s,r1,R,I,h1,?_⟩;cases r1 with
 |nx s1=>exact fun O1 σ1 H1 k1 R1 I1=>⟨F,O1,s1,r,R1,I1,h2,q.more k1⟩
 |bk s1=>injection h2 with h2; subst h2; exact q
 |ct s1=>injection h2 with h2; subst h2; exact q
 | rt t s1=>injection h2 with h2; subst h2; exact q)⟩
theorem zbc(hc:QT X c (cT M ft))(ha:QSs X a (cS rk io M M' Mb d))(hb:QSs X b (cS rk io M M' Mb d')):QS X (.If c a b pos) (cS rk io M M' Mb (zcx ft d d')):=⟨have hc:=hc.un;have ha:=ha.un;have hb:=hb.un;zcv (zmU hc ha hb) (by
 intro D σ H h_;refine cS_ h_ fun F O s r R I hd q=>?_;obtain⟨p,h1,h2⟩:=Qb hd;refine⟨F,O,s,p.1,p.2,R,h1,fun H1 S1 R1=>?_⟩;have k:=S1.keepO R;dsimp only;split at h2
 ·rename_i hp;rw[Ip_ hp];exact⟨F,O,p.2,r,R1,I,h2,q.more k⟩
 ·rename_i hp;rw[In_ hp]
  exact⟨F,O,p.2,r,R1,I,h2,q.more k⟩)⟩
theorem za9{i:Nat}(h:QS X st (zgY (cE .e M fe) (zcw i)))(hM:zsf M M' io i=true:=by rfl):QS X st (cS rk io M M' Mb (zaB i fe)):=⟨have h:=h.un;zcv h (by
 unfold zsf at hM;rw[jD,jD,jD] at hM;obtain⟨⟨⟨m1,m2⟩,m3⟩,m4⟩:=hM;intro D σ H h_;refine cS_ h_ fun F O s r R I hd q=>?_;obtain⟨p,h1,h2⟩:=Qb hd;split at h2
 ·rename_i hi;injection h2 with h2;subst h2;refine⟨F,O,s,p.1,p.2,R,h1,fun v H1 S1 p1=>?_⟩;refine q O _ H1 (S1.keepO R) (p1.1.setE (fun j hj=>?_) (fun j hj=>?_) hi p1.2) (I.set (by simpa using m3) (zcW m4))
  ·simpa using js.mp m1 j hj
  ·simpa using js.mp m2 j hj
 ·cases h2)⟩
theorem zaO{i:Nat}(h:QS X st (zgY (cE .n M fe) (zcw i)))(hM:zse M M' io i=true:=by rfl):QS X st (cS rk io M M' Mb (zaB i fe)):=⟨have h:=h.un;zcv h (by
 unfold zse at hM;rw[jD,jD,jD,jD] at hM;obtain⟨⟨⟨⟨m1,m2⟩,m5⟩,m3⟩,m4⟩:=hM;intro D σ H h_;refine cS_ h_ fun F O s r R I hd q=>?_;obtain⟨p,h1,h2⟩:=Qb hd;split at h2
 ·rename_i hi;injection h2 with h2;subst h2;refine⟨F,O,s,p.1,p.2,R,h1,fun v H1 S1 p1=>?_⟩;obtain⟨a,rfl,h0,R1,L⟩:=p1;have k:KeepO O H (fun b=>O b∨b=a) H1:=⟨fun b o n h=>⟨S1.keep b o (R.notOwned n) h,fun z=>z.elim n fun z=>by rw[z,h0] at h; cases h⟩,S1.dom⟩
  refine q _ _ H1 k (R1.setN (fun j hj=>?_) (fun j hj=>?_) hi (by simpa using m5) (.inr rfl) (fun j hj _ e=>R.al a (R.ow j a hj e) h0) L) (I.set (by simpa using m3) (zcW m4))
  ·simpa using js.mp m1 j hj
  ·simpa using js.mp m2 j hj
 ·cases h2)⟩
theorem zgq{k:Kd}(hk:k=.e∨k=.b)(he:QE X e (cE k M fe))(hs:Zy e none pos.line X.env=pure false:=by rfl):QS X (.Expr e pos) (cS rk io M M Mb (dDo fe)):=⟨have he:=he.un;zcv (zmV he hs) (by
 intro D σ H h_;refine cS_ h_ fun F O s r R I hd q=>?_;obtain⟨p,h1,h2⟩:=Qm hd;subst h2;refine⟨F,O,s,p.1,p.2,R,h1,fun v H1 S1 p1=>?_⟩;rcases hk with rfl |rfl
 ·exact q O σ H1 (S1.keepO R) p1.1 I
 ·exact q O σ H1 (S1.keepO R) p1.1 I)⟩
theorem zac(he:QE X e (cE .e M fe)):QS X (.Return (some e) pos) (cS .e io M M' Mb (zan io fe)):=⟨have he:=he.un;zcv (zdQ he) (by
 intro D σ H h_;refine cS_ h_ fun F O s r R I hd q=>?_;obtain⟨p,h1,h2⟩:=Qb hd;split at h2
 ·rename_i hh;injection h2 with h2;subst h2;exact⟨F,O,s,p.1,p.2,R,h1,fun v H1 S1 p1=>q v H1 (zss p1.1 I (hasAll.get hh) p1.2)⟩
 ·cases h2)⟩
theorem zmD(he:QE X e (cE .n M fe)):QS X (.Return (some e) pos) (cS .n io M M' Mb (zan io fe)):=⟨have he:=he.un;zcv (zdQ he) (by
 intro D σ H h_;refine cS_ h_ fun F O s r R I hd q=>?_;obtain⟨p,h1,h2⟩:=Qb hd;split at h2
 ·rename_i hh;injection h2 with h2;subst h2;refine⟨F,O,s,p.1,p.2,R,h1,fun v H1 S1 p1=>?_⟩;obtain⟨a,rfl,h0,R1,L⟩:=p1;exact q _ H1 (zsr R1 I (hasAll.get hh) (.inr rfl) (R.dom a h0) (fun z=>R.al a (R.inD a z) h0) L)
 ·cases h2)⟩
theorem zqo{i:Nat}(hi:M.contains i=true)(hn:io.contains i=false)(he:QE X e (zeO i)):QS X (.Return (some e) pos) (cS .n io M M' Mb (zan io (dV i))):=⟨have he:=he.un;zcv (zdQ he) (by
 intro D σ H h_;refine cS_ h_ fun F O s r R I hd q=>?_;obtain⟨p,h1,h2⟩:=Qb hd;obtain⟨t,s1⟩:=p;obtain⟨h3,h4⟩:=zkl h1;subst h4;split at h2
 ·rename_i hh;injection h2 with h2;subst h2;have hi':i∈M:=by simpa using hi
  obtain⟨a,e1,L⟩:=R.own i t h3 hi';have nd:¬ F.D a:=fun z=>by
   obtain⟨j,hj,rfl⟩:=I.D a z;obtain⟨h5,h6⟩:=I.at_ j hj;have:=R.dis i j _ hi' h5 e1 h6;subst this;have:io.contains i=true:=by simpa using hj
   rw[hn] at this; cases this
  refine⟨_,e1,q _ H (zsr R I (hasAll.get hh) (R.ow i a hi' e1) ?_ nd L)⟩;rcases R.fresh a (R.ow i a hi' e1) with z |z
  ·exact absurd z nd
  ·exact z
 ·cases h2)⟩
end
section
variable [TheK]
variable {fk fv:DE}
theorem ziJ{i:Nat}(hi:M.contains i=true)(h:QS X st (zqg (zeO i) (cE .e M fk) (cE .e M fv))):QS X st (cS rk io M M Mb (zpB i fk fv)):=⟨have h:=h.un;zcv h (by
 intro D σ H h_;refine cS_ h_ fun F O s r R I hd q=>?_;have hi':i∈M:=by simpa using hi
 obtain⟨p,h1,hd⟩:=Qb hd;obtain⟨t0,h0,hd⟩:=Qb hd;obtain⟨w,h2,hd⟩:=Qb hd;obtain⟨t1,h3,hd⟩:=Qb hd;obtain⟨kvs,rfl⟩:∃ kvs,t1=.dct kvs:=by cases t1<;>first |exact⟨_,rfl⟩ |cases hd
 have hd:((zh7 w.1).bind fun k=>if kvs.length < jn then some (Fl.nx (w.2.set i (some (.dct (zfH kvs k p.1))))) else none)=some r:=hd
 obtain⟨k,h4,hd⟩:=Qb hd;split at hd
 case isFalse=>cases hd
 rename_i h5;injection hd with h6;subst h6;refine⟨F,O,s,p.1,p.2,R,h1,fun v H1 S1 p1=>?_⟩;obtain⟨a,e1,_⟩:=p1.1.own i t0 (zae h0) hi';refine⟨_,e1,F,O,p.2,w.1,w.2,p1.1,h2,fun y H2 S2 p2=>?_⟩;obtain⟨b,e2,L⟩:=p2.1.own i _ (zae h3) hi';rw[e1] at e2;injection e2 with e2;injection e2 with e2;injection e2 with e2;subst e2;have ne:=L.ne;cases L with
 |dct hr hk=>
  obtain rfl:=zfp (.inl p2.2) h4;refine⟨a,_,rfl,DPut.k hr (by rw[hk.len]; exact h5),?_⟩
  have rv:=p1.1.stay S2 p1.2;have R2:=p2.1.write (t':=.dct (zfH kvs k p.1)) hi' e1 (zae h3) (fun Hx kx ex=>.dct ex ((hk.put rv).mono (fun _ c=>c) kx))
  exact q O σ _ (((S1.trans S2).trans (.write hi' e1 ne)).keepO R) R2 I)⟩
theorem zhJ{i:Nat}(hi:M.contains i=true)(h:QS X st (zgY (cE .e M fv) (zvN (zeO i) (cE .e M fk) zsu))):QS X st (cS rk io M M Mb (zjg i fk fv)):=⟨have h:=h.un;zcv h (by
 intro D σ H h_;refine cS_ h_ fun F O s r R I hd q=>?_;have hi':i∈M:=by simpa using hi
 obtain⟨p,h1,hd⟩:=Qb hd;obtain⟨t0,h0,hd⟩:=Qb hd;obtain⟨⟨w1,w2⟩,h2,hd⟩:=Qb hd;obtain⟨t1,h3,hd⟩:=Qb hd;obtain⟨xs,rfl⟩:∃ xs,t1=.lst xs:=by cases t1<;>first |exact⟨_,rfl⟩ |cases hd
 obtain⟨k,rfl⟩:∃ k,w1=.int k:=by cases w1<;>first |exact⟨_,rfl⟩ |cases hd
 obtain⟨j,h4,h6⟩:=Qm (show (ixN xs.length k).map (fun j=>Fl.nx (w2.set i (some (.lst (xs.set j p.1)))))=some r from hd);subst h6;refine⟨F,O,s,p.1,p.2,R,h1,fun v H1 S1 p1=>?_⟩;obtain⟨a,e1,_⟩:=p1.1.own i t0 (zae h0) hi';refine⟨_,e1,F,O,p.2,_,_,p1.1,h2,fun y H2 S2 p2=>?_⟩;obtain⟨b,e2,L⟩:=p2.1.own i _ (zae h3) hi';rw[e1] at e2;injection e2 with e2;injection e2 with e2;injection e2 with e2;subst e2;have ne:=L.ne;obtain⟨vs,hr,hk⟩:=L.lst';obtain rfl:y=.int k:=BRep.int (.inl p2.2);refine⟨a,vs,k,j,rfl,rfl,hr,by rw[hk.1]; exact h4,?_⟩
 have rv:=p1.1.stay S2 p1.2;have R2:=p2.1.write (t':=.lst (xs.set j p.1)) hi' e1 (zae h3) (fun Hx kx ex=>.lst ex ((hk.set j rv).mono (fun _ c=>c) kx))
 exact q O σ _ (((S1.trans S2).trans (.write hi' e1 ne)).keepO R) R2 I)⟩
theorem zmC{is:List Nat}{n:Nat}{K:j8}{fe:DE}(h:QS X st (zgY (cE .e M fe) (fun v σ H Q=>zvM K n (gsN is) v σ H Q∨zlQ K n (gsN is) v σ H Q)))(hn:is.length=n)(hm:is.all (fun i=>!M.contains i)=true)(hio:io.all (M.contains ·)=true):QS X st (cS rk io M M Mb (dUn is fe)):=⟨have h:=h.un;zcv h (by
 intro D σ H h_;refine cS_ h_ fun F O s r R I hd q=>?_;obtain⟨⟨p1,p2⟩,h1,hd⟩:=Qb hd;obtain⟨ts,h2,hd⟩:=Qb hd;obtain⟨s2,h3,hd⟩:=Qm hd;subst hd;have hl:∀ {is:List Nat} {ts:List T} {s s':Sg},zbG is ts s=some s'->ts.length=is.length:=by
  intro is
  induction is with
  |nil=>intro ts s s' e; cases ts with
   |nil=>rfl
   |cons=>cases e
  |cons i is ih=>intro ts s s' e; cases ts with
   |nil=>cases e
   |cons t ts=>
    unfold zbG at e;split at e
    ·rw[jp,jp,ih e]
    ·cases e
 have hmm:∀ i,i∈is->i∉M:=fun i hi=>by simpa using js.mp hm i hi
 refine⟨F,O,s,p1,p2,R,h1,fun v H1 S1 po=>?_⟩;cases p1<;>simp[zl0] at h2
 ·subst h2;obtain⟨a,vs,rfl,ha,ra⟩:=BRep.lst (.inl po.2);exact .inl ⟨a,vs,rfl,SqL.of ha,by rw[ra.1,hl h3,hn],zhz po.1 I hmm (zcW hio) ra h3 fun σ' R' I'=>q O σ' H1 (S1.keepO R) R' I'⟩
 ·subst h2;obtain⟨a,vs,rfl,ha,ra⟩:=BRep.tup (.inl po.2)
  exact .inr ⟨a,vs,rfl,SqT.of ha,by rw[ra.1,hl h3,hn],zhz po.1 I hmm (zcW hio) ra h3 fun σ' R' I'=>q O σ' H1 (S1.keepO R) R' I'⟩)⟩
end
section
variable [TheK]
variable {fa:DA}
theorem zdP{a:Q4}{p pos:Pos}(hg:Gl X "range")(hm:X.mg "range"=none)(ha:QA X [a] (cA M fa))(hs:je [a] X.env=[(false,eval a X.env)]:=by rfl):QI X tg (.Call (.Name "range" p) [a] [] pos) (cI M (znV fa)):=⟨have ha:=ha.un;zht (zmY hg hm ha hs) (by
 intro σ H R h_;refine cI_ h_ fun F O s its s' Rl hf q=>?_;obtain⟨⟨p1,p2⟩,h1,h2⟩:=Qb hf;refine⟨F,O,s,p1,p2,Rl,h1,fun vs H1 S1 R1 rs=>?_⟩;dsimp only at h2;split at h2
 case h_2=>cases h2
 ·rename_i j;have h2:(if zfP j=true then some (zaN 0 j.toNat,p2) else none)=some (its,s'):=h2
  split at h2
  ·rename_i hj;have hj:=zg0 hj;injection h2 with h2;injection h2 with h3 h4;subst h3 h4;obtain⟨v,rfl,rv⟩:=rs.one;obtain rfl:v=.int j:=BRep.int (.inl rv);exact⟨j,rfl,hj.1,hj.2,q _ H1 S1 R1 zl1⟩
  ·cases h2)⟩
theorem ziN{a b:Q4}{p pos:Pos}(hg:Gl X "range")(hm:X.mg "range"=none)(ha:QA X [a,b] (cA M fa))(hs:je [a,b] X.env=[(false,eval a X.env),(false,eval b X.env)]:=by rfl)(hs2:je [b] X.env=[(false,eval b X.env)]:=by rfl):QI X tg (.Call (.Name "range" p) [a,b] [] pos) (cI M (ztI fa)):=⟨have ha:=ha.un;zht (zmX hg hm ha hs hs2) (by
 intro σ H R h_;refine cI_ h_ fun F O s its s' Rl hf q=>?_;obtain⟨⟨p1,p2⟩,h1,h2⟩:=Qb hf;refine⟨F,O,s,p1,p2,Rl,h1,fun vs H1 S1 R1 rs=>?_⟩;dsimp only at h2;split at h2
 case h_2=>cases h2
 ·rename_i i j;have h2:(if zfP i=true/\zfP j=true then some (zaN i (j - i).toNat,p2) else none)=some (its,s'):=h2
  split at h2
  ·rename_i hj;have hj:-(2 ^ 62)<=i/\i < 2 ^ 62/\-(2 ^ 62)<=j/\j < 2 ^ 62:=⟨(zg0 hj.1).1,(zg0 hj.1).2,zg0 hj.2⟩;injection h2 with h2;injection h2 with h3 h4;subst h3 h4
   match vs,rs with
   |v::vs,rs=>
    obtain⟨u,rfl,ru⟩:=rs.tail.one;obtain rfl:v=.int i:=BRep.int (.inl rs.head);obtain rfl:u=.int j:=BRep.int (.inl ru);exact⟨i,j,rfl,hj,q _ H1 S1 R1 zl1⟩
   |[],rs=>exact absurd rs.1 (by simp)
  ·cases h2)⟩
theorem zmH{elts:List Q4}{x1:Nat}{tp:Pos}{a:Q4}{p pos:Pos}(hg:Gl X "enumerate")(hm:X.mg "enumerate"=none)(ha:QA X [a] (cA M fa))(hs:je [a] X.env=[(false,eval a X.env)]:=by rfl):QI X (.Tuple elts x1 tp) (.Call (.Name "enumerate" p) [a] [] pos) (cI M (dEn fa)):=⟨have ha:=ha.un;zht (zqK hg hm ha hs) (by
 intro σ H R h_;refine cI_ h_ fun F O s its s' Rl hf q=>?_;obtain⟨⟨p1,p2⟩,h1,h2⟩:=Qb hf;refine⟨F,O,s,p1,p2,Rl,h1,fun vs H1 S1 R1 rs=>?_⟩;dsimp only at h2;split at h2
 case h_2=>cases h2
 ·rename_i xs;injection h2 with h2;injection h2 with h3 h4;subst h3 h4;obtain⟨v,rfl,rv⟩:=rs.one;cases rv with
  |@lst a us _ c r l h=>
   refine⟨a,rfl,⟨us,SqL.of r⟩,q _ H1 S1 R1 ?_⟩;intro H2 k i;have h2:=k a _ c r;have hlen:(zkj xs).length=us.length:=by unfold zkj; rw[j5,Zn,l]
   refine⟨fun t ht=>?_,fun hl=>⟨us,SqL.of h2,by rw[<-hlen]; exact hl⟩⟩
   have hi:i < us.length:=by rw[<-hlen]; exact(j9.mp ht).1
   have hx:i < xs.length:=by rw[<-l]; exact hi
   have et:t=.tup [.int i,xs[i]]:=by
    unfold zkj at ht;rw[jf,ge hx] at ht;have:=jc ht;rw[<-this];simp[List.getD,j3 hx]
   subst et;refine⟨⟨us,us[i],SqL.of h2,j3 hi⟩,fun x H3 ⟨p',x',e1,e2,e3,e4⟩=>⟨.inr ⟨p',_,e2,e3⟩,?_⟩⟩;have:=e4 us (SqL.of h2);rw[j3 hi] at this;obtain rfl:us[i]=x':=jc this;subst e1 e3;have ri:=h i _ _ (j3 hi) (j3 hx);have ri2:Rep (fun b=>(Free F O b/\H1 b≠none)∨H2 b=none) (upd H2 p' (.tup [.int i,us[i]])) us[i] xs[i]:=
    ri.there.mono (fun b c=>.inl c) fun b o c e=>by rw[za6 (zaa (k b o c.1 e) e2)]; exact k b o c.1 e
   have rr:Reps (fun b=>(Free F O b/\H1 b≠none)∨H2 b=none) (upd H2 p' (.tup [.int i,us[i]])) [.int i,us[i]] [.int i,xs[i]]:=.cons (.int _) (.cons ri2 .nil)
   exact .tup (.inr e2) zad rr.1 rr.2)⟩
end
section
variable [TheK]
variable {body:List Qw}{fi:DI}{g:DG}{db:DS}
theorem zb8{i:Nat}(h:QG X tg (zcw i))(hi:M.contains i=false:=by rfl)(hio:io.all (M.contains ·)=true:=by rfl):QG X tg (cG io M (dGn i)):=⟨have h:=h.un;zrH h (gn hi hio)⟩
theorem zmI{is:List Nat}{n:Nat}{K:j8}(h:QG X tg (zlQ K n (gsN is)))(hn:is.length=n:=by rfl)(hm:is.all (fun i=>!M.contains i)=true:=by rfl)(hio:io.all (M.contains ·)=true:=by rfl):QG X tg (cG io M (dGt is)):=⟨have h:=h.un;zrH h (gt hn hm hio)⟩
theorem zbw(h:QS X (.For tg iter body [] pos) (zu0 (cI M fi) (cG io M g) (cS rk io M M M db))):QS X (.For tg iter body [] pos) (cS rk io M M Mb (zeJ fi g db)):=⟨have h:=h.un;zcv h ztt⟩
theorem ze4{c:Q4}{ft:DT}(n:Nat)(hp:Jf (jH X.prog X.w) X.A X.env X.xe)(hc:QT X c (cT M ft))(hb:QSs X body (cS rk io M M M db)):QS X (.While c body [] pos) (cS rk io M M Mb (zbF ft db n)):=⟨have hc:=hc.un;have hb:=hb.un;zcv (zoo hp hc hb) zo0⟩
end
section
variable [TheK]
variable {b:Q4}
theorem za8(hK:X.K=TheK.K)(hu:X.A.units+1 < gG)(ha:QE X a (cE .e M fa))(hb:QE X b (cE .b M fb))(hs:zgW b):QE X (.Subscript a b pos) (cE .e M (d2 za3 fa fb)):=⟨have ha:=ha.un;have hb:=hb.un;weak (zsP (zxn hK ha hb hs) (zvS hu ha hb hs)) (zje zoU idE idE)⟩
theorem zb2{i:Nat}(hK:X.K=TheK.K)(hi:M.contains i=true)(hu:X.A.units+1 < gG)(ha:QE X a (zeO i))(hb:QE X b (cE .b M fb))(hs:zgW b):QE X (.Subscript a b pos) (cE .e M (d2v za3 i fb)):=⟨have ha:=ha.un;have hb:=hb.un;weak (zsP (zvR hK hi ha hb hs) (ztE hi hu ha hb hs)) (zje ztK idE idE)⟩
theorem zmK(hu:X.A.units+1 < gG)(ha:QE X a (cE .e M fa))(hb:QE X b (cE .b M fb))(hm:Qy .NotIn b=false):QE X (.Compare a [.NotIn] [b] pos) (cE .e M (d2 zaK fa fb)):=⟨have ha:=ha.un;have hb:=hb.un;weak (zsP (zrh ha hb hm) (zoN hu ha hb hm)) (zje zoU idE idE)⟩
theorem zck(hu:X.A.units+1 < gG)(ha:QE X a (cE .e M fa))(hb:QE X b (cE .b M fb))(hm:Qy .NotIn b=false):QT X (.Compare a [.NotIn] [b] pos) (cT M (dB (d2 zaK fa fb))):=⟨have ha:=ha.un;have hb:=hb.un;zeK (zxg (zq2 ha hb hm) (zo4 hu ha hb hm)) (zrg zoU)⟩
theorem zao(ha:QE X a (cE .e M fa))(hb:QE X b (cE .b M fb)):QE X (.BinOp a .Add b pos) (cE .e M (d2 zax fa fb)):=⟨have ha:=ha.un;have hb:=hb.un;weak (zsP (zvU ha hb) (zvT ha hb)) (zje zoU idE neE)⟩
theorem zej{lo hi:Option Q4}{fl fh:DO}{p2:Pos}(hK:X.K=TheK.K)(he:QE X e (cE .e M fe))(hl:QO X lo (cO M fl))(hu:QO X hi (cO M fh)):QE X (.Subscript e (.Slice lo hi none p2) pos) (cE .e M (dSl zeH fe fl fh)):=⟨have he:=he.un;have hl:=hl.un;have hu:=hu.un;weak (zsP (zvQ he hl hu) (zwv hK he hl hu)) (zje ztH idE neE)⟩
theorem zaG{tg:Q4}(hK:X.K=TheK.K)(h:QE X e (cE .e M fe)):QI X tg e (cI M (zcs fe)):=⟨have h:=h.un;zht (zvl (zvl (ztp hK h) (zvF h)) (zvl (zxk h) (zto h))) (by
 intro σ H R h_;refine cI_ h_ fun F O s its s' Rl hf q=>?_;obtain⟨⟨p1,p2⟩,h1,h2⟩:=Qb hf;cases p1 with
 |lst xs=>exact .inl (.inl ⟨F,O,s,its,s',Rl,by unfold dIt; rw[h1]; exact h2,q⟩)
 |scr xs=>exact .inl (.inl ⟨F,O,s,its,s',Rl,by unfold dIt; rw[h1]; exact h2,q⟩)
 |tup xs=>exact .inl (.inr ⟨F,O,s,its,s',Rl,by unfold zww; rw[h1]; exact h2,q⟩)
 |fd xs=>exact .inr (.inl ⟨F,O,s,its,s',Rl,by unfold zwy; rw[h1]; exact h2,q⟩)
 |str x=>exact .inr (.inr ⟨F,O,s,its,s',Rl,by unfold zwx; rw[h1]; exact h2,q⟩)
 | _=>cases h2)⟩
end
section
variable [TheK]
variable {b:Q4}
variable {fs:DA}{f:ji}{fd:QN}
theorem zqz{fn:List T->Option T}(F:FnOk X.prog X.w X.K X.mg X.base CX0 k f fd ps (spP .e np fn))(hr:Room k X.A)(hg:Gl X x)(hm:X.mg x=some (.ref f))(hk:jY X.K (.ref f)=true)(hb:Binds X.K fd ps [])(ha:QA X (e::es) (cA M fs))(ar:Ar fs np)(hdb:(x == ("__debug__":Str))=false:=by decide)(he:je (e::es) X.env=(false,eval e X.env)::je es X.env:=by rfl)(hpl:(QB pos (je es X.env)).any (·.1)=false:=by rfl):QE X (.Call (.Name x p) (e::es) [] pos) (cE .e M (zai fn fs)):=⟨have ha:=ha.un;weak (zdk F hr hg hm hk hb .nil zjR ha hdb he hpl) (ztM ar)⟩
theorem zoi{fn:List T->Option T}(F:FnOk X.prog X.w X.K X.mg X.base CX0 k f fd ps (spP .n np fn))(hr:Room k X.A)(hg:Gl X x)(hm:X.mg x=some (.ref f))(hk:jY X.K (.ref f)=true)(hb:Binds X.K fd ps [])(ha:QA X (e::es) (cA M fs))(ar:Ar fs np)(hdb:(x == ("__debug__":Str))=false:=by decide)(he:je (e::es) X.env=(false,eval e X.env)::je es X.env:=by rfl)(hpl:(QB pos (je es X.env)).any (·.1)=false:=by rfl):QE X (.Call (.Name x p) (e::es) [] pos) (cE .n M (zai fn fs)):=⟨have ha:=ha.un;weak (zdk F hr hg hm hk hb .nil zjR ha hdb he hpl) (ztL ar)⟩
theorem zoj{fn:List T->Option (T × T)}{i:Nat}(hi:M.contains i=true)(F:FnOk X.prog X.w X.K X.mg X.base CX0 k f fd ps (spI .e (np+1) fn))(hr:Room k X.A)(hg:Gl X x)(hm:X.mg x=some (.ref f))(hk:jY X.K (.ref f)=true)(hb:Binds X.K fd ps [])(h0:QE X e (zeO i))(ha:QA X es (cA M fs))(ar:Ar fs np)(hdb:(x == ("__debug__":Str))=false:=by decide)(he:je (e::es) X.env=(false,eval e X.env)::je es X.env:=by rfl)(hpl:(QB pos (je es X.env)).any (·.1)=false:=by rfl):QE X (.Call (.Name x p) (e::es) [] pos) (cE .e M (zfa fn i fs)):=⟨have h0:=h0.un;have ha:=ha.un;weak (zdk F hr hg hm hk hb .nil zjR (zak h0 ha he) hdb he hpl) (zru ar hi)⟩
theorem zoh{fn:List T->Option (T × T)}{rk:Kd}(hrk:rk=.e∨rk=.n)(F:FnOk X.prog X.w X.K X.mg X.base CX0 k f fd ps (spI rk (np+1) fn))(hr:Room k X.A)(hg:Gl X x)(hm:X.mg x=some (.ref f))(hk:jY X.K (.ref f)=true)(hb:Binds X.K fd ps [])(h0:QE X e (cE .n M fe))(ha:QA X es (cA M fs))(ar:Ar fs np)(hdb:(x == ("__debug__":Str))=false:=by decide)(he:je (e::es) X.env=(false,eval e X.env)::je es X.env:=by rfl)(hpl:(QB pos (je es X.env)).any (·.1)=false:=by rfl):QE X (.Call (.Name x p) (e::es) [] pos) (cE rk M (zgQ fn fe fs)):=⟨have h0:=h0.un;have ha:=ha.un;weak (zdk F hr hg hm hk hb .nil zjR (zak h0 ha he) hdb he hpl) (zrt hrk ar)⟩
theorem zaR(hK:X.K=TheK.K)(hg:Gl X "len")(hm:X.mg "len"=none)(h:QE X e (cE .b M fe))(he:je [e] X.env=(false,eval e X.env)::je [] X.env:=by rfl)(hpl:(QB pos (je [] X.env)).any (·.1)=false:=by rfl):QE X (.Call (.Name "len" p) [e] [] pos) (cE .e M (d1 zcm fe)):=⟨have h:=h.un; weak (zdj (((show CallR X _ _ from hK▸zjo).or zjn).or znI) hg hm Ju (zak h zbI he) (by decide) (by decide) he hpl) (zt6 zv3)⟩
theorem zsE{cn:String}{ce:Q4}(hc:zu4 cn=true)(hg:Gl X "isinstance")(hm:X.mg "isinstance"=none)(h:QE X e (cE .b M fe))(h2:QE X ce (tC (.ty cn)))(he:je [e,ce] X.env=(false,eval e X.env)::je [ce] X.env:=by rfl)(he2:je [ce] X.env=(false,eval ce X.env)::je [] X.env:=by rfl)(hpl:(QB pos (je [ce] X.env)).any (·.1)=false:=by rfl):QE X (.Call (.Name "isinstance" p) [e,ce] [] pos) (cE .e M (zu9 cn fe)):=⟨have h:=h.un;have h2:=h2.un;weak (zdj zoX hg hm zcb (zak h (zak h2 zbI he2) he) (by decide) (by decide) he hpl) (zvE hc)⟩
theorem zd3{i:Nat}{o:Q4}{apos:Pos}(hi:M.contains i=true)(h:QE X (.Call (.Attribute o "append" apos) (e::es) [] pos) (tBM X.K "list" zhH (zeO i) (cA M fs))):QE X (.Call (.Attribute o "append" apos) (e::es) [] pos) (cE .e M (zhp zk1 i fs)):=⟨have h:=h.un;weak h (zqW hi zvz)⟩
theorem ziQ{i:Nat}{o:Q4}{apos:Pos}(hi:M.contains i=true)(h:QE X (.Call (.Attribute o "extend" apos) (e::es) [] pos) (tBM X.K "list" zjJ (zeO i) (cA M fs))):QE X (.Call (.Attribute o "extend" apos) (e::es) [] pos) (cE .e M (zhp zpq i fs)):=⟨have h:=h.un;weak h (zqW hi zvy)⟩
theorem zkO{i:Nat}{o:Q4}{apos:Pos}(hi:M.contains i=true)(h:QE X (.Call (.Attribute o "pop" apos) [] [] pos) (zu1 X.K "list" zvc (zeO i))):QE X (.Call (.Attribute o "pop" apos) [] [] pos) (cE .e M (zhp znS i dAn)):=⟨have h:=h.un;weak h (zt7 hi zvx)⟩
theorem zog{o:Q4}{apos:Pos}(h:QE X (.Call (.Attribute o "count" apos) [e] [] pos) (tBM X.K "list" zjK (cE .e M fa) (zeP (cE .b M fe) znR))):QE X (.Call (.Attribute o "count" apos) [e] [] pos) (cE .e M (d2L zhn fa fe)):=⟨have h:=h.un;weak h (zxh zqf)⟩
theorem zh1{Mi:List Nat}{caps:List (Option Nat)}{fi:DI}{g:TG}{dg:DG}{ft:DT}{tt:TT}(c:zrD caps M Mi=true)(hg:zpG g dg Mi caps)(htt:∀ σ H Q,cT Mi ft σ H Q->tt σ H Q)(h:QE X e (tLC caps (cI M fi) g tt (cE .e Mi fe))):QE X e (cE .n M (dLC M caps fi dg ft fe)):=⟨have h:=h.un;weak h (ztb (.of c) hg htt)⟩
theorem zlD{st:Qw}{Mi:List Nat}{caps:List (Option Nat)}{fi:DI}{g:TG}{g2:TG}{dg:DG}{ft:DT}{tt:TT}(c:zrD caps M Mi=true)(hg:zpG g dg Mi caps)(htt:∀ σ H Q,cT Mi ft σ H Q->tt σ H Q)(h:QS X st (zgY (tLC caps (cI M fi) g tt (cE .e Mi fe)) g2)):QS X st (zgY (cE .n M (dLC M caps fi dg ft fe)) g2):=⟨have h:=h.un;zrz h (ztb (.of c) hg htt)⟩
theorem zob{st:Qw}{g2:TG}{ff:DE}(h:QS X st (zgY (cE .n M ff) g2)):QS X st (zgY (cE .e M ff) g2):=⟨have h:=h.un;zrz h fun σ H Q h_=>cE_ h_ fun F O s t s' R hf q=>⟨F,O,s,t,s',R,hf,fun v H' S p=>q v H' S (p.ne R)⟩⟩
theorem zqt{tg:Q4}{t t':TG}(h:QG X tg t)(h':QG X tg t'):QG X tg (fun v σ H Q=>t v σ H Q∨t' v σ H Q):=⟨have h:=h.un;have h':=h'.un;fun pc s σ H v u Q I r q=>q.elim (h pc s σ H v u Q I r) (h' pc s σ H v u Q I r)⟩
end
section
variable [TheK]
variable {b:Q4}{fc fk:DE}
theorem zvi{Mi:List Nat}{caps:List (Option Nat)}{fi:DI}{g:TG}{dg:DG}{ft:DT}{tt:TT}(c:zrD caps M Mi=true)(hg:zpG g dg Mi caps)(htt:∀ σ H Q,cT Mi ft σ H Q->tt σ H Q)(h:QE X e (tDC caps (cI M fi) g tt (cE .e Mi fk) (cE .e Mi fe))):QE X e (cE .n M (dDC M caps fi dg ft fk fe)):=⟨have h:=h.un;weak h (ztF (.of c) hg htt)⟩
theorem zve{st:Qw}{Mi:List Nat}{caps:List (Option Nat)}{fi:DI}{g:TG}{g2:TG}{dg:DG}{ft:DT}{tt:TT}(c:zrD caps M Mi=true)(hg:zpG g dg Mi caps)(htt:∀ σ H Q,cT Mi ft σ H Q->tt σ H Q)(h:QS X st (zgY (tDC caps (cI M fi) g tt (cE .e Mi fk) (cE .e Mi fe)) g2)):QS X st (zgY (cE .n M (dDC M caps fi dg ft fk fe)) g2):=⟨have h:=h.un;zrz h (ztF (.of c) hg htt)⟩
theorem zf0(hK:X.K=TheK.K)(hc:X.calm=true)(hg:Gl X "list")(hm:X.mg "list"=none)(h:QE X e (cE .b M fe))(he:je [e] X.env=(false,eval e X.env)::je [] X.env:=by rfl)(hpl:(QB pos (je [] X.env)).any (·.1)=false:=by rfl):QE X (.Call (.Name "list" p) [e] [] pos) (cE .n M (d1 zd5 fe)):=⟨have h:=h.un; weak (zgt (CallR.or (show CallR X _ _ from hK▸zjm) (zh9 hc)) hg hm znM (zak h zbI he) (by decide) (by decide) he hpl) (zvt zqc)⟩
theorem zgr(h:QE X a (cE .b M fa)):QE X (.UnaryOp .USub a pos) (cE .e M (d1 zl5 fa)):=⟨have h:=h.un;weak (zvm zs5 h) (by
 intro σ H Q h_;refine cE_ h_ fun F O s t s' R hf q=>?_;obtain⟨⟨p1,p2⟩,h1,h2⟩:=Qb hf;obtain⟨t',h3,h4⟩:=Qm h2;injection h4 with h4 h5;subst h4 h5;obtain⟨i,rfl⟩:∃ i,p1=.int i:=by cases p1<;>first |exact⟨_,rfl⟩ |cases h3
 injection h3 with h3;subst h3
 exact⟨F,O,s,_,_,R,h1,fun v H1 S1 p1=>⟨i,p1.view.int,q _ H1 S1 ⟨p1.1,.int _⟩⟩⟩)⟩
theorem zjN(ha:QE X a (cE .e M fa))(hb:QE X b (cE .e M fb))(hc:QE X c (cE .e M fc))(hm:lastMarks [.LtE,.Lt] [b,c]=false:=by with_unfolding_all rfl):QT X (.Compare a [.LtE,.Lt] [b,c] pos) (cT M (dB (dCh gLe gLt fa fb fc))):=⟨have ha:=ha.un;have hb:=hb.un;have hc:=hc.un;zeK (zom zvq (op_lt.or ziT) ha hb hc hm) (tst (zrs zv5 zsn))⟩
end
section
variable [TheK]
variable {st:Q4}{fk:DO}
theorem zsC(hK:X.K=TheK.K)(he:QE X e (cE .e M fe))(hs:QO X (some st) (cO M fk)):QE X (.Subscript e (.Slice none none (some st) p2) pos) (cE .n M (zvX fe fk)):=⟨have he:=he.un;have hs:=hs.un;weak (zsR he hs) (by
 intro σ H Q h_;refine cE_ h_ fun F O s t s' R hf q=>?_;obtain⟨p,h1,h2⟩:=Qb hf;obtain⟨l,h3,h4⟩:=Qb h2;split at h4
 case isFalse=>cases h4
 rename_i hk;obtain⟨t',h7,h8⟩:=Qm h4;injection h8 with h8 h9;subst h8 h9;refine⟨F,O,s,p.1,p.2,R,h1,fun v H1 S1 p1=>⟨F,O,p.2,l.1,l.2,p1.1,h3,fun H2 S2 R2=>⟨hk,?_⟩⟩⟩;have r2:=p1.1.stay S2 p1.2;obtain⟨pt,ps⟩:=p;cases pt<;>simp[zu5] at h7
 rename_i xs;subst h7;obtain⟨a,vs,rfl,ha,ra⟩:=BRep.lst (.inl r2)
 refine⟨a,vs,rfl,hK▸SqL.of ha,fun b hb=>q _ _ ((S1.trans S2).trans (.new hb _)) (.mkN R R2 (S1.trans S2) hb fun C' hC=>.lst zad (ra.rev.there.mono hC fun c o _ e=>by rw[za6 (zaa e hb)]; exact e))⟩)⟩
theorem ziP{a:Q4}{fa:DA}{p p' pos':Pos}(hc:X.calm=true)(hg:Gl X "list")(hm:X.mg "list"=none)(hg':Gl X "range")(hm':X.mg "range"=none)(ha:QA X [a] (cA M fa))(hs:je [a] X.env=[(false,eval a X.env)]:=by rfl)(hs':je [.Call (.Name "range" p') [a] [] pos'] X.env=[(false,eval (.Call (.Name "range" p') [a] [] pos') X.env)]:=by rfl):QE X (.Call (.Name "list" p) [.Call (.Name "range" p') [a] [] pos'] [] pos) (cE .n M (dLR fa)):=⟨have ha:=ha.un;weak (ziR hc hg hm hg' hm' ha hs hs') (by
 intro σ H Q h_;refine cE_ h_ fun F O s t s' R hf q=>?_;obtain⟨⟨p1,p2⟩,h1,h2⟩:=Qb hf;refine⟨F,O,s,p1,p2,R,h1,fun vs H1 S1 R1 rs=>?_⟩;dsimp only at h2;split at h2
 case h_2=>cases h2
 ·rename_i j;have h2:(if zfP j=true then some (T.lst (zaN 0 j.toNat),p2) else none)=some (t,s'):=h2
  split at h2
  ·rename_i hj;have hj:=zlz hj;injection h2 with h2;injection h2 with h3 h4;subst h3 h4;obtain⟨v,rfl,rv⟩:=rs.one;obtain rfl:v=.int j:=BRep.int (.inl rv);refine⟨j,rfl,by lia,hj.2,fun b hb=>q _ _ (S1.trans (.new hb _)) (.mkN R R1 S1 hb fun C' hC=>.lst zad ?_)⟩
   have e:((jt j.toNat).map fun(k:Nat)=>V.int k)=((jt j.toNat).map fun(k:Nat)=>(k:Int)).map V.int:=by rw[Q1]; rfl
   have e':zaN 0 j.toNat=((jt j.toNat).map fun(k:Nat)=>(k:Int)).map T.int:=by
    unfold zaN;rw[Q1];refine QX fun k _=>?_;rw[Nv]; rfl
   rw[e,e'];exact zdN _
  ·cases h2)⟩
end
section
variable [TheK]
theorem zoc{X:Cx}{st:Qw}{d:DS}{rk:Kd}{io M M' Mx Mb:List Nat}{i:Nat}(h:QS X st (cS rk io M' Mx Mb d))(hi:M.contains i=true:=by rfl)(hM:M'.all (fun j=>M.contains j&&j != i)=true:=by rfl)(hM2:M.all (fun j=>M'.contains j||j == i)=true:=by rfl)(hio:io.all (M'.contains ·)=true:=by rfl):QS X st (cS rk io M Mx Mb (zrn i d)):=⟨have h:=h.un;zcv (zos h) (by
 intro D σ H h_;refine cS_ h_ fun F O s r R I hd q=>?_;have hi':i∈M:=by simpa using hi
 have m1:∀ j,j∈M'->j∈M/\j≠i:=fun j hj=>by have:=js.mp hM j hj; simpa using this
 have m2:∀ j,j∈M->j∈M'∨j=i:=fun j hj=>by have:=js.mp hM2 j hj; simpa using this
 have mi:i∉M':=fun z=>(m1 i z).2 rfl;have mio:∀ j,j∈io->j∈M':=fun j hj=>by have:=js.mp hio j hj; simpa using this
 unfold zrn at hd;split at hd
 ·rename_i ks e;have e:=zae e;obtain⟨a,ha,L⟩:=R.own i _ e hi';obtain⟨kvs,hr,rk'⟩:∃ kvs,H a=some (.dK kvs)/\RepK (Free F O) H kvs ks:=by
   cases L with |dct r h=>exact⟨_,r,h⟩
  have hsl:i < s.length:=(j9.mp e).1
  -- what stays owned
  have oth:∀(j:Nat) b,j∈M'->σ[j]?=some (some (.ref b))->b≠a:=fun j b hj e1 z=>by
   subst z;exact(m1 j hj).2 (R.dis j i b (m1 j hj).1 hi' e1 ha)
  have hD:¬ F.D a:=fun z=>by
   obtain⟨j,hj,e1⟩:=I.D a z;have e2:=(I.at_ j hj).2;rw[<-e1] at e2;exact oth j a (mio j hj) e2 rfl
  have hF0:F.H0 a=none:=(R.fresh a (R.ow i a hi' ha)).resolve_left hD;refine⟨a,kvs,hr,fun o=>?_⟩;have kD:∀ b u,b≠a->H b=some u->upd H a (.frz o (.dK kvs)) b=some u:=fun b u n e=>by rw[za6 n]; exact e
  have wk:∀ b,Free F O b->Free F (fun b=>O b/\b≠a) b:=fun b z=>z.weak fun c y=>y.1;have fra:Free F (fun b=>O b/\b≠a) a:=⟨fun z=>z.2 rfl,.inr hF0⟩;have na:∀ b,Free F O b->b≠a:=fun b z y=>z.1 (y▸R.ow i a hi' ha);have R':Rel F (fun b=>O b/\b≠a) M' (s.set i (some (.fd ks))) σ (upd H a (.frz o (.dK kvs))):=by
   refine⟨by rw[Q0]; exact R.len,fun j t e' n=>?_,fun j t e' n=>?_,fun j b hj e1=>⟨R.ow j b (m1 j hj).1 e1,oth j b hj e1⟩,fun j k b hj hk e1 e2=>R.dis j k b (m1 j hj).1 (m1 k hk).1 e1 e2,fun b u n e1=>?_,fun b e1=>?_,fun b z=>R.fresh b z.1,fun b z=>⟨R.inD b z,fun y=>hD (y▸z)⟩,fun b z e1=>?_⟩
   ·by_cases hji:j=i
    ·subst hji;rw[jG hsl] at e';cases e';exact⟨_,ha,.fd fra zad rk'.1 fun k v t e1 e2=>(rk'.2 k v t e1 e2).mono wk fun b u z e=>kD b u (na b z) e⟩
    ·rw[jd (fun z=>hji z.symm)] at e';obtain⟨v,a1,a2⟩:=R.val j t e' (fun z=>(m2 j z).elim n hji);exact⟨v,a1,a2.mono wk fun b u z e=>kD b u (na b z) e⟩
   ·have hji:i≠j:=fun z=>mi (z▸n);rw[jd hji] at e';obtain⟨c,a1,a2⟩:=R.own j t e' (m1 j n).1;exact⟨c,a1,a2.mono wk (fun b u z e=>kD b u (na b z) e) fun u e=>kD c u (oth j c n a1) e⟩
   ·exact kD b u (fun z=>by rw[z,hF0] at e1; cases e1) (R.keep b u n e1)
   ·refine R.dom b ?_;unfold upd at e1;split at e1
    ·cases e1
    ·exact e1
   ·refine R.al b z.1 ?_;rw[za6 z.2] at e1;exact e1
  refine⟨F,_,_,r,R',⟨fun j hj=>⟨mio j hj,(I.at_ j hj).2⟩,I.D⟩,hd,q.more ⟨fun b u n e1=>⟨kD b u (fun z=>n (z▸R.ow i a hi' ha)) e1,fun z=>n z.1⟩,fun b e1=>?_⟩⟩;unfold upd at e1;split at e1
  ·cases e1
  ·exact e1
 ·cases hd)⟩
theorem ze5{X:Cx}{st:Qw}{rk:Kd}{io M M' Mb:List Nat}:QS X st (cS rk io M M' Mb zfK):=⟨fun pc s σ H D I ⟨F,O,s',r,R,Io,hd,q⟩=>by cases hd⟩
end
section
variable [TheK]
variable {b:Q4}
theorem zqu(hg:Gl X "set")(hm:X.mg "set"=none):QE X (.Call (.Name "set" p) [] [] pos) (cE .n M zrk):=⟨weak (zlE znF hg hm znL) (by
 intro σ H Q h_;refine cE_ h_ fun F O s t s' R hf q=>?_;injection hf with hf;injection hf with h1 h2;subst h1 h2
 exact⟨rfl,fun l hl=>q _ _ (.new hl _) (.mkN R R .refl hl fun C _=>.set zad)⟩)⟩
theorem zqv{i:Nat}{o:Q4}{apos:Pos}(hi:M.contains i=true)(h:QE X (.Call (.Attribute o "add" apos) [e] [] pos) (tBM X.K "set" zsv (zeO i) (zeP (cE .e M fe) znR))):QE X (.Call (.Attribute o "add" apos) [e] [] pos) (cE .e M (zrl i fe)):=⟨have h:=h.un;weak h (by
 intro σ H Q h_;refine cE_ h_ fun F O s t s' R hf q=>?_;have hi':i∈M:=by simpa using hi
 obtain⟨t0,h0,hf⟩:=Qb hf;obtain⟨S0,n0,rfl⟩:∃ S0 n0,t0=.set S0 n0:=by cases t0<;>first |exact⟨_,_,rfl⟩ |cases hf
 obtain⟨⟨p1,p2⟩,h1,hf⟩:=Qb hf;obtain⟨t1,h2,hf⟩:=Qb hf;obtain⟨k,rfl⟩:∃ k,p1=.int k:=by cases p1<;>first |exact⟨_,rfl⟩ |cases hf
 obtain⟨S,n,rfl⟩:∃ S n,t1=.set S n:=by cases t1<;>first |exact⟨_,_,rfl⟩ |cases hf
 replace hf:(if n < 1000 then some (T.non,p2.set i (some (.set (fun j=>S j||decide (j=k)) (if S k then n else n+1)))) else none)=some (t,s'):=hf
 by_cases hn:n < 1000
 ·rw[Ip_ hn] at hf;injection hf with hf;injection hf with h3 h4;subst h3 h4;obtain⟨a,e1,L0⟩:=R.own i _ (zae h0) hi';have r0:H a=some (.set S0 n0):=by cases L0 with |set r=>exact r
  refine⟨_,e1,.inr (.inr (.inr ⟨rfl,_,_,r0⟩)),F,O,s,_,p2,R,h1,fun v H1 S1 p1=>?_⟩;obtain rfl:v=.int k:=BRep.int (.inl p1.2);obtain⟨b,e2,L⟩:=p1.1.own i _ (zae h2) hi';rw[e1] at e2;injection e2 with e2;injection e2 with e2;injection e2 with e2;subst e2;have r1:H1 a=some (.set S n):=by cases L with |set r=>exact r
  refine⟨a,S,n,k,rfl,rfl,r1,hn,q _ _ (S1.trans (.write hi' e1 L.ne)) ⟨?_,.non⟩⟩;exact p1.1.write hi' e1 (zae h2) fun Hx kx ex=>.set ex
 ·rw[In_ hn] at hf; cases hf)⟩
theorem zql(ha:QE X a (cE .e M fa))(hb:QE X b (cE .b M fb))(hm:Qy .NotIn b=false):QT X (.Compare a [.NotIn] [b] pos) (cT M (dB (d2 zlR fa fb))):=⟨have ha:=ha.un;have hb:=hb.un;zeK (zdg zqQ ha hb hm) (tst (zch zsj))⟩
end
section
variable [TheK]
variable {e1 e2:Q4}{f0:DE}{fs:DA}{f:ji}{fd:QN}
theorem zmN{fn:List T->Option T}{i:Nat}(hi:M.contains i=true)(F:FnOk X.prog X.w X.K X.mg X.base CX0 k f fd ps (spP .e (np+2) fn))(hr:Room k X.A)(hg:Gl X x)(hm:X.mg x=some (.ref f))(hk:jY X.K (.ref f)=true)(hb:Binds X.K fd ps [])(h0:QE X e1 (cE .e M f0))(h1:QE X e2 (zeO i))(ha:QA X es (cA M fs))(ar:Ar fs np)(hdb:(x == ("__debug__":Str))=false:=by decide)(he:je (e1::e2::es) X.env=(false,eval e1 X.env)::je (e2::es) X.env:=by rfl)(he2:je (e2::es) X.env=(false,eval e2 X.env)::je es X.env:=by rfl)(hpl:(QB pos (je (e2::es) X.env)).any (·.1)=false:=by rfl):QE X (.Call (.Name x p) (e1::e2::es) [] pos) (cE .e M (zgR fn i f0 fs)):=⟨have h0:=h0.un;have h1:=h1.un;have ha:=ha.un;weak (zdk F hr hg hm hk hb .nil zjR (zak h0 (zak h1 ha he2) he) hdb he hpl) (zoY ar hi)⟩
end
section
variable [TheK]
variable {e1 e2:Q4}{f1 f2:DE}{p3 pos2 pos3 pos4:Pos}
theorem zmM(hK:X.K=TheK.K)(hc:X.calm=true)(hg:Gl X "len")(hm:X.mg "len"=none)(hg2:Gl X "set")(hm2:X.mg "set"=none)(h1:QE X e1 (cE .b M f1))(h2:QE X e2 (cE .b M f2))(he1:je [e1] X.env=(false,eval e1 X.env)::je [] X.env:=by rfl)(hpl1:(QB pos2 (je [] X.env)).any (·.1)=false:=by rfl)(he2:je [e2] X.env=(false,eval e2 X.env)::je [] X.env:=by rfl)(hpl2:(QB pos3 (je [] X.env)).any (·.1)=false:=by rfl)(he:je [.BinOp (.Call (.Name "set" p2) [e1] [] pos2) .BitAnd (.Call (.Name "set" p3) [e2] [] pos3) pos4] X.env=(false,eval (.BinOp (.Call (.Name "set" p2) [e1] [] pos2) .BitAnd (.Call (.Name "set" p3) [e2] [] pos3) pos4) X.env)::je [] X.env:=by rfl)(hpl:(QB pos (je [] X.env)).any (·.1)=false:=by rfl):QE X (.Call (.Name "len" p) [.BinOp (.Call (.Name "set" p2) [e1] [] pos2) .BitAnd (.Call (.Name "set" p3) [e2] [] pos3) pos4] [] pos) (cE .e M (d2 zi4 f1 f2)):=⟨have h1:=h1.un;have h2:=h2.un; weak (zdj znH hg hm Ju (zak (zh3 zqT (zgt (zjl hc) hg2 hm2 znL (zak h1 zbI he1) (by decide) (by decide) he1 hpl1) (zgt (zjl hc) hg2 hm2 znL (zak h2 zbI he2) (by decide) (by decide) he2 hpl2)) zbI he) (by decide) (by decide) he hpl) (by
 intro σ H Q h_;refine cE_ h_ fun F O s t s' R hf q=>?_;obtain⟨x,s1,y,d1,d2,d3⟩:=zie hf;obtain⟨xs,rfl⟩:∃ xs,x=.lst xs:=by cases x<;>first |exact⟨_,rfl⟩ |cases d3
 obtain⟨ys,rfl⟩:∃ ys,y=.lst ys:=by cases y<;>first |exact⟨_,rfl⟩ |cases d3
 obtain⟨as,h5,d4⟩:=Qb (show ((zhv xs).bind fun a=>(zhv ys).bind fun b=>if a.length < 900 then if b.length < 900 then some (T.int (znN a b)) else none else none)=some t from d3)
 obtain⟨bs,h6,d5⟩:=Qb d4;split at d5
 ·rename_i hl1;split at d5
  ·rename_i hl2;injection d5 with d5;subst d5;refine⟨F,O,s,_,_,R,d1,fun v H1 S1 p1=>?_⟩;obtain⟨a,us,rfl,ha,ra⟩:=p1.view.lst;rw[zhu ra h5] at ha;refine⟨a,as,rfl,SqL.of ha,by lia,fun l hn=>?_⟩
   have R1:=p1.1.plus hn (zkE X l (Dw.zab as));refine⟨F,O,s1,_,_,R1,d2,fun v2 H2 S2 p2=>?_⟩;obtain⟨b,us2,rfl,hb,rb⟩:=p2.view.lst;rw[zhu rb h6] at hb;have no:¬ O l:=fun z=>p1.1.al l z hn;have hl:H2 l=some (zkE X l (Dw.zab as)):=S2.keep l _ (R1.notOwned no) zad;refine⟨b,bs,rfl,SqL.of hb,by lia,fun m hm=>?_⟩
   have hlm:l≠m:=fun e=>by subst e; rw[hl] at hm; cases hm
   have fl:∀ ss:List Str,(Dw.zab ss).length<=ss.length:=fun ss=>by
    have:=zhw ss [];rw[ZJ,Z1] at this;exact this
   have f1:=fl as;have f2:=fl bs;refine⟨l,m,_,_,rfl,rfl,hlm,by rw[za6 hlm]; exact hl,zad,zf6 _,zf6 _,by lia,fun c hc'=>?_⟩
   have S12:=(S1.trans (.new hn _)).trans S2;refine⟨c,_,rfl,zad,q _ _ ((S12.trans (.new hm _)).trans (.new hc' _)) ⟨(p2.1.plus hm _).plus hc' _,.int _⟩⟩
  ·cases d5
 ·cases d5)⟩
end
section
variable [TheK]
variable {x:Nat}{a b:List Qw}{d':DS}
theorem zkM :QSs X [] (cD rk io M x zay):=⟨zfA zhQ (by
 rintro D σ H ⟨F,O,W,s,v,t,r,R,I,hd,q⟩;injection hd with hd;subst hd
 exact q O W σ H v t .refl R I)⟩
theorem zkL(h:QS X st (cD rk io M x d)):QSs X [st] (cD rk io M x d):=⟨have h:=h.un;zc1 h⟩
theorem zmA(h:QS X st (cD rk io M x d))(h2:QSs X sts (cD rk io M x d')):QSs X (st::sts) (cD rk io M x (zaj d d')):=⟨have h:=h.un;have h2:=h2.un;zfA (zdh h h2) (by
 rintro D σ H ⟨F,O,W,s,v,t,r,R,I,hd,q⟩;obtain⟨r1,h1,h2⟩:=Qb hd;refine⟨F,O,W,s,v,t,r1,R,I,h1,?_⟩;cases r1 with
 |nx s1=>exact fun O1 W1 σ1 H1 v1 t1 k1 R1 I1=>⟨F,O1,W1,s1,v1,t1,r,R1,I1,h2,q.more k1⟩
 |bk s1=>injection h2 with h2; subst h2; exact q
 |ct s1=>injection h2 with h2; subst h2; exact q
 | rt t s1=>injection h2 with h2; subst h2; exact q)⟩
theorem zpc(hc:QT X c (cT M ft))(ha:QSs X a (cD rk io M x d))(hb:QSs X b (cD rk io M x d')):QS X (.If c a b pos) (cD rk io M x (zrm M ft d d')):=⟨have hc:=hc.un;have ha:=ha.un;have hb:=hb.un;zcv (zmU hc ha hb) (by
 rintro D σ H ⟨F,O,W,s,v,t,r,R,I,hd,q⟩;obtain⟨p,h1,h2⟩:=Qb hd;split at h2
 case isFalse=>cases h2
 rename_i hp;obtain⟨hp1,hp2⟩:=hp;refine⟨F,_,s,p.1,p.2,R.rel,h1,fun H1 S1 R1=>?_⟩;rw[hp1] at R1;have R2:=R.back S1 R1 hp2;have k:=S1.keepO R.R
 try dsimp only
 split at h2
 ·rename_i hp;rw[Ip_ hp];exact⟨F,O,W,s,v,t,r,R2,I,h2,q.more k⟩
 ·rename_i hp;rw[In_ hp]
  exact⟨F,O,W,s,v,t,r,R2,I,h2,q.more k⟩)⟩
theorem zqn(h:QSs X sts (cS rk io M M' Mb d)):QSs X sts (cD rk io M x (zu8 d)):=⟨have h:=h.un;zfA h (by
 rintro D σ H ⟨F,O,W,s,v,t,r,R,I,hd,q⟩;unfold zu8 at hd;split at hd
 ·rename_i t' s' he;injection hd with hd;subst hd;exact⟨F,_,s,_,R.rel,I,he,q⟩
 ·cases hd)⟩
end
section
variable [TheK]
variable {x:Nat}{fn:List T->Option T}{fa:DA}
theorem zmz(hxM:M.contains x=false)(hio:io.all (M.contains ·)=true)(ar:Ar fa np)(h:QS X st (zgY (zgd (spD np fn) [] E0 (cA M fa)) (zcw x)))(h2:QSs X sts (cD rk io M x d)):QSs X (st::sts) (cS rk io M M Mb (zjh fn fa x d)):=⟨have h:=h.un;have h2:=h2.un;zfA (zdh h h2) (by
 rintro D σ H ⟨F,O,s,r,R,I,hd,qe⟩;have hx':x∉M:=by simpa using hxM
 obtain⟨p,h1,hd⟩:=Qb hd;obtain⟨t,h3,hd⟩:=Qb hd;split at hd
 case isFalse=>cases hd
 rename_i hxl;obtain⟨r0,hd0,hr0⟩:=Qb hd;refine⟨F,O,s,p.1,p.2,R,h1,fun vs H1 S1 R1 rs=>?_⟩;show spD np fn (vs++[]) H1 _ E0;rw[Q8];refine⟨Free F O,p.1,t,ar _ _ _ h1,rs,h3,fun v H2 k dm rep=>?_⟩;show cD rk io M x d D (σ.set x (some v)) H2;have W0:=rep.there;generalize hWd:(fun b=>H1 b=none/\H2 b≠none)=W at W0;have wH:∀ b,W b->H1 b=none:=fun b z=>by
  rw[<-hWd] at z;exact z.1
 have wL:∀ b,W b->H2 b≠none:=fun b z=>by
  rw[<-hWd] at z;exact z.2
 have nO:∀ b,W b->¬ O b:=fun b z y=>R1.al b y (wH b z);have fr:∀ b,Free F O b/\H1 b≠none->Free F (fun b=>O b∨W b) b:=fun b c=>⟨fun z=>z.elim c.1.1 fun z=>c.2 (wH b z),c.1.2⟩;have R2:Rel F (fun b=>O b∨W b) M (p.2.set x none) (σ.set x (some v)) H2:=by
  refine⟨by rw[Q0,Q0]; exact R1.len,fun j t e' n=>?_,fun j t e' n=>?_,fun j b hj e=>?_,fun j k' b hj hk e2 e3=>?_,fun b o n e=>k b o (R1.keep b o n e),fun b e=>R1.dom b (dm b e),fun b z=>?_,fun b z=>.inl (R1.inD b z),fun b z=>?_⟩
  ·have hij:x≠j:=fun z=>by
    subst z;rw[jG hxl] at e';cases e'
   rw[jd hij] at e';rw[jd hij];obtain⟨u,g1,g2⟩:=R1.val j t e' n;exact⟨u,g1,g2.there.mono fr fun b o _ e=>k b o e⟩
  ·have hij:x≠j:=fun z=>hx' (z▸n);rw[jd hij] at e';rw[jd hij];obtain⟨b,g1,g2⟩:=R1.own j t e' n;exact⟨b,g1,g2.there.mono fr (fun b o _ e=>k b o e) fun o e=>k b o e⟩
  ·rw[jd (fun z:x=j=>hx' (by rw[z]; exact hj))] at e
   exact .inl (R1.ow j b hj e)
  ·rw[jd (fun z:x=j=>hx' (by rw[z]; exact hj))] at e2
   rw[jd (fun z:x=k'=>hx' (by rw[z]; exact hk))] at e3
   exact R1.dis j k' b hj hk e2 e3
  ·rcases z with z |z
   ·exact R1.fresh b z
   ·exact .inr (R1.dom b (wH b z))
  ·rcases z with z |z
   ·exact fun e=>R1.al b z (dm b e)
   ·exact wL b z
 have KO:KeepO O H (fun b=>O b∨W b) H2:=(S1.keepO R).trans ⟨fun b o n e=>⟨k b o e,fun z=>z.elim n fun z=>by rw[wH b z] at e; cases e⟩,dm⟩
 have I2:Ios F io M (σ.set x (some v)):=I.set (fun z=>hx' (zcW hio x z)) (zcW hio);refine⟨F,fun b=>O b∨W b,W,p.2.set x (some t),v,t,r0,⟨by rw[WW]; exact R2,jG hxl,jG (by rw[<-R1.len]; exact hxl),hx',W0,fun b z=>.inr z,fun j b hj e z=>?_,fun b z y=>nO b z (R1.inD b y)⟩,I2,hd0,?_⟩
 ·rw[jd (fun z:x=j=>hx' (by rw[z]; exact hj))] at e
  exact nO b z (R1.ow j b hj e)
 ·cases r0 with
  |nx s'=>
   injection hr0 with hr0;subst hr0;exact fun O' W' σ' H' v' t' k DR I'=>qe O' σ' H' (KO.trans k) DR.R I'
  |rt t s'=>
   injection hr0 with hr0;subst hr0;exact qe
  |bk s'=>cases hr0
  | ct s'=>cases hr0)⟩
theorem zof{e:Q4}{es:List Q4}{p pos:Pos}{k:Nat}{f:ji}{fd:QN}{ps:List Str}{y:Str}(F:FnOk X.prog X.w X.K X.mg X.base CX0 k f fd ps (spD np fn))(hr:Room k X.A)(hg:Gl X y)(hm:X.mg y=some (.ref f))(hk:jY X.K (.ref f)=true)(hb:Binds X.K fd ps [])(ha:QA X (e::es) (cA M fa))(hdb:(y == ("__debug__":Str))=false:=by decide)(he:je (e::es) X.env=(false,eval e X.env)::je es X.env:=by rfl)(hpl:(QB pos (je es X.env)).any (·.1)=false:=by rfl):QE X (.Call (.Name y p) (e::es) [] pos) (zgd (spD np fn) [] E0 (cA M fa)):=⟨have ha:=ha.un;zdk F hr hg hm hk hb .nil zjR ha hdb he hpl⟩
end
section
variable [TheK]
variable {x a y:Nat}{xe ae:Q4}{rb:List Qw}{dr:DS}{p1:Pos}{z:Str}
theorem zqq{fe:DE}{st:Qw}(h:QS X st (zq5 (tBM X.K "list" zhH (zeO x) (zeP (cE .e M fe) znR)))):QS X st (cD rk io M x (zro M x fe)):=⟨have h:=h.un;zcv h (by
 rintro D σ H ⟨F,O,W,s,v,t,r,R,I,hd,q⟩;obtain⟨p,h1,h2⟩:=Qb hd;split at h2
 case isFalse=>cases h2
 rename_i hp;obtain⟨p1,p2,ts,p3,p4⟩:=hp;injection h2 with h2;subst h2;rw[R.sx] at p3;obtain rfl:=jc (jc p3);have rp:=R.rep;have hxl:x < s.length:=(j9.mp R.sx).1;cases rp with
 |@lst rr vs _ wr hrr l hh=>
  refine⟨_,R.vx,.inl ⟨rfl,vs,SqL.of hrr⟩,F,_,s,p.1,p.2,R.rel,h1,fun u H1 S1 po=>?_⟩;have po1:=po.1;rw[p1] at po1;have R2:=R.back S1 po1 p2;have hr1:H1 rr=some (.lst vs):=S1.keep rr _ (fun i hi z=>R.wM i rr hi z wr) hrr;have orr:=R.wO rr wr;have h0:F.H0 rr=none:=(R.R.fresh rr orr).resolve_left (R.wD rr wr);have kb:∀ b w,b≠rr->H1 b=some w->upd H1 rr (.lst (vs++[u])) b=some w:=fun b w nn e=>by rw[za6 nn]; exact e
  refine⟨rr,vs,u,rfl,rfl,hr1,jQ (show vs.length < 100000 by lia) (by decide),?_⟩
  have R5:=R2.R.but orr (fun j hj e=>R.wM j rr hj e wr) h0 kb fun b e=>zp4 e;refine q O W σ _ (.ref rr) T.any ((S1.keepO R.R).trans ⟨fun b o n e=>⟨kb b o (fun z=>n (z▸orr)) e,n⟩,fun b e=>zp4 e⟩) ⟨by rw[WW]; exact R5,?_,R.vx,R.xM,.any,R.wO,R.wM,R.wD⟩ I
  rw[jG hxl])⟩
end
section
variable [TheK]
variable {x:Nat}{b:Q4}{f1 f2 f3:DE}{fa:DA}{p':Pos}
theorem zqp(he:QE X e (cED M fe)):QS X (.Return (some e) pos) (cS .b [] M M' Mb (zan [] fe)):=⟨have he:=he.un;zcv (zdQ he) (by
 intro D σ H h_;refine cS_ h_ fun F O s r R I hd q=>?_;obtain⟨p,h1,h2⟩:=Qb hd;split at h2
 case isFalse=>cases h2
 injection h2 with h2;subst h2
 exact⟨F,O,s,p.1,p.2,R,h1,fun v H1 S1 R1 rp=>q v H1 ⟨R1.keep,R1.dom,rp.mono (fun b z=>R.dom b z) fun _ _ _ e=>e⟩⟩)⟩
end
section
variable [TheK]
variable {fa:DA}
theorem zsA{elts:List Q4}{x1:Nat}{tp:Pos}{a b:Q4}{p pos:Pos}(hK:X.K=TheK.K)(hg:Gl X "zip")(hm:X.mg "zip"=none)(ha:QA X [a,b] (cA M fa))(hs:je [a,b] X.env=(false,eval a X.env)::je [b] X.env:=by rfl)(hs2:(QB pos (je [b] X.env)).any (·.1)=false:=by rfl):QI X (.Tuple elts x1 tp) (.Call (.Name "zip" p) [a,b] [] pos) (cI M (zu6 fa)):=⟨have ha:=ha.un;zht (zqH hg hm ha hs hs2) (by
 intro σ H R h_;refine cI_ h_ fun F O s its s' Rl hf q=>?_;obtain⟨⟨p1,p2⟩,h1,h2⟩:=Qb hf;refine⟨F,O,s,p1,p2,Rl,h1,fun vs H1 S1 R1 rs=>?_⟩;dsimp only at h2;split at h2
 case h_2=>cases h2
 ·rename_i xs ys;injection h2 with h2;injection h2 with h3 h4;subst h3 h4;obtain⟨u,h6,h7⟩:=rs.get (i:=0) rfl;obtain⟨v,h8,h9⟩:=rs.get (i:=1) rfl;have hvl:=rs.1;cases h7 with
  |@lst a1 us _ c r l h=>
   cases h9 with
   |@lst a2 ws _ c2 r2 l2 hw=>
    refine⟨a1,a2,us,ws,?_,hK▸SqL.of r,hK▸SqL.of r2,q _ H1 S1 R1 ?_⟩
    ·match vs,hvl with
     |[x,y],_=>
      simp at h6 h8;rw[h6,h8]
    intro H2 k i;have k1:=k a1 _ c r;have k2:=k a2 _ c2 r2;have hlen:(zpJ xs ys).length=min us.length ws.length:=by unfold zpJ; rw[j5,List.length_zip,<-l,<-l2]
    refine⟨fun t ht=>?_,fun hl=>⟨us,ws,SqL.of k1,SqL.of k2,by rw[hlen] at hl; lia⟩⟩
    have hi:=(j9.mp ht).1;rw[hlen] at hi;have hiu:i < us.length:=by lia
    have hik:i < ws.length:=by lia
    have hix:i < xs.length:=by lia
    have hiy:i < ys.length:=by lia
    have et:t=.tup [xs[i],ys[i]]:=by
     unfold zpJ at ht;rw[jf] at ht;obtain⟨pr,hpr,rfl⟩:=Qm ht;rw[List.getElem?_zip_eq_some,j3 hix,j3 hiy] at hpr;obtain⟨g1,g2⟩:=hpr;rw[<-jc g1,<-jc g2]
    subst et;refine⟨⟨us,us[i],ws,ws[i],SqL.of k1,j3 hiu,SqL.of k2,j3 hik⟩,fun x H3 ⟨p',x',y',e1,e2,e3,e4,e5⟩=>⟨.inr ⟨p',_,e2,e3⟩,?_⟩⟩;have f1:=e4 us (SqL.of k1);rw[j3 hiu] at f1;obtain rfl:us[i]=x':=jc f1;have f2:=e5 ws (SqL.of k2);rw[j3 hik] at f2;obtain rfl:ws[i]=y':=jc f2;subst e1 e3
    exact zox k e2 (h i _ _ (j3 hiu) (j3 hix)) (hw i _ _ (j3 hik) (j3 hiy)))⟩
end
section
variable [TheK]
theorem zmL(hK:X.K=TheK.K)(hc:X.calm=true)(hg:Gl X "max")(hm:X.mg "max"=none)(h:QE X e (cE .b M fe))(he:je [e] X.env=(false,eval e X.env)::je [] X.env:=by rfl)(hpl:(QB pos (je [] X.env)).any (·.1)=false:=by rfl):QE X (.Call (.Name "max" p) [e] [] pos) (cE .e M (d1 znq fe)):=⟨have h:=h.un; weak (zdj (show CallR X _ _ from hK▸znG hc) hg hm zrv (zak h zbI he) (by decide) (by decide) he hpl) (zt6 zv2)⟩
end
section
variable [TheK]
variable {b:Q4}
theorem zqw(ha:QE X a (cE .e M fa))(hb:QE X b (cE .b M fb)):QE X (.BinOp a .Mult b pos) (cE .e M (d2 zr9 fa fb)):=⟨have ha:=ha.un;have hb:=hb.un;weak (zh3 zqR ha hb) (zch (s_I fun i j h=>by
 unfold ztO at h;rw[jD] at h;have h1:=ZL h.1;have h2:=ZL h.2;have e:(10000000000000000000000000000000000000000:Nat) < 2 ^ 200:=by decide
 exact⟨Yh h1 e,Yh h2 e⟩))⟩
end
section
variable [TheK]
theorem zqx(h:QE X e (cE .n M fe)):QE X e (cED M (ztJ fe)):=⟨have h:=h.un;weak h (by
 intro σ H Q hz; obtain⟨F,O,s,t,s',R,hf,q⟩:=hz;obtain⟨⟨p1,p2⟩,h1,h2⟩:=Qb hf;dsimp only at h2;split at h2
 case h_2=>cases h2
 rename_i ts;split at h2
 case isFalse=>cases h2
 rename_i hfl;obtain⟨rfl,rfl⟩:=Prod.mk.inj (jc h2);refine⟨F,O,s,.lst ts,p2,R,h1,fun v H1 S1 po=>?_⟩;have R1:=(po.ne R).1;obtain⟨a,rfl,ha0,_,L1⟩:=po;obtain⟨vs,hv,rv⟩:=L1.lst'
 exact q _ _ S1 R1 (.lst ha0 hv rv.1 (zj7 rv hfl).2))⟩
end
theorem QW.pt{X:Cx}{e:Q4}{t:TT}(h:QW X e t):QT X e t:=⟨h.un.pt⟩
def QBody(tk:TheK)(P:jE)(w:Qa)(mg:Str->Option j6)(base:Qs)(k:Nat)(x:Str)(st:Qw)(N:List Str)(t:TS):Prop:=
 ∀(f:ji) (cdv:j6) (A:Q3) (outer:List Env) (s:ja) (H:Hp) (E:XK),Room k (A.deeper (QJ x (za0 st) s.heap.objs.size f cdv))->QSs (zff CX0 P w tk.K mg base N x (za0 st) f cdv A outer s H E).nox (zau st) t
theorem QBody.b{tk:TheK}{P:jE}{w:Qa}{mg:Str->Option j6}{base:Qs}{k:Nat}{x:Str}{st:Qw}{N:List Str}{t:TS}(h:QBody tk P w mg base k x st N t):zrF tk P w mg base k x st N t:=fun f cdv A outer s H E hr=>(h f cdv A outer s H E hr).un
section
variable [tk:TheK]
theorem Here.qP(h:Here tk.K mg x st ps)(S:FnScope N ps (za0 st))(hb:QBody tk P w mg base k x st N (cS .e [] [] M' Mb d))(hN:ps.length<=N.length:=by decide):Cal P w tk.K mg base (k+1) x ps (spP .e ps.length (fnP N.length d)):=h.okP S hb.b hN
theorem Here.qD(h:Here tk.K mg x st ps)(S:FnScope N ps (za0 st))(hb:QBody tk P w mg base k x st N (cS .b [] [] M' Mb d))(hN:ps.length<=N.length:=by decide):Cal P w tk.K mg base (k+1) x ps (spD ps.length (zin N.length d)):=h.okD S hb.b hN
theorem Here.qN(h:Here tk.K mg x st ps)(S:FnScope N ps (za0 st))(hb:QBody tk P w mg base k x st N (cS .n [] [] M' Mb d))(hN:ps.length<=N.length:=by decide):Cal P w tk.K mg base (k+1) x ps (spP .n ps.length (zin N.length d)):=h.okN S hb.b hN
theorem Here.qI(h:Here tk.K mg x st ps)(S:FnScope N ps (za0 st))(hb:QBody tk P w mg base k x st N (cS .e [0] [0] M' Mb d))(hN:ps.length<=N.length:=by decide):Cal P w tk.K mg base (k+1) x ps (spI .e ps.length (fnI N.length d)):=h.okI S hb.b hN
theorem zvD{ps0:Str}{fw:ji}{dw:QN}(F:Fun tk.K x x st fw dw)(S:FnScope N [ps0] (za0 st))(hb:QBody tk P w mg base k x st N (cS .e [] [] M' Mb d))(hN:1<=N.length)(hd:∀ ns:List Int,ns.length<=63->fnP N.length d [.scr ns]=some (.bl true)):FnOk P w tk.K mg base CX0 (k+1) fw dw [ps0] (zlx tk.K):=ztc F S hb.b hN hd
end
def CalR(P:jE)(w:Qa)(K:j8)(mg:Str->Option j6)(base:Qs)(n:Nat)(x:Str)(ps:List Str)(sp:Sp):Prop:=
 ∃ f fd,FnOk P w K mg base (CX1 P w) n f fd ps sp/\Binds K fd ps []/\jY K (.ref f)=true/\mg x=some (.ref f)
def CalH(P:jE)(w:Qa)(K:j8)(mg:Str->Option j6)(base:Qs)(n:Nat)(x:Str)(ps:List Str)(sp:Sp):Prop:=
 ∃ f fd,FnOkH P w K mg base n f fd ps sp/\Binds K fd ps []/\jY K (.ref f)=true/\mg x=some (.ref f)
section
variable {K:j8}{sp:Sp}
theorem CalR.mono{j:Nat}(h:CalR P w K mg base j x ps sp)(hjk:j<=k):CalR P w K mg base k x ps sp:=by
 obtain⟨f,fd,F,b,kp,m⟩:=h;exact⟨f,fd,F.mono hjk,b,kp,m⟩
theorem CalH.mono{j:Nat}(h:CalH P w K mg base j x ps sp)(hjk:j<=k):CalH P w K mg base k x ps sp:=by
 obtain⟨f,fd,F,b,kp,m⟩:=h;exact⟨f,fd,⟨F.len,fun A outer s H args us vs Q E hr=>F.run A outer s H args us vs Q E (hr.mono hjk)⟩,b,kp,m⟩
theorem Here.okX{CX:CXT}(h:Here K mg x st ps)(S:FnScope N ps (za0 st))(len:∀ vs H Q E,sp vs H Q E->vs.length=ps.length)
  (hbody:∀(f:ji) (cdv:j6) (A:Q3) (outer:List Env) (s:ja) (H:Hp) (vs:List V) (Q:VK) (E:XK),Room k (A.deeper (QJ x (za0 st) s.heap.objs.size f cdv))->A.frames=some outer->sp vs H Q E->
   ∃ t,znP (zff CX P w K mg base N x (za0 st) f cdv A outer s H E) (zau st) t/\t { nx:=fun _ H'=>Q .non H',rt:=Q } (L2.start N vs) H) :
  ∃ f fd,FnOk P w K mg base CX (k+1) f fd ps sp/\Binds K fd ps []/\jY K (.ref f)=true/\mg x=some (.ref f):=by
 obtain⟨f,fd,F,b,kp,m⟩:=h;obtain⟨oc,od,kV,doc,pm,an,cdv,ct,osl,rfl,lk,hcd⟩:=F.ex;exact⟨f,_,ztv lk hcd S len fun A outer s H vs Q E hr hA hs=>hbody f cdv A outer s H vs Q E hr hA hs,b,kp,m⟩
theorem Here.okH(h:Here K mg x st ps)(S:FnScope N ps (za0 st))(len:∀ vs H Q E,sp vs H Q E->vs.length=ps.length)
  (hbody:∀(f:ji) (cdv:j6) (A:Q3) (outer:List Env) (s:ja) (H:Hp) (vs:List V) (Q:VK) (E:XK),RoomH k (A.deeper (QJ x (za0 st) s.heap.objs.size f cdv))->sp vs H Q E->
   ∃ t,znP (zff CX0 P w K mg base N x (za0 st) f cdv A outer s H E).rough (zau st) t/\t { nx:=fun _ H'=>Q .non H',rt:=Q } (L2.start N vs) H):CalH P w K mg base (k+1) x ps sp:=by
 obtain⟨f,fd,F,b,kp,m⟩:=h;obtain⟨oc,od,kV,doc,pm,an,cdv,ct,osl,rfl,lk,hcd⟩:=F.ex;exact⟨f,_,ztu lk hcd S len fun A outer s H vs Q E hr hs=>hbody f cdv A outer s H vs Q E hr hs,b,kp,m⟩
end
structure Mv (K:j8) (mg:Str->Option j6) (base:Qs) (C D r1 r2 r3 r4:ji):Prop where
 mC:mg "NoMove"=some (.ref C)
 mD:mg "DrawError"=some (.ref D)
 m1:mg "NoRow"=some (.ref r1)
 m2:mg "NotDrawn"=some (.ref r2)
 m3:mg "NoText"=some (.ref r3)
 m4:mg "NoWord"=some (.ref r4)
 xi:XIn K C
 xc:∃ bm,XCls base C bm/\(jS C::bm).contains (.ref D)=true
 xd:∃ bm,XCls base D bm/\(jS D::bm).contains (.ref D)=true
 ve:gP K (.ref C) (.type "ValueError")=some true
 no:PySem.W.kitAny K (.ref C) [.ref r1,.ref r2,.ref r3,.ref r4]=some false
open PySem.W in
def zvw(K:j8)(C D r1 r2 r3 r4:ji):Bool:=
 excIn K C [.type "ValueError",.type "Exception",.type "BaseException",.type "object"] "ValueError.__new__"&&excIn K D [.type "ValueError",.type "Exception",.type "BaseException",.type "object"] "ValueError.__new__" &&
 Jn K (.ref C) "__getattribute__" == some (some (.builtin "BaseException.__getattribute__"))&&Jn K (.ref C) "__getattr__" == some none&&Jn K (.ref C) "__class__" == some (some (.builtin "object.__class__")) &&
 Ub K C (.type "object") == some true&&Ub K C (.type "BaseException") == some true&&Ub K C (.ref D) == some true&&Ub K D (.ref D) == some true&&(clsIn K C).isSome &&
 kitOne K (.ref C) (.type "ValueError") == some true&&kitAny K (.ref C) [.ref r1,.ref r2,.ref r3,.ref r4] == some false
theorem zm9{K:j8}{h:Qs}{C D:ji}(X:K.In h)(q:JQ K C [.type "ValueError",.type "Exception",.type "BaseException",.type "object"] "ValueError.__new__"=true)(m:Wb K C (.ref D)=some true) :
  ∃ bm,XCls h C bm/\(jS C::bm).contains (.ref D)=true:=by
 unfold Wb JR at m;unfold JQ at q;split at q
 case h_2=>cases q
 rename_i dd cd sl ho;rw[ho] at m;split at q
 case h_2=>cases q
 rename_i C' bm k0 k1 k2 k3 n k5 hm hs;simp only[jD,beq_iff_eq,Bool.not_eq_true'] at q;obtain⟨⟨⟨⟨⟨rfl,rfl⟩,hdel⟩,ht⟩,hok⟩,hni⟩:=q;obtain⟨nm,bs,mro,ns,qn,hd,sn,sub,ab,col,del⟩:=cd;dsimp only at hm hdel hok hni;subst hm hdel;have hsl:sl=#[k0,k1,k2,k3,some (.builtin "ValueError.__new__"),k5]:=by
  obtain⟨l⟩:=sl;simp only at hs;rw[hs]
 subst hsl;refine⟨bm,⟨⟨ns,nm,qn,bs,hd,sn,sub,ab,col,dd,k0,k1,k2,k3,k5,_,X _ _ ho,.of_isNs (Wq X hok),PySem.W.nsMap_none_of_in X hok hni,Wr X ht⟩⟩,?_⟩;dsimp only[j7] at m;split at m
 ·cases m
 ·exact jc m
theorem zvv{K:j8}{h:Qs}{mg:Str->Option j6}{C D r1 r2 r3 r4:ji}(X:K.In h)(G:h.Ns jC mg)(a1:jV K jC "NoMove"=some (some (.ref C)))(a2:jV K jC "DrawError"=some (some (.ref D)))(a3:jV K jC "NoRow"=some (some (.ref r1)))
  (a4:jV K jC "NotDrawn"=some (some (.ref r2))) (a5:jV K jC "NoText"=some (some (.ref r3))) (a6:jV K jC "NoWord"=some (some (.ref r4))) (q:zvw K C D r1 r2 r3 r4=true):Mv K mg h C D r1 r2 r3 r4:=by
 unfold zvw at q;simp only[jD] at q;obtain⟨⟨⟨⟨⟨⟨⟨⟨⟨⟨⟨q1,q2⟩,q3⟩,q4⟩,q5⟩,q6⟩,q7⟩,q8⟩,q9⟩,q10⟩,q11⟩,q12⟩:=q;exact⟨Zw X G a1,Zw X G a2,Zw X G a3,Zw X G a4,Zw X G a5,Zw X G a6,⟨beq_iff_eq.mp q3,beq_iff_eq.mp q4,beq_iff_eq.mp q5,beq_iff_eq.mp q6,beq_iff_eq.mp q7,q10⟩,zm9 X q1 (beq_iff_eq.mp q8),zm9 X q2 (beq_iff_eq.mp q9),beq_iff_eq.mp q11,beq_iff_eq.mp q12⟩
def zx7(C:ji):Sp:=fun vs H Q _=>∃ x,vs=[.ref x]/\H x=some (ztB x C)/\∀ H',(∀ b o,H b=some o->H' b=some o)->(∀ b,H' b=none->H b=none)->Q (.bl true) H'
variable [tk:TheK]
def fnR(n:Nat)(d:DR):List T->Bool:=fun ts=>d (zaE n ts)
theorem zqa{C:ji}{np:Nat}{rs:List T->Bool}{vs:List V}{H:Hp}{Q:VK}{E:XK}(h:spR C np rs vs H Q E):vs.length=np:=by
 obtain⟨C,ts,hl,r,_⟩:=h;rw[r.1,hl]
theorem zv6{C:ji}{np:Nat}{N:List Str}{d:DR}(hN:np<=N.length){vs:List V}{H:Hp}{Q:VK}{E:XK}{D:Ends}(h:spR C np (fnR N.length d) vs H Q E):cR E C d D (L2.start N vs) H:=by
 obtain⟨C,ts,hl,r,hf,q⟩:=h;obtain⟨l1,l2⟩:=zeR (N:=N) r (by lia)
 have w:∀ b,C b->Free ⟨H,C,fun _=>False,fun _=>0⟩ (fun _=>False) b:=fun b c=>⟨fun z=>z,.inl c⟩;have R:Rel ⟨H,C,fun _=>False,fun _=>0⟩ (fun _=>False) [] (zaE N.length ts) (L2.start N vs) H:=by
  refine⟨l1,fun i t e _=>?_,fun i t e n=>by simp at n,fun i a n=>by simp at n,fun i j a n=>by simp at n,fun b o _ e=>e,fun b e=>e,fun a z=>z.elim,fun a z=>z,fun a z=>z.elim⟩
  obtain⟨v,h1,_,_,rv⟩:=l2 i t e;exact⟨v,h1,rv.mono w fun _ _ _ e=>e⟩
 exact⟨_,_,_,R,⟨fun i hi=>by simp at hi,fun a z=>z.elim⟩,hf,fun O' H' k=>q H' (fun b o e=>(k.1 b o (fun z=>z) e).1) k.2⟩
section
variable {d:DR}{C:ji}
theorem Here.okR(h:Here tk.K mg x st ps)(S:FnScope N ps (za0 st))
  (hb:∀(f:ji) (cdv:j6) (A:Q3) (outer:List Env) (s:ja) (H:Hp) (E:XK),Room k (A.deeper (QJ x (za0 st) s.heap.objs.size f cdv))->A.frames=some outer->
   PSs (zff (CX1 P w) P w tk.K mg base N x (za0 st) f cdv A outer s H E) (zau st) (cR E C d)) (hN:ps.length<=N.length:=by decide):CalR P w tk.K mg base (k+1) x ps (spR C ps.length (fnR N.length d)):=
 h.okX S (fun vs H Q E h=>zqa h) fun f cdv A outer s H vs Q E hr hA hs=>⟨_,(hb f cdv A outer s H E hr hA).zero,zv6 hN hs⟩
end
section
variable {E:XK}{N:ji}{da db d1 d2:DR}{dn:DS}{a b:List Qw}
theorem zqs(hc:QT X c (cT [] ft))(ha:QSs X a (cR E N da))(hb:QSs X b (cR E N db)):QS X (.If c a b pos) (cR E N (zoT ft da db)):=⟨zxc hc.un ha.un hb.un⟩
theorem zqr:QSs X sts (cR E N zm6):=⟨zxb⟩
theorem ziM:QS X st (cR E N zm6):=⟨zvb⟩
theorem ziL(h:QS X st (cR E N da)):QSs X [st] (cR E N da):=⟨zva h.un⟩
theorem zhg{rk:Kd}(h1:QS X st (cR E N d1))(hn:QS X st (cS rk [] [] [] [] dn))(h2:QSs X sts (cR E N d2)):QSs X (st::sts) (cR E N (zf9 d1 dn d2)):=⟨zv9 h1.un hn.un h2.un⟩
theorem zkN{bm:List j6}{x:Str}{np cpos:Pos}{e0:Q4}{y:Str}(hR:zlr X E)(hc:X.calm=true)(xc:XCls X.base N bm)(hg:Gl X x)(hm:X.mg x=some (.ref N))(he0:QE X e0 (tC (.str y)))
  (he:je [e0] X.env=(false,eval e0 X.env)::je [] X.env:=by rfl) (hpl:(QB cpos (je [] X.env)).any (·.1)=false:=by rfl) (hd:(x == ("__debug__":Str))=false:=by decide) :
  QS X (.Raise (some (.Call (.Name x np) [e0] [] cpos)) none pos) (cR E N zoR):=⟨zqk (C:=N) hR hc xc hg hm he0.un he hpl hd⟩
end
theorem zpg{X:Cx}{st:List Qw}{t1 t2:TS}(h1:PSs X st t1)(h2:PSs X st t2):PSs X st (fun D σ H=>t1 D σ H∨t2 D σ H):=fun pc s σ H D I z=>z.elim (h1 pc s σ H D I) (h2 pc s σ H D I)
def zpI(tk:TheK)(P:jE)(w:Qa)(mg:Str->Option j6)(base:Qs)(k:Nat)(x:Str)(st:Qw)(N:List Str)(C:ji)(d:DR):Prop:=
 ∀(f:ji) (cdv:j6) (A:Q3) (outer:List Env) (s:ja) (H:Hp) (E:XK),Room k (A.deeper (QJ x (za0 st) s.heap.objs.size f cdv))->A.frames=some outer->
  QSs (zff (CX1 P w) P w tk.K mg base N x (za0 st) f cdv A outer s H E) (zau st) (cR E C d)
theorem Here.qR{P:jE}{w:Qa}{mg:Str->Option j6}{base:Qs}{x:Str}{st:Qw}{N ps:List Str}{k:Nat}{d:DR}{C:ji}(h:Here tk.K mg x st ps)(S:FnScope N ps (za0 st))(hb:zpI tk P w mg base k x st N C d)(hN:ps.length<=N.length:=by decide):CalR P w tk.K mg base (k+1) x ps (spR C ps.length (fnR N.length d)):=
 h.okR S (fun f cdv A outer s H E hr hA=>(hb f cdv A outer s H E hr hA).un) hN
end L3
namespace L3
open PySem PySem.Spec PyProof.Rows L2
theorem znY{K:j8}{h:Qs}{C D N f:ji}{nm q:Str}{bs bm:List j6}{hdct:Bool}{sn:List Str}{sub:List j6}{ab:Bool}{col:Option Bool}{dd:Option ji}{k0 k1 k2 k3 k5:Option j6}{n1 n2:Str}{p1 p2 p3 p4:Pos}
  {name qual:Str} {params:No} {scope:gr} {dV kV doc pm cdv ct:j6} {an od:Option ji} {osl:Array (Option j6)} {cdt:Jp} (X:K.In h)
  (xl:K.lookup C=some (gN nm q C N bs bm hdct sn sub ab col dd k0 k1 k2 k3 k5 "ValueError.__new__")) (xi:jV K N "__init__"=some (some (.ref f))) (xn:PySem.W.nsOkIn K N=true)
  (xt:PySem.W.tailIn K [.type "ValueError",.type "Exception",.type "BaseException",.type "object"] bm=true)
  (lk:K.lookup f=some ⟨.type "function",od,.func (jU name qual params [.Assign [.Attribute (.Name n1 p1) n2 p2] (.Name n2 p3) p4] scope dV kV doc pm an cdv ct),osl⟩) (hcd:QF K cdv qual=true)
  (S:FnScope [n1,n2] [n1,n2] scope) (l1:scope.names.lookup n1=some .local) (l2:scope.names.lookup n2=some .local) (d1:(n1 == ("__debug__":Str))=false) (d2:(n2 == ("__debug__":Str))=false)
  (hb:∀ us:List j6,us.length=2->Y1 (jU name qual params [.Assign [.Attribute (.Name n1 p1) n2 p2] (.Name n2 p3) p4] scope dV kV doc pm an cdv ct) ⟨us,[]⟩=pure ([n1,n2].zip us))
  (c1:JR K C=some cdt) (c2:cdt.mro=[.ref C,.ref D,.type "ValueError",.type "Exception",.type "BaseException",.type "object"]) (c3:cdt.hasDict=true)
  (c4:Ym K (.ref C) "__setattr__"=some (some (.builtin "object.__setattr__"))) (c5:Ym K (.ref C) n2=some none):XClsI K h C D bm:=by
 have G:h.Ns N (h.nsMap N):=.of_isNs (Wq X xn);have gi:h.nsMap N "__init__"=some (.ref f):=by
  obtain⟨o,es,ep,ho,hd,_,hf⟩:=G;unfold jV at xi;split at xi
  ·rename_i c d es' n' sl qq;have:=X _ _ qq;rw[ho] at this;cases this;cases hd;split at xi
   ·rename_i en he;have xi:some (some en.val)=some (some (jS f)):=xi;rw[<-hf];unfold nsFind findBy;rw[<-Wa,he];exact jc xi
   ·split at xi<;>cases xi
  ·cases xi
 exact⟨N,nm,q,bs,hdct,sn,sub,ab,col,dd,k0,k1,k2,k3,k5,_,f,X _ _ xl,G,gi,Wr X xt,n1,n2,p1,p2,p3,p4,name,qual,params,scope,dV,kV,doc,pm,cdv,ct,od,an,osl,cdt,lk,hcd,S,l1,l2,d1,d2,.all hb,⟨c1,c2,c3,c4,c5⟩⟩
theorem zmQ{X:Cx}{st:Qw}{sts:List Qw}{t u:TS}(h1:PS0 X st t)(h2:PSs X sts u):znP X (st::sts) (zwf t u):=by
 intro s σ H D I h;refine ZY (jO (h1 s σ H { D with nx:=u D } I h) (fun f s1 q=>?_) fun _ _ z=>z);cases f with
 |next=>
  obtain⟨σ',H',I',q⟩:=q;exact h2 [] s1 σ' H' D I' q
 |ret v=>exact q
 |brk=>exact q
 |cont=>exact q
variable [tk:TheK]
theorem zo5{X:Cx}{st:Qw}{sts:List Qw}{rk:Kd}{io M M' M'' Mb:List Nat}{d d':DS}(h:PS0 X st (cS rk io M M' Mb d))(h2:PSs X sts (cS rk io M' M'' Mb d')):znP X (st::sts) (cS rk io M M'' Mb (zaj d d')):=by
 intro s0 σ H D I0 hz;refine zmQ h h2 s0 σ H D I0 ?_;obtain⟨F,O,s,r,R,I,hd,q⟩:=hz;obtain⟨r1,h1,h2⟩:=Qb hd;refine⟨F,O,s,r1,R,I,h1,?_⟩;cases r1 with
 |nx s1=>exact fun O1 σ1 H1 k1 R1 I1=>⟨F,O1,s1,r,R1,I1,h2,q.more k1⟩
 |bk s1=>injection h2 with h2; subst h2; exact q
 |ct s1=>injection h2 with h2; subst h2; exact q
 |rt t s1=>injection h2 with h2; subst h2; exact q
theorem zmB{X:Cx}{st:Qw}{sts:List Qw}{rk:Kd}{io M M' M'' Mb:List Nat}{d d':DS}(h:PS0 X st (cS rk io M M' Mb d))(h2:QSs X.nox sts (cS rk io M' M'' Mb d')):znP X (st::sts) (cS rk io M M'' Mb (zaj d d')):=zo5 h h2.un.nox
theorem Rel.up{F:Fr}{O:ji->Prop}{M:List Nat}{s:Sg}{σ:L2.St}{H H':Hp}(R:Rel F O M s σ H)(k:∀ b o,H b=some o->H' b=some o)(d:∀ b,H' b=none->H b=none):Rel F O M s σ H':=by
 refine⟨R.len,fun i t e n=>?_,fun i t e n=>?_,R.ow,R.dis,fun b o n e=>k b o (R.keep b o n e),fun b e=>R.dom b (d b e),R.fresh,R.inD,fun a o e=>R.al a o (d a e)⟩
 ·obtain⟨v,h1,h2⟩:=R.val i t e n;exact⟨v,h1,h2.mono (fun _ c=>c) fun b o _ e=>k b o e⟩
 ·obtain⟨a,h1,h2⟩:=R.own i t e n;exact⟨a,h1,h2.mono (fun _ c=>c) (fun b o _ e=>k b o e) fun o e=>k a o e⟩
def zkm(io:List Nat)(np:Nat)(rs:List T->Bool)(fa:DA)(dn:DS):DS:=fun s=>match dn s with
 |some r=>some r
 |none=>match fa s with
  |some (ts,s')=>if (decide (ts.length=np)&&rs ts&&hasAll io s')=true then some (.rt .non s') else none
  |none=>none
def cRM(E:XK)(N:ji)(M:List Nat)(np:Nat)(rs:List T->Bool)(fa:DA):TS:=fun D σ H=>∃ F O s ts s',Rel F O M s σ H/\fa s=some (ts,s')/\ts.length=np/\rs ts=true/\∀ H',Rel F O M s' σ H'->E (.ref N) none H'
section
variable {X:Cx}{E:XK}{N D:ji}{pos:Pos}{io M M' Mb:List Nat}{np:Nat}{rs:List T->Bool}{fa:DA}{dn:DS}{st:Qw}
theorem zv8{CX:CXT}{k i:Nat}{f:ji}{fd:QN}{ps:List Str}{x y:Str}{p cpos pos':Pos}{e:Q4}{es:List Q4}(hN:X.N.Nodup)(hi:X.N[i]?=some y)(hl:Loc X.env.scope y)(F:FnOk X.prog X.w X.K X.mg X.base CX k f fd ps (spR N np rs))(hr:Room k X.A)(hg:Gl X x)(hm:X.mg x=some (.ref f))(hk:jY X.K (.ref f)=true)(hb:Binds X.K fd ps [])(hx:zen CX X E)
  (ha:PA X (e::es) (cA M fa)) (hf:X.fn y=true∨X.env.scope.names.lookup y=some .local) (hs:Zy (.Call (.Name x p) (e::es) [] cpos) (some (.Name y pos')) pos.line X.env=pure false:=by rfl) (hdb:(x == ("__debug__":Str))=false:=by decide) (he:je (e::es) X.env=(false,eval e X.env)::je es X.env:=by rfl) (hpl:(QB cpos (je es X.env)).any (·.1)=false:=by rfl) :
  PS X (.Assign [.Name y pos'] (.Call (.Name x p) (e::es) [] cpos) pos) (cRM E N M np rs fa):=zcv (zph hN hi hl (zdk F hr hg hm hk hb .nil hx ha hdb he hpl) hs hf) (by
 intro D σ H hz; obtain⟨F,O,s,ts,s',R,hf,hl,hrs,q⟩:=hz;refine⟨F,O,s,ts,s',R,hf,fun vs H1 S1 R1 rr=>?_⟩
 exact⟨Free F O,ts,hl,by rw[Q8]; exact rr,hrs,fun H' k1 k2=>q H' (R1.up k1 k2)⟩)
theorem zsy{CX:CXT}{k i:Nat}{f:ji}{fd:QN}{ps:List Str}{x y:Str}{p cpos pos':Pos}{e:Q4}{es:List Q4}(hN:X.N.Nodup)(hi:X.N[i]?=some y)(hl:Loc X.env.scope y)(F:FnOk X.prog X.w X.K X.mg X.base CX k f fd ps (spR N np rs))(hr:Room k X.A)(hg:Gl X x)(hm:X.mg x=some (.ref f))(hk:jY X.K (.ref f)=true)(hb:Binds X.K fd ps [])(hx:zen CX X E)
  (ha:QA X (e::es) (cA M fa)) (hf:X.fn y=true∨X.env.scope.names.lookup y=some .local) (hs:Zy (.Call (.Name x p) (e::es) [] cpos) (some (.Name y pos')) pos.line X.env=pure false:=by rfl) (hdb:(x == ("__debug__":Str))=false:=by decide) (he:je (e::es) X.env=(false,eval e X.env)::je es X.env:=by rfl) (hpl:(QB cpos (je es X.env)).any (·.1)=false:=by rfl) :
  QS X (.Assign [.Name y pos'] (.Call (.Name x p) (e::es) [] cpos) pos) (cRM E N M np rs fa):=⟨zv8 hN hi hl F hr hg hm hk hb hx ha.un hf hs hdb he hpl⟩
theorem zsi{bm bmD:List j6}{d:Str}{p1 p2 p3 hpos:Pos}{j:Nat}(hn:∀ W,QS (X.wish W) st (cS .e io M M' Mb dn))(hc:∀ W E,zen (CX1 X.prog X.w) (X.wish W) E->QS (X.wish W) st (cRM E N M np rs fa))
  (hst:X.stack=X.env::X.outer) (hfr:X.env.frame=some X.env.locals) (hex:X.ex=[]) (hgd:Gl X d) (hmd:X.mg d=some (.ref D)) (xd:XObj X.base D bmD) (xn:XObj X.base N bm) (hm:(jS N::bm).contains (.ref D)=true)
  (hdb:(d == ("__debug__":Str))=false:=by decide) :
  PS0 X (.Try [st] [.ExceptHandler (some (.Name d p1)) none [.Return (some (.Constant .none j p2)) p3] hpos] [] [] pos) (cS .e io M M' Mb (zkm io np rs fa dn)):=by
 intro s0 σ H En I0 hz;refine zmR (tb:=fun E' D' σ' H'=>cS .e io M M' Mb dn D' σ' H'∨cRM E' N M np rs fa D' σ' H') (ts:=ztZ (tC .non)) (fun W E' hp=>zpg (zc1 (hn W).un) (zc1 (hc W E' hp).un)) hst hfr hex hgd hmd xd (fun x=>zc1 (zdQ zpk)) hdb s0 σ H En I0 ?_;obtain⟨F,O,s,r,R,I,hd,q⟩:=hz;unfold zkm at hd;split at hd
 ·rename_i r1 h1;obtain rfl:=jc hd;exact .inl ⟨F,O,s,_,R,I,h1,q⟩
 split at hd
 case h_2=>cases hd
 rename_i ts s' hf;split at hd
 case isFalse=>cases hd
 rename_i hc;obtain rfl:=jc hd;obtain⟨hc,hio⟩:=NQ.mp hc;obtain⟨hl,hrs⟩:=NQ.mp hc;refine .inr ⟨F,O,s,ts,s',R,hf,of_decide_eq_true hl,hrs,fun H' R'=>⟨N,bm,rfl,xn,hm,?_⟩⟩;exact q .non H' (zss R' I (hasAll.get hio) .non)
end
section
variable {P:jE}{w:Qa}{mg:Str->Option j6}{base:Qs}{x:Str}{st:Qw}{N ps:List Str}{k:Nat}{d:DS}{M' Mb:List Nat}
theorem Here.okI0(h:Here tk.K mg x st ps)(S:FnScope N ps (za0 st))
  (hb:∀(f:ji) (cdv:j6) (A:Q3) (outer:List Env) (s:ja) (H:Hp) (E:XK),Room k (A.deeper (QJ x (za0 st) s.heap.objs.size f cdv))->A.frames=some outer->
   znP (zff CX0 P w tk.K mg base N x (za0 st) f cdv A outer s H E) (zau st) (cS .e [0] [0] M' Mb d)) (hN:ps.length<=N.length:=by decide):Cal P w tk.K mg base (k+1) x ps (spI .e ps.length (fnI N.length d)):=
 h.okX S (fun vs H Q E h=>zmm h) fun f cdv A outer s H vs Q E hr hA hs=>⟨_,hb f cdv A outer s H E hr hA,zsq (.inl rfl) hN hs⟩
end
section
variable {X:Cx}{E:XK}{N D:ji}{pos:Pos}
theorem zmE{k:Nat}{bm:List j6}{x:Str}{np cpos:Pos}{e0:Q4}{fe:DE}(hR:zil X E)(hc:X.calm=true)(hr:Room (k+1) X.A)(xc:XClsI X.K X.base N D bm)(hg:Gl X x)(hm:X.mg x=some (.ref N))(he0:QE X e0 (cE .e [] fe))
  (he:je [e0] X.env=(false,eval e0 X.env)::je [] X.env:=by rfl) (hpl:(QB cpos (je [] X.env)).any (·.1)=false:=by rfl) (hd:(x == ("__debug__":Str))=false:=by decide) :
  QS X (.Raise (some (.Call (.Name x np) [e0] [] cpos)) none pos) (cR E N (zkn fe)):=⟨zoa hR hc hr xc hg hm he0.un he hpl hd⟩
end
end L3
namespace L3
open PySem PySem.Spec PyProof.Rows L2
variable {ps:List Str}{x:Str}{st:Qw}{K:j8}{mg:Str->Option j6}
theorem zr1{α:Type}(x:α):(some (some x):Option (Option α)).join=some x:=rfl
theorem zc6{n:Nat}(h:n<=1000000):n<=jn:=by rw[Zs]; lia
theorem zcy{n:Nat}(h:n<=1000000):n < jn:=by rw[Zs]; lia
theorem zqY{n:Nat}(h:n<=1000000):n<=zfT:=by rw[show zfT=1000000 by unfold zfT; rfl]; exact h
theorem zdf{j:Int}(h0:-2000<=j)(h:j<=2000):zfP j=true:=by
 unfold zfP;refine Nat.ble_eq_true_of_le ?_;lia
theorem ztP{α:Type}{xs:List α}{i:Nat}{x:α}(h:xs[i]?=some x):atI xs (i:Int)=some x:=by
 have h2:i < xs.length:=(j9.mp h).1;unfold atI ixN;rw[Ip_ (by lia),Ip_ (by lia),j7,Qj,h]
theorem zkb{g:DG}{db:DS}(I:Nat->Sg->Prop):∀(xs:List T) (i:Nat) (s:Sg),I i s->(∀ j x s,xs[j]?=some x->I (i+j) s->∃ s1,g x s=some s1/\∃ s2,(db s1=some (.nx s2)∨db s1=some (.ct s2))/\I (i+j+1) s2)->
  ∃ s',zdC g db xs s=some (.nx s')/\I (i+xs.length) s'
 |[],i,s,h0,_=>⟨s,by unfold zdC; rfl,h0⟩
 |x::xs,i,s,h0,h=>by
  obtain⟨s1,h1,s2,h2,h3⟩:=h 0 x s rfl h0;obtain⟨s',h4,h5⟩:=zkb I xs (i+1) s2 h3 fun j y s e q=>by
   have z:=h (j+1) y s (by simpa using e)
   rw[show i+(j+1)=i+1+j by lia] at z
   exact z q
  refine⟨s',?_,by rw[jp,show i+(xs.length+1)=i+1+xs.length by lia]; exact h5⟩
  unfold zdC;rw[h1,j7];rcases h2 with h2 |h2<;>rw[h2,j7]<;>exact h4
theorem zjc(n:Nat)(x y:T):eqD (n+1) x y=eqS n x y:=by cases x<;>cases y<;>rfl
theorem znB{n:Nat}{x y:T}{b:Bool}(h:scE x y=some b):eqD n x y=some b:=by
 cases n with
 |zero=>unfold eqD; exact h
 |succ n=>rw[zjc]; unfold eqS; cases x<;>cases y<;>simp[scE] at h<;>simpa[scE] using h
theorem zki(n:Nat)(i j:Int):eqD n (.int i) (.int j)=some (i == j):=znB rfl
theorem zpz(n:Nat)(i j:Bool):eqD n (.bl i) (.bl j)=some (i == j):=znB rfl
theorem zkh(n:Nat)(i j:Str):eqD n (.str i) (.str j)=some (i == j):=znB rfl
theorem zlq{α:Type}[DecidableEq α]{f:T->T->Option Bool}{enc:α->T}(h:∀ a b,f (enc a) (enc b)=some (decide (a=b))):∀(xs ys:List α),xs.length=ys.length->zih f (xs.map enc) (ys.map enc)=some (decide (xs=ys))
 |[],[],_=>rfl
 |[],_::_,hl=>by simp at hl
 |_::_,[],hl=>by simp at hl
 |x::xs,y::ys,hl=>by
  rw[jr,jr];unfold zih;rw[h,j7,zlq h xs ys (by simpa using hl),jP]
  refine congrArg some ?_
  by_cases h1:x=y<;>by_cases h2:xs=ys<;>simp[h1,h2]
theorem znC{α:Type}[DecidableEq α]{n:Nat}{enc:α->T}(h:∀ a b,eqD n (enc a) (enc b)=some (decide (a=b)))(xs ys:List α):eqD (n+1) (.lst (xs.map enc)) (.lst (ys.map enc))=some (decide (xs=ys)):=by
 rw[zjc];unfold eqS;dsimp only;rw[j5,j5]
 by_cases hl:xs.length=ys.length
 ·rw[Ip_ hl,zlq h xs ys hl]
 ·rw[In_ hl,Df_ (fun z=>hl (by rw[z]))]
theorem zl9{n:Nat}(xs ys:List Str):eqD (n+1) (.lst (xs.map T.str)) (.lst (ys.map T.str))=some (decide (xs=ys)):=znC (fun a b=>by rw[zkh]; refine congrArg some ?_; by_cases h:a=b<;>simp[h]) xs ys
theorem zgb(xs:List Str):zkA (xs.map T.str)=some (xs.map V.str):=by
 induction xs with
 |nil=>rfl
 |cons x xs ih=>rw[jr]; unfold zkA; rw[ih]; rfl
theorem zl3(x:Str)(xs:List Str):inV (.str x) (xs.map V.str)=decide (x∈xs):=by
 unfold inV;rw[WX,Zp,N7,decide_eq_true_iff];constructor
 ·rintro⟨y,hy,e⟩;have:y=x:=by simpa[eqV] using e
  exact this▸hy
 ·intro h;exact⟨x,h,by simp[eqV]⟩
theorem zkt(x:Str)(xs:List Str):(xs.map V.str).countP (fun u=>eqV u (.str x))=xs.count x:=by
 rw[List.countP_map,List.count_eq_countP];refine List.countP_congr fun y hy=>?_;simp[eqV]
theorem zsg{f g:DS}{s s':Sg}{r:Option Fl}(h:f s=some (.nx s'))(k:g s'=r):zaj f g s=r:=by
 unfold zaj;rw[h,j7];exact k
theorem zpa{f g:DS}{s s':Sg}{t:T}(h:f s=some (.rt t s')):zaj f g s=some (.rt t s'):=by
 unfold zaj;rw[h];rfl
theorem znu{n:Nat}{d:DS}{ts:List T}{t:T}{s:Sg}(h:d (zaE n ts)=some (.rt t s)):fnP n d ts=some t:=by unfold fnP; rw[h]
theorem znt{n:Nat}{d:DS}{ts:List T}{t:T}{s:Sg}(h:d (zaE n ts)=some (.rt t s)):zin n d ts=some t:=by unfold zin; rw[h]
theorem ztx{n:Nat}{d:DS}{ts:List T}{t u:T}{s:Sg}(h:d (zaE n ts)=some (.rt t s))(hs:s[0]?=some (some u)):fnI n d ts=some (t,u):=by unfold fnI; rw[h]; simp[hs]
theorem zl6{fi:DI}{g:DG}{db:DS}{s s1 s2:Sg}{its:List T}(h:fi s=some (its,s1))(k:zdC g db its s1=some (.nx s2)):zeJ fi g db s=some (.nx s2):=by unfold zeJ; rw[h,j7]; exact k
theorem ziG{lo:Int}{n j:Nat}{x:T}(h:(zaN lo n)[j]?=some x):j < n/\x=.int (lo+j):=by
 unfold zaN at h;rw[jf] at h;obtain⟨i,h1,h2⟩:=Qm h;have hj:j < n:=by simpa using (j9.mp h1).1
 rw[ge hj] at h1;injection h1 with h1;subst h1;exact⟨hj,h2.symm⟩
theorem ziF(lo:Int)(n:Nat):(zaN lo n).length=n:=by unfold zaN; simp
theorem zkq{α:Type}(xs:List α){t:Int}(h0:0<=t)(h:t<=xs.length):zfL xs none (some t)=xs.take t.toNat:=by
 unfold zfL HT.sIx;simp only[NU,Nat.sub_zero];split
 ·lia
 ·rw[Yd (by lia)]
theorem zgS{α:Type}(xs:List α){t:Int}(h0:0<=t)(h:t<=xs.length):zfL xs (some t) none=xs.drop t.toNat:=by
 unfold zfL HT.sIx;dsimp only;split
 ·lia
 ·rw[Yd (by lia),Q2 (by rw[QL]; lia)]
theorem zoV{α:Type}(xs:List α){t u:Int}(h0:0<=t)(h:t<=u)(hu:u<=xs.length):zfL xs (some t) (some u)=(xs.drop t.toNat).take (u.toNat - t.toNat):=by
 unfold zfL HT.sIx;dsimp only;split<;>split<;>first |lia |rw[Yd (by lia),Yd (by lia)]
def Run(d:DS)(s:Sg)(Q:Fl->Prop):Prop:=∃ r,d s=some r/\Q r
def ztW(P:Sg->Prop):Fl->Prop
 |.nx s=>P s
 |.ct s=>P s
 |_=>False
theorem zas{d:DS}{s:Sg}{Q:Fl->Prop}{r:Fl}(h:d s=some r)(k:Q r):Run d s Q:=⟨r,h,k⟩
theorem zgk{f g:DS}{s s':Sg}{Q:Fl->Prop}(h:f s=some (.nx s'))(k:Run g s' Q):Run (zaj f g) s Q:=by
 obtain⟨r,h1,h2⟩:=k;exact⟨r,zsg h h1,h2⟩
theorem zgl{f g:DS}{s:Sg}{Q:Fl->Prop}(P:Sg->Prop)(h:Run f s fun r=>match r with |.nx s'=>P s' |_=>False)(k:∀ s',P s'->Run g s' Q):Run (zaj f g) s Q:=by
 obtain⟨r,h1,h2⟩:=h;cases r with
 |nx s'=>exact zgk h1 (k s' h2)
 |_=>exact h2.elim
theorem zc0{fi:DI}{g:DG}{db d:DS}{s s1:Sg}{its:List T}{Q:Fl->Prop}(I:Nat->Sg->Prop)(h:fi s=some (its,s1))(h0:I 0 s1)
  (hs:∀ j x s,its[j]?=some x->I j s->∃ s1,g x s=some s1/\Run db s1 (ztW (I (j+1)))) (k:∀ s',I its.length s'->Run d s' Q):Run (zaj (zeJ fi g db) d) s Q:=by
 obtain⟨s',h1,h2⟩:=zkb (g:=g) (db:=db) I its 0 s1 h0 fun j x s e q=>by
  rw[Z1] at q ⊢;obtain⟨s1,h1,r,h2,h3⟩:=hs j x s e q;refine⟨s1,h1,?_⟩;cases r with
  |nx s2=>exact⟨s2,.inl h2,h3⟩
  |ct s2=>exact⟨s2,.inr h2,h3⟩
  |bk s2=>exact h3.elim
  |rt t s2=>exact h3.elim
 rw[Z1] at h2;exact zgk (zl6 h h1) (k s' h2)
theorem zfG{fi:DI}{g:DG}{db:DS}{s s1:Sg}{its:List T}{Q:Fl->Prop}(I:Nat->Sg->Prop)(h:fi s=some (its,s1))(h0:I 0 s1)
  (hs:∀ j x s,its[j]?=some x->I j s->∃ s1,g x s=some s1/\Run db s1 (ztW (I (j+1)))) (k:∀ s',I its.length s'->Q (.nx s')):Run (zeJ fi g db) s Q:=by
 obtain⟨s',h1,h2⟩:=zkb (g:=g) (db:=db) I its 0 s1 h0 fun j x s e q=>by
  rw[Z1] at q ⊢;obtain⟨s1,h1,r,h2,h3⟩:=hs j x s e q;refine⟨s1,h1,?_⟩;cases r with
  |nx s2=>exact⟨s2,.inl h2,h3⟩
  |ct s2=>exact⟨s2,.inr h2,h3⟩
  |bk s2=>exact h3.elim
  |rt t s2=>exact h3.elim
 rw[Z1] at h2;exact⟨_,zl6 h h1,k s' h2⟩
theorem zdM{ft:DT}{db d:DS}{n:Nat}{s:Sg}{Q:Fl->Prop}(I:Sg->Prop)(μ:Sg->Nat)(hn:μ s < n)(h0:I s)(hs:∀ s,I s->∃ b s1,ft s=some (b,s1)/\if b=true then Run db s1 (ztW fun s2=>I s2/\μ s2 < μ s) else True)
  (k:∀ s0 s',I s0->ft s0=some (false,s')->Run d s' Q):Run (zaj (zbF ft db n) d) s Q:=by
 have key:∀ n s,μ s < n->I s->∃ s0 s',zbF ft db n s=some (.nx s')/\I s0/\ft s0=some (false,s'):=by
  intro n
  induction n with
  |zero=>intro s hn; exact absurd hn (Nw _)
  |succ n ih=>
   intro s hn h0;obtain⟨b,s1,h1,h2⟩:=hs s h0;unfold zbF;rw[h1,j7];dsimp only;cases b with
   |true=>
    rw[Ip_ rfl] at h2;obtain⟨r,h3,h4⟩:=h2;rw[Ip_ rfl,h3,j7];cases r with
    |nx s2=>exact ih s2 (by have:=h4.2; lia) h4.1
    |ct s2=>exact ih s2 (by have:=h4.2; lia) h4.1
    |bk s2=>exact h4.elim
    |rt t s2=>exact h4.elim
   |false=>exact⟨s,s1,by rw[In_ jK],h0,h1⟩
 obtain⟨s0,s',h1,h2,h3⟩:=key n s hn h0;exact zgk h1 (k s0 s' h2 h3)
theorem zc3{n:Nat}{d:DS}{ts:List T}{Q:T->Prop}(h:Run d (zaE n ts) fun r=>∃ t s,r=.rt t s/\Q t):∃ t,fnP n d ts=some t/\Q t:=by
 obtain⟨r,h1,t,s,rfl,h2⟩:=h;exact⟨t,znu h1,h2⟩
theorem zi6{n:Nat}{d:DS}{ts:List T}{Q:T->T->Prop}(h:Run d (zaE n ts) fun r=>∃ t u s,r=.rt t (some u::s)/\Q t u):∃ t u,fnI n d ts=some (t,u)/\Q t u:=by
 obtain⟨r,h1,t,u,s,rfl,h2⟩:=h;exact⟨t,u,ztx h1 rfl,h2⟩
structure Ev where
 P:jE
 w:Qa
 mg:Str->Option j6
 base:Qs
abbrev Cl[tk:TheK](v:Ev)(k:Nat)(x:Str)(ps:List Str)(sp:Sp):Prop:=Cal v.P v.w tk.K v.mg v.base k x ps sp
theorem scm{N P:List Str}{sc:gr}(h1:sc.kind=.function:=by rfl)(h2:sc.isCoroutine=false:=by rfl)(h3:sc.isGenerator=false:=by rfl)(h4:N.Nodup:=by decide +kernel)(h5:N.take P.length=P:=by rfl)
  (h6:∀ x∈P,sc.names.lookup x=some .local∨sc.names.lookup x=some .cell:=by decide +kernel) (h7:∀ y∈sc.names,y.2≠.free:=by decide +kernel):FnScope N P sc:=⟨h1,h2,h3,h4,h5,h6,h7⟩
theorem Cal.up{P:jE}{w:Qa}{K:j8}{mg:Str->Option j6}{base:Qs}{j k:Nat}{x:Str}{ps:List Str}{sp:Sp}(h:Cal P w K mg base j x ps sp)(hjk:j<=k:=by decide):Cal P w K mg base k x ps sp:=h.mono hjk
section
variable [TheK]{f1 f2 f3 f4 f5 f6:DE}
theorem ar1:Ar (dAc f1 dAn) 1:=ar_ ztQ
theorem ar2:Ar (dAc f1 (dAc f2 dAn)) 2:=ar_ ar1
theorem ar3:Ar (dAc f1 (dAc f2 (dAc f3 dAn))) 3:=ar_ ar2
theorem ar4:Ar (dAc f1 (dAc f2 (dAc f3 (dAc f4 dAn)))) 4:=ar_ ar3
end
section
variable [TheK]{X:Cx}{M:List Nat}{e e1 e2:Q4}{es:List Q4}{fe f0:DE}{fs:DA}{p pos:Pos}{k np i:Nat}{fn:List T->Option T}{fi:List T->Option (T × T)}
theorem qc(C:Cal X.prog X.w X.K X.mg X.base k x ps (spP .e np fn))(hr:Room k X.A)(hg:Gl X x)(ha:QA X (e::es) (cA M fs))(ar:Ar fs np)(hdb:(x == ("__debug__":Str))=false:=by decide)(he:je (e::es) X.env=(false,eval e X.env)::je es X.env:=by rfl)(hpl:(QB pos (je es X.env)).any (·.1)=false:=by rfl):QE X (.Call (.Name x p) (e::es) [] pos) (cE .e M (zai fn fs)):=by
 obtain⟨f,fd,F,hb,hk,hm⟩:=C;exact zqz F hr hg hm hk hb ha ar hdb he hpl
theorem qcN(C:Cal X.prog X.w X.K X.mg X.base k x ps (spP .n np fn))(hr:Room k X.A)(hg:Gl X x)(ha:QA X (e::es) (cA M fs))(ar:Ar fs np)(hdb:(x == ("__debug__":Str))=false:=by decide)(he:je (e::es) X.env=(false,eval e X.env)::je es X.env:=by rfl)(hpl:(QB pos (je es X.env)).any (·.1)=false:=by rfl):QE X (.Call (.Name x p) (e::es) [] pos) (cE .n M (zai fn fs)):=by
 obtain⟨f,fd,F,hb,hk,hm⟩:=C;exact zoi F hr hg hm hk hb ha ar hdb he hpl
theorem qcI(hi:M.contains i=true)(C:Cal X.prog X.w X.K X.mg X.base k x ps (spI .e (np+1) fi))(hr:Room k X.A)(hg:Gl X x)(h0:QE X e (zeO i))(ha:QA X es (cA M fs))(ar:Ar fs np)(hdb:(x == ("__debug__":Str))=false:=by decide)(he:je (e::es) X.env=(false,eval e X.env)::je es X.env:=by rfl)(hpl:(QB pos (je es X.env)).any (·.1)=false:=by rfl):QE X (.Call (.Name x p) (e::es) [] pos) (cE .e M (zfa fi i fs)):=by
 obtain⟨f,fd,F,hb,hk,hm⟩:=C;exact zoj hi F hr hg hm hk hb h0 ha ar hdb he hpl
theorem qcT{rk:Kd}(hrk:rk=.e∨rk=.n)(C:Cal X.prog X.w X.K X.mg X.base k x ps (spI rk (np+1) fi))(hr:Room k X.A)(hg:Gl X x)(h0:QE X e (cE .n M fe))(ha:QA X es (cA M fs))(ar:Ar fs np)(hdb:(x == ("__debug__":Str))=false:=by decide)(he:je (e::es) X.env=(false,eval e X.env)::je es X.env:=by rfl)(hpl:(QB pos (je es X.env)).any (·.1)=false:=by rfl):QE X (.Call (.Name x p) (e::es) [] pos) (cE rk M (zgQ fi fe fs)):=by
 obtain⟨f,fd,F,hb,hk,hm⟩:=C;exact zoh hrk F hr hg hm hk hb h0 ha ar hdb he hpl
theorem zxf(hi:M.contains i=true)(C:Cal X.prog X.w X.K X.mg X.base k x ps (spP .e (np+2) fn))(hr:Room k X.A)(hg:Gl X x)(h0:QE X e1 (cE .e M f0))(h1:QE X e2 (zeO i))(ha:QA X es (cA M fs))(ar:Ar fs np)(hdb:(x == ("__debug__":Str))=false:=by decide)(he:je (e1::e2::es) X.env=(false,eval e1 X.env)::je (e2::es) X.env:=by rfl)(he2:je (e2::es) X.env=(false,eval e2 X.env)::je es X.env:=by rfl)(hpl:(QB pos (je (e2::es) X.env)).any (·.1)=false:=by rfl):QE X (.Call (.Name x p) (e1::e2::es) [] pos) (cE .e M (zgR fn i f0 fs)):=by
 obtain⟨f,fd,F,hb,hk,hm⟩:=C;exact zmN hi F hr hg hm hk hb h0 h1 ha ar hdb he he2 hpl
end
section
variable [tk:TheK]{v:Ev}{N:List Str}
theorem _root_.L3.Here.vP(k:Nat)(M':List Nat)(d:DS)(h:Here tk.K v.mg x st ps)(S:FnScope N ps (za0 st))(hb:QBody tk v.P v.w v.mg v.base k x st N (cS .e [] [] M' [] d))(hN:ps.length<=N.length:=by decide):Cl v (k+1) x ps (spP .e ps.length (fnP N.length d)):=h.qP S hb hN
theorem _root_.L3.Here.vD(k:Nat)(M':List Nat)(d:DS)(h:Here tk.K v.mg x st ps)(S:FnScope N ps (za0 st))(hb:QBody tk v.P v.w v.mg v.base k x st N (cS .b [] [] M' [] d))(hN:ps.length<=N.length:=by decide):Cl v (k+1) x ps (spD ps.length (zin N.length d)):=h.qD S hb hN
theorem _root_.L3.Here.vN(k:Nat)(M':List Nat)(d:DS)(h:Here tk.K v.mg x st ps)(S:FnScope N ps (za0 st))(hb:QBody tk v.P v.w v.mg v.base k x st N (cS .n [] [] M' [] d))(hN:ps.length<=N.length:=by decide):Cl v (k+1) x ps (spP .n ps.length (zin N.length d)):=h.qN S hb hN
theorem _root_.L3.Here.vI(k:Nat)(M':List Nat)(d:DS)(h:Here tk.K v.mg x st ps)(S:FnScope N ps (za0 st))(hb:QBody tk v.P v.w v.mg v.base k x st N (cS .e [0] [0] M' [] d))(hN:ps.length<=N.length:=by decide):Cl v (k+1) x ps (spI .e ps.length (fnI N.length d)):=h.qI S hb hN
end
def Fd(K:j8)(x:Str)(st:Qw):Prop:=∃(f:ji) (oc:j6) (od:Option ji) (sl:Array (Option j6)) (kV dc pm:j6) (an:Option ji) (cd ct:j6),jV K jC x=some (some (.ref f))/\K.lookup f=some ⟨oc,od,.func (jU x x (zbq st) (zau st) (za0 st) .none kV dc pm an cd ct),sl⟩/\QF K cd x=true/\jY K (.ref f)=true
section
variable {h:Qs}{p1 p2 p3 p4 p5 p6:Str}
theorem Fd.mk{f:ji}{oc:j6}{od:Option ji}{sl:Array (Option j6)}{kV dc pm:j6}{an:Option ji}{cd ct:j6}(a:jV K jC x=some (some (.ref f)))(l:K.lookup f=some ⟨oc,od,.func (jU x x (zbq st) (zau st) (za0 st) .none kV dc pm an cd ct),sl⟩)(c:QF K cd x=true)(k:jY K (.ref f)=true):Fd K x st:=⟨f,oc,od,sl,kV,dc,pm,an,cd,ct,a,l,c,k⟩
def Bd(x:Str)(st:Qw)(ps:List Str):Prop:=∀(kV doc pm:j6) (an:Option ji) (cdv ct:j6) (us:List j6),us.length=ps.length->Y1 (jU x x (zbq st) (zau st) (za0 st) .none kV doc pm an cdv ct) ⟨us,[]⟩=pure (ps.zip us)
theorem Fd.here{ps:List Str}(X:K.In h)(G:h.Ns jC mg)(a:Fd K x st)(hb:Bd x st ps):Here K mg x st ps:=by
 obtain⟨f,oc,od,sl,kV,dc,pm,an,cd,ct,a,l,c,k⟩:=a;exact zr7 X G hb a l c k
theorem bd1(h:∀(kV doc pm:j6) (an:Option ji) (cdv ct u1:j6),Y1 (jU x x (zbq st) (zau st) (za0 st) .none kV doc pm an cdv ct) ⟨[u1],[]⟩=pure [(p1,u1)]):Bd x st [p1]:=fun a b c d e f us hl=>by
 cases us with
 |nil=>cases hl
 |cons u us=>cases us with
  |nil=>exact h a b c d e f u
  |cons _ _=>cases hl
theorem bd2(h:∀(kV doc pm:j6) (an:Option ji) (cdv ct u1 u2:j6),Y1 (jU x x (zbq st) (zau st) (za0 st) .none kV doc pm an cdv ct) ⟨[u1,u2],[]⟩=pure [(p1,u1),(p2,u2)]):Bd x st [p1,p2]:=fun a b c d e f us hl=>by
 obtain⟨u1,u2,rfl⟩:∃ u1 u2,us=[u1,u2]:=by
  cases us with
  |nil=>cases hl
  |cons u us=>obtain⟨u2,rfl⟩:=gJ.mp (WS hl); exact⟨u,u2,rfl⟩
 exact h a b c d e f u1 u2
theorem zwr{us:List j6}(h:us.length=3):∃ u1 u2 u3,us=[u1,u2,u3]:=by
 match us,h with
 |[a,b,c],_=>exact⟨a,b,c,rfl⟩
theorem bd3(h:∀(kV doc pm:j6) (an:Option ji) (cdv ct u1 u2 u3:j6),Y1 (jU x x (zbq st) (zau st) (za0 st) .none kV doc pm an cdv ct) ⟨[u1,u2,u3],[]⟩=pure [(p1,u1),(p2,u2),(p3,u3)]):Bd x st [p1,p2,p3]:=fun a b c d e f us hl=>by
 obtain⟨u1,u2,u3,rfl⟩:=zwr hl;exact h a b c d e f u1 u2 u3
theorem bd4(h:∀(kV doc pm:j6) (an:Option ji) (cdv ct u1 u2 u3 u4:j6),Y1 (jU x x (zbq st) (zau st) (za0 st) .none kV doc pm an cdv ct) ⟨[u1,u2,u3,u4],[]⟩=pure [(p1,u1),(p2,u2),(p3,u3),(p4,u4)]):Bd x st [p1,p2,p3,p4]:=fun a b c d e f us hl=>by
 cases us with
 |nil=>cases hl
 |cons u us=>obtain⟨u1,u2,u3,rfl⟩:=zwr (WS hl); exact h a b c d e f u u1 u2 u3
end
theorem zuf{l:Y6}{q:jE}{loose:List Str}{XP:(Str->Option j6)->Qs->Prop}{YP:Qa->Qs->Prop}{d:DefRec}{K:Params->j8}{x:Str}{k:Nat}(hn:l.most=some 63)(hdf:d.params.defaults=[])(hk:k < 60)
  (hY:∀(w:Qa) (h:Qs),YP w h->(K w.params).In h)
  (F:∀(w:Qa) (mg:Str->Option j6) (fa:ji) (h:Qs),(K w.params).In h->h.Ns jC mg->mg d.name=some (.ref fa)->
   ∃ fd:QN,(∀(s:ja) (u:j6),Nm s fd ⟨[u],[]⟩ [(x,u)])/\∀ base:Qs,(K w.params).In base->base.Ns jC mg->FnOk l.prog w (K w.params) mg base CX0 k fa fd [x] (zlx (K w.params))) :
  JI q loose XP YP l.row.toRowW d [] (fun f vs=>JC f vs):=
 L2.zpK (n:=63) (k:=k) (x:=x) (CX:=fun _=>CX0) (sp:=fun w=>zlx (K w.params)) hn (by decide) hdf (Room.mono (k:=60) ⟨rfl,by decide,by decide⟩ (by lia)) hY F (fun _ _ a ns hl hO hS=>⟨a,ns,rfl,hO,hS,hl,fun _=>rfl⟩) fun _ _ _ _ _ z=>z
structure Ax where
 (C D r1 r2 r3 r4:ji)
section
variable [tk:TheK](v:Ev)
abbrev ClR(k:Nat)(x:Str)(ps:List Str)(sp:Sp):Prop:=CalR v.P v.w tk.K v.mg v.base k x ps sp
abbrev ClH(k:Nat)(x:Str)(ps:List Str)(sp:Sp):Prop:=CalH v.P v.w tk.K v.mg v.base k x ps sp
abbrev Mw(a:Ax):Prop:=Mv tk.K v.mg v.base a.C a.D a.r1 a.r2 a.r3 a.r4
abbrev Nd(a:Ax):Prop:=∃ bm,XClsI tk.K v.base a.r2 a.D bm
end
section
variable {P:jE}{w:Qa}{base:Qs}{j k:Nat}{sp:Sp}
theorem CalR.up(h:CalR P w K mg base j x ps sp)(hjk:j<=k:=by decide):CalR P w K mg base k x ps sp:=h.mono hjk
theorem CalH.up(h:CalH P w K mg base j x ps sp)(hjk:j<=k:=by decide):CalH P w K mg base k x ps sp:=h.mono hjk
end
section
variable [tk:TheK]{v:Ev}{N:List Str}
theorem _root_.L3.Here.vR(k:Nat)(C:ji)(d:DR)(h:Here tk.K v.mg x st ps)(S:FnScope N ps (za0 st))(hb:zpI tk v.P v.w v.mg v.base k x st N C d)(hN:ps.length<=N.length:=by decide):ClR v (k+1) x ps (spR C ps.length (fnR N.length d)):=h.qR S hb hN
theorem _root_.L3.Here.vI0(k:Nat)(M':List Nat)(d:DS)(h:Here tk.K v.mg x st ps)(S:FnScope N ps (za0 st))
  (hb:∀(f:ji) (cdv:j6) (A:Q3) (outer:List Env) (s:ja) (H:Hp) (E:XK),Room k (A.deeper (QJ x (za0 st) s.heap.objs.size f cdv))->A.frames=some outer->
   znP (zff CX0 v.P v.w tk.K v.mg v.base N x (za0 st) f cdv A outer s H E) (zau st) (cS .e [0] [0] M' [] d)) (hN:ps.length<=N.length:=by decide):Cl v (k+1) x ps (spI .e ps.length (fnI N.length d)):=h.okI0 S hb hN
end
section
variable {h:Qs}
theorem zoC{l:Y6}{w:Qa}{fa:ji}{N:List Str}{p:Str}{k:Nat}{d:DS}{M' Mb:List Nat}(X:K.In h)(G:h.Ns jC mg)(hfa:mg "law"=some (.ref fa))(a:Fd K "law" st)(sc:FnScope N [p] (za0 st))
  (hbt:∀(kV dc pm:j6) (an:Option ji) (cd ct v:j6),Y1 (jU "law" "law" (zbq st) (zau st) (za0 st) .none kV dc pm an cd ct) ⟨[v],[]⟩=pure [(p,v)]) (hN:1<=N.length)
  (hd:∀ ns:List Int,fnP N.length d [.scr ns]=some (.bl true)) (hb:∀ base:Qs,K.In base->base.Ns jC mg->QBody ⟨K⟩ l.prog w mg base k "law" st N (@cS ⟨K⟩ .e [] [] M' Mb d)) :
  ∃ fd:QN,(∀(s:ja) (v:j6),Nm s fd ⟨[v],[]⟩ [(p,v)])/\∀ base:Qs,K.In base->base.Ns jC mg->FnOk l.prog w K mg base CX0 (k+1) fa fd [p] (zlx K):=by
 obtain⟨f,oc,od,sl,kV,dc,pm,an,cd,ct,a,ll,c,kk⟩:=a;have e:=hfa.symm.trans (Zw X G a);cases e;exact⟨jU "law" "law" (zbq st) (zau st) (za0 st) .none kV dc pm an cd ct,fun s v=>.of_eq (hbt kV dc pm an cd ct v),fun base KB GB=>zvD (tk:=⟨K⟩) (zpy (st:=st) ll c kk) sc (hb base KB GB) hN fun ns _=>hd ns⟩
end
theorem vdV(i:Nat)(s:Sg):dV i s=(s[i]?).join.map fun t=>(t,s):=rfl
theorem vdC(t:T)(s:Sg):dC t s=some (t,s):=rfl
theorem vd2(g:T->T->Option T)(fa fb:DE)(s:Sg):d2 g fa fb s=(fa s).bind fun p=>(fb p.2).bind fun q=>(g p.1 q.1).map fun t=>(t,q.2):=rfl
theorem zwO(g:T->T->Option T)(i:Nat)(fb:DE)(s:Sg):d2v g i fb s=(s[i]?).join.bind fun _=>(fb s).bind fun q=>(q.2[i]?).join.bind fun x=>(g x q.1).map fun t=>(t,q.2):=rfl
theorem vdB(f:DE)(s:Sg):dB f s=(f s).bind fun p=>match p.1 with
 |.bl b=>some (b,p.2)
 |_=>none:=rfl
theorem zuk(f:DE)(s:Sg):znU f s=(f s).bind fun p=>(tru p.1).map fun b=>(b,p.2):=rfl
theorem zuB(f g:DT)(s:Sg):zpC f g s=(f s).bind fun p=>if p.1 then g p.2 else some (false,p.2):=rfl
theorem zwD(f g:DT)(s:Sg):dOr f g s=(f s).bind fun p=>if p.1 then some (true,p.2) else g p.2:=rfl
theorem zut(f:DT)(s:Sg):zoS f s=(f s).map fun p=>(!p.1,p.2):=rfl
theorem zrW(f g:DE)(s:Sg):zrp f g s=(dB f s).bind fun p=>if p.1 then g p.2 else some (.bl false,p.2):=rfl
theorem zwG(c:DT)(f g:DE)(s:Sg):dIf c f g s=(c s).bind fun p=>if p.1 then f p.2 else g p.2:=rfl
theorem zwM(s:Sg):dAn  s=some ([],s):=rfl
theorem zwN(f:DE)(g:DA)(s:Sg):dAc f g s=(f s).bind fun p=>(g p.2).map fun q=>(p.1::q.1,q.2):=rfl
theorem zuv(f:DA)(s:Sg):zeI f s=(f s).bind fun p=>if p.1.length<=jn then some (.lst p.1,p.2) else none:=rfl
theorem zuj(f:DA)(s:Sg):zlg f s=(f s).bind fun p=>if p.1.length<=jn then some (.tup p.1,p.2) else none:=rfl
theorem zrU(s:Sg):zlZ  s=some (.dct [],s):=rfl
theorem zwE(s:Sg):dOn  s=some (none,s):=rfl
theorem zwC(f:DE)(s:Sg):dOs f s=(f s).bind fun p=>match p.1 with
 |.int i=>some (some i,p.2)
 |_=>none:=rfl
theorem zwB(g:T->Option Int->Option Int->Option T)(f:DE)(l h:DO)(s:Sg):dSl g f l h s=(f s).bind fun p=>(l p.2).bind fun q=>(h q.2).bind fun r=>(g p.1 q.1 r.1).map fun t=>(t,r.2):=rfl
theorem zul(g:T->Option Int->Option Int->Option T)(i:Nat)(l h:DO)(s:Sg):zu7 g i l h s=(s[i]?).join.bind fun _=>(l s).bind fun q=>(h q.2).bind fun r=>(r.2[i]?).join.bind fun x=>(g x q.1 r.1).map fun t=>(t,r.2):=rfl
theorem zun(f g:DS)(s:Sg):zaj f g s=(f s).bind fun r=>match r with
 |.nx s'=>g s'
 |r=>some r:=rfl
theorem zrT(s:Sg):zay  s=some (.nx s):=rfl
theorem zum(i:Nat)(f:DE)(s:Sg):zaB i f s=(f s).bind fun p=>if i < p.2.length then some (.nx (p.2.set i (some p.1))) else none:=rfl
theorem zuy(c:DT)(f g:DS)(s:Sg):zcx c f g s=(c s).bind fun p=>if p.1 then f p.2 else g p.2:=rfl
theorem zwK(f:DE)(s:Sg):dDo f s=(f s).map fun p=>.nx p.2:=rfl
theorem zrS(io:List Nat)(f:DE)(s:Sg):zan io f s=(f s).bind fun p=>if hasAll io p.2 then some (.rt p.1 p.2) else none:=rfl
theorem zuu(g:T->List T->Option (T × T))(i:Nat)(fa:DA)(s:Sg):zhp g i fa s=(s[i]?).join.bind fun t0=>if znl t0 then (fa s).bind fun p=>(p.2[i]?).join.bind fun t=>(g t p.1).map fun q=>(q.2,p.2.set i (some q.1)) else none:=rfl
theorem zus(i:Nat)(fk fv:DE)(s:Sg):zpB i fk fv s=(fv s).bind fun p=>(p.2[i]?).join.bind fun _=>(fk p.2).bind fun q=>(q.2[i]?).join.bind fun t=>match t with
 |.dct kvs=>(zh7 q.1).bind fun k=>if kvs.length < jn then some (.nx (q.2.set i (some (.dct (zfH kvs k p.1))))) else none
 |_=>none:=rfl
theorem zrP(i:Nat)(fk fv:DE)(s:Sg):zjg i fk fv s=(fv s).bind fun p=>(p.2[i]?).join.bind fun _=>(fk p.2).bind fun q=>(q.2[i]?).join.bind fun t=>match t,q.1 with
 |.lst xs,.int k=>(ixN xs.length k).map fun j=>.nx (q.2.set i (some (.lst (xs.set j p.1))))
 |_,_=>none:=rfl
theorem zwA(is:List Nat)(f:DE)(s:Sg):dUn is f s=(f s).bind fun p=>(zl0 p.1).bind fun ts=>(zbG is ts p.2).map .nx:=rfl
theorem zuq(f:DA)(s:Sg):znV f s=(f s).bind fun p=>match p.1 with
 |[.int j]=>if zfP j=true then some (zaN 0 j.toNat,p.2) else none
 |_=>none:=rfl
theorem zup(f:DA)(s:Sg):ztI f s=(f s).bind fun p=>match p.1 with
 |[.int i,.int j]=>if zfP i=true/\zfP j=true then some (zaN i (j - i).toNat,p.2) else none
 |_=>none:=rfl
theorem zwJ(f:DA)(s:Sg):dEn f s=(f s).bind fun p=>match p.1 with
 |[.lst xs]=>some (zkj xs,p.2)
 |_=>none:=rfl
theorem zwI(i:Nat)(t:T)(s:Sg):dGn i t s=if i < s.length then some (s.set i (some t)) else none:=rfl
theorem zwH(is:List Nat)(t:T)(s:Sg):dGt is t s=match t with
 |.tup ts=>zbG is ts s
 |_=>none:=rfl
theorem zrV(fn:List T->Option T)(fa:DA)(s:Sg):zai fn fa s=(fa s).bind fun p=>(fn p.1).map fun t=>(t,p.2):=rfl
theorem zpN(fn:List T->Option (T × T))(i:Nat)(fa:DA)(s:Sg):zfa fn i fa s=(s[i]?).join.bind fun _=>(fa s).bind fun p=>(p.2[i]?).join.bind fun t0=>(fn (t0::p.1)).map fun q=>(q.1,p.2.set i (some q.2)):=rfl
theorem zpM(fn:List T->Option (T × T))(f0:DE)(fa:DA)(s:Sg):zgQ fn f0 fa s=(f0 s).bind fun p=>(fa p.2).bind fun q=>(fn (p.1::q.1)).map fun r=>(r.1,q.2):=rfl
theorem vd1(g:T->Option T)(f:DE)(s:Sg):d1 g f s=(f s).bind fun p=>(g p.1).map fun t=>(t,p.2):=rfl
theorem zwP(g:T->T->Option T)(fa fb:DE)(s:Sg):d2L g fa fb s=(fa s).bind fun p=>if znl p.1 then (fb p.2).bind fun q=>(g p.1 q.1).map fun t=>(t,q.2) else none:=rfl
theorem zuw(f:DE)(s:Sg):zcs f s=(f s).bind fun p=>match p.1 with
 |.lst xs=>some (xs,p.2)
 |.scr ns=>some (ns.map .int,p.2)
 |.tup xs=>some (xs,p.2)
 |.fd kvs=>some (kvs.map fun kv=>kT kv.1,p.2)
 |.str x=>some (x.cps.toList.map zly,p.2)
 |_=>none:=rfl
theorem zwL(g g':T->T->Option T)(fa fb fc:DE)(s:Sg):dCh g g' fa fb fc s=(fa s).bind fun x=>(fb x.2).bind fun y=>(g x.1 y.1).bind fun r=>match r with
 |.bl true=>(fc y.2).bind fun z=>(g' y.1 z.1).map fun t=>(t,z.2)
 |.bl false=>some (.bl false,y.2)
 |_=>none:=rfl
theorem zur(f:DE)(k:DO)(s:Sg):zvX f k s=(f s).bind fun p=>(k p.2).bind fun q=>if q.1=some (-1) then (zu5 p.1).map fun t=>(t,q.2) else none:=rfl
theorem zwF(f:DA)(s:Sg):dLR f s=(f s).bind fun p=>match p.1 with
 |[.int j]=>if zfP j=true then some (.lst (zaN 0 j.toNat),p.2) else none
 |_=>none:=rfl
theorem zuz(i:Nat)(d:DS)(s:Sg):zrn i d s=match (s[i]?).join with
 |some (.dct kvs)=>d (s.set i (some (.fd kvs)))
 |_=>none:=rfl
theorem zrQ(s:Sg):zrk  s=some (.set (fun _=>false) 0,s):=rfl
theorem zrR(i:Nat)(fe:DE)(s:Sg):zrl i fe s=(s[i]?).join.bind fun t0=>match t0 with
 |.set _ _=>(fe s).bind fun p=>(p.2[i]?).join.bind fun t1=>match p.1,t1 with
  |.int k,.set S n=>if n < 1000 then some (.non,p.2.set i (some (.set (fun j=>S j||decide (j=k)) (if S k then n else n+1)))) else none
  |_,_=>none
 |_=>none:=rfl
theorem zo1(fn:List T->Option T)(i:Nat)(f0:DE)(fa:DA)(s:Sg):zgR fn i f0 fa s=(f0 s).bind fun p=>(p.2[i]?).join.bind fun _=>(fa p.2).bind fun q=>(q.2[i]?).join.bind fun t0=>(fn (p.1::t0::q.1)).bind fun t=>if zh8 t=true then some (t,q.2) else none:=rfl
theorem zuo(d:DS)(s:Sg):zu8 d s=match d s with
 |some (.rt t s')=>some (.rt t s')
 |_=>none:=rfl
theorem zpL(fn:List T->Option T)(fa:DA)(x:Nat)(d:DS)(s:Sg):zjh fn fa x d s=(fa s).bind fun p=>(fn p.1).bind fun t=>if x < p.2.length then (d (p.2.set x (some t))).bind (unD x) else none:=rfl
theorem zuh(f:DA)(s:Sg):zu6 f s=(f s).bind fun p=>match p.1 with
 |[.lst xs,.lst ys]=>some (zpJ xs ys,p.2)
 |_=>none:=rfl
theorem zuA(fe:DE)(s:Sg):ztJ fe s=(fe s).bind fun p=>match p.1 with
 |.lst ts=>if ts.all zh8=true then some p else none
 |_=>none:=rfl
theorem zux(c:String)(f:DE)(s:Sg):zu9 c f s=(f s).bind fun p=>((isi c p.1).map T.bl).map fun t=>(t,p.2):=rfl
theorem zui(s:Sg):zg6 s=some (true,s):=rfl
def nT(k:Nat):T:=.int (k:Int)
theorem vnT(k:Nat):nT k=.int (k:Int):=rfl
theorem zrY(i j:Int):zax (.int i) (.int j)=some (.int (i+j)):=rfl
theorem zmb{a b:List T}(h:a.length+b.length<=1000000):zax (.lst a) (.lst b)=some (.lst (a++b)):=by
 have q:a.length+b.length<=jn:=zc6 h;simp only[zax,orG,zrd,zoH,q,if_true]
theorem zuN{a b:List T}(h:a.length+b.length<=1000000):zoH (.lst a) (.lst b)=some (.lst (a++b)):=by
 have q:a.length+b.length<=jn:=zc6 h;simp only[zoH,q,if_true]
theorem zrX{a b:Str}(h:a.length+b.length<=1000000):zax (.str a) (.str b)=some (.str (a++b)):=by
 have q:a.length+b.length<=jn:=zc6 h;simp only[zax,orG,zrd,q,if_true]
theorem vSb(i j:Int):gSb (.int i) (.int j)=some (.int (i - j)):=rfl
theorem zwT{i j:Int}(h:-1000000000000<=i/\i<=1000000000000∨-1000000000000<=j/\j<=1000000000000):zgI (.int i) (.int j)=some (.int (i*j)):=by
 have:zpF i j=true:=by unfold zpF; rw[Z9,decide_eq_true_iff,decide_eq_true_iff]; lia
 simp only[zgI,gI,this,if_true]
theorem zwZ{i j:Int}(h:0 < j/\j<=1000000000):zfe (.int i) (.int j)=some (.int (i / j)):=by
 have:zub i j=true:=Dt_ (by lia)
 simp only[zfe,gI,this,if_true]
theorem zwa{i j:Int}(h:0 < j):ze8 (.int i) (.int j)=some (.int (i%j)):=by
 have:zua i j=true:=Dt_ h;simp only[ze8,gI,this,if_true]
theorem zwQ(i:Int):zl5 (.int i)=some (.int (-i)):=rfl
theorem vLt(i j:Int):gLt (.int i) (.int j)=some (.bl (decide (i < j))):=rfl
theorem vLe(i j:Int):gLe (.int i) (.int j)=some (.bl (decide (i<=j))):=rfl
theorem vGt(i j:Int):gGt (.int i) (.int j)=some (.bl (decide (j < i))):=rfl
theorem vGe(i j:Int):gGe (.int i) (.int j)=some (.bl (decide (j<=i))):=rfl
theorem zwX(i j:Int):gEq (.int i) (.int j)=some (.bl (decide (i=j))):=by simp only[gEq,zki,jP]; rfl
theorem zwR(i j:Int):gNe (.int i) (.int j)=some (.bl (!decide (i=j))):=by simp only[gNe,zki,jP]; rfl
theorem zwY(i j:Bool):gEq (.bl i) (.bl j)=some (.bl (i == j)):=by simp only[gEq,zpz,jP]
theorem zwS(i j:Bool):gNe (.bl i) (.bl j)=some (.bl (!(i == j))):=by simp only[gNe,zpz,jP]
theorem zwc(i j:Str):gEq (.str i) (.str j)=some (.bl (decide (i=j))):=by
 simp only[gEq,zkh,jP]
 by_cases h:i=j<;>simp[h]
theorem zw9(i j:Str):gNe (.str i) (.str j)=some (.bl (!decide (i=j))):=by
 simp only[gNe,zkh,jP]
 by_cases h:i=j<;>simp[h]
theorem zs3(xs ys:List Str):gEq (.lst (xs.map T.str)) (.lst (ys.map T.str))=some (.bl (decide (xs=ys))):=by simp only[gEq,zl9,jP]
theorem zrZ(xs ys:List Str):gNe (.lst (xs.map T.str)) (.lst (ys.map T.str))=some (.bl (!decide (xs=ys))):=by simp only[gNe,zl9,jP]
theorem zla{n:Nat}(xs ys:List Nat):eqD (n+1) (.lst (xs.map nT)) (.lst (ys.map nT))=some (decide (xs=ys)):=znC (fun a b=>by
 rw[vnT,vnT,zki]; refine congrArg some ?_
 by_cases h:a=b
 ·subst h; simp
 ·rw[Df_ h]; simp; lia) xs ys
theorem zuM(xs ys:List Nat):gEq (.lst (xs.map nT)) (.lst (ys.map nT))=some (.bl (decide (xs=ys))):=by simp only[gEq,zla,jP]
theorem zuI(xs ys:List Nat):gNe (.lst (xs.map nT)) (.lst (ys.map nT))=some (.bl (!decide (xs=ys))):=by simp only[gNe,zla,jP]
theorem zpR(xs:List T):zcm (.lst xs)=some (.int xs.length):=rfl
theorem zuJ(xs:List T):zcm (.tup xs)=some (.int xs.length):=rfl
theorem zuL(xs:List (Key × T)):zcm (.dct xs)=some (.int xs.length):=rfl
theorem zuK(xs:List Int):zcm (.scr xs)=some (.int xs.length):=rfl
theorem zlp{α:Type}(xs:List α)(k:Nat):atI xs (k:Int)=xs[k]?:=by
 unfold atI ixN;rw[Ip_ (by lia)]
 split
 ·simp
 ·rename_i h;rw[Option.bind_none,eq_comm,Yq]; lia
theorem zeL(xs:List T)(k:Nat):za3 (.lst xs) (.int (k:Int))=xs[k]?:=by
 have:za3 (.lst xs) (.int (k:Int))=orG gIx zrb (.lst xs) (.int (k:Int)):=rfl;rw[this]; unfold orG;have e:gIx (.lst xs) (.int (k:Int))=xs[k]?:=by show atI xs (k:Int)=_; exact zlp xs k
 rw[e];cases xs[k]?<;>rfl
theorem zs2(xs:List T)(k:Nat):za3 (.tup xs) (.int (k:Int))=xs[k]?:=by
 have:za3 (.tup xs) (.int (k:Int))=orG gIx zrb (.tup xs) (.int (k:Int)):=rfl;rw[this]; unfold orG;have e:gIx (.tup xs) (.int (k:Int))=xs[k]?:=by show atI xs (k:Int)=_; exact zlp xs k
 rw[e];cases xs[k]?<;>rfl
theorem zmc(kvs:List (Key × T))(x:Str):za3 (.dct kvs) (.str x)=zbb kvs (.inr x):=by
 show (match (none:Option T) with |some t=>some t |none=>_)=_
 rfl
theorem zpT(kvs:List (Key × T))(x:Int):za3 (.dct kvs) (.int x)=zbb kvs (.inl x):=rfl
theorem zuH(b:Bool):tru (.bl b)=some b:=rfl
theorem zuF(xs:List T):tru (.lst xs)=some (!xs.isEmpty):=rfl
theorem zuG(i:Int):tru (.int i)=some (i != 0):=rfl
theorem zs1(xs:List T):zd5 (.lst xs)=some (.lst xs):=rfl
theorem zs0(xs:List T):zd5 (.tup xs)=some (.lst xs):=rfl
theorem zpV{xs:List Str}(x:Str)(h:xs.length<=1000000):zk1 (.lst (xs.map T.str)) [.str x]=some (.lst ((xs++[x]).map T.str),.non):=by
 have q:(xs.map T.str).length < jn:=zcy (by rw[j5]; exact h)
 simp only[zk1,q,if_true,jy,jr,Zr]
theorem zuO{xs:List Nat}(x:Nat)(h:xs.length<=1000000):zk1 (.lst (xs.map nT)) [.int (x:Int)]=some (.lst ((xs++[x]).map nT),.non):=by
 have q:(xs.map nT).length < jn:=zcy (by rw[j5]; exact h)
 simp only[zk1,q,if_true,jy,jr,Zr,vnT]
theorem zo2{xs:List T}(x:T)(h:xs.length<=1000000):zk1 (.lst xs) [x]=some (.lst (xs++[x]),.non):=by
 have q:xs.length < jn:=zcy h;simp only[zk1,q,if_true]
theorem zjA(x:Str)(xs:List Str):zaK (.str x) (.lst (xs.map T.str))=some (.bl (!decide (x∈xs))):=by
 simp only[zaK,orG,zj4,zra,toV,zgb,j7,jP,zl3]
theorem zwU(x:Str)(xs:List Str):ztr (.str x) (.lst (xs.map T.str))=some (.bl (decide (x∈xs))):=by
 simp only[ztr,orG,gIn,zra,toV,zgb,j7,jP,zl3]
theorem ziw(xs:List Nat):zkA (xs.map nT)=some (xs.map fun(k:Nat)=>V.int (k:Int)):=by
 induction xs with
 |nil=>rfl
 |cons x xs ih=>rw[jr]; unfold zkA; rw[ih]; rfl
theorem zl4(x:Nat)(xs:List Nat):inV (.int (x:Int)) (xs.map fun(k:Nat)=>V.int (k:Int))=decide (x∈xs):=by
 unfold inV;rw[WX,Zp,N7,decide_eq_true_iff];constructor
 ·rintro⟨y,hy,e⟩;have:(y:Int)=x:=by simpa[eqV] using e
  have:y=x:=by lia
  exact this▸hy
 ·intro h;exact⟨x,h,by simp[eqV]⟩
theorem zwV(x:Nat)(xs:List Nat):ztr (.int (x:Int)) (.lst (xs.map nT))=some (.bl (decide (x∈xs))):=by
 simp only[ztr,orG,gIn,zra,toV,ziw,j7,jP,zl4]
theorem zpP(x:Nat)(xs:List Nat):zaK (.int (x:Int)) (.lst (xs.map nT))=some (.bl (!decide (x∈xs))):=by
 simp only[zaK,orG,zj4,zra,toV,ziw,j7,jP,zl4]
theorem zwW(x:Str)(kvs:List (Key × T)):ztr (.str x) (.dct kvs)=some (.bl (zbb kvs (.inr x)).isSome):=rfl
theorem zpQ(x:Str)(kvs:List (Key × T)):zaK (.str x) (.dct kvs)=some (.bl (!(zbb kvs (.inr x)).isSome)):=rfl
theorem zpU(x:Str)(xs:List Str):zhn (.lst (xs.map T.str)) (.str x)=some (.int (xs.count x:Nat)):=by
 simp only[zhn,zgb,toV,j7,jP,zkt]
theorem zrL(xs:List T):isi "list" (.lst xs)=some true:=by simp[isi]
theorem zrM(i:Int):isi "int" (.int i)=some true:=by simp[isi]
theorem zrN(i:Int):isi "bool" (.int i)=some false:=by simp[isi]
theorem zrO(b:Bool):isi "bool" (.bl b)=some true:=by simp[isi]
theorem zrJ(xs:List T):isi "tuple" (.tup xs)=some true:=by simp[isi]
theorem zrK(x:Str):isi "str" (.str x)=some true:=by simp[isi]
theorem zlP(s:Sg):hasAll [] s=true:=rfl
theorem zln(bs:List Bool):ztN (bs.map T.bl)=some bs:=by
 induction bs with
 |nil=>rfl
 |cons b bs ih=>rw[jr]; unfold ztN; rw[ih]; rfl
theorem zuQ(bs:List Bool):zwu (.lst (bs.map T.bl))=some (.bl (bs.all id)):=by simp only[zwu,zln,jP]
theorem zuP(bs:List Bool):zwt (.lst (bs.map T.bl))=some (.bl (bs.any id)):=by simp only[zwt,zln,jP]
theorem znk(xs:List T):znl (.lst xs)=true:=rfl
theorem sz0:0<=jn:=Z8 _
theorem sz1:1<=jn:=zc6 (by lia)
theorem sz2:2<=jn:=zc6 (by lia)
theorem sz3:3<=jn:=zc6 (by lia)
theorem sz4:4<=jn:=zc6 (by lia)
theorem rgN{k:Nat}(h:k<=2000):zfP (k:Int)=true:=zdf (by lia) (by lia)
theorem zgD{α:Type}{M:List Nat}{caps:List (Option Nat)}{fi:DI}{dg:DG}{ft:DT}{fe:DE}{s:Sg}(xs:List α)(enc:α->T)(b:α->Bool)(e:α->T)(hi:fi s=some (xs.map enc,s))(hl:xs.length<=1000000)
  (h:∀ x∈xs,∃ s1,dg (enc x) (zjw caps s)=some s1/\ft s1=some (b x,s1)/\(b x=true->fe s1=some (e x,s1))/\zaA M caps s1 s=s):dLC M caps fi dg ft fe s=some (.lst ((xs.filter b).map e),s):=by
 have key:∀(ys:List α) (acc:List T),(∀ y∈ys,y∈xs)->zpr M caps dg ft fe (ys.map enc) acc s=some (acc++(ys.filter b).map e,s):=by
  intro ys
  induction ys with
  |nil=>intro acc _; unfold zpr; simp
  |cons y ys ih=>
   intro acc hy;obtain⟨s1,h1,h2,h3,h4⟩:=h y (hy y jX);rw[jr];unfold zpr;rw[h1,j7,h2,j7];have ih':=fun acc=>ih acc fun z hz=>hy z (jw _ hz);cases hb:b y with
   |true=>rw[Ip_ rfl,h3 hb,j7,h4,ih',ZA,Ip_ hb,jr,Qh]; rfl
   |false=>rw[In_ jK,h4,ih',ZA,In_ (by rw[hb]; exact jK)]
 unfold dLC;rw[hi,j7];have q:(xs.map enc).length<=zfT:=zqY (by rw[j5]; exact hl)
 rw[Ip_ q,key xs [] (fun _ h=>h),jP];rfl
theorem zdn{α:Type}{M:List Nat}{caps:List (Option Nat)}{fi:DI}{dg:DG}{fe:DE}{s:Sg}(xs:List α)(enc:α->T)(e:α->T)(hi:fi s=some (xs.map enc,s))(hl:xs.length<=1000000)
  (h:∀ x∈xs,∃ s1,dg (enc x) (zjw caps s)=some s1/\fe s1=some (e x,s1)/\zaA M caps s1 s=s):dLC M caps fi dg zg6 fe s=some (.lst (xs.map e),s):=by
 have:=zgD (M:=M) (caps:=caps) (fi:=fi) (dg:=dg) (ft:=zg6) (fe:=fe) (s:=s) xs enc (fun _=>true) e hi hl fun x hx=>by
  obtain⟨s1,h1,h2,h3⟩:=h x hx;exact⟨s1,h1,rfl,fun _=>h2,h3⟩
 rw[this,List.filter_eq_self.mpr (fun _ _=>rfl)]
theorem zhP{kvs:List (Key × T)}{k:Key}(t:T)(h:k∉kvs.map (·.1)):zfH kvs k t=kvs++[(k,t)]:=by
 unfold zfH;rw[In_];intro z;obtain⟨kv,h1,h2⟩:=N7.mp z;exact h (jB.mpr ⟨kv,h1,of_decide_eq_true h2⟩)
theorem ztG{α:Type}{M:List Nat}{caps:List (Option Nat)}{fi:DI}{dg:DG}{fk fe:DE}{s:Sg}(xs:List α)(enc:α->T)(k:α->T)(kk:α->Key)(e:α->T)(hi:fi s=some (xs.map enc,s))(hl:xs.length<=1000000)(hn:(xs.map kk).Nodup)
  (h:∀ x∈xs,∃ s1,dg (enc x) (zjw caps s)=some s1/\fk s1=some (k x,s1)/\zh7 (k x)=some (kk x)/\fe s1=some (e x,s1)/\zaA M caps s1 s=s):dDC M caps fi dg zg6 fk fe s=some (.dct (xs.map fun x=>(kk x,e x)),s):=by
 have key:∀(ys:List α) (zs:List α),zs++ys=xs->znT M caps dg zg6 fk fe (ys.map enc) (zs.map fun x=>(kk x,e x)) s=some (xs.map (fun x=>(kk x,e x)),s):=by
  intro ys
  induction ys with
  |nil=>intro zs hz; rw[Q8] at hz; subst hz; unfold znT; rfl
  |cons y ys ih=>
   intro zs hz;obtain⟨s1,h1,h2,h3,h4,h5⟩:=h y (by rw[<-hz]; simp)
   rw[jr];unfold znT;have hk:kk y∉(zs.map fun x=>(kk x,e x)).map (·.1):=by
    rw[Q1];intro hm;rw[<-hz,jy,jT] at hn;obtain⟨x,hx,hxe⟩:=jB.mp hm;exact hn.2.2 (kk x) (jB.mpr ⟨x,hx,rfl⟩) (kk y) (by simp) hxe
   rw[h1,j7];simp only[zg6,j7,if_true,h2,h3,h4,h5,zhP _ hk];have:=ih (zs++[y]) (by rw[<-hz]; simp)
   rw[jy] at this;exact this
 unfold dDC;rw[hi,j7];have q:(xs.map enc).length<=zfT:=zqY (by rw[j5]; exact hl)
 have k0:=key xs [] rfl;rw[Zr] at k0;rw[Ip_ q,k0,jP]
theorem ze7{α:Type}(xs:List α)(kk:α->Key)(e:α->T)(k:Key):zbb (xs.map fun x=>(kk x,e x)) k=(xs.find? fun x=>decide (kk x=k)).map e:=by
 unfold zbb;rw[List.find?_map,Option.map_map];rfl
theorem zlb{α:Type}(xs:List α)(enc:α->T):zkj (xs.map enc)=xs.zipIdx.map fun p=>T.tup [.int (p.2:Nat),enc p.1]:=by
 unfold zkj;refine List.ext_getElem (by simp) fun i h1 h2=>?_
 have hi:i < xs.length:=by simpa using h2
 rw[J3,Wh,J3,List.getElem_zipIdx,jW,jf,j3 hi];simp
theorem zhG(m:Nat):zaN 0 m=(jt m).map nT:=by
 unfold zaN;refine QX fun i _=>?_;rw[Nv]; rfl
theorem za5{f g:DS}{s s':Sg}{Q:Fl->Prop}(h:f s=some (.nx s'))(k:Run g s' Q):Run (zaj f g) s Q:=zgk h k
theorem zeX{f g:DS}{s s':Sg}{t:T}{Q:Fl->Prop}(h:f s=some (.rt t s'))(k:Q (.rt t s')):Run (zaj f g) s Q:=⟨_,zpa h,k⟩
theorem zbS{n:Nat}{d:DS}{ts:List T}{t:T}(h:Run d (zaE n ts) fun r=>∃ s,r=.rt t s):fnP n d ts=some t:=by
 obtain⟨r,h1,s,rfl⟩:=h;exact znu h1
theorem zgK{n:Nat}{d:DS}{ts:List T}{t:T}(h:Run d (zaE n ts) fun r=>∃ s,r=.rt t s):zin n d ts=some t:=by
 obtain⟨r,h1,s,rfl⟩:=h;exact znt h1
theorem zb7{d:DS}{s s':Sg}{t t':T}(h:d s=some (.rt t' s'))(k:t'=t):Run d s fun r=>∃ s,r=.rt t s:=⟨_,h,s',by rw[k]⟩
theorem zuE(s:Sg):zjw [] s=[]:=rfl
theorem zuD(cs:List (Option Nat))(s:Sg):zjw (none::cs) s=none::zjw cs s:=rfl
theorem zuC(j:Nat)(cs:List (Option Nat))(s:Sg):zjw (some j::cs) s=(s[j]?).join::zjw cs s:=rfl
theorem zfZ{f g:DS}{s s':Sg}{t t':T}(h:f s=some (.rt t' s'))(k:t'=t):Run (zaj f g) s fun r=>∃ s,r=.rt t s:=⟨_,zpa h,s',by rw[k]⟩
theorem zap{d:DS}{s s':Sg}{P:Sg->Prop}(h:d s=some (.nx s'))(k:P s'):Run d s (ztW P):=⟨_,h,k⟩
def znQ(P:Sg->Prop)(Q:Fl->Prop):Fl->Prop
 |.nx s=>P s
 |.ct s=>P s
 |.rt t s=>Q (.rt t s)
 |.bk _=>False
theorem znb{g:DG}{db:DS}{Q:Fl->Prop}(I:Nat->Sg->Prop):∀(xs:List T) (i:Nat) (s:Sg),I i s->(∀ j x s,xs[j]?=some x->I (i+j) s->∃ s1,g x s=some s1/\Run db s1 (znQ (I (i+j+1)) Q))->
  (∃ s',zdC g db xs s=some (.nx s')/\I (i+xs.length) s')∨∃ t s',zdC g db xs s=some (.rt t s')/\Q (.rt t s')
 |[],i,s,h0,_=>.inl ⟨s,by unfold zdC; rfl,h0⟩
 |x::xs,i,s,h0,h=>by
  obtain⟨s1,h1,r,h2,h3⟩:=h 0 x s rfl h0;have next:∀ s2,I (i+0+1) s2->(∃ s',zdC g db xs s2=some (.nx s')/\I (i+(xs.length+1)) s')∨∃ t s',zdC g db xs s2=some (.rt t s')/\Q (.rt t s'):=fun s2 q=>by
   have:=znb I xs (i+1) s2 q fun j y s e q'=>by
    have z:=h (j+1) y s (by simpa using e)
    rw[show i+(j+1)=i+1+j by lia] at z
    exact z q'
   rw[show i+(xs.length+1)=i+1+xs.length by lia]
   exact this
  rw[jp];cases r with
  |nx s2=>unfold zdC; rw[h1,j7,h2,j7]; exact next s2 h3
  |ct s2=>unfold zdC; rw[h1,j7,h2,j7]; exact next s2 h3
  |bk s2=>exact h3.elim
  |rt t s2=>exact .inr ⟨t,s2,by unfold zdC; rw[h1,j7,h2]; rfl,h3⟩
theorem zhE{fi:DI}{g:DG}{db d:DS}{s s1:Sg}{its:List T}{Q:Fl->Prop}(I:Nat->Sg->Prop)(h:fi s=some (its,s1))(h0:I 0 s1)
  (hs:∀ j x s,its[j]?=some x->I j s->∃ s1,g x s=some s1/\Run db s1 (znQ (I (j+1)) Q)) (k:∀ s',I its.length s'->Run d s' Q):Run (zaj (zeJ fi g db) d) s Q:=by
 rcases znb (g:=g) (db:=db) (Q:=Q) I its 0 s1 h0 (fun j x s e q=>by rw[Z1] at q ⊢; exact hs j x s e q) with ⟨s',h1,h2⟩ |⟨t,s',h1,h2⟩
 ·rw[Z1] at h2;exact zgk (zl6 h h1) (k s' h2)
 ·refine⟨.rt t s',?_,h2⟩;unfold zaj zeJ;rw[h,j7,h1];rfl
theorem zeY{fi:DI}{g:DG}{db:DS}{s s1:Sg}{its:List T}{Q:Fl->Prop}(I:Nat->Sg->Prop)(h:fi s=some (its,s1))(h0:I 0 s1)
  (hs:∀ j x s,its[j]?=some x->I j s->∃ s1,g x s=some s1/\Run db s1 (znQ (I (j+1)) Q)) (k:∀ s',I its.length s'->Q (.nx s')):Run (zeJ fi g db) s Q:=by
 rcases znb (g:=g) (db:=db) (Q:=Q) I its 0 s1 h0 (fun j x s e q=>by rw[Z1] at q ⊢; exact hs j x s e q) with ⟨s',h1,h2⟩ |⟨t,s',h1,h2⟩
 ·rw[Z1] at h2;exact⟨_,zl6 h h1,k s' h2⟩
 ·refine⟨.rt t s',?_,h2⟩;unfold zeJ;rw[h,j7,h1]
theorem zgu{d:DS}{s s':Sg}{P:Sg->Prop}{Q:Fl->Prop}(h:d s=some (.nx s'))(k:P s'):Run d s (znQ P Q):=⟨_,h,k⟩
theorem zjS{d:DS}{s s':Sg}{P:Sg->Prop}{Q:Fl->Prop}{t:T}(h:d s=some (.rt t s'))(k:Q (.rt t s')):Run d s (znQ P Q):=⟨_,h,k⟩
theorem zug(c:Nat):zly c=.str ⟨#[c]⟩:=rfl
end L3
namespace Dw
open PySem PySem.Spec PyProof.Rows L2 L3
theorem zkU(x:Str):∀(wd acc:List Str),x∈wd.foldl stp acc↔x∈acc∨x∈wd
 |[],acc=>by simp
 |y::wd,acc=>by
  rw[Zo,zkU x wd,ju];unfold stp;split
  ·rename_i h;constructor
   ·rintro(q |q)
    ·exact .inl q
    ·exact .inr (.inr q)
   ·rintro(q |q |q)
    ·exact .inl q
    ·exact .inl (q▸h)
    ·exact .inr q
  ·rw[jv,jm];constructor
   ·rintro((q |q) |q)
    ·exact .inl q
    ·exact .inr (.inl q)
    ·exact .inr (.inr q)
   ·rintro(q |q |q)
    ·exact .inl (.inl q)
    ·exact .inl (.inr q)
    ·exact .inr q
theorem mem_firsts{x:Str}{wd:List Str}:x∈zab wd↔x∈wd:=by unfold zab; rw[zkU]; simp
theorem zhj:∀(wd acc:List Str),acc.Nodup->(wd.foldl stp acc).Nodup
 |[],acc,h=>h
 |y::wd,acc,h=>by
  rw[Zo];refine zhj wd _ ?_;unfold stp;split
  ·exact h
  ·rename_i q;rw[jT];exact⟨h,by simp,fun a ha b hb e=>q (by rw[jm] at hb; subst hb; subst e; exact ha)⟩
theorem zdV(wd:List Str):(zab wd).Nodup:=zhj wd [] ZX
theorem zgM(wd:List Str):(zab wd).length<=wd.length:=by have:=zho wd []; simpa[zab] using this
def zfJ(i j:Nat)(ps:List Nat):List Nat:=ps.filter fun k=>decide (i < k)&&decide (k < j)
theorem zfv{wd:List Str}{i j:Nat}(y:Str)(hij:i < j)(hj:j < wd.length):(zlo wd i j).count y=(zfJ i j (zaf wd y)).length:=by
 rw[<-zdR];unfold zaf zfJ zlo;have hl:((wd.drop (i+1)).take (j - (i+1))).length=j - (i+1):=by rw[Q7,QL]; lia
 rw[hl];have e:wd.length=(i+1)+((j - (i+1))+(wd.length - j)):=by lia
 rw[Ws];have er:jt wd.length=jt (i+1)++((jt (j - (i+1))).map (fun x=>i+1+x)++(jt (wd.length - j)).map ((fun x=>i+1+x)∘fun x=>j - (i+1)+x)):=by
  conv=>lhs; rw[e]
  rw[Jv (n:=i+1),Jv (n:=j - (i+1)),jy,Q1]
 rw[er,Zg,Zg];have e1:(jt (i+1)).filter (fun k=>(decide (i < k)&&decide (k < j))&&decide (wd[k]?=some y))=[]:=by
  refine gK.mpr fun k hk=>?_;have:=jR.mp hk;rw[Df_ (by lia:¬ i < k),Yl,Yl]
  exact jK
 have e3:((jt (wd.length - j)).map ((fun x=>i+1+x)∘fun x=>j - (i+1)+x)).filter (fun k=>(decide (i < k)&&decide (k < j))&&decide (wd[k]?=some y))=[]:=by
  refine gK.mpr fun k hk=>?_;obtain⟨m,hm,rfl⟩:=jB.mp hk;have:¬ ((fun x=>i+1+x)∘fun x=>j - (i+1)+x) m < j:=by
   show ¬ i+1+(j - (i+1)+m) < j;lia
  rw[Df_ this,Yo,Yl];exact jK
 rw[e1,e3,Jq,Q8,Jk,j5];refine congrArg Y5 (YE fun k hk=>?_);have hk':=jR.mp hk;show _=((decide (i < i+1+k)&&decide (i+1+k < j))&&decide (wd[i+1+k]?=some y));rw[Dt_ (by lia:i < i+1+k),Dt_ (by lia:i+1+k < j),Wi,Ip_ hk',Wt]
 rfl
theorem zk9{i j:Nat}:zfJ i j [i,j]=[]:=by
 refine gK.mpr fun k hk=>?_;rcases ju.mp hk with rfl |hk
 ·simp
 ·rcases ju.mp hk with rfl |hk
  ·simp
  ·cases hk
theorem zbu{wd:List Str}{x:Str}{k:Nat}(h:k∈zaf wd x):wd[k]?=some x:=of_decide_eq_true (jZ.mp h).2
theorem zk8{i j k l:Nat}(h1:i < j)(h2:k < l)(a:i≠k)(b:i≠l)(c:j≠k)(d:j≠l):decide ((zfJ i j [k,l]).length=1)=decide ((zfJ k l [i,j]).length=1):=by
 have f:∀ p q r s:Nat,(zfJ p q [r,s]).length=(if p < r/\r < q then 1 else 0)+(if p < s/\s < q then 1 else 0):=fun p q r s=>by
  unfold zfJ
  by_cases h:p < r/\r < q<;>by_cases h':p < s/\s < q<;>simp[ZA,h,h']
 rw[f,f,Zp,decide_eq_true_iff,decide_eq_true_iff];split<;>split<;>split<;>split<;>lia
theorem zkr{wd:List Str}{x y:Str}{i j k l:Nat}(hx:zaf wd x=[i,j])(hy:zaf wd y=[k,l]):decide ((zlo wd i j).count y=1)=decide ((zlo wd k l).count x=1):=by
 obtain⟨a,b⟩:=zaV hx;obtain⟨c,d⟩:=zaV hy;rw[zfv y a b,zfv x c d,hx,hy]
 by_cases h:x=y
 ·subst h;rw[hx] at hy;injection hy with e1 e2;injection e2 with e2 _;subst e1 e2;rfl
 ·have mx:∀ p∈[i,j],wd[p]?=some x:=fun p hp=>zbu (hx▸hp);have my:∀ p∈[k,l],wd[p]?=some y:=fun p hp=>zbu (hy▸hp);have ne:∀ p∈[i,j],∀ q∈[k,l],p≠q:=fun p hp q hq e=>h (jc ((mx p hp).symm.trans (e▸my q hq)));exact zk8 a c (ne i (by simp) k (by simp)) (ne i (by simp) l (by simp)) (ne j (by simp) k (by simp)) (ne j (by simp) l (by simp))
theorem zm0{wd:List Str}{x y:Str}{i j:Nat}(hx:zaf wd x=[i,j]):decide ((zlo wd i j).count y=1)=(decide (x≠y)&&decide ((zfJ i j (zaf wd y)).length=1)):=by
 obtain⟨a,b⟩:=zaV hx;rw[zfv y a b]
 by_cases h:x=y
 ·subst h;rw[hx,zk9];simp
 ·rw[Dt_ h,JS]
theorem zks{wd:List Str}{x:Str}{i j:Nat}(hx:zaf wd x=[i,j]):decide ((zlo wd i j).count x=1)=false:=by
 rw[zm0 hx];simp
def crs(wd:List Str)(x y:Str):Bool:=match zaf wd x with
 |[i,j]=>decide ((zlo wd i j).count y=1)
 |_=>false
theorem zlh{wd:List Str}{x:Str}{i j:Nat}(h:zaf wd x=[i,j])(y:Str):crs wd x y=decide ((zlo wd i j).count y=1):=by unfold crs; rw[h]
theorem zrr{wd:List Str}(g:GoodWord wd){x y:Str}(hx:x∈wd)(hy:y∈wd):crs wd x y=crs wd y x:=by
 obtain⟨i,j,h1⟩:=g.places hx;obtain⟨k,l,h2⟩:=g.places hy;rw[zlh h1,zlh h2,zkr h1 h2]
theorem zoW{wd:List Str}(g:GoodWord wd){x:Str}(hx:x∈wd):crs wd x x=false:=by
 obtain⟨i,j,h1⟩:=g.places hx;rw[zlh h1,zks h1]
theorem zl8{xs:List Str}{x:Str}(h:x∈xs):(xs.find? fun y=>decide ((Zi y:Key)=Zi x))=some x:=by
 induction xs with
 |nil=>cases h
 |cons y ys ih=>
  rw[QZ]
  by_cases e:y=x
  ·subst e; simp
  ·rw[Df_ (fun z=>e (gb z))];rcases ju.mp h with q |q
   ·exact absurd q.symm e
   ·exact ih q
theorem zga(kvs:List (Key × T))(x:Str):za3 (.fd kvs) (.str x)=zbb kvs (.inr x):=rfl
theorem zix:∀(wd ns:List Str),ns.Nodup->(∀ x∈wd,x∈ns)->wd.length=(ns.map fun x=>wd.count x).sum
 |[],ns,_,_=>by
  have:(ns.map fun x=>([]:List Str).count x)=ns.map fun _=>0:=QX fun x _=>by simp
  have z:∀ l:List Str,(l.map fun _=>0).sum=0:=fun l=>by
   induction l with
   |nil=>rfl
   |cons n l ih=>rw[jr,N0,ih]
  rw[this,z];rfl
 |y::wd,ns,hn,h=>by
  have ih:=zix wd ns hn fun x hx=>h x (jw _ hx);have key:∀(ns:List Str),ns.Nodup->(ns.map fun x=>(y::wd).count x).sum=(ns.map fun x=>wd.count x).sum+if y∈ns then 1 else 0:=by
   intro ns
   induction ns with
   |nil=>intro _; rfl
   |cons n ns ihn=>
    intro hn;rw[Qp] at hn;rw[jr,N0,jr,N0,ihn hn.2,ZK]
    by_cases e:y=n
    ·subst e;rw[Ip_ (by simp),In_ hn.1,Ip_ (by simp)]; lia
    ·rw[In_ (by simpa using e)]
     by_cases e2:y∈ns
     ·rw[Ip_ e2,Ip_ (jw _ e2)]; lia
     ·rw[In_ e2,In_ (by simp[e,e2])]; lia
  rw[key ns hn,Ip_ (h y jX),<-ih,jp]
theorem zme{wd:List Str}(h:∀ x∈wd,wd.count x=2):wd.length=2*(zab wd).length:=by
 have:=zix wd (zab wd) (zdV wd) fun x hx=>mem_firsts.mpr hx;rw[this];have e:(zab wd).map (fun x=>wd.count x)=(zab wd).map fun _=>2:=QX fun x hx=>h x (mem_firsts.mp hx);rw[e];generalize zab wd=l
 induction l with
 |nil=>rfl
 |cons a l ih=>rw[jr,N0,ih,jp]; lia
theorem zd4{wd:List Str}{x:Str}(h:wd.count x=2):∃ i j,zaf wd x=[i,j]:=by
 have hl:=zdR wd x;rw[h] at hl
 match h:zaf wd x,hl with
 |[i,j],_=>exact⟨i,j,rfl⟩
end Dw
namespace Dw
theorem zgz{α:Type}[DecidableEq α]:∀ {l m:List α},l.Nodup->(∀ x∈l,x∈m)->l.length<=m.length
 |[],m,_,_=>Z8 _
 |a::l,m,hd,h=>by
  rw[Qp] at hd;have hm:a∈m:=h a (by simp)
  have ih:=zgz (l:=l) (m:=m.erase a) hd.2 fun x hx=>(gY (fun z:x=a=>hd.1 (z▸hx))).mpr (h x (jw _ hx));rw[gq hm] at ih;have:=Nh hm;rw[jp];lia
def itr(f:Nat->Nat):Nat->Nat->Nat
 |0,x=>x
 |k+1,x=>f (itr f k x)
theorem zfq(f:Nat->Nat)(j k x:Nat):itr f (j+k) x=itr f j (itr f k x):=by
 induction j with
 |zero=>rw[Z1]; rfl
 |succ j ih=>rw[Nat.succ_add]; show f (itr f (j+k) x)=f (itr f j (itr f k x)); rw[ih]
structure Perm1 (n:Nat) (f:Nat->Nat):Prop where
 lt:∀ x,x < n->f x < n
 inj:∀ x y,x < n->y < n->f x=f y->x=y
theorem Perm1.itr_lt{n:Nat}{f:Nat->Nat}(h:Perm1 n f)(k:Nat){x:Nat}(hx:x < n):itr f k x < n:=by
 induction k with
 |zero=>exact hx
 |succ k ih=>exact h.lt _ ih
theorem Perm1.itr_inj{n:Nat}{f:Nat->Nat}(h:Perm1 n f)(k:Nat){x y:Nat}(hx:x < n)(hy:y < n)(e:itr f k x=itr f k y):x=y:=by
 induction k with
 |zero=>exact e
 |succ k ih=>exact ih (h.inj _ _ (h.itr_lt k hx) (h.itr_lt k hy) e)
theorem Perm1.back{n:Nat}{f:Nat->Nat}(h:Perm1 n f){x:Nat}(hx:x < n):∃ p,0 < p/\itr f p x=x:=by
 by_cases hd:((jt (n+1)).map fun k=>itr f k x).Nodup
 ·have:=zgz (m:=jt n) hd fun y hy=>by
   obtain⟨k,_,rfl⟩:=jB.mp hy;exact jR.mpr (h.itr_lt k hx)
  rw[j5,Zn,Zn] at this;lia
 ·have:∃ i j,i < j/\itr f i x=itr f j x:=by
   apply Classical.byContradiction;intro hne;apply hd;rw[List.Nodup,WN];exact Uf (fun {i j} hij e=>hne ⟨i,j,hij,e⟩) Nf
  obtain⟨i,j,hij,e⟩:=this;refine⟨j - i,by lia,?_⟩
  have e2:itr f j x=itr f i (itr f (j - i) x):=by rw[<-zfq]; congr 1; lia
  rw[e2] at e;exact(h.itr_inj i hx (h.itr_lt _ hx) e).symm
def Orb(f:Nat->Nat)(x y:Nat):Prop:=∃ k,itr f k x=y
theorem Orb.refl(f:Nat->Nat)(x:Nat):Orb f x x:=⟨0,rfl⟩
theorem Orb.trans{f:Nat->Nat}{x y z:Nat}(a:Orb f x y)(b:Orb f y z):Orb f x z:=by
 obtain⟨j,rfl⟩:=a;obtain⟨k,rfl⟩:=b;exact⟨k+j,zfq f k j x⟩
theorem zr2{f:Nat->Nat}{p x:Nat}(h:itr f p x=x)(m:Nat):itr f (m*p) x=x:=by
 induction m with
 |zero=>rw[Nat.zero_mul]; rfl
 |succ m ih=>rw[Nat.succ_mul,zfq,h,ih]
theorem Orb.symm{n:Nat}{f:Nat->Nat}(h:Perm1 n f){x y:Nat}(hx:x < n)(a:Orb f x y):Orb f y x:=by
 obtain⟨k,rfl⟩:=a;obtain⟨p,hp,e⟩:=h.back hx;refine⟨k*p - k,?_⟩;rw[<-zfq,show k*p - k+k=k*p by have:=Nat.le_mul_of_pos_right k hp; lia]
 exact zr2 e k
structure Trav (n:Nat) (R:Nat->Nat->Prop) (L:List Nat):Prop where
 lt:∀ x∈L,x < n
 one:L.Pairwise fun x y=>¬ R x y
 all:∀ x,x < n->∃ y∈L,R y x
end Dw
namespace Dw
open PySem
abbrev Org:=List (Str × Option Str)
def kys(O:Org):List Str:=O.map (·.1)
inductive Way (O:Org):Str->List Str->Prop
 |root {x:Str} (h:(x,none)∈O):Way O x [x]
 |step {x p:Str} {w:List Str} (h:(x,some p)∈O) (k:Way O p w):Way O x (x::w)
section
variable {O O':Org}{x y z m:Str}{w w' a b:List Str}
theorem zdS{e:Str × Option Str}(h:e∈O):e.1∈kys O:=jB.mpr ⟨e,h,rfl⟩
theorem zqZ(h:x∈kys O):∃ o,(x,o)∈O:=by
 obtain⟨⟨y,o⟩,h1,h2⟩:=jB.mp h;exact⟨o,by dsimp only at h2; rw[<-h2]; exact h1⟩
theorem zaQ:kys (O++O')=kys O++kys O':=by unfold kys; rw[jy]
theorem Way.mono(h:∀ e∈O,e∈O')(k:Way O x w):Way O' x w:=by
 induction k with
 |root q=>exact .root (h _ q)
 |step q _ ih=>exact .step (h _ q) ih
theorem zgO:∀ {O:Org},(kys O).Nodup->∀ {x:Str} {o o':Option Str},(x,o)∈O->(x,o')∈O->o=o'
 |[],_,_,_,_,h,_=>by cases h
 |e::O,nd,x,o,o',h,h'=>by
  obtain⟨n1,n2⟩:=Qp.mp (show (e.1::kys O).Nodup from nd);rcases ju.mp h with h1 |h1<;>rcases ju.mp h' with h2 |h2
  ·have:=h1.trans h2.symm;exact congrArg JT this
  ·have q:x∈kys O:=zdS h2;have q2:x=e.1:=congrArg Ud h1;exact absurd (q2▸q) n1
  ·have q:x∈kys O:=zdS h1;have q2:x=e.1:=congrArg Ud h2;exact absurd (q2▸q) n1
  ·exact zgO n2 h1 h2
theorem Way.one(nd:(kys O).Nodup)(k:Way O x w):∀ {w'},Way O x w'->w=w':=by
 induction k with
 |root q=>
  intro w' k';cases k' with
  |root _=>rfl
  |step q' _=>cases zgO nd q q'
 |step q _ ih=>
  intro w' k';cases k' with
  |root q'=>cases zgO nd q q'
  |step q' k2=>
   have:=zgO nd q q';injection this with this;subst this;rw[ih k2]
theorem Way.head(k:Way O x w):∃ t,w=x::t:=by
 cases k with
 |root _=>exact⟨[],rfl⟩
 |step _ _=>exact⟨_,rfl⟩
theorem Way.from(k:Way O x w):∀ {a b},w=a++z::b->Way O z (z::b):=by
 induction k with
 |root q=>
  intro a b h;cases a with
  |nil=>injection h with h1 h2; subst h1 h2; exact .root q
  |cons c a=>injection h with h1 h2; simp at h2
 |step q k ih=>
  intro a b h;cases a with
  |nil=>injection h with h1 h2; subst h1 h2; exact .step q k
  |cons c a=>injection h with h1 h2; exact ih h2
theorem Way.key(k:Way O x w):∀ u∈w,u∈kys O:=by
 induction k with
 |root q=>intro u hu; rw[jm] at hu; subst hu; exact zdS q
 |step q _ ih=>
  intro u hu;rcases ju.mp hu with hu |hu
  ·subst hu; exact zdS q
  ·exact ih u hu
theorem Way.nodup(nd:(kys O).Nodup)(k:Way O x w):w.Nodup:=by
 induction k with
 |root q=>simp
 |@step x p w q k ih=>
  refine Qp.mpr ⟨fun hx=>?_,ih⟩;obtain⟨a,b,rfl⟩:=Yj hx;have k1:Way O x (x::(a++x::b)):=.step q k;have k2:=k.from (z:=x) (a:=a) (b:=b) rfl;have:=k1.one nd k2;have:=congrArg Y5 this;simp at this;lia
def Chn(G:Str->Str->Prop):List Str->Prop
 |a::b::l=>G a b/\Chn G (b::l)
 |_=>True
variable {G:Str->Str->Prop}
theorem Chn.join:∀ {l:List Str} {m:Str} {r:List Str},Chn G (l++[m])->Chn G (m::r)->Chn G (l++m::r)
 |[],_,_,_,h=>h
 |[c],_,_,h1,h2=>⟨h1.1,h2⟩
 |c::d::l,_,_,h1,h2=>⟨h1.1,Chn.join (l:=d::l) h1.2 h2⟩
theorem Chn.pre:∀ {l r:List Str},Chn G (l++r)->Chn G l
 |[],_,_=>trivial
 |[_],_,_=>trivial
 |_::d::l,_,h=>⟨h.1,Chn.pre (l:=d::l) h.2⟩
theorem Chn.rev(sy:∀ a b,G a b->G b a):∀ {l:List Str},Chn G l->Chn G l.reverse
 |[],_=>trivial
 |[_],_=>trivial
 |c::d::l,h=>by
  have:=Chn.rev sy (l:=d::l) h.2;rw[QU] at this;rw[QU,QU,Qh];exact Chn.join this ⟨sy _ _ h.1,trivial⟩
theorem Chn.imp{G':Str->Str->Prop}(hi:∀ a b,G a b->G' a b):∀ {l:List Str},Chn G l->Chn G' l
 |[],_=>trivial
 |[_],_=>trivial
 |_::d::l,h=>⟨hi _ _ h.1,Chn.imp hi (l:=d::l) h.2⟩
theorem Way.chn(k:Way O x w):Chn (fun a b=>(a,some b)∈O) w:=by
 induction k with
 |root q=>trivial
 |step q k ih=>
  obtain⟨t,rfl⟩:=k.head;exact⟨q,ih⟩
def evs(ev:Str->Str->Bool):List Str->Nat
 |a::b::l=>(if ev a b then 1 else 0)+evs ev (b::l)
 |_=>0
theorem zja{ev:Str->Str->Bool}{sd:Str->Bool}:∀(l:List Str) (x y:Str),Chn (fun a b=>ev a b=(sd a != sd b)) (x::l)->(x::l).getLast?=some y->(evs ev (x::l)%2=1↔sd x≠sd y)
 |[],x,y,_,h=>by
  simp at h; subst h;simp[evs]
 |z::l,x,y,c,h=>by
  have ih:=zja l z y c.2 (by simpa using h)
  have e:=c.1;show (((if ev x z then 1 else 0)+evs ev (z::l))%2=1↔_)
  rw[e];cases h1:sd x<;>cases h2:sd z<;>cases h3:sd y<;>rw[h2,h3] at ih<;>simp at ih ⊢<;>lia
theorem zqj{adj ev:Str->Str->Bool}{sd:Str->Bool}{f n c:List Str}(nd:(kys O).Nodup)(hs:∀ a b,(a,some b)∈O->adj a b=true/\adj b a=true/\ev a b=(sd a != sd b)/\ev b a=(sd a != sd b))
  (hx:Way O x (f++m::c)) (hy:Way O y (n++m::c)) (he:f=[]∨n=[]∨f.getLast?≠n.getLast?) (hxx:adj x x=false) (hyx:adj y x=true) (hw:ev y x≠(sd y != sd x)) (hwy:ev x y=ev y x) :
  (f++m::n.reverse).Nodup/\(∀ u∈f++m::n.reverse,u∈kys O)/\3<=(f++m::n.reverse).length/\Chn (fun a b=>adj a b=true) (f++m::n.reverse)/\(f++m::n.reverse).head?=some x/\(f++m::n.reverse).getLast?=some y/\((if ev y x then 1 else 0)+evs ev (f++m::n.reverse))%2=1:=by
 have ndx:=hx.nodup nd;have ndy:=hy.nodup nd;have sp:∀ {l:List Str},(l++m::c).Nodup->l.Nodup/\m∉l:=fun {l} h=>by
  obtain⟨h1,_,h2⟩:=jT.mp h;exact⟨h1,fun hm=>h2 m hm m (.head _) rfl⟩
 obtain⟨nf,mf⟩:=sp ndx;obtain⟨nn,mn⟩:=sp ndy;have dis:∀ z,z∈f->z∈n->False:=fun z hf hn=>by
  obtain⟨f1,f2,rfl⟩:=Yj hf;obtain⟨n1,n2,rfl⟩:=Yj hn;have k1:=hx.from (z:=z) (a:=f1) (b:=f2++m::c) (by simp)
  have k2:=hy.from (z:=z) (a:=n1) (b:=n2++m::c) (by simp)
  have e:=k1.one nd k2;injection e with _ e;have e:=List.append_cancel_right e;subst e;rcases he with he |he |he
  ·simp at he
  ·simp at he
  ·refine he ?_;have g:∀ l:List Str,(l++z::f2).getLast?=(z::f2).getLast?:=fun l=>by
    rw[Y0];cases h:(z::f2).getLast? with
    |none=>simp at h
    |some q=>rfl
   rw[g,g]
 have hd:∀ {l:List Str} {u:Str},Way O u (l++m::c)->(l++[m]).head?=some u:=fun {l u} k=>by
  obtain⟨t,e⟩:=k.head;cases l with
  |nil=>injection e with e _; rw[e]; rfl
  |cons a l=>injection e with e _; rw[e]; rfl
 have hhx:=hd hx;have hhy:=hd hy;have sy:∀ a b,(adj a b=true/\adj b a=true/\ev a b=(sd a != sd b)/\ev b a=(sd a != sd b))->(adj b a=true/\adj a b=true/\ev b a=(sd b != sd a)/\ev a b=(sd b != sd a)):=fun a b h=>by
  have:(sd b != sd a)=(sd a != sd b):=by cases sd a<;>cases sd b<;>rfl
  rw[this];exact⟨h.2.1,h.1,h.2.2.2,h.2.2.1⟩
 have cx:Chn (fun a b=>adj a b=true/\adj b a=true/\ev a b=(sd a != sd b)/\ev b a=(sd a != sd b)) (f++[m]):=(Chn.pre (l:=f++[m]) (r:=c) (by simpa using hx.chn)).imp hs
 have cy:Chn (fun a b=>adj a b=true/\adj b a=true/\ev a b=(sd a != sd b)/\ev b a=(sd a != sd b)) (n++[m]):=(Chn.pre (l:=n++[m]) (r:=c) (by simpa using hy.chn)).imp hs
 have cr:=Chn.rev sy cy;rw[List.reverse_append] at cr;have ch:=Chn.join cx cr;have last:(f++m::n.reverse).getLast?=some y:=by
  cases n with
  |nil=>simp at hhy; subst hhy; simp
  |cons a n=>
   simp at hhy;subst hhy;rw[Y0,QU];have:(m::(n.reverse++[a])).getLast?=some a:=by rw[show m::(n.reverse++[a])=(m::n.reverse)++[a] from rfl,Y0]; rfl
   rw[this]; rfl
 have first:(f++m::n.reverse).head?=some x:=by
  cases f with
  |nil=>simpa using hhx
  |cons a f=>simpa using hhx
 refine⟨?_,?_,?_,ch.imp fun a b h=>h.1,first,last,?_⟩
 ·refine jT.mpr ⟨nf,Qp.mpr ⟨by simpa using mn,by simpa[List.Nodup,List.pairwise_reverse,ne_comm] using nn⟩,fun a ha b hb e=>?_⟩
  subst e;rcases ju.mp hb with hb |hb
  ·subst hb; exact mf ha
  ·exact dis a ha (by simpa using hb)
 ·intro u hu;rcases jv.mp hu with hu |hu
  ·exact hx.key u (jo _ hu)
  ·rcases ju.mp hu with hu |hu
   ·exact hx.key u (by rw[hu]; simp)
   ·exact hy.key u (jo _ (by simpa using hu))
 ·rw[jk,jp,NY];refine J0 fun hlt=>?_;rcases f with _ |⟨u,_ |⟨u2,f⟩⟩
  ·rcases n with _ |⟨u,_ |⟨u2,n⟩⟩
   ·simp at hhx hhy;rw[<-hhx,<-hhy] at hyx;rw[<-hhx] at hxx;rw[hyx] at hxx;cases hxx
   ·simp at hhx hhy;subst hhx hhy;have:=cy.1;exact hw this.2.2.1
   ·simp at hlt; lia
  ·cases n with
   |nil=>
    simp at hhx hhy;subst hhx hhy;have:=(sy _ _ cx.1);exact hw this.2.2.1
   |cons _ _=>simp at hlt; lia
  ·simp at hlt; lia
 ·have ce:Chn (fun a b=>ev a b=(sd a != sd b)) (f++m::n.reverse):=ch.imp fun a b h=>h.2.2.1;obtain⟨l,hl⟩:∃ l,f++m::n.reverse=x::l:=by
   revert first
   cases f++m::n.reverse with
   |nil=>intro h; cases h
   |cons a l=>intro h; injection h with h; exact⟨l,by rw[h]⟩
  rw[hl] at ce last ⊢;have:=zja l x y ce last;cases hE:ev y x<;>rw[hE] at hw<;>cases h1:sd x<;>cases h2:sd y<;>rw[h1,h2] at this hw<;>simp at this hw ⊢<;>lia
end
structure Gr (ns:List Str) (adj:Str->Str->Bool):Prop where
 nd:ns.Nodup
 sym:∀ x∈ns,∀ y∈ns,adj x y=adj y x
 irr:∀ x∈ns,adj x x=false
 len:ns.length<=30
def mts(ns:List Str)(adj:Str->Str->Bool)(x:Str):List Str:=ns.filter (adj x)
def shr(ns:List Str)(adj:Str->Str->Bool)(x y:Str):Nat:=(ns.filter fun z=>adj x z&&adj y z).length
def evn(ns:List Str)(adj:Str->Str->Bool)(x y:Str):Bool:=decide (shr ns adj x y%2=0)
theorem zkg(ns:List Str)(adj:Str->Str->Bool)(x y:Str):evn ns adj x y=evn ns adj y x:=by
 unfold evn shr;rw[show (fun z=>adj x z&&adj y z)=fun z=>adj y z&&adj x z from funext fun z=>JU _ _]
structure Fo (ns:List Str) (adj:Str->Str->Bool) (O:Org):Prop where
 nd:(kys O).Nodup
 sub:∀ x∈kys O,x∈ns
 ord:∀(i:Nat) x p,O[i]?=some (x,some p)->adj p x=true/\p∈kys (O.take i)
 clo:∀ x∈kys O,∀ y∈ns,adj x y=true->y∈kys O
 way:∀ x∈kys O,∃ w,Way O x w
 rt:∀ x∈kys O,∀ y∈kys O,adj x y=true->∀ w w',Way O x w->Way O y w'->w.getLast?=w'.getLast?
structure Dfs (ns:List Str) (adj:Str->Str->Bool) (b:Str) (O0 O:Org) (wt:List Str):Prop where
 pre:∃ r,O=O0++r
 nd:(kys O).Nodup
 sub:∀ x∈kys O,x∈ns
 ord:∀(i:Nat) x p,O[i]?=some (x,some p)->adj p x=true/\p∈kys (O.take i)
 cur:∀ x∈kys O,x∉kys O0->∃ w,Way O x w/\w.getLast?=some b
 don:∀ x∈kys O,x∉kys O0->x∈wt∨∀ y∈ns,adj x y=true->y∈kys O
 ws:∀ x∈wt,x∈kys O/\x∉kys O0
section
variable {ns:List Str}{adj:Str->Str->Bool}{O O0:Org}{b:Str}
theorem Fo.nil:Fo ns adj []:=⟨ZX,fun x h=>(Zd h).elim,fun i x p h=>by simp at h,fun x h=>(Zd h).elim,fun x h=>(Zd h).elim,fun x h=>(Zd h).elim⟩
theorem zkC{O r:Org}{i:Nat}{x:Str}(h:x∈kys (O.take i)):x∈kys ((O++r).take i):=by
 rw[J4,zaQ];exact jo _ h
theorem Dfs.start(F:Fo ns adj O0)(hb:b∈ns)(hn:b∉kys O0):Dfs ns adj b O0 (O0++[(b,none)]) [b]:=by
 have k:kys (O0++[(b,none)])=kys O0++[b]:=by rw[zaQ]; rfl
 have wb:Way (O0++[(b,none)]) b [b]:=.root (by simp)
 refine⟨⟨_,rfl⟩,?_,?_,?_,?_,?_,?_⟩
 ·rw[k];exact jT.mpr ⟨F.nd,by simp,fun a ha c hc e=>by rw[jm] at hc; subst hc e; exact hn ha⟩
 ·intro x hx;rw[k] at hx;rcases jv.mp hx with hx |hx
  ·exact F.sub x hx
  ·rw[jm] at hx; subst hx; exact hb
 ·intro i x p h
  by_cases hi:i < O0.length
  ·rw[Q6 hi] at h;have:=F.ord i x p h;exact⟨this.1,zkC this.2⟩
  ·rw[Qc (by lia)] at h
   cases hj:i - O0.length with
   |zero=>rw[hj] at h; simp at h
   |succ j=>rw[hj] at h; simp at h
 ·intro x hx hx0;rw[k] at hx;rcases jv.mp hx with hx |hx
  ·exact absurd hx hx0
  ·rw[jm] at hx; subst hx; exact⟨_,wb,rfl⟩
 ·intro x hx hx0;rw[k] at hx;rcases jv.mp hx with hx |hx
  ·exact absurd hx hx0
  ·exact .inl hx
 ·intro x hx;rw[jm] at hx; subst hx;exact⟨by rw[k]; simp,hn⟩
theorem Dfs.step(G:Gr ns adj){x:Str}{wt:List Str}(D:Dfs ns adj b O0 O (wt++[x])):Dfs ns adj b O0 (O++((mts ns adj x).filter fun y=>decide (y∉kys O)).map fun y=>(y,some x)) (wt++(mts ns adj x).filter fun y=>decide (y∉kys O)):=by
 obtain⟨hx,hx0⟩:=D.ws x (by simp)
 generalize hf:((mts ns adj x).filter fun y=>decide (y∉kys O))=fr;have fm:∀ y,y∈fr↔y∈ns/\adj x y=true/\y∉kys O:=fun y=>by
  rw[<-hf,jZ,mts,jZ,decide_eq_true_iff,and_assoc]
 have fn:fr.Nodup:=by rw[<-hf]; exact(G.nd.filter _).filter _
 have k:kys (O++fr.map fun y=>(y,some x))=kys O++fr:=by
  rw[zaQ]
  congr 1
  unfold kys;rw[Q1];exact List.map_id' _
 have up:∀ e∈O,e∈O++fr.map fun y=>(y,some x):=fun e he=>jo _ he;obtain⟨r,hr⟩:=D.pre;obtain⟨wx,hwx,hlx⟩:=D.cur x hx hx0;refine⟨⟨r++fr.map fun y=>(y,some x),by rw[hr,Qh]⟩,?_,?_,?_,?_,?_,?_⟩
 ·rw[k];exact jT.mpr ⟨D.nd,fn,fun a ha c hc e=>by subst e; exact((fm a).mp hc).2.2 ha⟩
 ·intro y hy;rw[k] at hy;rcases jv.mp hy with hy |hy
  ·exact D.sub y hy
  ·exact((fm y).mp hy).1
 ·intro i y p h
  by_cases hi:i < O.length
  ·rw[Q6 hi] at h;have:=D.ord i y p h;exact⟨this.1,zkC this.2⟩
  ·rw[Qc (by lia),jf] at h
   obtain⟨z,h1,h2⟩:=Qm h;injection h2 with h2 h3;injection h3 with h3;subst h2 h3;refine⟨((fm z).mp (jJ h1)).2.1,?_⟩;rw[J4,zaQ,Q2 (by lia)]
   exact jo _ hx
 ·intro y hy hy0;rw[k] at hy;rcases jv.mp hy with hy |hy
  ·obtain⟨w,h1,h2⟩:=D.cur y hy hy0;exact⟨w,h1.mono up,h2⟩
  ·refine⟨y::wx,.step (jx _ (jB.mpr ⟨y,hy,rfl⟩)) (hwx.mono up),?_⟩;obtain⟨t,rfl⟩:=hwx.head;exact hlx
 ·intro y hy hy0;rw[k] at hy ⊢;rcases jv.mp hy with hy |hy
  ·rcases D.don y hy hy0 with h |h
   ·rcases jv.mp h with h |h
    ·exact .inl (jo _ h)
    ·rw[jm] at h;subst h;refine .inr fun z hz ha=>?_
     by_cases hk:z∈kys O
     ·exact jo _ hk
     ·exact jx _ ((fm z).mpr ⟨hz,ha,hk⟩)
   ·exact .inr fun z hz ha=>jo _ (h z hz ha)
  ·exact .inl (jx _ hy)
 ·intro y hy;rw[k];rcases jv.mp hy with hy |hy
  ·have:=D.ws y (jo _ hy);exact⟨jo _ this.1,this.2⟩
  ·have:=(fm y).mp hy;refine⟨jx _ hy,fun h0=>this.2.2 ?_⟩;rw[hr,zaQ];exact jo _ h0
theorem Dfs.fin(G:Gr ns adj)(F:Fo ns adj O0)(D:Dfs ns adj b O0 O []):Fo ns adj O:=by
 obtain⟨r,hr⟩:=D.pre;have up:∀ e∈O0,e∈O:=fun e he=>by rw[hr]; exact jo _ he
 have upk:∀ x∈kys O0,x∈kys O:=fun x hx=>by rw[hr,zaQ]; exact jo _ hx
 have clo:∀ x∈kys O,∀ y∈ns,adj x y=true->y∈kys O:=fun x hx y hy ha=>by
  by_cases h0:x∈kys O0
  ·exact upk y (F.clo x h0 y hy ha)
  ·rcases D.don x hx h0 with h |h
   ·cases h
   ·exact h y hy ha
 refine⟨D.nd,D.sub,D.ord,clo,fun x hx=>?_,fun x hx y hy ha w w' hw hw'=>?_⟩
 ·by_cases h0:x∈kys O0
  ·obtain⟨w,h⟩:=F.way x h0;exact⟨w,h.mono up⟩
  ·obtain⟨w,h,_⟩:=D.cur x hx h0;exact⟨w,h⟩
 ·by_cases h0:x∈kys O0
  ·have hy0:=F.clo x h0 y (D.sub y hy) ha;obtain⟨u,hu⟩:=F.way x h0;obtain⟨u',hu'⟩:=F.way y hy0;rw[hw.one D.nd (hu.mono up),hw'.one D.nd (hu'.mono up)];exact F.rt x h0 y hy0 ha u u' hu hu'
  ·have hy0:y∉kys O0:=fun z=>h0 (F.clo y z x (D.sub x hx) (by rw[<-G.sym x (D.sub x hx) y (D.sub y hy)]; exact ha))
   obtain⟨u,hu,h1⟩:=D.cur x hx h0;obtain⟨u',hu',h2⟩:=D.cur y hy hy0;rw[hw.one D.nd hu,hw'.one D.nd hu',h1,h2]
def zkG(ev:Str->Str->Bool)(f:Str->Bool)(e:Str × Option Str):Str->Bool:=fun z=>if z=e.1 then (match e.2 with |none=>false |some p=>ev p e.1 != f p) else f z
def zfg(ev:Str->Str->Bool)(O:Org):Str->Bool:=O.foldl (zkG ev) (fun _=>false)
theorem ziA(ev:Str->Str->Bool)(O:Org)(e:Str × Option Str):zfg ev (O++[e])=zkG ev (zfg ev O) e:=by unfold zfg; rw[WG]; rfl
theorem zkF(ev:Str->Str->Bool):∀(r:Org) (O:Org) (z:Str),z∈kys O->(kys (O++r)).Nodup->zfg ev (O++r) z=zfg ev O z
 |[],O,z,_,_=>by rw[Q8]
 |e::r,O,z,hz,nd=>by
  have e1:O++e::r=(O++[e])++r:=by simp
  rw[e1] at nd ⊢;rw[zkF ev r (O++[e]) z (by rw[zaQ]; exact jo _ hz) nd,ziA]
  unfold zkG;rw[In_];intro hze;rw[zaQ,zaQ] at nd;have:=(jT.mp (jT.mp nd).1).2.2 z hz e.1 (by simp[kys])
  exact this hze
theorem zmq(ev:Str->Str->Bool){i:Nat}{z:Str}(nd:(kys O).Nodup)(hz:z∈kys (O.take i)):zfg ev O z=zfg ev (O.take i) z:=by
 have:=zkF ev (O.drop i) (O.take i) z hz (by rw[Z0]; exact nd)
 rw[Z0] at this;exact this
theorem zv1(ev:Str->Str->Bool){i:Nat}{e:Str × Option Str}(nd:(kys O).Nodup)(h:O[i]?=some e):zfg ev O e.1=(match e.2 with |none=>false |some p=>ev p e.1 != zfg ev (O.take i) p):=by
 have h1:O.take (i+1)=O.take i++[e]:=by rw[ZU,h]; rfl
 rw[zmq ev (i:=i+1) nd (by rw[h1,zaQ]; simp[kys]),h1,ziA]
 unfold zkG;rw[Ip_ rfl]
theorem Fo.side(F:Fo ns adj O)(ev:Str->Str->Bool){i:Nat}{e:Str × Option Str}(h:O[i]?=some e):zfg ev O e.1=(match e.2 with |none=>false |some p=>ev p e.1 != zfg ev O p):=by
 rw[zv1 ev F.nd h];obtain⟨x,o⟩:=e;cases o with
 |none=>rfl
 |some p=>
  dsimp only;rw[zmq ev F.nd (F.ord i x p h).2]
theorem Fo.edge(G:Gr ns adj)(F:Fo ns adj O){a p:Str}(h:(a,some p)∈O):adj a p=true/\adj p a=true/\evn ns adj a p=(zfg (evn ns adj) O a != zfg (evn ns adj) O p)/\evn ns adj p a=(zfg (evn ns adj) O a != zfg (evn ns adj) O p):=by
 obtain⟨i,hi⟩:=List.mem_iff_getElem?.mp h;obtain⟨h1,h2⟩:=F.ord i a p hi;have hs:=F.side (evn ns adj) hi;dsimp only at hs;have ha:a∈ns:=F.sub a (zdS h)
 have hp:p∈ns:=F.sub p (by
  have:O=O.take i++O.drop i:=(Z0 i O).symm
  rw[this,zaQ]; exact jo _ h2)
 have e1:evn ns adj p a=(zfg (evn ns adj) O a != zfg (evn ns adj) O p):=by
  rw[hs];cases evn ns adj p a<;>cases zfg (evn ns adj) O p<;>rfl
 exact⟨by rw[G.sym a ha p hp]; exact h1,h1,by rw[zkg]; exact e1,e1⟩
end
end Dw
namespace Dw
abbrev F2:=Fin 2
section
variable {n:Nat}{i j nm:Nat->Nat}{hd:Nat->Bool}
def io(i j:Nat->Nat)(u k:Nat):F2:=if i u < k/\k<=j u then 1 else 0
def n2(k:Nat):F2:=Fin.ofNat 2 k
end
end Dw
set_option maxHeartbeats 4000000
namespace L3
open PySem PySem.Spec PyProof.Rows L2
section
variable [TheK]{X:Cx}{M:List Nat}
theorem qV(i:Nat){x:Str}{pos:Pos}(hN:X.N[i]?=some x:=by rfl)(hv:Vis X.env.scope x:=by first |exact jA rfl |exact ZP (jA rfl) |exact ZP (ZP rfl))(hd:(x == ("__debug__":Str))=false:=by decide)(hcd:(x == ("__classdict__":Str))=false:=by decide)(hi:M.contains i=false:=by rfl):QE X (.Name x pos) (cE .e M (dV i)):=qv_ hi (qpv i hN hv hd hcd)
theorem qib{i:Int}{j:Nat}{pos:Pos}:QE X (.Constant (.int i) j pos) (cE .b M (dC (.int i))):=qeb qi_
end
end L3
namespace Dw
open PySem PySem.Spec PyProof.Rows L2 L3
def top(i:Nat):Qw:=Yk.main.body.getD i (.Pass ⟨0,0,0,0⟩)
variable {v:Ev}
abbrev zgj:Qw:=top 40
theorem zhd:FnScope ["_law_cell_here","_law_many","_law_letters","_law_size","_law_rest","_law_stem","_law_k","_law_spot","_law_made","_law_letter","_law_name"] ["_law_cell_here","_law_many"] (za0 zgj):=scm
def zf8:DS:=(zaj (zaB 2 (dC (.str "abcdefghijklmnopqrstuvwxyz")))
  (zaj (zaB 3 (d2 zax (dC (.int 1)) (d2 ze8 (dV 0) (dC (.int 8)))))
  (zaj (zaB 4 (d2 ze8 (d2 zfe (dV 0) (dC (.int 8))) (d2 zrC (dC (.int 10)) (dC (.int 18)))))
  (zaj (zaB 5 (dC (.str "")))
  (zaj (zeJ (znV (dAc (dV 3) dAn)) (dGn 6)
  (zaj (zaB 5 (d2 zax (dV 5) (d2 za3 (dV 2) (d2 ze8 (dV 4) (dC (.int 26))))))
  (zaB 4 (d2 zax (d2 zfe (dV 4) (dC (.int 26))) (d2 zgI (dC (.int 5)) (dV 6))))))
  (zaj (zaB 7 (d2 ze8 (d2 zfe (dV 0) (dC (.int 3))) (dV 3)))
  (zaj (zaB 8 (zeI dAn))
  (zaj (zcx (dB (d2 gEq (d2 ze8 (d2 zfe (dV 0) (dC (.int 5))) (dC (.int 3))) (dC (.int 1)))) (zaB 8 (dSl gSl (dLC [8] [none,some 5] (ztI (dAc (dC (.int 1)) (dAc (d2 zax (dV 3) (dC (.int 1))) dAn))) (dGn 0) zg6 (dSl zeH (dV 1) dOn (dOs (dV 0)))) dOn (dOs (dV 1)))) zay)
  (zaj (zcx (dOr (dB (d2 gEq (d2 ze8 (d2 zfe (dV 0) (dC (.int 5))) (dC (.int 3))) (dC (.int 2)))) (dB (d2 gGt (dV 1) (dC (.int 24))))) (zaB 8 (dLC [8] [none,some 2,some 5,some 4] (znV (dAc (dV 1) dAn)) (dGn 0) zg6 (d2 zax (d2 zax (dSl zeH (dV 2) dOn (dOs (dC (.int 6)))) (d2 za3 (dV 1) (d2 zfe (dV 0) (dC (.int 5))))) (d2 za3 (dV 1) (d2 ze8 (d2 zax (dV 0) (dV 3)) (dC (.int 26))))))) zay)
  (zaj (zeJ (zcs (dV 2)) (dGn 9)
  (zaj (zaB 10 (d2 zax (d2 zax (dSl zeH (dV 5) dOn (dOs (dV 7))) (dV 9)) (dSl zeH (dV 5) (dOs (d2 zax (dV 7) (dC (.int 1)))) dOn)))
  (zcx (zpC (dB (d2 gLt (d1 zcm (dV 8)) (dV 1))) (dB (d2 zaK (dV 10) (dV 8)))) (dDo (zhp zk1 8 (dAc (dV 10) dAn))) zay)))
  (zan [] (dV 8))))))))))))
def zfs:List T->Option T:=fnP 11 zf8
abbrev zgU[TheK](v:Ev)(k:Nat):Prop:=Cl v k "_law_names" ["_law_cell_here","_law_many"] (spP .e 2 zfs)
theorem zlH[tk:TheK](h:Here tk.K v.mg "_law_names" zgj ["_law_cell_here","_law_many"])(m_range:v.mg "range"=none)(m_len:v.mg "len"=none):zgU v 1:=by
 refine(h.vP 0 [] zf8 zhd fun f cdv A outer s H E hr=>?_ :);have sc:=zhd;have hu:=zbL hr;have hu8:=zbd hr
 exact(qs_ (M':=[]) (za9 (M':=[]) (za7 (i:=2) sc.nd rfl (ZP rfl) zd1))
  (qs_ (M':=[]) (za9 (M':=[]) (za7 (i:=3) sc.nd rfl (jA rfl) (zao qi_ (qeb (zaH (qV 0) qib)))))
  (qs_ (M':=[]) (za9 (M':=[]) (za7 (i:=4) sc.nd rfl (ZP rfl) (zaH (zby (qV 0) qib) (qeb (zmJ qi_ qib)))))
  (qs_ (M':=[]) (za9 (M':=[]) (za7 (i:=5) sc.nd rfl (ZP rfl) zd1))
  (qs_ (M':=[]) (zbw (zaP jL rfl (zdP rfl m_range (qa_ (qV 3) za2)) (zb8 (za4 (i:=6) sc.nd rfl (jA rfl)))
  (qs_ (M':=[]) (za9 (M':=[]) (za7 (i:=5) sc.nd rfl (ZP rfl) (zao (qV 5) (qeb (za8 rfl hu (qV 2) (qeb (zaH (qV 4) qib)) (fun _ _=>rfl))))))
  (za1 (za9 (M':=[]) (za7 (i:=4) sc.nd rfl (ZP rfl) (zao (zby (qV 4) qib) (qeb (zbH qi_ (qeb (qV 6)))))))))))
  (qs_ (M':=[]) (za9 (M':=[]) (za7 (i:=7) sc.nd rfl (jA rfl) (zaH (zby (qV 0) qib) (qeb (qV 3)))))
  (qs_ (M':=[8]) (zaO (M':=[8]) (za7 (i:=8) sc.nd rfl (jA rfl) (zaI za2)))
  (qs_ (M':=[8]) (zbc (M':=[8]) (zee hu8 (zaH (zby (qV 0) qib) qib) qib) (za1 (zaO (M':=[8]) (za7 (i:=8) sc.nd rfl (jA rfl) (zvf rfl (qne (zh1 (Mi:=[]) rfl (zbo (i:=0)) zdz (zeh (N:=["_law_k","_law_stem"]) (caps:=[none,some 5]) rfl (ziN rfl m_range (qa_ qi_ (qa_ (zao (qV 3) qib) za2))) (fun _ _ _ _ _=>(za4 (i:=0) (show (["_law_k","_law_stem"]:List Str).Nodup by decide +kernel) rfl (jA rfl))) zaX (fun _ _ _ _ _=>zbi) (fun _ _ _ _ _=>(zej rfl (qV 1) zcl (zbx (qV 0))))))) zcl (zbx (qV 1)))))) zam)
  (qs_ (M':=[8]) (zbc (M':=[8]) (QW.pt (zjL (zee hu8 (zaH (zby (qV 0) qib) qib) qib) (zhf (zlC (qV 1) qib)))) (za1 (zaO (M':=[8]) (zlD (Mi:=[]) rfl (zbo (i:=0)) zdz (zd0 (i:=8) sc.nd rfl rfl (N:=["_law_k","_law_letters","_law_stem","_law_rest"]) (caps:=[none,some 2,some 5,some 4]) rfl (zdP rfl m_range (qa_ (qV 1) za2)) (fun _ _ _ _ _=>(za4 (i:=0) (show (["_law_k","_law_letters","_law_stem","_law_rest"]:List Str).Nodup by decide +kernel) rfl (jA rfl))) zaX (fun _ _ _ _ _=>zbi) (fun _ _ _ _ _=>(zao (zao (zej rfl (qV 2) zcl (zbx qi_)) (qeb (za8 rfl hu (qV 1) (qeb (zby (qV 0) qib)) (fun _ _=>rfl)))) (qeb (za8 rfl hu (qV 1) (qeb (zaH (zao (qV 0) (qeb (qV 3))) qib)) (fun _ _=>rfl))))))))) zam)
  (qs_ (M':=[8]) (zbw (zaP jL rfl (zaG rfl (qV 2)) (zb8 (za4 (i:=9) sc.nd rfl (jA rfl)))
  (qs_ (M':=[8]) (za9 (M':=[8]) (za7 (i:=10) sc.nd rfl (jA rfl) (zao (zao (zej rfl (qV 5) zcl (zbx (qV 7))) (qeb (qV 9))) (qeb (zej rfl (qV 5) (zbx (zao (qV 7) qib)) zcl)))))
  (za1 (zbc (M':=[8]) (QW.pt (zkK (zqm (zaR rfl rfl m_len (zd2 rfl (qpv 8))) (qeb (qV 1))) (zjM (zck hu (qV 10) (zd2 rfl (qpv 8)) (by with_unfolding_all rfl))))) (za1 (zgq (.inl rfl) (zd3 rfl (zdO jM Qn Qo zbQ (qpv 8) (qa_ (qV 10) za2))))) zam)))))
  (za1 (ziK (M':=[]) (zac (qV 8))))))))))))))
abbrev zhC:Qw:=top 39
theorem ziD:FnScope ["_law_bag_here","_law_many","_law_found"] ["_law_bag_here","_law_many"] (za0 zhC):=scm
def zg5:DS:=(zaj (zcx (dB (d2 gGt (d2v za3 0 (dC (.int 0))) (dC (.int 0)))) (zaj (zaB 2 (d2 ze8 (d2v za3 0 (dC (.int 0))) (dV 1)))
  (zaj (zjg 0 (dC (.int 0)) (d2 zfe (d2v za3 0 (dC (.int 0))) (dV 1)))
  (zan [0] (dV 2)))) zay)
  (zaj (zjg 0 (dC (.int 1)) (d2 ze8 (d2 zax (d2 zgI (d2v za3 0 (dC (.int 1))) (dC (.int 48271))) (dC (.int 4099))) (dC (.int 2147483647))))
  (zan [0] (d2 ze8 (d2 zfe (d2 ze8 (d2 zgI (d2v za3 0 (dC (.int 1))) (d2 zax (d2 zfe (d2v za3 0 (dC (.int 1))) (dC (.int 65536))) (dC (.int 7)))) (dC (.int 2147483629))) (dC (.int 32))) (dV 1)))))
def zbB:List T->Option (T × T):=fnI 3 zg5
abbrev zfc[TheK](v:Ev)(k:Nat):Prop:=Cl v k "_law_draw" ["_law_bag_here","_law_many"] (spI .e 2 zbB)
theorem zn4[tk:TheK](h:Here tk.K v.mg "_law_draw" zhC ["_law_bag_here","_law_many"]):zfc v 1:=by
 refine(h.vI 0 [] zg5 ziD fun f cdv A outer s H E hr=>?_ :);have sc:=ziD;have hu:=zbL hr
 exact(qs_ (M':=[0]) (zbc (M':=[0]) (zlC (zb2 rfl rfl hu (qpv 0) qib (fun _ _=>rfl)) qib) (qs_ (M':=[0]) (za9 (M':=[0]) (za7 (i:=2) sc.nd rfl (jA rfl) (zaH (zb2 rfl rfl hu (qpv 0) qib (fun _ _=>rfl)) (qeb (qV 1)))))
  (qs_ (M':=[0]) (zhJ rfl (zet (zby (zb2 rfl rfl hu (qpv 0) qib (fun _ _=>rfl)) (qeb (qV 1))) (zhL (qpv 0) qi_ zfY)))
  (za1 (zac (qV 2))))) zam)
  (qs_ (M':=[0]) (zhJ rfl (zet (zaH (zao (zbH (zb2 rfl rfl hu (qpv 0) qib (fun _ _=>rfl)) qib) qib) qib) (zhL (qpv 0) qi_ zfY)))
  (za1 (zac (zaH (zby (zaH (zbH (zb2 rfl rfl hu (qpv 0) qib (fun _ _=>rfl)) (qeb (zao (zby (zb2 rfl rfl hu (qpv 0) qib (fun _ _=>rfl)) qib) qib))) qib) qib) (qeb (qV 1)))))))
abbrev zcQ:Qw:=top 42
theorem zdG:FnScope ["_law_bag_here","_law_names_here","_law_forms","_law_made","_law_left","_law_form_of","_law_at"] ["_law_bag_here","_law_names_here"] (za0 zcQ):=scm
def zbP:DS:=(zaj (zaB 2 (zeI (dAc (zeI (dAc (dC (.int 0)) (dAc (dC (.int 0)) dAn))) (dAc (zeI (dAc (dC (.int 0)) (dAc (dC (.int 1)) (dAc (dC (.int 2)) (dAc (dC (.int 0)) (dAc (dC (.int 1)) (dAc (dC (.int 2)) dAn))))))) (dAc (zeI (dAc (dC (.int 0)) (dAc (dC (.int 1)) (dAc (dC (.int 2)) (dAc (dC (.int 0)) (dAc (dC (.int 3)) (dAc (dC (.int 2)) (dAc (dC (.int 1)) (dAc (dC (.int 3)) dAn))))))))) (dAc (zeI (dAc (dC (.int 0)) (dAc (dC (.int 1)) (dAc (dC (.int 2)) (dAc (dC (.int 3)) (dAc (dC (.int 4)) (dAc (dC (.int 0)) (dAc (dC (.int 1)) (dAc (dC (.int 2)) (dAc (dC (.int 3)) (dAc (dC (.int 4)) dAn))))))))))) (dAc (zeI (dAc (dC (.int 0)) (dAc (dC (.int 1)) (dAc (dC (.int 1)) (dAc (dC (.int 0)) dAn))))) dAn)))))))
  (zaj (zaB 2 (d2 zax (dV 2) (zeI (dAc (zeI (dAc (dC (.int 0)) (dAc (dC (.int 1)) (dAc (dC (.int 2)) (dAc (dC (.int 3)) (dAc (dC (.int 4)) (dAc (dC (.int 2)) (dAc (dC (.int 1)) (dAc (dC (.int 0)) (dAc (dC (.int 3)) (dAc (dC (.int 4)) dAn))))))))))) (dAc (zeI (dAc (dC (.int 0)) (dAc (dC (.int 1)) (dAc (dC (.int 2)) (dAc (dC (.int 3)) (dAc (dC (.int 1)) (dAc (dC (.int 0)) (dAc (dC (.int 3)) (dAc (dC (.int 2)) dAn))))))))) dAn)))))
  (zaj (zaB 3 (zeI dAn))
  (zaj (zaB 4 (d1 zd5 (dV 1)))
  (zaj (zbF (dB (d2 gGt (d1 zcm (dV 4)) (dC (.int 0))))
  (zaj (zaB 5 (d2 za3 (dV 2) (zfa zbB 0 (dAc (dC (.int 7)) dAn))))
  (zaj (zcx (dB (d2 gGe (d1 znq (dV 5)) (d1 zcm (dV 4)))) (zaB 5 (d2 za3 (dV 2) (dC (.int 0)))) zay)
  (zaj (zaB 6 (zfa zbB 0 (dAc (d2 zax (d1 zcm (dV 3)) (dC (.int 1))) dAn)))
  (zaj (zaB 3 (d2 zax (d2 zax (dSl zeH (dV 3) dOn (dOs (dV 6))) (dLC [0] [none,some 4] (zcs (dV 5)) (dGn 0) zg6 (d2 za3 (dV 1) (dV 0)))) (dSl zeH (dV 3) (dOs (dV 6)) dOn)))
  (zaB 4 (dSl zeH (dV 4) (dOs (d2 zax (d1 znq (dV 5)) (dC (.int 1)))) dOn)))))) 100)
  (zan [0] (dV 3)))))))
def zcq:List T->Option (T × T):=fnI 7 zbP
abbrev zcV[TheK](v:Ev)(k:Nat):Prop:=Cl v k "_law_built_word" ["_law_bag_here","_law_names_here"] (spI .e 2 zcq)
theorem zgy[tk:TheK](h:Here tk.K v.mg "_law_built_word" zcQ ["_law_bag_here","_law_names_here"])(pd:zfc v 1)(m_list:v.mg "list"=none)(m_len:v.mg "len"=none)(m_max:v.mg "max"=none):zcV v 2:=by
 refine(h.vI 1 [] zbP zdG fun f cdv A outer s H E hr=>?_ :);have sc:=zdG;have hu:=zbL hr
 exact(qs_ (M':=[0]) (za9 (M':=[0]) (za7 (i:=2) sc.nd rfl (jA rfl) (qne (zaI (qa_ (qne (zaI (qa_ qi_ (qa_ qi_ za2)))) (qa_ (qne (zaI (qa_ qi_ (qa_ qi_ (qa_ qi_ (qa_ qi_ (qa_ qi_ (qa_ qi_ za2)))))))) (qa_ (qne (zaI (qa_ qi_ (qa_ qi_ (qa_ qi_ (qa_ qi_ (qa_ qi_ (qa_ qi_ (qa_ qi_ (qa_ qi_ za2)))))))))) (qa_ (qne (zaI (qa_ qi_ (qa_ qi_ (qa_ qi_ (qa_ qi_ (qa_ qi_ (qa_ qi_ (qa_ qi_ (qa_ qi_ (qa_ qi_ (qa_ qi_ za2)))))))))))) (qa_ (qne (zaI (qa_ qi_ (qa_ qi_ (qa_ qi_ (qa_ qi_ za2)))))) za2)))))))))
  (qs_ (M':=[0]) (za9 (M':=[0]) (za7 (i:=2) sc.nd rfl (jA rfl) (zao (qV 2) (qnb (zaI (qa_ (qne (zaI (qa_ qi_ (qa_ qi_ (qa_ qi_ (qa_ qi_ (qa_ qi_ (qa_ qi_ (qa_ qi_ (qa_ qi_ (qa_ qi_ (qa_ qi_ za2)))))))))))) (qa_ (qne (zaI (qa_ qi_ (qa_ qi_ (qa_ qi_ (qa_ qi_ (qa_ qi_ (qa_ qi_ (qa_ qi_ (qa_ qi_ za2)))))))))) za2)))))))
  (qs_ (M':=[0]) (za9 (M':=[0]) (za7 (i:=3) sc.nd rfl (jA rfl) (qne (zaI za2))))
  (qs_ (M':=[0]) (za9 (M':=[0]) (za7 (i:=4) sc.nd rfl (ZP rfl) (qne (zf0 rfl rfl rfl m_list (qeb (qV 1))))))
  (qs_ (M':=[0]) (ze4 100 jL (zlC (zaR rfl rfl m_len (qeb (qV 4))) qib)
  (qs_ (M':=[0]) (za9 (M':=[0]) (za7 (i:=5) sc.nd rfl (jA rfl) (za8 rfl hu (qV 2) (qeb (qcI rfl pd hr rfl (qpv 0) (qa_ qi_ za2) ar1)) (fun _ _=>rfl))))
  (qs_ (M':=[0]) (zbc (M':=[0]) (zsx (zmL rfl rfl rfl m_max (qeb (qV 5))) (qeb (zaR rfl rfl m_len (qeb (qV 4))))) (za1 (za9 (M':=[0]) (za7 (i:=5) sc.nd rfl (jA rfl) (za8 rfl hu (qV 2) qib (fun _ _=>rfl))))) zam)
  (qs_ (M':=[0]) (za9 (M':=[0]) (za7 (i:=6) sc.nd rfl (jA rfl) (qcI rfl pd hr rfl (qpv 0) (qa_ (zao (zaR rfl rfl m_len (qeb (qV 3))) qib) za2) ar1)))
  (qs_ (M':=[0]) (za9 (M':=[0]) (za7 (i:=3) sc.nd rfl (jA rfl) (zao (zao (zej rfl (qV 3) zcl (zbx (qV 6))) (qnb (zh1 (Mi:=[]) rfl (zbo (i:=0)) zdz (zeh (N:=["_law_k","_law_left"]) (caps:=[none,some 4]) rfl (zaG rfl (qV 5)) (fun _ _ _ _ _=>(za4 (i:=0) (show (["_law_k","_law_left"]:List Str).Nodup by decide +kernel) rfl (jA rfl))) zaX (fun _ _ _ _ _=>zbi) (fun _ _ _ _ _=>(za8 rfl hu (qV 1) (qeb (qV 0)) (fun _ _=>rfl))))))) (qeb (zej rfl (qV 3) (zbx (qV 6)) zcl)))))
  (za1 (za9 (M':=[0]) (za7 (i:=4) sc.nd rfl (ZP rfl) (zej rfl (qV 4) (zbx (zao (zmL rfl rfl rfl m_max (qeb (qV 5))) qib)) zcl)))))))))
  (za1 (zac (qV 3))))))))
abbrev zdL:Qw:=top 41
theorem zeW:FnScope ["_law_bag_here","_law_names_here","_law_free","_law_made","_law_name","_law_at"] ["_law_bag_here","_law_names_here"] (za0 zdL):=scm
def zcK:DS:=(zaj (zaB 2 (dLR (dAc (d2 zgI (dC (.int 2)) (d1 zcm (dV 1))) dAn)))
  (zaj (zaB 3 (dLC [0] [none] (zcs (dV 2)) (dGn 0) zg6 (dC (.str ""))))
  (zaj (zeJ (zcs (dV 1)) (dGn 4)
  (zaj (zjg 3 (d2 za3 (dV 2) (dC (.int 0))) (dV 4))
  (zaj (zaB 5 (d2 za3 (dV 2) (d2 zax (dC (.int 1)) (zfa zbB 0 (dAc (d2 gSb (d1 zcm (dV 2)) (dC (.int 1))) dAn)))))
  (zaj (zjg 3 (dV 5) (dV 4))
  (zaB 2 (dLC [0,3] [none,some 5] (zcs (dSl zeH (dV 2) (dOs (dC (.int 1))) dOn)) (dGn 0) (dB (d2 gNe (dV 0) (dV 1))) (dV 0)))))))
  (zan [0] (dV 3)))))
def zdr:List T->Option (T × T):=fnI 6 zcK
abbrev ze2[TheK](v:Ev)(k:Nat):Prop:=Cl v k "_law_any_word" ["_law_bag_here","_law_names_here"] (spI .e 2 zdr)
theorem zhX[tk:TheK](h:Here tk.K v.mg "_law_any_word" zdL ["_law_bag_here","_law_names_here"])(pd:zfc v 1)(m_list:v.mg "list"=none)(m_range:v.mg "range"=none)(m_len:v.mg "len"=none):ze2 v 2:=by
 refine(h.vI 1 [] zcK zeW fun f cdv A outer s H E hr=>?_ :);have sc:=zeW;have hu:=zbL hr;have hu8:=zbd hr
 exact(qs_ (M':=[0]) (za9 (M':=[0]) (za7 (i:=2) sc.nd rfl (jA rfl) (qne (ziP rfl rfl m_list rfl m_range (qa_ (zbH qi_ (qeb (zaR rfl rfl m_len (qeb (qV 1))))) za2)))))
  (qs_ (M':=[0,3]) (zaO (M':=[0,3]) (zlD (Mi:=[]) rfl (zbo (i:=0)) zdz (zd0 (i:=3) sc.nd rfl rfl (N:=["_law_at"]) (caps:=[none]) rfl (zaG rfl (qV 2)) (fun _ _ _ _ _=>(za4 (i:=0) (show (["_law_at"]:List Str).Nodup by decide +kernel) rfl (jA rfl))) zaX (fun _ _ _ _ _=>zbi) (fun _ _ _ _ _=>zd1))))
  (qs_ (M':=[0,3]) (zbw (zaP jL rfl (zaG rfl (qV 1)) (zb8 (za4 (i:=4) sc.nd rfl (jA rfl)))
  (qs_ (M':=[0,3]) (zhJ rfl (zet (qV 4) (zhL (qpv 3) (za8 rfl hu (qV 2) qib (fun _ _=>rfl)) zfY)))
  (qs_ (M':=[0,3]) (za9 (M':=[0,3]) (za7 (i:=5) sc.nd rfl (ZP rfl) (za8 rfl hu (qV 2) (qeb (zao qi_ (qeb (qcI rfl pd hr rfl (qpv 0) (qa_ (ziO (zaR rfl rfl m_len (qeb (qV 2))) qib) za2) ar1)))) (fun _ _=>rfl))))
  (qs_ (M':=[0,3]) (zhJ rfl (zet (qV 4) (zhL (qpv 3) (qV 5) zfY)))
  (za1 (za9 (M':=[0,3]) (zob (zlD (Mi:=[]) rfl (zbo (i:=0)) (fun _ _ _ h=>h) (zd0 (i:=2) sc.nd rfl rfl (N:=["_law_spot","_law_at"]) (caps:=[none,some 5]) rfl (zaG rfl (zej rfl (qV 2) (zbx qi_) zcl)) (fun _ _ _ _ _=>(za4 (i:=0) (show (["_law_spot","_law_at"]:List Str).Nodup by decide +kernel) rfl (jA rfl))) zaX (fun _ _ _ _ _=>(ze6 (zgp hu8 (qV 0) (qeb (qV 1))))) (fun _ _ _ _ _=>(qV 0))))))))))))
  (za1 (ziK (M':=[0]) (zac (qV 3)))))))
abbrev zjF:Qw:=top 38
theorem zo7:FnScope ["_law_cell_here"] ["_law_cell_here"] (za0 zjF):=scm
def zic:DS:=(zan [] (zeI (dAc (d2 zgI (d2 ze8 (d2 zfe (dV 0) (dC (.int 2))) (d2 zr9 (d2 zrC (dC (.int 10)) (dC (.int 40))) (d2 zrC (dC (.int 10)) (dC (.int 40))))) (d2 ze8 (dV 0) (dC (.int 2)))) (dAc (d2 ze8 (d2 zfe (dV 0) (dC (.int 2))) (dC (.int 2147483647))) dAn))))
def ze9:List T->Option T:=zin 1 zic
abbrev zik[TheK](v:Ev)(k:Nat):Prop:=Cl v k "_law_bag" ["_law_cell_here"] (spP .n 1 ze9)
theorem zoA[tk:TheK](h:Here tk.K v.mg "_law_bag" zjF ["_law_cell_here"]):zik v 1:=by
 refine(h.vN 0 [] zic zo7 fun f cdv A outer s H E hr=>?_ :);exact(za1 (zmD (zaI (qa_ (zbH (zaH (zby (qV 0) qib) (qeb (zqw (zmJ qi_ qib) (qeb (zmJ qi_ qib))))) (qeb (zaH (qV 0) qib))) (qa_ (zaH (zby (qV 0) qib) qib) za2)))))
abbrev zhB:Qw:=top 43
theorem zms:FnScope ["_law_cell_here","_law_names_here"] ["_law_cell_here","_law_names_here"] (za0 zhB):=scm
def zg4:DS:=(zaj (zcx (dB (d2 gEq (d2 ze8 (dV 0) (dC (.int 2))) (dC (.int 1)))) (zan [] (zgQ zdr (zai ze9 (dAc (dV 0) dAn)) (dAc (dSl zeH (dV 1) dOn (dOs (dC (.int 8)))) dAn))) zay)
  (zan [] (zgQ zcq (zai ze9 (dAc (d2 zfe (dV 0) (dC (.int 2))) dAn)) (dAc (dV 1) dAn))))
def zgJ:List T->Option T:=fnP 2 zg4
abbrev zii[TheK](v:Ev)(k:Nat):Prop:=Cl v k "_law_word" ["_law_cell_here","_law_names_here"] (spP .e 2 zgJ)
theorem zn3[tk:TheK](h:Here tk.K v.mg "_law_word" zhB ["_law_cell_here","_law_names_here"])(kU:ze2 v 2)(pz:zik v 2)(kO:zcV v 2):zii v 3:=by
 refine(h.vP 2 [] zg4 zms fun f cdv A outer s H E hr=>?_ :);have hu8:=zbd hr
 exact(qs_ (M':=[]) (zbc (M':=[]) (zee hu8 (zaH (qV 0) qib) qib) (za1 (zac (qcT (.inl rfl) kU hr rfl (qcN pz hr rfl (qa_ (qV 0) za2) ar1) (qa_ (zej rfl (qV 1) zcl (zbx qi_)) za2) ar1))) zam)
  (za1 (zac (qcT (.inl rfl) kO hr rfl (qcN pz hr rfl (qa_ (zby (qV 0) qib) za2) ar1) (qa_ (qV 1) za2) ar1))))
abbrev zhD:Qw:=top 37
theorem zmt:FnScope ["_law_script","_law_k"] ["_law_script","_law_k"] (za0 zhD):=scm
def zib:DS:=(zaj (zcx (dB (d2 gLt (dV 1) (d1 zcm (dV 0)))) (zan [] (d2 za3 (dV 0) (dV 1))) zay)
  (zan [] (dC (.int 0))))
def zaL:List T->Option T:=fnP 2 zib
abbrev zij[TheK](v:Ev)(k:Nat):Prop:=Cl v k "_law_cell" ["_law_script","_law_k"] (spP .e 2 zaL)
theorem zn5[tk:TheK](h:Here tk.K v.mg "_law_cell" zhD ["_law_script","_law_k"])(m_len:v.mg "len"=none):zij v 1:=by
 refine(h.vP 0 [] zib zmt fun f cdv A outer s H E hr=>?_ :);have hu:=zbL hr
 exact(qs_ (M':=[]) (zbc (M':=[]) (zqm (qV 1) (qeb (zaR rfl rfl m_len (qeb (qV 0))))) (za1 (zac (za8 rfl hu (qV 0) (qeb (qV 1)) (fun _ _=>rfl)))) zam)
  (za1 (zac qi_)))
abbrev zdK:Qw:=top 8
theorem zhA:FnScope ["word"] ["word"] (za0 zdK):=scm
def zcJ:DS:=(zan [] (d1 zd5 (dDC [] [none] (zcs (dV 0)) (dGn 0) zg6 (dV 0) (dC (.bl true)))))
def zar:List T->Option T:=fnP 1 zcJ
abbrev zbv[TheK](v:Ev)(k:Nat):Prop:=Cl v k "names_of" ["word"] (spP .e 1 zar)
theorem zhW[tk:TheK](h:Here tk.K v.mg "names_of" zdK ["word"])(m_list:v.mg "list"=none):zbv v 1:=by
 refine(h.vP 0 [] zcJ zhA fun f cdv A outer s H E hr=>?_ :);exact(za1 (zac (qne (zf0 rfl rfl rfl m_list (qnb (zvi (Mi:=[]) rfl (zbo (i:=0)) zdz (zsz (N:=["name"]) (caps:=[none]) rfl (zaG rfl (qV 0)) (fun _ _ _ _ _=>(za4 (i:=0) (show (["name"]:List Str).Nodup by decide +kernel) rfl (jA rfl))) zaX (fun _ _ _ _ _=>zbi) (fun _ _ _ _ _=>(qV 0)) (fun _ _ _ _ _=>zok))))))))
abbrev zdJ:Qw:=top 14
theorem zeU:FnScope ["mates","name"] ["mates"] (za0 zdJ):=scm
def zbU:DS:=(zaj (zeJ (zcs (dV 0)) (dGn 1)
  (zcx (dB (d2 gEq (d2 ze8 (d1 zcm (d2 za3 (dV 0) (dV 1))) (dC (.int 2))) (dC (.int 1)))) (zan [] (dV 1)) zay))
  (zan [] (dC .non)))
def zdp:List T->Option T:=fnP 2 zbU
abbrev ze1[TheK](v:Ev)(k:Nat):Prop:=Cl v k "odd_name" ["mates"] (spP .e 1 zdp)
theorem zhV[tk:TheK](h:Here tk.K v.mg "odd_name" zdJ ["mates"])(m_len:v.mg "len"=none):ze1 v 1:=by
 refine(h.vP 0 [] zbU zeU fun f cdv A outer s H E hr=>?_ :);have sc:=zeU;have hu:=zbL hr;have hu8:=zbd hr
 exact(qs_ (M':=[]) (zbw (zaP jL rfl (zaG rfl (qV 0)) (zb8 (za4 (i:=1) sc.nd rfl (jA rfl)))
  (za1 (zbc (M':=[]) (zee hu8 (zaH (zaR rfl rfl m_len (qeb (za8 rfl hu (qV 0) (qeb (qV 1)) (fun _ _=>rfl)))) qib) qib) (za1 (zac (qV 1))) zam))))
  (za1 (zac zek)))
abbrev zbK:Qw:=top 15
theorem zeV:FnScope ["mates","one","other"] ["mates","one","other"] (za0 zbK):=scm
def zb4:DS:=(zan [] (d2 gEq (d2 ze8 (d2 zi4 (d2 za3 (dV 0) (dV 1)) (d2 za3 (dV 0) (dV 2))) (dC (.int 2))) (dC (.int 0))))
def zaU:List T->Option T:=fnP 3 zb4
abbrev zb6[TheK](v:Ev)(k:Nat):Prop:=Cl v k "evenly_shared" ["mates","one","other"] (spP .e 3 zaU)
theorem zf3[tk:TheK](h:Here tk.K v.mg "evenly_shared" zbK ["mates","one","other"])(m_len:v.mg "len"=none)(m_set:v.mg "set"=none):zb6 v 1:=by
 refine(h.vP 0 [] zb4 zeV fun f cdv A outer s H E hr=>?_ :);have hu:=zbL hr;have hu8:=zbd hr;exact(za1 (zac (zvh hu8 (zaH (zmM rfl rfl rfl m_len rfl m_set (qeb (za8 rfl hu (qV 0) (qeb (qV 1)) (fun _ _=>rfl))) (qeb (za8 rfl hu (qV 0) (qeb (qV 2)) (fun _ _=>rfl)))) qib) qib)))
abbrev zdI:Qw:=top 16
theorem zeT:FnScope ["mates","one","other","apart"] ["mates"] (za0 zdI):=scm
def zbT:DS:=(zaj (zeJ (zcs (dV 0)) (dGn 1)
  (zeJ (zcs (dV 0)) (dGn 2)
  (zaj (zaB 3 (zrp (d2 gNe (dV 2) (dV 1)) (d2 zaK (dV 2) (d2 za3 (dV 0) (dV 1)))))
  (zcx (zpC (znU (dV 3)) (zoS (znU (zai zaU (dAc (dV 0) (dAc (dV 1) (dAc (dV 2) dAn))))))) (zan [] (zlg (dAc (dV 1) (dAc (dV 2) dAn)))) zay))))
  (zan [] (dC .non)))
def zdo:List T->Option T:=fnP 4 zbT
abbrev ze0[TheK](v:Ev)(k:Nat):Prop:=Cl v k "odd_pair" ["mates"] (spP .e 1 zdo)
theorem zhU[tk:TheK](h:Here tk.K v.mg "odd_pair" zdI ["mates"])(pG:zb6 v 1):ze0 v 2:=by
 refine(h.vP 1 [] zbT zeT fun f cdv A outer s H E hr=>?_ :);have sc:=zeT;have hu:=zbL hr;have hu8:=zbd hr
 exact(qs_ (M':=[]) (zbw (zaP jL rfl (zaG rfl (qV 0)) (zb8 (za4 (i:=1) sc.nd rfl (jA rfl)))
  (za1 (zbw (zaP jL rfl (zaG rfl (qV 0)) (zb8 (za4 (i:=2) sc.nd rfl (jA rfl)))
  (qs_ (M':=[]) (za9 (M':=[]) (za7 (i:=3) sc.nd rfl (jA rfl) (zsG (zvg hu8 (qV 2) (qeb (qV 1))) (zsD (zmK hu (qV 2) (qeb (za8 rfl hu (qV 0) (qeb (qV 1)) (fun _ _=>rfl))) (by with_unfolding_all rfl))))))
  (za1 (zbc (M':=[]) (QW.pt (zkK (zgo (qeb (qV 3))) (zjM (ziI (zgo (qeb (qc pG hr rfl (qa_ (qV 0) (qa_ (qV 1) (qa_ (qV 2) za2))) ar3))))))) (za1 (zac (zei (qa_ (qV 1) (qa_ (qV 2) za2))))) zam))))))))
  (za1 (zac zek)))
abbrev zcN:Qw:=top 18
theorem zdE:FnScope ["mates","origins","beginning","waiting","name","fresh","mate"] ["mates"] (za0 zcN):=scm
def zbg:DS:=(zaj (zaB 1 zlZ)
  (zaj (zeJ (zcs (dV 0)) (dGn 2)
  (zcx (dB (d2 zaK (dV 2) (dV 1))) (zaj (zpB 1 (dV 2) (dC .non))
  (zaj (zaB 3 (zeI (dAc (dV 2) dAn)))
  (zbF (znU (dV 3))
  (zaj (zaB 4 (zhp znS 3 dAn))
  (zaj (zaB 5 (dLC [1,3] [none,some 1] (zcs (d2 za3 (dV 0) (dV 4))) (dGn 0) (dB (d2 zaK (dV 0) (dV 1))) (dV 0)))
  (zaj (zeJ (zcs (dV 5)) (dGn 6)
  (zpB 1 (dV 6) (dV 4)))
  (dDo (zhp zpq 3 (dAc (dV 5) dAn)))))) 100))) zay))
  (zrn 1 (zan [] (dV 1)))))
def zco:List T->Option T:=fnP 7 zbg
abbrev zcT[TheK](v:Ev)(k:Nat):Prop:=Cl v k "found_from" ["mates"] (spP .e 1 zco)
theorem zgw[tk:TheK](h:Here tk.K v.mg "found_from" zcN ["mates"]):zcT v 1:=by
 refine(h.vP 0 [] zbg zdE fun f cdv A outer s H E hr=>?_ :);have sc:=zdE;have hu:=zbL hr
 exact(qs_ (M':=[1]) (zaO (M':=[1]) (za7 (i:=1) sc.nd rfl (ZP rfl) zhO))
  (qs_ (M':=[1]) (zbw (zaP jL rfl (zaG rfl (qV 0)) (zb8 (za4 (i:=2) sc.nd rfl (jA rfl)))
  (za1 (zbc (M':=[1]) (zck hu (qV 2) (zd2 rfl (qpv 1)) (by with_unfolding_all rfl)) (zhI (M':=[1,3]) (qs_ (M':=[1]) (ziJ rfl (zeZ hu (qpv 1) (qV 2) zek rfl))
  (qs_ (M':=[1,3]) (zaO (M':=[1,3]) (za7 (i:=3) sc.nd rfl (jA rfl) (zaI (qa_ (qV 2) za2))))
  (za1 (ze4 100 jL (zgo (zd2 rfl (qpv 3)))
  (qs_ (M':=[1,3]) (za9 (M':=[1,3]) (za7 (i:=4) sc.nd rfl (jA rfl) (zkO rfl (zhM jM ZN ZO zkT (qpv 3)))))
  (qs_ (M':=[1,3]) (za9 (M':=[1,3]) (zob (zlD (Mi:=[1]) rfl (zbo (i:=0)) (fun _ _ _ h=>h) (zd0 (i:=5) sc.nd rfl rfl (N:=["mate","origins"]) (caps:=[none,some 1]) rfl (zaG rfl (za8 rfl hu (qV 0) (qeb (qV 4)) (fun _ _=>rfl))) (fun _ _ _ _ _=>(za4 (i:=0) (show (["mate","origins"]:List Str).Nodup by decide +kernel) rfl (jA rfl))) zaX (fun _ _ _ _ _=>(ze6 (zck hu (qV 0) (zd2 rfl (qpv 1)) (by with_unfolding_all rfl)))) (fun _ _ _ _ _=>(qV 0))))))
  (qs_ (M':=[1,3]) (zbw (zaP jL rfl (zaG rfl (qV 5)) (zb8 (za4 (i:=6) sc.nd rfl (jA rfl)))
  (za1 (ziJ rfl (zeZ hu (qpv 1) (qV 6) (qV 4) rfl)))))
  (za1 (zgq (.inl rfl) (ziQ rfl (zdO jM YF YG zj0 (qpv 3) (qa_ (qV 5) za2))))))))))))) zam))))
  (za1 (zoc (i:=1) (M':=[]) (zac (qV 1))))))
abbrev zcj:Qw:=top 19
theorem zfO:FnScope ["mates","sides","name","mate"] ["mates","sides","name","mate"] (za0 zcj):=scm
def zbD:DS:=(zan [] (dIf (znU (zai zaU (dAc (dV 0) (dAc (dV 2) (dAc (dV 3) dAn))))) (d2 gSb (dC (.int 1)) (d2 za3 (dV 1) (dV 2))) (d2 za3 (dV 1) (dV 2))))
def zbk:List T->Option T:=fnP 4 zbD
abbrev zbE[TheK](v:Ev)(k:Nat):Prop:=Cl v k "side_beside" ["mates","sides","name","mate"] (spP .e 4 zbk)
theorem zfR[tk:TheK](h:Here tk.K v.mg "side_beside" zcj ["mates","sides","name","mate"])(pG:zb6 v 1):zbE v 2:=by
 refine(h.vP 1 [] zbD zfO fun f cdv A outer s H E hr=>?_ :);have hu:=zbL hr;exact(za1 (zac (zsF (zgo (qeb (qc pG hr rfl (qa_ (qV 0) (qa_ (qV 2) (qa_ (qV 3) za2))) ar3))) (ziO qi_ (qeb (za8 rfl hu (qV 1) (qeb (qV 2)) (fun _ _=>rfl)))) (za8 rfl hu (qV 1) (qeb (qV 2)) (fun _ _=>rfl)))))
abbrev zci:Qw:=top 20
theorem zdA:FnScope ["mates","origins","sides","name","origin"] ["mates","origins"] (za0 zci):=scm
def zbC:DS:=(zaj (zaB 2 zlZ)
  (zaj (zeJ (zcs (dV 1)) (dGn 3)
  (zaj (zaB 4 (d2 za3 (dV 1) (dV 3)))
  (zpB 2 (dV 3) (dIf (dB (d2 gIs (dV 4) (dC .non))) (dC (.int 0)) (zgR zbk 2 (dV 0) (dAc (dV 4) (dAc (dV 3) dAn)))))))
  (zrn 2 (zan [] (dV 2)))))
def zc2:List T->Option T:=fnP 5 zbC
abbrev zct[TheK](v:Ev)(k:Nat):Prop:=Cl v k "sides_along" ["mates","origins"] (spP .e 2 zc2)
theorem zfQ[tk:TheK](h:Here tk.K v.mg "sides_along" zci ["mates","origins"])(pD:zbE v 2):zct v 3:=by
 refine(h.vP 2 [] zbC zdA fun f cdv A outer s H E hr=>?_ :);have sc:=zdA;have hu:=zbL hr
 exact(qs_ (M':=[2]) (zaO (M':=[2]) (za7 (i:=2) sc.nd rfl (jA rfl) zhO))
  (qs_ (M':=[2]) (zbw (zaP jL rfl (zaG rfl (qV 1)) (zb8 (za4 (i:=3) sc.nd rfl (jA rfl)))
  (qs_ (M':=[2]) (za9 (M':=[2]) (za7 (i:=4) sc.nd rfl (jA rfl) (za8 rfl hu (qV 1) (qeb (qV 3)) (fun _ _=>rfl))))
  (za1 (ziJ rfl (zeZ hu (qpv 2) (qV 3) (zsF (zsw (qV 4) (qeb zek)) qi_ (zxf rfl pD hr rfl (qV 0) (qpv 2) (qa_ (qV 4) (qa_ (qV 3) za2)) ar2)) rfl))))))
  (za1 (zoc (i:=2) (M':=[]) (zac (qV 2))))))
abbrev zcM:Qw:=top 21
theorem zdD:FnScope ["mates","sides","name","mate"] ["mates","sides"] (za0 zcM):=scm
def zbf:DS:=(zaj (zeJ (zcs (dV 0)) (dGn 2)
  (zeJ (zcs (d2 za3 (dV 0) (dV 2))) (dGn 3)
  (zcx (dB (d2 gNe (zai zbk (dAc (dV 0) (dAc (dV 1) (dAc (dV 2) (dAc (dV 3) dAn))))) (d2 za3 (dV 1) (dV 3)))) (zan [] (zlg (dAc (dV 2) (dAc (dV 3) dAn)))) zay)))
  (zan [] (dC .non)))
def zcn:List T->Option T:=fnP 4 zbf
abbrev zcS[TheK](v:Ev)(k:Nat):Prop:=Cl v k "wrong_step" ["mates","sides"] (spP .e 2 zcn)
theorem zgv[tk:TheK](h:Here tk.K v.mg "wrong_step" zcM ["mates","sides"])(pD:zbE v 2):zcS v 3:=by
 refine(h.vP 2 [] zbf zdD fun f cdv A outer s H E hr=>?_ :);have sc:=zdD;have hu:=zbL hr;have hu8:=zbd hr
 exact(qs_ (M':=[]) (zbw (zaP jL rfl (zaG rfl (qV 0)) (zb8 (za4 (i:=2) sc.nd rfl (jA rfl)))
  (za1 (zbw (zaP jL rfl (zaG rfl (za8 rfl hu (qV 0) (qeb (qV 2)) (fun _ _=>rfl))) (zb8 (za4 (i:=3) sc.nd rfl (jA rfl)))
  (za1 (zbc (M':=[]) (zgp hu8 (qc pD hr rfl (qa_ (qV 0) (qa_ (qV 1) (qa_ (qV 2) (qa_ (qV 3) za2)))) ar4) (qeb (za8 rfl hu (qV 1) (qeb (qV 3)) (fun _ _=>rfl)))) (za1 (zac (zei (qa_ (qV 2) (qa_ (qV 3) za2))))) zam)))))))
  (za1 (zac zek)))
abbrev zdH:Qw:=top 22
theorem zeS:FnScope ["origins","name","way"] ["origins","name"] (za0 zdH):=scm
def zcI:DS:=(zaj (zaB 2 (zeI (dAc (dV 1) dAn)))
  (zaj (zbF (dB (d2 zbz (d2 za3 (dV 0) (d2v za3 2 (d1 zl5 (dC (.int 1))))) (dC .non)))
  (dDo (zhp zk1 2 (dAc (d2 za3 (dV 0) (d2v za3 2 (d1 zl5 (dC (.int 1))))) dAn))) 100)
  (zan [] (dV 2))))
def zc7:List T->Option T:=zin 3 zcI
abbrev zdZ[TheK](v:Ev)(k:Nat):Prop:=Cl v k "way_back" ["origins","name"] (spP .n 2 zc7)
theorem zhT[tk:TheK](h:Here tk.K v.mg "way_back" zdH ["origins","name"]):zdZ v 1:=by
 refine(h.vN 0 [] zcI zeS fun f cdv A outer s H E hr=>?_ :);have sc:=zeS;have hu:=zbL hr
 exact(qs_ (M':=[2]) (zaO (M':=[2]) (za7 (i:=2) sc.nd rfl (jA rfl) (zaI (qa_ (qV 1) za2))))
  (qs_ (M':=[2]) (ze4 100 jL (zg1 (za8 rfl hu (qV 0) (qeb (zb2 rfl rfl hu (qpv 2) (qeb (zgr qib)) (fun _ _=>rfl))) (fun _ _=>rfl)) (qeb zek))
  (za1 (zgq (.inl rfl) (zd3 rfl (zdO jM Qn Qo zbQ (qpv 2) (qa_ (za8 rfl hu (qV 0) (qeb (zb2 rfl rfl hu (qpv 2) (qeb (zgr qib)) (fun _ _=>rfl))) (fun _ _=>rfl)) za2))))))
  (za1 (zqo rfl rfl (qpv 2)))))
abbrev zbX:Qw:=top 23
theorem zcX:FnScope ["origins","one","other","far","near"] ["origins","one","other"] (za0 zbX):=scm
def zaS:DS:=(zaj (zaB 3 (zai zc7 (dAc (dV 0) (dAc (dV 1) dAn))))
  (zaj (zaB 4 (zai zc7 (dAc (dV 0) (dAc (dV 2) dAn))))
  (zaj (zbF (zpC (dB (d2 gGt (d1 zcm (dV 3)) (dC (.int 1)))) (zpC (dB (d2 gGt (d1 zcm (dV 4)) (dC (.int 1)))) (dB (d2 gEq (d2v za3 3 (d1 zl5 (dC (.int 2)))) (d2v za3 4 (d1 zl5 (dC (.int 2))))))))
  (zaj (dDo (zhp znS 3 dAn))
  (dDo (zhp znS 4 dAn))) 100)
  (zan [] (d2v zoH 3 (zvX (zu7 gSl 4 dOn (dOs (d1 zl5 (dC (.int 1))))) (dOs (d1 zl5 (dC (.int 1))))))))))
def zbM:List T->Option T:=fnP 5 zaS
abbrev zc4[TheK](v:Ev)(k:Nat):Prop:=Cl v k "ring_through" ["origins","one","other"] (spP .e 3 zbM)
theorem zfm[tk:TheK](h:Here tk.K v.mg "ring_through" zbX ["origins","one","other"])(pS:zdZ v 1)(m_len:v.mg "len"=none):zc4 v 2:=by
 refine(h.vP 1 [] zaS zcX fun f cdv A outer s H E hr=>?_ :);have sc:=zcX;have hu:=zbL hr;have hu8:=zbd hr
 exact(qs_ (M':=[3]) (zaO (M':=[3]) (za7 (i:=3) sc.nd rfl (jA rfl) (qcN pS hr rfl (qa_ (qV 0) (qa_ (qV 1) za2)) ar2)))
  (qs_ (M':=[3,4]) (zaO (M':=[3,4]) (za7 (i:=4) sc.nd rfl (jA rfl) (qcN pS hr rfl (qa_ (qV 0) (qa_ (qV 2) za2)) ar2)))
  (qs_ (M':=[3,4]) (ze4 100 jL (QW.pt (zkK (zlC (zaR rfl rfl m_len (zd2 rfl (qpv 3))) qib) (zkK (zlC (zaR rfl rfl m_len (zd2 rfl (qpv 4))) qib) (zjM (zee hu8 (zb2 rfl rfl hu (qpv 3) (qeb (zgr qib)) (fun _ _=>rfl)) (qeb (zb2 rfl rfl hu (qpv 4) (qeb (zgr qib)) (fun _ _=>rfl))))))))
  (qs_ (M':=[3,4]) (zgq (.inl rfl) (zkO rfl (zhM jM ZN ZO zkT (qpv 3))))
  (za1 (zgq (.inl rfl) (zkO rfl (zhM jM ZN ZO zkT (qpv 4)))))))
  (za1 (zac (qne (zqy rfl (qpv 3) (qnb (zsC rfl (qne (zsB rfl rfl (qpv 4) zcl (zbx (zgr qib)))) (zbx (zgr qib)))))))))))
abbrev zbJ:Qw:=top 17
theorem zcA:FnScope ["mates","origins","sides","step"] ["mates"] (za0 zbJ):=scm
def zaM:DS:=(zaj (zaB 1 (zai zco (dAc (dV 0) dAn)))
  (zaj (zaB 2 (zai zc2 (dAc (dV 0) (dAc (dV 1) dAn))))
  (zaj (zaB 3 (zai zcn (dAc (dV 0) (dAc (dV 2) dAn))))
  (zaj (zcx (dB (d2 zbz (dV 3) (dC .non))) (zan [] (zlg (dAc (dC (.str "ring")) (dAc (zai zbM (dAc (dV 1) (dAc (d2 za3 (dV 3) (dC (.int 0))) (dAc (d2 za3 (dV 3) (dC (.int 1))) dAn)))) dAn)))) zay)
  (zan [] (zlg (dAc (dC (.str "sides")) (dAc (dLC [] [none,some 2] (zcs (dV 0)) (dGn 0) zg6 (d2 za3 (dV 1) (dV 0))) dAn))))))))
def zbA:List T->Option T:=fnP 4 zaM
abbrev zbN[TheK](v:Ev)(k:Nat):Prop:=Cl v k "sides_or_ring" ["mates"] (spP .e 1 zbA)
theorem zf2[tk:TheK](h:Here tk.K v.mg "sides_or_ring" zbJ ["mates"])(kF:zcT v 3)(kJ:zct v 3)(kP:zcS v 3)(hZ:zc4 v 3):zbN v 4:=by
 refine(h.vP 3 [] zaM zcA fun f cdv A outer s H E hr=>?_ :);have sc:=zcA;have hu:=zbL hr
 exact(qs_ (M':=[]) (za9 (M':=[]) (za7 (i:=1) sc.nd rfl (jA rfl) (qc kF hr rfl (qa_ (qV 0) za2) ar1)))
  (qs_ (M':=[]) (za9 (M':=[]) (za7 (i:=2) sc.nd rfl (ZP rfl) (qc kJ hr rfl (qa_ (qV 0) (qa_ (qV 1) za2)) ar2)))
  (qs_ (M':=[]) (za9 (M':=[]) (za7 (i:=3) sc.nd rfl (jA rfl) (qc kP hr rfl (qa_ (qV 0) (qa_ (qV 2) za2)) ar2)))
  (qs_ (M':=[]) (zbc (M':=[]) (zg1 (qV 3) (qeb zek)) (za1 (zac (zei (qa_ zd1 (qa_ (qc hZ hr rfl (qa_ (qV 1) (qa_ (za8 rfl hu (qV 3) qib (fun _ _=>rfl)) (qa_ (za8 rfl hu (qV 3) qib (fun _ _=>rfl)) za2))) ar3) za2))))) zam)
  (za1 (zac (zei (qa_ zd1 (qa_ (qne (zh1 (Mi:=[]) rfl (zbo (i:=0)) zdz (zeh (N:=["name","sides"]) (caps:=[none,some 2]) rfl (zaG rfl (qV 0)) (fun _ _ _ _ _=>(za4 (i:=0) (show (["name","sides"]:List Str).Nodup by decide +kernel) rfl (jA rfl))) zaX (fun _ _ _ _ _=>zbi) (fun _ _ _ _ _=>(za8 rfl hu (qV 1) (qeb (qV 0)) (fun _ _=>rfl)))))) za2)))))))))
abbrev zdd:Qw:=top 9
theorem zh0:FnScope ["word","name"] ["word","name"] (za0 zdd):=scm
def zc9:DS:=(zan [] (dLC [] [none,none,some 1] (dEn (dAc (dV 0) dAn)) (dGt [0,1]) (dB (d2 gEq (dV 1) (dV 2))) (dV 0)))
def zbe:List T->Option T:=fnP 2 zc9
abbrev zcc[TheK](v:Ev)(k:Nat):Prop:=Cl v k "standings" ["word","name"] (spP .e 2 zbe)
theorem zh5[tk:TheK](h:Here tk.K v.mg "standings" zdd ["word","name"])(m_enumerate:v.mg "enumerate"=none):zcc v 1:=by
 refine(h.vP 0 [] zc9 zh0 fun f cdv A outer s H E hr=>?_ :);have hu8:=zbd hr;exact(za1 (zac (qne (zh1 (Mi:=[]) rfl (zmk (K:=tk.K) (is:=[0,1]) (n:=2)) (fun _ _ _ h=>h) (zeh (N:=["at","other","name"]) (caps:=[none,none,some 1]) (g:=zlQ tk.K 2 (gsN [0,1])) rfl (zmH rfl m_enumerate (qa_ (qV 0) za2)) (fun _ _ _ _ _=>(zhK (K:=tk.K) rfl rfl (zah (za4 (i:=0) (show (["at","other","name"]:List Str).Nodup by decide +kernel) rfl (jA rfl)) (zah (za4 (i:=1) (show (["at","other","name"]:List Str).Nodup by decide +kernel) rfl (jA rfl)) zbj)))) zk5 (fun _ _ _ _ _=>(ze6 (zee hu8 (qV 1) (qeb (qV 2))))) (fun _ _ _ _ _=>(qV 0)))))))
abbrev zeq:Qw:=top 10
theorem zfE:FnScope ["word","name","low","high"] ["word","name"] (za0 zeq):=scm
def zdu:DS:=(zaj (dUn [2,3] (zai zbe (dAc (dV 0) (dAc (dV 1) dAn))))
  (zan [] (dSl zeH (dV 0) (dOs (d2 zax (dV 2) (dC (.int 1)))) (dOs (dV 3)))))
def zdU:List T->Option T:=fnP 4 zdu
abbrev zeE[TheK](v:Ev)(k:Nat):Prop:=Cl v k "between" ["word","name"] (spP .e 2 zdU)
theorem ziY[tk:TheK](h:Here tk.K v.mg "between" zeq ["word","name"])(pH:zcc v 1):zeE v 2:=by
 refine(h.vP 1 [] zdu zfE fun f cdv A outer s H E hr=>?_ :);have sc:=zfE
 exact(qs_ (M':=[]) (zmC (is:=[2,3]) (n:=2) (K:=tk.K) (zet (qc pH hr rfl (qa_ (qV 0) (qa_ (qV 1) za2)) ar2) (zqt (zjO rfl (zah (za4 (i:=2) sc.nd rfl (jA rfl)) (zah (za4 (i:=3) sc.nd rfl (jA rfl)) zbj))) (zfl rfl (zah (za4 (i:=2) sc.nd rfl (jA rfl)) (zah (za4 (i:=3) sc.nd rfl (jA rfl)) zbj))))) rfl rfl rfl)
  (za1 (zac (zej rfl (qV 0) (zbx (zao (qV 2) qib)) (zbx (qV 3))))))
abbrev zbZ:Qw:=top 11
theorem zcZ:FnScope ["word","name","inside"] ["word","name"] (za0 zbZ):=scm
def zbm:DS:=(zaj (zaB 2 (zai zdU (dAc (dV 0) (dAc (dV 1) dAn))))
  (zan [] (dLC [] [none,some 2] (zcs (zai zar (dAc (dV 0) dAn))) (dGn 0) (dB (d2 gEq (d2L zhn (dV 1) (dV 0)) (dC (.int 1)))) (dV 0))))
def zaw:List T->Option T:=fnP 3 zbm
abbrev zbn[TheK](v:Ev)(k:Nat):Prop:=Cl v k "crossed_with" ["word","name"] (spP .e 2 zaw)
theorem zfo[tk:TheK](h:Here tk.K v.mg "crossed_with" zbZ ["word","name"])(ku:zeE v 2)(pe:zbv v 2):zbn v 3:=by
 refine(h.vP 2 [] zbm zcZ fun f cdv A outer s H E hr=>?_ :);have sc:=zcZ;have hu8:=zbd hr
 exact(qs_ (M':=[]) (za9 (M':=[]) (za7 (i:=2) sc.nd rfl (ZP rfl) (qc ku hr rfl (qa_ (qV 0) (qa_ (qV 1) za2)) ar2)))
  (za1 (zac (qne (zh1 (Mi:=[]) rfl (zbo (i:=0)) (fun _ _ _ h=>h) (zeh (N:=["other","inside"]) (caps:=[none,some 2]) rfl (zaG rfl (qc pe hr rfl (qa_ (qV 0) za2) ar1)) (fun _ _ _ _ _=>(za4 (i:=0) (show (["other","inside"]:List Str).Nodup by decide +kernel) rfl (jA rfl))) zaX (fun _ _ _ _ _=>(ze6 (zee hu8 (zog (zdO jM PySem.F.slot_list_count PySem.F.type_list_count zna (qV 1) (zhN (qeb (qV 0)) zjP))) qib))) (fun _ _ _ _ _=>(qV 0))))))))
abbrev zfi:Qw:=top 13
theorem zgf:FnScope ["word","mates","odd","pair"] ["word"] (za0 zfi):=scm
def zd7:DS:=(zaj (zaB 1 (dDC [] [none,some 0] (zcs (zai zar (dAc (dV 0) dAn))) (dGn 0) zg6 (dV 0) (zai zaw (dAc (dV 1) (dAc (dV 0) dAn)))))
  (zaj (zrn 1 (zaB 2 (zai zdp (dAc (dV 1) dAn))))
  (zaj (zcx (dB (d2 zbz (dV 2) (dC .non))) (zan [] (zlg (dAc (dC (.str "odd")) (dAc (dV 2) dAn)))) zay)
  (zaj (zaB 3 (zai zdo (dAc (dV 1) dAn)))
  (zaj (zcx (dB (d2 zbz (dV 3) (dC .non))) (zan [] (zlg (dAc (dC (.str "pair")) (dAc (d2 za3 (dV 3) (dC (.int 0))) (dAc (d2 za3 (dV 3) (dC (.int 1))) dAn))))) zay)
  (zan [] (zai zbA (dAc (dV 1) dAn))))))))
def zbp:List T->Option T:=fnP 4 zd7
abbrev zed[TheK](v:Ev)(k:Nat):Prop:=Cl v k "looked" ["word"] (spP .e 1 zbp)
theorem zjU[tk:TheK](h:Here tk.K v.mg "looked" zfi ["word"])(pe:zbv v 4)(pJ:zbn v 4)(m7:ze1 v 4)(p9:ze0 v 4)(ka:zbN v 4):zed v 5:=by
 refine(h.vP 4 [] zd7 zgf fun f cdv A outer s H E hr=>?_ :);have sc:=zgf;have hu:=zbL hr
 exact(qs_ (M':=[1]) (zaO (M':=[1]) (zve (Mi:=[]) rfl (zbo (i:=0)) zdz (zmF (i:=1) sc.nd rfl rfl (N:=["name","word"]) (caps:=[none,some 0]) rfl (zaG rfl (qc pe hr rfl (qa_ (qV 0) za2) ar1)) (fun _ _ _ _ _=>(za4 (i:=0) (show (["name","word"]:List Str).Nodup by decide +kernel) rfl (jA rfl))) zaX (fun _ _ _ _ _=>zbi) (fun _ _ _ _ _=>(qV 0)) (fun _ _ _ _ _=>(qc pJ hr rfl (qa_ (qV 1) (qa_ (qV 0) za2)) ar2)))))
  (qs_ (M':=[]) (zoc (i:=1) (M':=[]) (za9 (M':=[]) (za7 (i:=2) sc.nd rfl (jA rfl) (qc m7 hr rfl (qa_ (qV 1) za2) ar1))))
  (qs_ (M':=[]) (zbc (M':=[]) (zg1 (qV 2) (qeb zek)) (za1 (zac (zei (qa_ zd1 (qa_ (qV 2) za2))))) zam)
  (qs_ (M':=[]) (za9 (M':=[]) (za7 (i:=3) sc.nd rfl (jA rfl) (qc p9 hr rfl (qa_ (qV 1) za2) ar1)))
  (qs_ (M':=[]) (zbc (M':=[]) (zg1 (qV 3) (qeb zek)) (za1 (zac (zei (qa_ zd1 (qa_ (za8 rfl hu (qV 3) qib (fun _ _=>rfl)) (qa_ (za8 rfl hu (qV 3) qib (fun _ _=>rfl)) za2)))))) zam)
  (za1 (zac (qc ka hr rfl (qa_ (qV 1) za2) ar1))))))))
abbrev zbY:Qw:=top 28
theorem zcY:FnScope ["word","name","side","first","second"] ["word","name","side"] (za0 zbY):=scm
def zbl:DS:=(zaj (dUn [3,4] (zai zbe (dAc (dV 0) (dAc (dV 1) dAn))))
  (zaj (zcx (dB (d2 gEq (d2 ze8 (d2 zax (dV 2) (dV 3)) (dC (.int 2))) (dC (.int 0)))) (zan [] (zeI (dAc (d2 zgI (dC (.int 2)) (dV 3)) (dAc (d2 zgI (dC (.int 2)) (dV 4)) (dAc (d2 zax (d2 zgI (dC (.int 2)) (dV 3)) (dC (.int 1))) (dAc (d2 zax (d2 zgI (dC (.int 2)) (dV 4)) (dC (.int 1))) dAn)))))) zay)
  (zan [] (zeI (dAc (d2 zgI (dC (.int 2)) (dV 3)) (dAc (d2 zax (d2 zgI (dC (.int 2)) (dV 4)) (dC (.int 1))) (dAc (d2 zax (d2 zgI (dC (.int 2)) (dV 3)) (dC (.int 1))) (dAc (d2 zgI (dC (.int 2)) (dV 4)) dAn))))))))
def zb3:List T->Option T:=fnP 5 zbl
abbrev zc5[TheK](v:Ev)(k:Nat):Prop:=Cl v k "ends_by_side" ["word","name","side"] (spP .e 3 zb3)
theorem zfn[tk:TheK](h:Here tk.K v.mg "ends_by_side" zbY ["word","name","side"])(pH:zcc v 1):zc5 v 2:=by
 refine(h.vP 1 [] zbl zcY fun f cdv A outer s H E hr=>?_ :);have sc:=zcY;have hu8:=zbd hr
 exact(qs_ (M':=[]) (zmC (is:=[3,4]) (n:=2) (K:=tk.K) (zet (qc pH hr rfl (qa_ (qV 0) (qa_ (qV 1) za2)) ar2) (zqt (zjO rfl (zah (za4 (i:=3) sc.nd rfl (jA rfl)) (zah (za4 (i:=4) sc.nd rfl (jA rfl)) zbj))) (zfl rfl (zah (za4 (i:=3) sc.nd rfl (jA rfl)) (zah (za4 (i:=4) sc.nd rfl (jA rfl)) zbj))))) rfl rfl rfl)
  (qs_ (M':=[]) (zbc (M':=[]) (zee hu8 (zaH (zao (qV 2) (qeb (qV 3))) qib) qib) (za1 (zac (qne (zaI (qa_ (zbH qi_ (qeb (qV 3))) (qa_ (zbH qi_ (qeb (qV 4))) (qa_ (zao (zbH qi_ (qeb (qV 3))) qib) (qa_ (zao (zbH qi_ (qeb (qV 4))) qib) za2)))))))) zam)
  (za1 (zac (qne (zaI (qa_ (zbH qi_ (qeb (qV 3))) (qa_ (zao (zbH qi_ (qeb (qV 4))) qib) (qa_ (zao (zbH qi_ (qeb (qV 3))) qib) (qa_ (zbH qi_ (qeb (qV 4))) za2))))))))))
abbrev zde:Qw:=top 27
theorem zcB:FnScope ["word","told"] ["word"] (za0 zde):=scm
def zb0:DS:=(zaj (zaB 1 (zai zbp (dAc (dV 0) dAn)))
  (zaj (zcx (dB (d2 gNe (d2 za3 (dV 1) (dC (.int 0))) (dC (.str "sides")))) zfK zay)
  (zan [] (dLC [] [none,none,some 0] (zu6 (dAc (zai zar (dAc (dV 0) dAn)) (dAc (d2 za3 (dV 1) (dC (.int 1))) dAn))) (dGt [0,1]) zg6 (zlg (dAc (dV 0) (dAc (zai zb3 (dAc (dV 2) (dAc (dV 0) (dAc (dV 1) dAn)))) dAn)))))))
def zav:List T->Option T:=fnP 2 zb0
abbrev zeD[TheK](v:Ev)(k:Nat):Prop:=Cl v k "drawing" ["word"] (spP .e 1 zav)
theorem ziX[tk:TheK](h:Here tk.K v.mg "drawing" zde ["word"])(pI:zed v 5)(pe:zbv v 5)(ke:zc5 v 5)(m_zip:v.mg "zip"=none):zeD v 6:=by
 refine(h.vP 5 [] zb0 zcB fun f cdv A outer s H E hr=>?_ :);have sc:=zcB;have hu:=zbL hr;have hu8:=zbd hr
 exact(qs_ (M':=[]) (za9 (M':=[]) (za7 (i:=1) sc.nd rfl (jA rfl) (qc pI hr rfl (qa_ (qV 0) za2) ar1)))
  (qs_ (M':=[]) (zbc (M':=[]) (zgp hu8 (za8 rfl hu (qV 1) qib (fun _ _=>rfl)) (qeb zd1)) (za1 ze5) zam)
  (za1 (zac (qne (zh1 (Mi:=[]) rfl (zmk (K:=tk.K) (is:=[0,1]) (n:=2)) zdz (zeh (N:=["name","side","word"]) (caps:=[none,none,some 0]) (g:=zlQ tk.K 2 (gsN [0,1])) rfl (zsA rfl rfl m_zip (qa_ (qc pe hr rfl (qa_ (qV 0) za2) ar1) (qa_ (za8 rfl hu (qV 1) qib (fun _ _=>rfl)) za2))) (fun _ _ _ _ _=>(zhK (K:=tk.K) rfl rfl (zah (za4 (i:=0) (show (["name","side","word"]:List Str).Nodup by decide +kernel) rfl (jA rfl)) (zah (za4 (i:=1) (show (["name","side","word"]:List Str).Nodup by decide +kernel) rfl (jA rfl)) zbj)))) zk5 (fun _ _ _ _ _=>zbi) (fun _ _ _ _ _=>(zei (qa_ (qV 0) (qa_ (qc ke hr rfl (qa_ (qV 2) (qa_ (qV 0) (qa_ (qV 1) za2))) ar3) za2)))))))))))
def zcH:DR:=(zf9 zm6 (zaB 1 (zai zbp (dAc (dV 0) dAn)))
  (zf9 (zoT (dB (d2 gNe (d2 za3 (dV 1) (dC (.int 0))) (dC (.str "sides")))) (zkn (dV 1)) zm6) (zcx (dB (d2 gNe (d2 za3 (dV 1) (dC (.int 0))) (dC (.str "sides")))) zfK zay)
  zm6))
def zbt:List T->Bool:=fnR 2 zcH
abbrev zeA[TheK](v:Ev)(a:Ax)(k:Nat):Prop:=ClR v k "drawing" ["word"] (spR a.r2 1 zbt)
theorem zi0[tk:TheK]{a:Ax}(h:Here tk.K v.mg "drawing" zde ["word"])(pI:zed v 5)(mv:Mw v a)(nd:Nd v a):zeA v a 6:=by
 obtain⟨bm,xc⟩:=nd;refine(h.vR 5 _ zcH zcB fun f cdv A outer s H E hr hA=>?_ :);have sc:=zcB;have hu:=zbL hr;have hu8:=zbd hr
 exact(zhg (rk:=.e) ziM (za9 (M':=[]) (za7 (i:=1) sc.nd rfl (jA rfl) (qc pI hr rfl (qa_ (qV 0) za2) ar1)))
  (zhg (rk:=.e) (zqs (zgp hu8 (za8 rfl hu (qV 1) qib (fun _ _=>rfl)) (qeb zd1)) (ziL (zmE (k:=4) (zlA hA) rfl hr xc rfl mv.m2 (qV 1))) zqr) (zbc (M':=[]) (zgp hu8 (za8 rfl hu (qV 1) qib (fun _ _=>rfl)) (qeb zd1)) (za1 ze5) zam)
  (ziL ziM)))
abbrev zes:Qw:=top 44
theorem zfF:FnScope ["_law_bag_here","_law_word_here","_law_told","_law_turned","_law_name","_law_side","_law_todo","_law_here","_law_made","_law_ends"] ["_law_bag_here","_law_word_here"] (za0 zes):=scm
def zb1:DS:=(zaj (zkm [0] 1 zbt (dAc (dV 1) dAn) (zaB 2 (zai zav (dAc (dV 1) dAn))))
  (zaj (zaB 3 zlZ)
  (zaj (zeJ (zcs (zai zar (dAc (dV 1) dAn))) (dGn 4)
  (zcx (dB (d2 zaK (dV 4) (dV 3))) (zaj (zaB 5 (zfa zbB 0 (dAc (dC (.int 2)) dAn)))
  (zaj (zaB 6 (zeI (dAc (dV 4) dAn)))
  (zbF (dB (d2 gGt (d1 zcm (dV 6)) (dC (.int 0))))
  (zaj (zaB 7 (zhp znS 6 dAn))
  (zcx (dB (d2 zaK (dV 7) (dV 3))) (zaj (zpB 3 (dV 7) (dV 5))
  (dDo (zhp zpq 6 (dAc (zai zaw (dAc (dV 1) (dAc (dV 7) dAn))) dAn)))) zay)) 1000))) zay))
  (zaj (zaB 8 (zeI dAn))
  (zaj (zeJ (zcs (dV 2)) (dGt [4,9])
  (zaj (zcx (dB (d2 gEq (d2v za3 3 (dV 4)) (dC (.int 1)))) (zaB 9 (zeI (dAc (d2 za3 (dV 9) (dC (.int 0))) (dAc (d2 za3 (dV 9) (dC (.int 3))) (dAc (d2 za3 (dV 9) (dC (.int 2))) (dAc (d2 za3 (dV 9) (dC (.int 1))) dAn)))))) zay)
  (dDo (zhp zk1 8 (dAc (zlg (dAc (dV 4) (dAc (d1 zd5 (dV 9)) dAn))) dAn)))))
  (zan [0] (dV 8)))))))
def zcG:List T->Option (T × T):=fnI 10 zb1
abbrev zeG[TheK](v:Ev)(k:Nat):Prop:=Cl v k "_law_drawing" ["_law_bag_here","_law_word_here"] (spI .e 2 zcG)
theorem ziZ[tk:TheK]{a:Ax}(h:Here tk.K v.mg "_law_drawing" zes ["_law_bag_here","_law_word_here"])(mL:zeD v 6)(pe:zbv v 6)(pd:zfc v 6)(pJ:zbn v 6)(pA:zeA v a 6)(m_len:v.mg "len"=none)(m_list:v.mg "list"=none)(mv:Mw v a)(nd:Nd v a):zeG v 7:=by
 obtain⟨df,dh,pA,kS,mQ,kn⟩:=pA;obtain⟨bm,xd⟩:=nd;have hmm:(jS a.r2::bm).contains (.ref a.r2)=true:=by rw[gE,beq_self_eq_true,U1]
 refine(h.vI0 6 [] zb1 zfF fun f cdv A outer s H E hr hA=>?_ :);have sc:=zfF;have hu:=zbL hr;have hu8:=zbd hr
 exact(zmB (zsi (M':=[0]) (fun W=>(za9 (M':=[0]) (za7 (i:=2) sc.nd rfl (jA rfl) (qc mL hr rfl (qa_ (qV 1) za2) ar1))))
  (fun W E' hp=>zsy (i:=2) sc.nd rfl (jA rfl) pA hr rfl kn mQ kS hp (qa_ (qV 1) za2) (.inr rfl)) rfl rfl rfl rfl mv.m2 xd.o xd.o hmm)
  (qs_ (M':=[0,3]) (zaO (M':=[0,3]) (za7 (i:=3) sc.nd rfl (jA rfl) zhO))
  (qs_ (M':=[0,3]) (zbw (zaP jL rfl (zaG rfl (qc pe hr rfl (qa_ (qV 1) za2) ar1)) (zb8 (za4 (i:=4) sc.nd rfl (jA rfl)))
  (za1 (zbc (M':=[0,3]) (zck hu (qV 4) (zd2 rfl (qpv 3)) (by with_unfolding_all rfl)) (zhI (M':=[0,3,6]) (qs_ (M':=[0,3]) (za9 (M':=[0,3]) (za7 (i:=5) sc.nd rfl (jA rfl) (qcI rfl pd hr rfl (qpv 0) (qa_ qi_ za2) ar1)))
  (qs_ (M':=[0,3,6]) (zaO (M':=[0,3,6]) (za7 (i:=6) sc.nd rfl (jA rfl) (zaI (qa_ (qV 4) za2))))
  (za1 (ze4 1000 jL (zlC (zaR rfl rfl m_len (zd2 rfl (qpv 6))) qib)
  (qs_ (M':=[0,3,6]) (za9 (M':=[0,3,6]) (za7 (i:=7) sc.nd rfl (jA rfl) (zkO rfl (zhM jM ZN ZO zkT (qpv 6)))))
  (za1 (zbc (M':=[0,3,6]) (zck hu (qV 7) (zd2 rfl (qpv 3)) (by with_unfolding_all rfl)) (qs_ (M':=[0,3,6]) (ziJ rfl (zeZ hu (qpv 3) (qV 7) (qV 5) rfl))
  (za1 (zgq (.inl rfl) (ziQ rfl (zdO jM YF YG zj0 (qpv 6) (qa_ (qc pJ hr rfl (qa_ (qV 1) (qa_ (qV 7) za2)) ar2) za2)))))) zam)))))))) zam))))
  (qs_ (M':=[0,3,8]) (zaO (M':=[0,3,8]) (za7 (i:=8) sc.nd rfl (jA rfl) (zaI za2)))
  (qs_ (M':=[0,3,8]) (zbw (zaP jL rfl (zaG rfl (qV 2)) (zmI (K:=tk.K) (is:=[4,9]) (n:=2) (zfl rfl (zah (za4 (i:=4) sc.nd rfl (jA rfl)) (zah (za4 (i:=9) sc.nd rfl (jA rfl)) zbj))))
  (qs_ (M':=[0,3,8]) (zbc (M':=[0,3,8]) (zee hu8 (zb2 rfl rfl hu (qpv 3) (qeb (qV 4)) (fun _ _=>rfl)) qib) (za1 (za9 (M':=[0,3,8]) (za7 (i:=9) sc.nd rfl (jA rfl) (qne (zaI (qa_ (za8 rfl hu (qV 9) qib (fun _ _=>rfl)) (qa_ (za8 rfl hu (qV 9) qib (fun _ _=>rfl)) (qa_ (za8 rfl hu (qV 9) qib (fun _ _=>rfl)) (qa_ (za8 rfl hu (qV 9) qib (fun _ _=>rfl)) za2))))))))) zam)
  (za1 (zgq (.inl rfl) (zd3 rfl (zdO jM Qn Qo zbQ (qpv 8) (qa_ (zei (qa_ (qV 4) (qa_ (qne (zf0 rfl rfl rfl m_list (qeb (qV 9)))) za2))) za2))))))))
  (za1 (ziK (M':=[0,3]) (zac (qV 8)))))))))
abbrev zfk:Qw:=top 45
theorem zgh:FnScope ["_law_script","_law_many","_law_names_here","_law_word_here"] ["_law_script"] (za0 zfk):=scm
def zd8:DS:=(zaj (zaB 1 (d2 ze8 (zai zaL (dAc (dV 0) (dAc (dC (.int 1)) dAn))) (dC (.int 13))))
  (zaj (zcx (dB (d2 gEq (d2 ze8 (d2 zfe (zai zaL (dAc (dV 0) (dAc (dC (.int 1)) dAn))) (dC (.int 13))) (dC (.int 8))) (dC (.int 5)))) (zaB 1 (d2 zax (dC (.int 13)) (d2 ze8 (d2 zfe (zai zaL (dAc (dV 0) (dAc (dC (.int 1)) dAn))) (dC (.int 104))) (dC (.int 18))))) zay)
  (zaj (zaB 2 (zai zfs (dAc (zai zaL (dAc (dV 0) (dAc (dC (.int 0)) dAn))) (dAc (dV 1) dAn))))
  (zaj (zaB 3 (zai zgJ (dAc (zai zaL (dAc (dV 0) (dAc (dC (.int 2)) dAn))) (dAc (dV 2) dAn))))
  (zan [] (zlg (dAc (dV 3) (dAc (zgQ zcG (zai ze9 (dAc (zai zaL (dAc (dV 0) (dAc (dC (.int 3)) dAn))) dAn)) (dAc (dV 3) dAn)) dAn))))))))
def zey:List T->Option T:=fnP 4 zd8
abbrev zfz[TheK](v:Ev)(k:Nat):Prop:=Cl v k "_law_set_up" ["_law_script"] (spP .e 1 zey)
theorem zjW[tk:TheK](h:Here tk.K v.mg "_law_set_up" zfk ["_law_script"])(pf:zij v 7)(kg:zgU v 7)(kK:zii v 7)(mT:zeG v 7)(pz:zik v 7):zfz v 8:=by
 refine(h.vP 7 [] zd8 zgh fun f cdv A outer s H E hr=>?_ :);have sc:=zgh;have hu8:=zbd hr
 exact(qs_ (M':=[]) (za9 (M':=[]) (za7 (i:=1) sc.nd rfl (jA rfl) (zaH (qc pf hr rfl (qa_ (qV 0) (qa_ qi_ za2)) ar2) qib)))
  (qs_ (M':=[]) (zbc (M':=[]) (zee hu8 (zaH (zby (qc pf hr rfl (qa_ (qV 0) (qa_ qi_ za2)) ar2) qib) qib) qib) (za1 (za9 (M':=[]) (za7 (i:=1) sc.nd rfl (jA rfl) (zao qi_ (qeb (zaH (zby (qc pf hr rfl (qa_ (qV 0) (qa_ qi_ za2)) ar2) qib) qib)))))) zam)
  (qs_ (M':=[]) (za9 (M':=[]) (za7 (i:=2) sc.nd rfl (jA rfl) (qc kg hr rfl (qa_ (qc pf hr rfl (qa_ (qV 0) (qa_ qi_ za2)) ar2) (qa_ (qV 1) za2)) ar2)))
  (qs_ (M':=[]) (za9 (M':=[]) (za7 (i:=3) sc.nd rfl (jA rfl) (qc kK hr rfl (qa_ (qc pf hr rfl (qa_ (qV 0) (qa_ qi_ za2)) ar2) (qa_ (qV 2) za2)) ar2)))
  (za1 (zac (zei (qa_ (qV 3) (qa_ (qcT (.inl rfl) mT hr rfl (qcN pz hr rfl (qa_ (qc pf hr rfl (qa_ (qV 0) (qa_ qi_ za2)) ar2) za2) ar1) (qa_ (qV 3) za2) ar1) za2)))))))))
abbrev zcO:Qw:=top 30
theorem zdF:FnScope ["crossings","ahead","name","ends","at","end"] ["crossings"] (za0 zcO):=scm
def zbh:DS:=(zaj (zaB 1 zlZ)
  (zaj (zeJ (zcs (dV 0)) (dGt [2,3])
  (zeJ (dEn (dAc (dV 3) dAn)) (dGt [4,5])
  (zpB 1 (dV 5) (d2 za3 (dV 3) (d2 gSb (dV 4) (dC (.int 1)))))))
  (zrn 1 (zan [] (dV 1)))))
def zcp:List T->Option T:=fnP 6 zbh
abbrev zcU[TheK](v:Ev)(k:Nat):Prop:=Cl v k "ends_ahead" ["crossings"] (spP .e 1 zcp)
theorem zgx[tk:TheK](h:Here tk.K v.mg "ends_ahead" zcO ["crossings"])(m_enumerate:v.mg "enumerate"=none):zcU v 1:=by
 refine(h.vP 0 [] zbh zdF fun f cdv A outer s H E hr=>?_ :);have sc:=zdF;have hu:=zbL hr
 exact(qs_ (M':=[1]) (zaO (M':=[1]) (za7 (i:=1) sc.nd rfl (jA rfl) zhO))
  (qs_ (M':=[1]) (zbw (zaP jL rfl (zaG rfl (qV 0)) (zmI (K:=tk.K) (is:=[2,3]) (n:=2) (zfl rfl (zah (za4 (i:=2) sc.nd rfl (jA rfl)) (zah (za4 (i:=3) sc.nd rfl (jA rfl)) zbj))))
  (za1 (zbw (zaP jL rfl (zmH rfl m_enumerate (qa_ (qV 3) za2)) (zmI (K:=tk.K) (is:=[4,5]) (n:=2) (zfl rfl (zah (za4 (i:=4) sc.nd rfl (jA rfl)) (zah (za4 (i:=5) sc.nd rfl (jA rfl)) zbj))))
  (za1 (ziJ rfl (zeZ hu (qpv 1) (qV 5) (za8 rfl hu (qV 3) (qeb (ziO (qV 4) qib)) (fun _ _=>rfl)) rfl))))))))
  (za1 (zoc (i:=1) (M':=[]) (zac (qV 1))))))
abbrev zfh:Qw:=top 25
theorem zge:FnScope ["after","told","walked","start","walk","at"] ["after"] (za0 zfh):=scm
def zea:DS:=(zaj (zaB 1 (zeI dAn))
  (zaj (zaB 2 zrk)
  (zaj (zeJ (znV (dAc (d1 zcm (dV 0)) dAn)) (dGn 3)
  (zaj (zaB 4 (zeI dAn))
  (zaj (zaB 5 (dV 3))
  (zaj (zbF (dB (d2 zlR (dV 5) (dV 2)))
  (zaj (dDo (zrl 2 (dV 5)))
  (zaj (dDo (zhp zk1 4 (dAc (dV 5) dAn)))
  (zaB 5 (d2 za3 (dV 0) (dV 5))))) 300)
  (zcx (znU (dV 4)) (dDo (zhp zk1 1 (dAc (dV 4) dAn))) zay)))))
  (zan [] (dV 1)))))
def zex:List T->Option T:=fnP 6 zea
abbrev zfy[TheK](v:Ev)(k:Nat):Prop:=Cl v k "rounds" ["after"] (spP .e 1 zex)
theorem zjT[tk:TheK](h:Here tk.K v.mg "rounds" zfh ["after"])(m_set:v.mg "set"=none)(m_range:v.mg "range"=none)(m_len:v.mg "len"=none):zfy v 1:=by
 refine(h.vP 0 [] zea zge fun f cdv A outer s H E hr=>?_ :);have sc:=zge;have hu:=zbL hr
 exact(qs_ (M':=[1]) (zaO (M':=[1]) (za7 (i:=1) sc.nd rfl (jA rfl) (zaI za2)))
  (qs_ (M':=[1,2]) (zaO (M':=[1,2]) (za7 (i:=2) sc.nd rfl (jA rfl) (zqu rfl m_set)))
  (qs_ (M':=[1,2]) (zbw (zaP jL rfl (zdP rfl m_range (qa_ (zaR rfl rfl m_len (qeb (qV 0))) za2)) (zb8 (za4 (i:=3) sc.nd rfl (jA rfl)))
  (qs_ (M':=[1,2,4]) (zaO (M':=[1,2,4]) (za7 (i:=4) sc.nd rfl (jA rfl) (zaI za2)))
  (qs_ (M':=[1,2,4]) (za9 (M':=[1,2,4]) (za7 (i:=5) sc.nd rfl (jA rfl) (qV 3)))
  (qs_ (M':=[1,2,4]) (ze4 300 jL (zql (qV 5) (zd2 rfl (qpv 2)) (by with_unfolding_all rfl))
  (qs_ (M':=[1,2,4]) (zgq (.inl rfl) (zqv rfl (zdO PySem.F.plainAttrs_set PySem.F.slot_set_add PySem.F.type_set_add zqX (qpv 2) (zhN (qV 5) zjP))))
  (qs_ (M':=[1,2,4]) (zgq (.inl rfl) (zd3 rfl (zdO jM Qn Qo zbQ (qpv 4) (qa_ (qV 5) za2))))
  (za1 (za9 (M':=[1,2,4]) (za7 (i:=5) sc.nd rfl (jA rfl) (za8 rfl hu (qV 0) (qeb (qV 5)) (fun _ _=>rfl))))))))
  (za1 (zbc (M':=[1,2]) (zgo (zd2 rfl (qpv 4))) (za1 (ziK (M':=[1,2]) (zgq (.inl rfl) (zd3 rfl (zdO jM Qn Qo zbQ (qpv 1) (qa_ (qV 4) za2)))))) (zhI (M':=[1,2,4]) zam))))))))
  (za1 (ziK (M':=[2]) (zac (qV 1)))))))
abbrev zdb:Qw:=top 32
theorem zeg:FnScope ["size","end","standing"] ["size","end"] (za0 zdb):=scm
def zc8:DS:=(zaj (zaB 2 (d2 zfe (dV 1) (dC (.int 2))))
  (zaj (zcx (dB (d2 gEq (d2 ze8 (dV 1) (dC (.int 2))) (dC (.int 0)))) (zan [] (d2 zgI (dC (.int 2)) (dV 2))) zay)
  (zan [] (d2 zax (d2 zgI (dC (.int 2)) (d2 ze8 (d2 gSb (dV 2) (dC (.int 1))) (dV 0))) (dC (.int 1))))))
def zbO:List T->Option T:=fnP 3 zc8
abbrev zdx[TheK](v:Ev)(k:Nat):Prop:=Cl v k "walker_by" ["size","end"] (spP .e 2 zbO)
theorem zh4[tk:TheK](h:Here tk.K v.mg "walker_by" zdb ["size","end"]):zdx v 1:=by
 refine(h.vP 0 [] zc8 zeg fun f cdv A outer s H E hr=>?_ :);have sc:=zeg;have hu8:=zbd hr
 exact(qs_ (M':=[]) (za9 (M':=[]) (za7 (i:=2) sc.nd rfl (jA rfl) (zby (qV 1) qib)))
  (qs_ (M':=[]) (zbc (M':=[]) (zee hu8 (zaH (qV 1) qib) qib) (za1 (zac (zbH qi_ (qeb (qV 2))))) zam)
  (za1 (zac (zao (zbH qi_ (qeb (zaH (ziO (qV 2) qib) (qeb (qV 0))))) qib)))))
abbrev zfj:Qw:=top 31
theorem zgg:FnScope ["size","walker","stretch"] ["size","walker"] (za0 zfj):=scm
def zeb:DS:=(zaj (zaB 2 (d2 zfe (dV 1) (dC (.int 2))))
  (zaj (zcx (dB (d2 gEq (d2 ze8 (dV 1) (dC (.int 2))) (dC (.int 1)))) (zan [] (d2 zgI (dC (.int 2)) (dV 2))) zay)
  (zan [] (d2 zax (d2 zgI (dC (.int 2)) (d2 ze8 (d2 zax (dV 2) (dC (.int 1))) (dV 0))) (dC (.int 1))))))
def zaY:List T->Option T:=fnP 3 zeb
abbrev zda[TheK](v:Ev)(k:Nat):Prop:=Cl v k "end_of" ["size","walker"] (spP .e 2 zaY)
theorem zjV[tk:TheK](h:Here tk.K v.mg "end_of" zfj ["size","walker"]):zda v 1:=by
 refine(h.vP 0 [] zeb zgg fun f cdv A outer s H E hr=>?_ :);have sc:=zgg;have hu8:=zbd hr
 exact(qs_ (M':=[]) (za9 (M':=[]) (za7 (i:=2) sc.nd rfl (jA rfl) (zby (qV 1) qib)))
  (qs_ (M':=[]) (zbc (M':=[]) (zee hu8 (zaH (qV 1) qib) qib) (za1 (zac (zbH qi_ (qeb (qV 2))))) zam)
  (za1 (zac (zao (zbH qi_ (qeb (zaH (zao (qV 2) qib) (qeb (qV 0))))) qib)))))
abbrev zep:Qw:=top 29
theorem zfD:FnScope ["word","crossings","ahead","size"] ["word","crossings"] (za0 zep):=scm
def zcr:DS:=(zaj (zcx (zoS (znU (dV 0))) (zan [] (zeI (dAc (zeI dAn) (dAc (zeI dAn) dAn)))) zay)
  (zaj (zaB 2 (zai zcp (dAc (dV 1) dAn)))
  (zaj (zaB 3 (d1 zcm (dV 0)))
  (zan [] (zai zex (dAc (dLC [] [none,some 3,some 2] (znV (dAc (d2 zgI (dC (.int 2)) (dV 3)) dAn)) (dGn 0) zg6 (zai zbO (dAc (dV 1) (dAc (d2 za3 (dV 2) (zai zaY (dAc (dV 1) (dAc (dV 0) dAn)))) dAn)))) dAn))))))
def zaz:List T->Option T:=fnP 4 zcr
abbrev zcu[TheK](v:Ev)(k:Nat):Prop:=Cl v k "patches" ["word","crossings"] (spP .e 2 zaz)
theorem ziW[tk:TheK](h:Here tk.K v.mg "patches" zep ["word","crossings"])(mY:zcU v 1)(hV:zfy v 1)(kG:zdx v 1)(pw:zda v 1)(m_len:v.mg "len"=none)(m_range:v.mg "range"=none):zcu v 2:=by
 refine(h.vP 1 [] zcr zfD fun f cdv A outer s H E hr=>?_ :);have sc:=zfD;have hu:=zbL hr
 exact(qs_ (M':=[]) (zbc (M':=[]) (ziI (zgo (qeb (qV 0)))) (za1 (zac (qne (zaI (qa_ (qne (zaI za2)) (qa_ (qne (zaI za2)) za2)))))) zam)
  (qs_ (M':=[]) (za9 (M':=[]) (za7 (i:=2) sc.nd rfl (ZP rfl) (qc mY hr rfl (qa_ (qV 1) za2) ar1)))
  (qs_ (M':=[]) (za9 (M':=[]) (za7 (i:=3) sc.nd rfl (ZP rfl) (zaR rfl rfl m_len (qeb (qV 0)))))
  (za1 (zac (qc hV hr rfl (qa_ (qne (zh1 (Mi:=[]) rfl (zbo (i:=0)) zdz (zeh (N:=["walker","size","ahead"]) (caps:=[none,some 3,some 2]) rfl (zdP rfl m_range (qa_ (zbH qi_ (qeb (qV 3))) za2)) (fun _ _ _ _ _=>(za4 (i:=0) (show (["walker","size","ahead"]:List Str).Nodup by decide +kernel) rfl (jA rfl))) zaX (fun _ _ _ _ _=>zbi) (fun _ _ _ _ _=>(qc kG hr rfl (qa_ (qV 1) (qa_ (za8 rfl hu (qV 2) (qeb (qc pw hr rfl (qa_ (qV 1) (qa_ (qV 0) za2)) ar2)) (fun _ _=>rfl)) za2)) ar2))))) za2) ar1))))))
abbrev zeo:Qw:=top 34
theorem ziB:FnScope ["word","gone"] ["word","gone"] (za0 zeo):=scm
def zdt:DS:=(zan [] (dLC [] [none,some 1] (zcs (dV 0)) (dGn 0) (dB (d2 zaK (dV 0) (dV 1))) (dV 0)))
def zcF:List T->Option T:=zin 2 zdt
abbrev zeB[TheK](v:Ev)(k:Nat):Prop:=Cl v k "without" ["word","gone"] (spP .n 2 zcF)
theorem ziU[tk:TheK](h:Here tk.K v.mg "without" zeo ["word","gone"]):zeB v 1:=by
 refine(h.vN 0 [] zdt ziB fun f cdv A outer s H E hr=>?_ :);have hu:=zbL hr;exact(za1 (zmD (zh1 (Mi:=[]) rfl (zbo (i:=0)) (fun _ _ _ h=>h) (zeh (N:=["name","gone"]) (caps:=[none,some 1]) rfl (zaG rfl (qV 0)) (fun _ _ _ _ _=>(za4 (i:=0) (show (["name","gone"]:List Str).Nodup by decide +kernel) rfl (jA rfl))) zaX (fun _ _ _ _ _=>(ze6 (zck hu (qV 0) (qeb (qV 1)) (by with_unfolding_all rfl)))) (fun _ _ _ _ _=>(qV 0))))))
abbrev zdc:Qw:=top 35
theorem zcz:FnScope ["word","crossings","patch","walks","gone"] ["word","crossings","patch"] (za0 zdc):=scm
def zaD:DS:=(zaj (zaB 3 (zai zaz (dAc (dV 0) (dAc (dV 1) dAn))))
  (zaj (zcx (dOr (zoS (dB (dCh gLe gLt (dC (.int 0)) (dV 2) (d1 zcm (dV 3))))) (dB (d2 gNe (d1 zcm (d2 za3 (dV 3) (dV 2))) (dC (.int 2))))) zfK zay)
  (zaj (zaB 4 (dLC [] [none,some 0] (zcs (d2 za3 (dV 3) (dV 2))) (dGn 0) zg6 (d2 za3 (dV 1) (d2 zfe (zai zaY (dAc (d1 zcm (dV 1)) (dAc (dV 0) dAn))) (dC (.int 2))))))
  (zaj (zcx (dB (d2 gEq (d2 za3 (dV 4) (dC (.int 0))) (d2 za3 (dV 4) (dC (.int 1))))) zfK zay)
  (zan [] (ztJ (zai zcF (dAc (dV 0) (dAc (dV 4) dAn)))))))))
def zbR:List T->Option T:=zin 5 zaD
abbrev zeC[TheK](v:Ev)(k:Nat):Prop:=Cl v k "unpoked" ["word","crossings","patch"] (spD 3 zbR)
theorem ziV[tk:TheK](h:Here tk.K v.mg "unpoked" zdc ["word","crossings","patch"])(pp:zcu v 2)(pw:zda v 2)(pU:zeB v 2)(m_len:v.mg "len"=none):zeC v 3:=by
 refine(h.vD 2 [] zaD zcz fun f cdv A outer s H E hr=>?_ :);have sc:=zcz;have hu:=zbL hr;have hu8:=zbd hr
 exact(qs_ (M':=[]) (za9 (M':=[]) (za7 (i:=3) sc.nd rfl (jA rfl) (qc pp hr rfl (qa_ (qV 0) (qa_ (qV 1) za2)) ar2)))
  (qs_ (M':=[]) (zbc (M':=[]) (QW.pt (zjL (ziI (zjN qi_ (qV 2) (zaR rfl rfl m_len (qeb (qV 3))))) (zhf (zgp hu8 (zaR rfl rfl m_len (qeb (za8 rfl hu (qV 3) (qeb (qV 2)) (fun _ _=>rfl)))) qib)))) (za1 ze5) zam)
  (qs_ (M':=[]) (za9 (M':=[]) (zob (zlD (Mi:=[]) rfl (zbo (i:=0)) zdz (zd0 (i:=4) sc.nd rfl rfl (N:=["walker","word"]) (caps:=[none,some 0]) rfl (zaG rfl (za8 rfl hu (qV 3) (qeb (qV 2)) (fun _ _=>rfl))) (fun _ _ _ _ _=>(za4 (i:=0) (show (["walker","word"]:List Str).Nodup by decide +kernel) rfl (jA rfl))) zaX (fun _ _ _ _ _=>zbi) (fun _ _ _ _ _=>(za8 rfl hu (qV 1) (qeb (zby (qc pw hr rfl (qa_ (zaR rfl rfl m_len (qeb (qV 1))) (qa_ (qV 0) za2)) ar2) qib)) (fun _ _=>rfl)))))))
  (qs_ (M':=[]) (zbc (M':=[]) (zee hu8 (za8 rfl hu (qV 4) qib (fun _ _=>rfl)) (qeb (za8 rfl hu (qV 4) qib (fun _ _=>rfl)))) (za1 ze5) zam)
  (za1 (zqp (zqx (qcN pU hr rfl (qa_ (qV 0) (qa_ (qV 4) za2)) ar2))))))))
def zaZ:DR:=(zf9 zm6 (zaB 3 (zai zaz (dAc (dV 0) (dAc (dV 1) dAn))))
  (zf9 (zoT (dOr (zoS (dB (dCh gLe gLt (dC (.int 0)) (dV 2) (d1 zcm (dV 3))))) (dB (d2 gNe (d1 zcm (d2 za3 (dV 3) (dV 2))) (dC (.int 2))))) zoR zm6) (zcx (dOr (zoS (dB (dCh gLe gLt (dC (.int 0)) (dV 2) (d1 zcm (dV 3))))) (dB (d2 gNe (d1 zcm (d2 za3 (dV 3) (dV 2))) (dC (.int 2))))) zfK zay)
  (zf9 zm6 (zaB 4 (dLC [] [none,some 0] (zcs (d2 za3 (dV 3) (dV 2))) (dGn 0) zg6 (d2 za3 (dV 1) (d2 zfe (zai zaY (dAc (d1 zcm (dV 1)) (dAc (dV 0) dAn))) (dC (.int 2))))))
  (zf9 (zoT (dB (d2 gEq (d2 za3 (dV 4) (dC (.int 0))) (d2 za3 (dV 4) (dC (.int 1))))) zoR zm6) (zcx (dB (d2 gEq (d2 za3 (dV 4) (dC (.int 0))) (d2 za3 (dV 4) (dC (.int 1))))) zfK zay)
  zm6))))
def zcC:List T->Bool:=fnR 5 zaZ
abbrev zez[TheK](v:Ev)(a:Ax)(k:Nat):Prop:=ClR v k "unpoked" ["word","crossings","patch"] (spR a.C 3 zcC)
theorem zhZ[tk:TheK]{a:Ax}(h:Here tk.K v.mg "unpoked" zdc ["word","crossings","patch"])(pp:zcu v 2)(pw:zda v 2)(m_len:v.mg "len"=none)(mv:Mw v a):zez v a 3:=by
 obtain⟨bm,xc,_⟩:=mv.xc;refine(h.vR 2 _ zaZ zcz fun f cdv A outer s H E hr hA=>?_ :);have sc:=zcz;have hu:=zbL hr;have hu8:=zbd hr
 exact(zhg (rk:=.e) ziM (za9 (M':=[]) (za7 (i:=3) sc.nd rfl (jA rfl) (qc pp hr rfl (qa_ (qV 0) (qa_ (qV 1) za2)) ar2)))
  (zhg (rk:=.e) (zqs (QW.pt (zjL (ziI (zjN qi_ (qV 2) (zaR rfl rfl m_len (qeb (qV 3))))) (zhf (zgp hu8 (zaR rfl rfl m_len (qeb (za8 rfl hu (qV 3) (qeb (qV 2)) (fun _ _=>rfl)))) qib)))) (ziL (zkN (ziH hA) rfl xc rfl mv.mC zmG)) zqr) (zbc (M':=[]) (QW.pt (zjL (ziI (zjN qi_ (qV 2) (zaR rfl rfl m_len (qeb (qV 3))))) (zhf (zgp hu8 (zaR rfl rfl m_len (qeb (za8 rfl hu (qV 3) (qeb (qV 2)) (fun _ _=>rfl)))) qib)))) (za1 ze5) zam)
  (zhg (rk:=.e) ziM (za9 (M':=[]) (zob (zlD (Mi:=[]) rfl (zbo (i:=0)) zdz (zd0 (i:=4) sc.nd rfl rfl (N:=["walker","word"]) (caps:=[none,some 0]) rfl (zaG rfl (za8 rfl hu (qV 3) (qeb (qV 2)) (fun _ _=>rfl))) (fun _ _ _ _ _=>(za4 (i:=0) (show (["walker","word"]:List Str).Nodup by decide +kernel) rfl (jA rfl))) zaX (fun _ _ _ _ _=>zbi) (fun _ _ _ _ _=>(za8 rfl hu (qV 1) (qeb (zby (qc pw hr rfl (qa_ (zaR rfl rfl m_len (qeb (qV 1))) (qa_ (qV 0) za2)) ar2) qib)) (fun _ _=>rfl)))))))
  (zhg (rk:=.e) (zqs (zee hu8 (za8 rfl hu (qV 4) qib (fun _ _=>rfl)) (qeb (za8 rfl hu (qV 4) qib (fun _ _=>rfl)))) (ziL (zkN (ziH hA) rfl xc rfl mv.mC zmG)) zqr) (zbc (M':=[]) (zee hu8 (za8 rfl hu (qV 4) qib (fun _ _=>rfl)) (qeb (za8 rfl hu (qV 4) qib (fun _ _=>rfl)))) (za1 ze5) zam)
  (ziL ziM)))))
abbrev zcP:Qw:=top 46
theorem zgi:FnScope ["_law_e"] ["_law_e"] (za0 zcP):=scm
abbrev zcR[TheK](v:Ev)(a:Ax)(k:Nat):Prop:=ClH v k "_law_is_no_move" ["_law_e"] (zx7 a.C)
theorem zfS[tk:TheK]{a:Ax}(h:Here tk.K v.mg "_law_is_no_move" zcP ["_law_e"])(m_isinstance:v.mg "isinstance"=none)(m_ValueError:v.mg "ValueError"=none)(mv:Mw v a):zcR v a 1:=by
 have sc:=zgi;refine h.okH sc (fun vs H Q E ⟨x,e,_⟩=>by rw[e]; rfl) fun f cdv A outer s H vs Q E hr hs=>?_
 obtain⟨x,rfl,hx,q⟩:=hs
 refine⟨_,PSs.zero (zdh (zmU (PW.pt (zsH (zmP (zmO (zdj zlm rfl m_isinstance zcb (zak (pv 0) (zak (zn0 (v:=.ty "ValueError") rfl m_ValueError (by decide +kernel) rfl) zbI)))))
  (zpd (zmP (zmO (zdj zlm rfl m_isinstance zcb (zak (pv 0) (zak (zgs (v:=.ref a.C) rfl mv.mC rfl) zbI)))))))) (zc1 (zdQ zsZ)) zhQ)
  (zc1 (zdQ (zsT (zdj znJ rfl m_isinstance zcb (zak (pv 0) (zak (zpj (zak (zgs (v:=.ref a.r1) rfl mv.m1 rfl) (zak (zgs (v:=.ref a.r2) rfl mv.m2 rfl) (zak (zgs (v:=.ref a.r3) rfl mv.m3 rfl) (zak (zgs (v:=.ref a.r4) rfl mv.m4 rfl) zbI))))) zbI))))))),?_⟩
 refine⟨_,rfl,x,a.C,.ty "ValueError",.type "ValueError",true,rfl,rfl,hx,mv.xi,mv.ve,true,rfl,?_⟩;refine⟨_,rfl,x,a.C,.ref a.C,.ref a.C,true,rfl,rfl,hx,mv.xi,?_,true,rfl,?_⟩
 ·unfold gP;rw[Ip_ (beq_self_eq_true _)]
 refine⟨_,rfl,by show 4<=jn; decide,fun p hp=>?_⟩
 have hxp:x≠p:=fun z=>by rw[<-z,hx] at hp; cases hp
 refine⟨x,a.C,p,[a.r1,a.r2,a.r3,a.r4],false,rfl,?_,mv.xi,?_,mv.no,false,rfl,?_⟩
 ·rw[za6 hxp]; exact hx
 ·exact zad
 ·exact q _ (fun b o e=>by rw[za6 (fun z=>by rw[z,hp] at e; cases e)]; exact e) fun b e=>by
   unfold upd at e;split at e
   ·cases e
   ·exact e
abbrev zer:Qw:=top 47
theorem ziC:FnScope ["_law_word_here","_law_lines","_law_patch","_law_e"] ["_law_word_here","_law_lines","_law_patch"] (za0 zer):=scm
def zat:List T->Option T:=fun ts=>match zbR ts with
 |some t=>some t
 |none=>if zcC ts=true then some (.str "none") else none
abbrev zeF[TheK](v:Ev)(k:Nat):Prop:=Cl v k "_law_unpoked" ["_law_word_here","_law_lines","_law_patch"] (spD 3 zat)
theorem zhY[tk:TheK]{a:Ax}(h:Here tk.K v.mg "_law_unpoked" zer ["_law_word_here","_law_lines","_law_patch"])(mZ:zeC v 3)(hX:zez v a 3)(H_no:zcR v a 3)(mv:Mw v a):zeF v 4:=by
 obtain⟨f1,fd1,G1,b1,k1,m1⟩:=mZ;obtain⟨f2,fd2,G2,b2,k2,m2⟩:=hX;obtain⟨f3,fd3,G3,b3,k3,m3⟩:=H_no;obtain⟨bm,xc,hcD⟩:=mv.xc;obtain⟨bmD,xd,_⟩:=mv.xd;have sc:=ziC;refine h.okX (CX:=CX0) sc (fun vs H Q E ⟨C,ts,t,hl,r,_⟩=>by rw[r.1,hl]; rfl) fun f cdv A outer s H vs Q E hr hA hs=>?_
 refine⟨_,zon (zmS (i:=3) (bmD:=bmD) (tb:=fun E'=>fun D' σ' H'=>ztZ (zgd (spD 3 zbR) [] E0 _) D' σ' H'∨ztZ (zgd (spR a.C 3 zcC) [] E' _) D' σ' H')
  (fun W E' hp=>zpg (zc1 (zdQ (zdk G1 hr rfl m1 k1 b1 .nil zjR (zak (pv 0) (zak (pv 1) (zak (pv 2) zbI)))))) (zc1 (zdQ (zdk G2 hr rfl m2 k2 b2 .nil hp (zak (pv 0) (zak (pv 1) (zak (pv 2) zbI)))))))
  rfl rfl rfl rfl sc.nd rfl rfl rfl mv.mD xd
  (fun x=>zdh (zmU (zmO (zow (E:=E0) G3 (hr.h.mark _) rfl m3 k3 b3 (zak (pv 3) zbI))) (zc1 (zdQ zkP)) zhQ) (zc1 (zdQ zkP)))),?_⟩
 obtain⟨C',ts,t,hl,r,hf,q⟩:=hs;obtain⟨v0,v1,v2,rfl⟩:∃ v0 v1 v2,vs=[v0,v1,v2]:=by
  match vs,(r.1.trans hl) with
  |[v0,v1,v2],_=>exact⟨v0,v1,v2,rfl⟩
 unfold zat at hf;split at hf
 ·rename_i t' ht;obtain rfl:=jc hf;exact .inl ⟨_,rfl,_,rfl,_,rfl, C',ts,t',hl,r,ht,q⟩
 ·split at hf
  case isFalse=>cases hf
  rename_i hrs;obtain rfl:=jc hf;refine .inr ⟨_,rfl,_,rfl,_,rfl, C',ts,hl,r,hrs,fun H' kp dm=>⟨a.C,bm,rfl,xc,hcD,fun x hx=>?_⟩⟩;refine⟨_,rfl,x,rfl,zad,fun H2 k2 d2=>⟨true,rfl,?_⟩⟩;refine q _ H2 (fun b o e=>k2 b o ?_) (fun b e=>dm b ?_) (.str _)
  ·have e':=kp b o e;rw[za6 (fun z=>by rw[z,hx] at e'; cases e')]
   exact e'
  ·have e':=d2 b e;unfold upd at e';split at e'
   ·cases e'
   ·exact e'
abbrev zjE:Qw:=top 48
theorem zkH:FnScope ["_law_word_here","_law_some","_law_patch","_law_names_here","_law_walker"] ["_law_word_here","_law_some","_law_patch"] (za0 zjE):=scm
def zdW:DS:=(zaj (zcx (dOr (dB (d2 gLt (dV 2) (dC (.int 0)))) (dOr (dB (d2 gGe (dV 2) (d1 zcm (dV 1)))) (dB (d2 gNe (d1 zcm (d2 za3 (dV 1) (dV 2))) (dC (.int 2)))))) (zan [] (dC (.str "none"))) zay)
  (zaj (zaB 3 (zeI dAn))
  (zaj (zeJ (zcs (d2 za3 (dV 1) (dV 2))) (dGn 4)
  (dDo (zhp zk1 3 (dAc (d2 za3 (dV 0) (d2 ze8 (d2 gSb (d2 zax (d2 zfe (dV 4) (dC (.int 2))) (dC (.int 1))) (d2 ze8 (dV 4) (dC (.int 2)))) (d1 zcm (dV 0)))) dAn))))
  (zaj (zcx (dB (d2 gEq (d2v za3 3 (dC (.int 0))) (d2v za3 3 (dC (.int 1))))) (zan [] (dC (.str "none"))) zay)
  (zan [] (dLC [3] [none,some 3] (zcs (dV 0)) (dGn 0) (dB (d2 zaK (dV 0) (dV 1))) (dV 0)))))))
def zdq:List T->Option T:=fnP 5 zdW
abbrev zkx[TheK](v:Ev)(k:Nat):Prop:=Cl v k "_law_due" ["_law_word_here","_law_some","_law_patch"] (spP .e 3 zdq)
theorem zoz[tk:TheK](h:Here tk.K v.mg "_law_due" zjE ["_law_word_here","_law_some","_law_patch"])(m_len:v.mg "len"=none):zkx v 1:=by
 refine(h.vP 0 [] zdW zkH fun f cdv A outer s H E hr=>?_ :);have sc:=zkH;have hu:=zbL hr;have hu8:=zbd hr
 exact(qs_ (M':=[]) (zbc (M':=[]) (QW.pt (zjL (zqm (qV 2) qib) (zjL (zsx (qV 2) (qeb (zaR rfl rfl m_len (qeb (qV 1))))) (zhf (zgp hu8 (zaR rfl rfl m_len (qeb (za8 rfl hu (qV 1) (qeb (qV 2)) (fun _ _=>rfl)))) qib))))) (za1 (zac zd1)) zam)
  (qs_ (M':=[3]) (zaO (M':=[3]) (za7 (i:=3) sc.nd rfl (ZP rfl) (zaI za2)))
  (qs_ (M':=[3]) (zbw (zaP jL rfl (zaG rfl (za8 rfl hu (qV 1) (qeb (qV 2)) (fun _ _=>rfl))) (zb8 (za4 (i:=4) sc.nd rfl (jA rfl)))
  (za1 (zgq (.inl rfl) (zd3 rfl (zdO jM Qn Qo zbQ (qpv 3) (qa_ (za8 rfl hu (qV 0) (qeb (zaH (ziO (zao (zby (qV 4) qib) qib) (qeb (zaH (qV 4) qib))) (qeb (zaR rfl rfl m_len (qeb (qV 0)))))) (fun _ _=>rfl)) za2)))))))
  (qs_ (M':=[3]) (zbc (M':=[3]) (zee hu8 (zb2 rfl rfl hu (qpv 3) qib (fun _ _=>rfl)) (qeb (zb2 rfl rfl hu (qpv 3) qib (fun _ _=>rfl)))) (za1 (zac zd1)) zam)
  (za1 (zac (qne (zh1 (Mi:=[1]) rfl (zbo (i:=0)) (fun _ _ _ h=>h) (zeh (N:=["_law_name","_law_names_here"]) (caps:=[none,some 3]) rfl (zaG rfl (qV 0)) (fun _ _ _ _ _=>(za4 (i:=0) (show (["_law_name","_law_names_here"]:List Str).Nodup by decide +kernel) rfl (jA rfl))) zaX (fun _ _ _ _ _=>(ze6 (zck hu (qV 0) (zd2 rfl (qpv 1)) (by with_unfolding_all rfl)))) (fun _ _ _ _ _=>(qV 0)))))))))))
abbrev zqd:Qw:=top 49
theorem zpb:FnScope ["_law_script","_law_word_here","_law_lines","_law_some","_law_patch","_law_lent","_law_again","_law_found"] ["_law_script"] (za0 zqd):=scm
noncomputable def zoQ:DS:=(zaj (dUn [1,2] (zai zey (dAc (dV 0) dAn)))
  (zaj (zcx (dB (d2 gIs (dV 2) (dC .non))) (zan [] (dC (.bl true))) zay)
  (zaj (zaB 3 (zai zaz (dAc (dV 1) (dAc (dV 2) dAn))))
  (zaj (zeJ (ztI (dAc (d1 zl5 (dC (.int 2))) (dAc (d2 zax (d1 zcm (dV 3)) (dC (.int 3))) dAn))) (dGn 4)
  (zaj (zaB 5 (zeI (dAc (d1 zd5 (dV 1)) (dAc (dLC [] [none,none] (zcs (dV 2)) (dGt [0,1]) zg6 (zlg (dAc (dV 0) (dAc (d1 zd5 (dV 1)) dAn)))) dAn))))
  (zeJ (znV (dAc (dC (.int 2)) dAn)) (dGn 6)
  (zjh zat (dAc (d2 za3 (dV 5) (dC (.int 0))) (dAc (d2 za3 (dV 5) (dC (.int 1))) (dAc (dV 4) dAn))) 7 (zaj (zrm [] (dOr (dB (d2 gNe (dV 7) (zai zdq (dAc (dV 1) (dAc (dV 3) (dAc (dV 4) dAn)))))) (dB (d2 gNe (dV 5) (zeI (dAc (dV 1) (dAc (dV 2) dAn)))))) (zu8 (zan [] (dC (.bl false)))) zay)
  (zrm [] (znU (zu9 "list" (dV 7))) (zro [] 7 (dC (.str "z"))) zay))))))
  (zan [] (dC (.bl true)))))))
noncomputable def ztw:List T->Option T:=fnP 8 zoQ
theorem zw0[tk:TheK](kR:zfz v 8)(pp:zcu v 8)(kh:zeF v 8)(kB:zkx v 8)(m_range:v.mg "range"=none)(m_len:v.mg "len"=none)(m_list:v.mg "list"=none)(m_isinstance:v.mg "isinstance"=none)  :QBody tk v.P v.w v.mg v.base 8 "law" zqd ["_law_script","_law_word_here","_law_lines","_law_some","_law_patch","_law_lent","_law_again","_law_found"] (cS .e [] [] [] [] zoQ):=by
 obtain⟨de,di,mW,ko,ms,mK⟩:=kh;intro f cdv A outer s H E hr;have sc:=zpb;have hu:=zbL hr;have hu8:=zbd hr
 exact(qs_ (M':=[]) (zmC (is:=[1,2]) (n:=2) (K:=tk.K) (zet (qc kR hr rfl (qa_ (qV 0) za2) ar1) (zqt (zjO rfl (zah (za4 (i:=1) sc.nd rfl (jA rfl)) (zah (za4 (i:=2) sc.nd rfl (jA rfl)) zbj))) (zfl rfl (zah (za4 (i:=1) sc.nd rfl (jA rfl)) (zah (za4 (i:=2) sc.nd rfl (jA rfl)) zbj))))) rfl rfl rfl)
  (qs_ (M':=[]) (zbc (M':=[]) (zsw (qV 2) (qeb zek)) (za1 (zac zok)) zam)
  (qs_ (M':=[]) (za9 (M':=[]) (za7 (i:=3) sc.nd rfl (jA rfl) (qc pp hr rfl (qa_ (qV 1) (qa_ (qV 2) za2)) ar2)))
  (qs_ (M':=[]) (zbw (zaP jL rfl (ziN rfl m_range (qa_ (zgr qib) (qa_ (zao (zaR rfl rfl m_len (qeb (qV 3))) qib) za2))) (zb8 (za4 (i:=4) sc.nd rfl (jA rfl)))
  (qs_ (M':=[]) (za9 (M':=[]) (za7 (i:=5) sc.nd rfl (jA rfl) (qne (zaI (qa_ (qne (zf0 rfl rfl rfl m_list (qeb (qV 1)))) (qa_ (qne (zh1 (Mi:=[]) rfl (zmk (K:=tk.K) (is:=[0,1]) (n:=2)) zdz (zeh (N:=["_law_name","_law_ends"]) (caps:=[none,none]) (g:=zlQ tk.K 2 (gsN [0,1])) rfl (zaG rfl (qV 2)) (fun _ _ _ _ _=>(zhK (K:=tk.K) rfl rfl (zah (za4 (i:=0) (show (["_law_name","_law_ends"]:List Str).Nodup by decide +kernel) rfl (jA rfl)) (zah (za4 (i:=1) (show (["_law_name","_law_ends"]:List Str).Nodup by decide +kernel) rfl (jA rfl)) zbj)))) zk5 (fun _ _ _ _ _=>zbi) (fun _ _ _ _ _=>(zei (qa_ (qV 0) (qa_ (qne (zf0 rfl rfl rfl m_list (qeb (qV 1)))) za2))))))) za2))))))
  (za1 (zbw (zaP jL rfl (zdP rfl m_range (qa_ qi_ za2)) (zb8 (za4 (i:=6) sc.nd rfl (jA rfl)))
  (zmz (x:=7) rfl rfl ar3 (za7 (i:=7) sc.nd rfl (jA rfl) (zof mW hr rfl mK ms ko (qa_ (za8 rfl hu (qV 5) qib (fun _ _=>rfl)) (qa_ (za8 rfl hu (qV 5) qib (fun _ _=>rfl)) (qa_ (qV 4) za2))))) (zmA (zpc (QW.pt (zjL (zgp hu8 (qV 7) (qeb (qc kB hr rfl (qa_ (qV 1) (qa_ (qV 3) (qa_ (qV 4) za2))) ar3))) (zhf (zgp hu8 (qV 5) (qnb (zaI (qa_ (qV 1) (qa_ (qV 2) za2)))))))) (zqn (M':=[]) (Mb:=[]) (za1 (zac zok))) zkM)
  (zkL (zpc (zgo (qeb (zsE (cn:="list") rfl rfl m_isinstance (qeb (qV 7)) (zoe (v:=.ty "list") rfl m_list znM rfl)))) (zkL (zqq (zod (zdO jM Qn Qo zbQ (qpv 7) (zhN zd1 zjP))))) zkM))))))))))
  (za1 (zac zok))))))
end Dw
set_option maxHeartbeats 1000000
local macro_rules | `(tactic| simp_all? [$args,*]) => `(tactic| simp (disch := (first | lia | (simp only [List.length_map, List.length_append, List.length_cons, List.length_nil, List.length_reverse, List.length_range, List.length_set, List.length_take, List.length_drop, List.length_zipIdx]; lia))) only [L3.vdV, L3.vdC, L3.vd2, L3.zwO, L3.vdB, L3.zuk, L3.zuB, L3.zwD, L3.zut, L3.zrW, L3.zwG, L3.zwM, L3.zwN, L3.zuv, L3.zuj, L3.zrU, L3.zwE, L3.zwC, L3.zwB, L3.zul, L3.zun, L3.zrT, L3.zum, L3.zuy, L3.zwK, L3.zrS, L3.zuu, L3.zus, L3.zrP, L3.zwA, L3.zuq, L3.zup, L3.zwJ, L3.zwI, L3.zwH, L3.zrV, L3.zpN, L3.zpM, L3.vd1, L3.zwP, L3.zuw, L3.zwL, L3.zur, L3.zwF, L3.zuz, L3.zrQ, L3.zrR, L3.zo1, L3.zuo, L3.zpL, L3.zuh, L3.zuA, L3.zux, L3.zui, L3.vnT, L3.zrY, L3.zmb, L3.zuN, L3.vSb, L3.zwT, L3.zwZ, L3.zwa, L3.zwQ, L3.vLt, L3.vLe, L3.vGt, L3.vGe, L3.zwX, L3.zwR, L3.zwY, L3.zwS, L3.zwc, L3.zw9, L3.zs3, L3.zrZ, L3.zuM, L3.zuI, L3.zpR, L3.zuJ, L3.zuL, L3.zuK, L3.zeL, L3.zs2, L3.zmc, L3.zpT, L3.zuH, L3.zuF, L3.zuG, L3.zs1, L3.zs0, L3.zpV, L3.zuO, L3.zjA, L3.zwU, L3.zwV, L3.zpP, L3.zwW, L3.zpQ, L3.zpU, L3.zrL, L3.zrM, L3.zrN, L3.zrO, L3.zrJ, L3.zrK, L3.zlP, L3.zuE, L3.zuD, L3.zuC, L3.zuQ, L3.zuP, L3.znk, L3.zug, L3.sz0, L3.sz1, L3.sz2, L3.sz3, L3.sz4, List.getElem?_cons_zero, List.getElem?_cons_succ, L3.zr1, Option.bind_some, Option.map_some, List.set_cons_succ, List.set_cons_zero, List.length_cons, List.length_nil, List.length_map, if_true, if_false, Bool.not_true, Bool.not_false, decide_true, decide_false, Bool.false_eq_true, L3.zbG, L3.zl0, Nat.reduceAdd, Nat.reduceLT, Int.zero_add, $args,*])
namespace Dw
open PySem L2 L3
theorem zig(ns:List Int)(k:Nat):zaL [.scr ns,.int k]=some (.int (ns.getD k 0)):=by
 unfold zaL fnP zib
 by_cases h:k < ns.length
 ·have e:atI ns (k:Int)=some ns[k]:=ztP (j3 h);simp[zaj,zay,zcx,zan,dV,dC,d2,d1,dB,gLt,zts,zcm,za3,orG,gIx,zaE,hasAll,h,e]
 ·simp[zaj,zay,zcx,zan,dV,dC,d2,d1,dB,gLt,zts,zcm,za3,orG,gIx,zaE,hasAll,h]
structure Bag2 where
 (a b:Int)
def Bag2.t(x:Bag2):T:=.lst [.int x.a,.int x.b]
structure Bag2.Ok (x:Bag2):Prop where
 b0:0<=x.b
 b1:x.b < 2147483647
theorem zrw:zrC (.int 10) (.int 40)=some (.int 10000000000000000000000000000000000000000):=by rfl
theorem zrx:zr9 (.int 10000000000000000000000000000000000000000) (.int 10000000000000000000000000000000000000000)=some (.int 100000000000000000000000000000000000000000000000000000000000000000000000000000000):=by rfl
theorem zku(n:Int):∃ x:Bag2,ze9 [.int n]=some x.t/\x.Ok:=by
 refine⟨⟨n / 2%100000000000000000000000000000000000000000000000000000000000000000000000000000000*(n%2),n / 2%2147483647⟩,?_,⟨Zq _ (by lia),Z3 _ (by lia)⟩⟩
 unfold ze9;refine zgK ?_;show Run zic [some (.int n)] _;exact zb7 (s':=[some (.int n)]) (by unfold zic; simp_all?[zrw,zrx]<;>rfl) rfl
theorem zi9{x:Bag2}(h:x.Ok)(n:Int)(hn:0 < n)(hn2:n < 1073741824):∃(z:Int) (y:Bag2),zbB [x.t,.int n]=some (.int z,y.t)/\y.Ok/\0<=z/\z < n:=by
 have h0:=h.b0;have h1:=h.b1;have m1:zpF x.b 48271=true:=by unfold zpF; rw[Z9,decide_eq_true_iff]; left; lia
 have m2:zpF ((x.b*48271+4099)%2147483647) ((x.b*48271+4099)%2147483647 / 65536+7)=true:=by unfold zpF; rw[Z9,decide_eq_true_iff]; left; lia
 by_cases hp:0 < x.a
 ·refine⟨x.a%n,⟨x.a / n,x.b⟩,?_,⟨h0,h1⟩,Zq _ (by lia),Z3 _ hn⟩
  unfold zbB fnI zg5 Bag2.t;simp[zaj,zay,zcx,zaB,zjg,zan,dV,dC,d2,d2v,d1,dB,gGt,gI1,za3,orG,gIx,ze8,zfe,gI,zua,zub,zaE,hasAll,atI,ixN,hp,hn,hn2]
 ·refine⟨(x.b*48271+4099)%2147483647*((x.b*48271+4099)%2147483647 / 65536+7)%2147483629 / 32%n,⟨x.a,(x.b*48271+4099)%2147483647⟩,?_,⟨Zq _ (by lia),Z3 _ (by lia)⟩,Zq _ (by lia),Z3 _ hn⟩
  unfold zbB fnI zg5 Bag2.t;simp[zaj,zay,zcx,zaB,zjg,zan,dV,dC,d2,d2v,d1,dB,gGt,gI1,za3,orG,gIx,ze8,zfe,zgI,zax,zrd,gI,zua,zub,zaE,hasAll,atI,ixN,hp,m1,m2,hn,hn2]
theorem zdv{α β:Type}(f:α->β)(xs:List α)(lo hi:Option Int):zfL (xs.map f) lo hi=(zfL xs lo hi).map f:=by
 unfold zfL;rw[j5,Wk,Wj]
theorem zpu{n j:Nat}(h:j < n):ixN n (j:Int)=some j:=by simp[ixN,h]
def nmO(names:List Str):Option Nat->Str
 |none=>NB ""
 |some k=>names.getD k jz
theorem ztR{x:Bag2}(hx:x.Ok){names:List Str}(hn:names.length<=30)(hd:names.Nodup)(hN:∀ x∈names,ze3 x):∃(wd:List Str) (y:Bag2),zdr [x.t,.lst (names.map T.str)]=some (.lst (wd.map T.str),y.t)/\GoodWord wd/\∀ x∈wd,x∈names:=by
 have hr:zfP (2*((names.length:Nat):Int))=true:=zdf (by lia) (by lia)
 have e2:(2*((names.length:Nat):Int)).toNat=2*names.length:=by lia
 obtain⟨t,u,e,wd,y,rfl,rfl,gw⟩:=zi6 (n:=6) (d:=zcK) (ts:=[x.t,.lst (names.map T.str)]) (Q:=fun t u=>∃(wd:List Str) (y:Bag2),t=.lst (wd.map T.str)/\u=y.t/\GoodWord wd/\∀ x∈wd,x∈names) (by
  unfold zcK;show Run _ [some x.t,some (.lst (names.map T.str)),none,none,none,none] _;refine za5 (s':=[some x.t,some (.lst (names.map T.str)),some (.lst ((jt (2*names.length)).map nT)),none,none,none]) (by simp_all?[hr,e2,zhG]) ?_
  have l1:=zdn (M:=[0]) (caps:=[none]) (fi:=zcs (dV 2)) (dg:=dGn 0) (fe:=dC (.str "")) (s:=[some x.t,some (.lst (names.map T.str)),some (.lst ((jt (2*names.length)).map nT)),none,none,none]) (jt (2*names.length)) nT (fun _=>.str "") (by simp_all?[]) (by simp; lia) (fun z _=>⟨[some (nT z)],rfl,rfl,rfl⟩)
  have l2:(jt (2*names.length)).map (fun _=>T.str "")=((gQ (2*names.length) none).map (nmO names)).map T.str:=by
   rw[Wu,Wu];refine(List.eq_replicate_iff (a:=T.str (NB ""))).mpr ⟨by simp,fun b hb=>?_⟩
   obtain⟨_,_,h⟩:=jB.mp hb;exact h.symm
  rw[l2] at l1;refine za5 (by simp_all?[l1]<;>rfl) ?_
  refine zc0 (its:=names.map T.str) (fun i s=>∃(y:Bag2) (fr:List Nat) (pl:List (Option Nat)) (a b:Option T),s=[some y.t,some (.lst (names.map T.str)),some (.lst (fr.map nT)),some (.lst ((pl.map (nmO names)).map T.str)),a,b]/\y.Ok/\fr.length+2*i=2*names.length/\fr.Nodup/\(∀ k∈fr,pl[k]?=some none)/\Half pl names.length i)
   (by simp_all?[]<;>rfl) ⟨x,_,_,_,_,rfl,hx,by simp,N8,fun k hk=>by rw[gy,Ip_ (jR.mp hk)],Half.start _⟩ ?_ ?_
  ·rintro i z s hz ⟨y,fr,pl,a,b,rfl,oy,hl,hnd,hlt,hh⟩;rw[jf] at hz;obtain⟨x,hx,rfl⟩:=Qm hz;have hi:i < names.length:=(j9.mp hx).1;refine⟨_,by simp_all?[]<;>rfl,?_⟩
   match fr,hl,hnd,hlt with
   |[],hl,_,_=>exact absurd hl (by simp; lia)
   |k0::fr,hl,hnd,hlt=>
   rw[jp] at hl;rw[Qp] at hnd;have hk0:=hlt k0 (jX ..);obtain⟨u,y',eu,o',a',b'⟩:=zi9 oy (fr.length:Int) (by lia) (by lia)
   have hu:u.toNat < fr.length:=by lia
   have hk1:=hlt fr[u.toNat] (jw _ (Qz hu));have hne:k0≠fr[u.toNat]:=fun z=>hnd.1 (z▸Qz hu);have hlen:=hh.len;have q0:k0 < pl.length:=(j9.mp hk0).1;have q1:fr[u.toNat] < pl.length:=(j9.mp hk1).1;have hxn:x=nmO names (some i):=by
    show x=names.getD i jz;rw[zew hi];exact(jc ((j3 hi).symm.trans hx)).symm
   have i0:=zpu (n:=pl.length) q0;have i1:=zpu (n:=pl.length) q1;have g0:za3 (.lst ((k0::fr).map nT)) (.int 0)=some (nT k0):=zeL ((k0::fr).map nT) 0;have lf:zcm (.lst ((k0::fr).map nT))=some (.int ((fr.length:Int)+1)):=by rw[zpR,j5,jp]; rfl
   have gu:za3 (.lst ((k0::fr).map nT)) (.int (1+u))=some (nT fr[u.toNat]):=by
    have:(1+u:Int)=((u.toNat+1:Nat):Int):=by lia
    rw[this,zeL,jr,gF,jf,j3 hu];rfl
   have sl:zeH (.lst ((k0::fr).map nT)) (some 1) none=some (.lst (fr.map nT)):=by
    show some (T.lst (zfL ((k0::fr).map nT) (some 1) none))=_;rw[zdv,zgS (k0::fr) (by lia) (by rw[jp]; lia)]; rfl
   generalize hFR:T.lst ((k0::fr).map nT)=FR at g0 lf gu sl;refine za5 (s':=[some y.t,some (.lst (names.map T.str)),some FR,some (.lst (((pl.set k0 (some i)).map (nmO names)).map T.str)),some (.str x),b]) (by simp_all?[g0,i0]; rw[NG,NG,<-hxn]) ?_
   refine za5 (s':=[some y'.t,some (.lst (names.map T.str)),some FR,some (.lst (((pl.set k0 (some i)).map (nmO names)).map T.str)),some (.str x),some (.int ((fr[u.toNat]:Nat):Int))]) (by simp_all?[lf,Int.add_sub_cancel,eu,gu]) ?_
   refine za5 (s':=[some y'.t,some (.lst (names.map T.str)),some FR,some (.lst ((((pl.set k0 (some i)).set fr[u.toNat] (some i)).map (nmO names)).map T.str)),some (.str x),some (.int ((fr[u.toNat]:Nat):Int))]) (by simp_all?[Q0,i1]; rw[NG (l:=pl.set k0 (some i)),NG (l:=(pl.set k0 (some i)).map (nmO names)),<-hxn]) ?_
   have l1:=zgD (M:=[0,3]) (caps:=[none,some 5]) (fi:=zcs (dSl zeH (dV 2) (dOs (dC (.int 1))) dOn)) (dg:=dGn 0) (ft:=dB (d2 gNe (dV 0) (dV 1))) (fe:=dV 0) (s:=[some y'.t,some (.lst (names.map T.str)),some FR,some (.lst ((((pl.set k0 (some i)).set fr[u.toNat] (some i)).map (nmO names)).map T.str)),some (.str x),some (.int ((fr[u.toNat]:Nat):Int))]) fr nT (fun(k:Nat)=>!decide ((k:Int)=((fr[u.toNat]:Nat):Int))) nT (by simp_all?[sl]) (by lia) (fun k _=>⟨[some (nT k),some (.int ((fr[u.toNat]:Nat):Int))],rfl,by simp_all?[],fun _=>rfl,rfl⟩)
   have fe:(fr.filter fun(k:Nat)=>!decide ((k:Int)=((fr[u.toNat]:Nat):Int)))=fr.erase fr[u.toNat]:=by
    rw[hnd.2.erase_eq_filter];refine YE fun k _=>?_
    by_cases h:k=fr[u.toNat]
    ·simp[h]
    ·have:¬ ((k:Int)=((fr[u.toNat]:Nat):Int)):=by lia
     simp[h,this]
   rw[fe] at l1;refine zap (by simp_all?[l1]<;>rfl) ⟨y',fr.erase fr[u.toNat],(pl.set k0 (some i)).set fr[u.toNat] (some i),_,_,rfl,o',?_,hnd.2.sublist (List.erase_sublist),fun k hk=>?_,?_⟩
   ·rw[gq (Qz hu)]; lia
   ·have hk':k∈fr:=List.mem_of_mem_erase hk;have n0:k0≠k:=fun z=>hnd.1 (z▸hk');have n1:fr[u.toNat]≠k:=fun z=>by
     rw[<-z] at hk;exact hnd.2.not_mem_erase hk
    rw[jd n1,jd n0];exact hlt k (jw _ hk')
   ·exact hh.next hi hk1 hk0 (ZD hne)
  ·rintro s ⟨y,fr,pl,a,b,rfl,oy,hl,hnd,hlt,hh⟩;rw[j5] at hh;obtain⟨ps,hp,rfl⟩:=hh.done;have hg:=zgH hn rfl hd hN hp;refine⟨_,by simp_all?[]<;>rfl,_,_,_,rfl,_,_,rfl,rfl,?_,fun x hx=>?_⟩
   ·rw[Q1]; exact hg
   ·rw[Q1] at hx;obtain⟨k,hk,rfl⟩:=jB.mp hx;have hk':=hp.lt k hk;show names.getD k jz∈names;rw[zew hk']
    exact Qz hk')
 exact⟨wd,y,e,gw⟩
end Dw
set_option maxHeartbeats 2000000
namespace Dw
open PySem L2 L3
theorem zev{z:Int}(h0:0<=z)(h:z < 26):za3 (.str letters) (.int z)=some (.str (Sx [97+z.toNat])):=by
 simp only[za3,orG,gIx,zk4,if_true,zlL h0 h,jP];rfl
theorem zf1(l m:List Nat)(h:l.length+m.length<=1000):zax (.str (Sx l)) (.str (Sx m))=some (.str (Sx (l++m))):=by
 rw[zrX (by rw[zgV,zgV]; lia),ztT]
def ztX(l:List Nat):Prop:=∀ c∈l,97<=c/\c<=122
theorem zk2{l:List Nat}(h:ztX l)(h1:1<=l.length)(h8:l.length<=8):ze3 (Sx l):=by
 unfold ze3;rw[zgV,zju];exact⟨h1,h8,h⟩
theorem zji{α:Type}(xs:List α){t:Int}(h:(xs.length:Int)<=t):zfL xs none (some t)=xs:=by
 unfold zfL HT.sIx;simp only[NU,Nat.sub_zero];rw[In_ (by lia),Nat.min_eq_right (by lia),Q2 (jj _)]
structure NmOk (mk:List Str) (m:Nat):Prop where
 nd:mk.Nodup
 nm:∀ x∈mk,ze3 x
 len:mk.length<=m
theorem zvj:zrC (.int 10) (.int 18)=some (.int 1000000000000000000):=by rfl
def zm5(l:List Nat)(r:Int)(k:Nat):List Nat:=l.take 6++[97+k / 5,97+(((k:Int)+r)%26).toNat]
theorem zoI{l:List Nat}{r:Int}{j k:Nat}(h:zm5 l r j=zm5 l r k)(hj:j < 31)(hk:k < 31):j=k:=by
 unfold zm5 at h;have h2:=List.append_cancel_left h;simp only[List.cons.injEq] at h2;lia
theorem zre{l:List Nat}{r:Int}{k:Nat}(hl:ztX l)(hk:k < 31):ze3 (Sx (zm5 l r k)):=by
 refine zk2 (fun c hc=>?_) (by unfold zm5; simp) (by unfold zm5; rw[jk,Q7]; simp; lia)
 unfold zm5 at hc;rcases jv.mp hc with q |q
 ·exact hl c (Zk q)
 ·simp only[ju,Zd,or_false] at q;lia
theorem zk3:ztX letters.cps.toList:=by unfold ztX; decide +kernel
theorem zn8(c:Int){m:Nat}(hm:m<=30):∃ names:List Str,zfs [.int c,.int m]=some (.lst (names.map T.str))/\names.length<=m/\names.Nodup/\∀ x∈names,ze3 x:=by
 obtain⟨sz,hsz⟩:∃ sz:Nat,1+c%8=(sz:Int):=⟨(1+c%8).toNat,by lia⟩
 obtain⟨sp,hsp⟩:∃ sp:Nat,c / 3%(sz:Int)=(sp:Int):=⟨(c / 3%(sz:Int)).toNat,by rw[Ye (Zq _ (by lia))]⟩
 have hspl:sp < sz:=by have:=Z3 (c / 3) (show (0:Int) < sz by lia); lia
 obtain⟨t,e,wd,rfl,gw⟩:=zc3 (n:=11) (d:=zf8) (ts:=[.int c,.int m]) (Q:=fun t=>∃ wd:List Str,t=.lst (wd.map T.str)/\NmOk wd m) (by
  unfold zf8;show Run _ [some (.int c),some (.int m),none,none,none,none,none,none,none,none,none] _;refine za5 (s':=[some (.int c),some (.int m),some (.str letters),none,none,none,none,none,none,none,none]) rfl ?_;refine za5 (s':=[some (.int c),some (.int m),some (.str letters),some (.int sz),none,none,none,none,none,none,none]) (by simp_all?[hsz]) ?_
  refine za5 (s':=[some (.int c),some (.int m),some (.str letters),some (.int sz),some (.int (c / 8%1000000000000000000)),none,none,none,none,none,none]) (by simp_all?[zvj]) ?_
  refine za5 (s':=[some (.int c),some (.int m),some (.str letters),some (.int sz),some (.int (c / 8%1000000000000000000)),some (.str (Sx [])),none,none,none,none,none]) rfl ?_;refine zc0 (its:=zaN 0 sz) (fun i s=>∃(l:List Nat) (r:Int) (a:Option T),s=[some (.int c),some (.int m),some (.str letters),some (.int sz),some (.int r),some (.str (Sx l)),a,none,none,none,none]/\l.length=i/\ztX l)
   (by simp_all?[zdf (j:=(sz:Int)) (by lia) (by lia),Qj]<;>rfl) ⟨[],_,none,rfl,rfl,fun c hc=>by cases hc⟩ ?_ ?_
  ·rintro i z s hz ⟨l,r,a,rfl,hl,hlo⟩;obtain⟨hi,rfl⟩:=ziG hz;have b1:0<=r%26:=Zq _ (by decide)
   have b2:r%26 < 26:=Z3 _ (by decide)
   refine⟨_,by simp_all?[]<;>rfl,?_⟩
   refine za5 (by simp_all?[zev b1 b2,zf1 l [97+(r%26).toNat] (by simp; lia)]<;>rfl) ?_
   refine zap (by simp_all?[]<;>rfl) ⟨_,_,_,rfl,by simp[hl],fun c hc=>?_⟩
   rcases jv.mp hc with q |q
   ·exact hlo c q
   ·have:c=97+(r%26).toNat:=by simpa using q
    lia
  rintro s ⟨l,r,a,rfl,hl,hlo⟩;rw[ziF] at hl;have lS:l.length<=jn:=zc6 (by lia)
  have sl:∀ k:Nat,k<=l.length->zeH (.str (Sx l)) none (some (k:Int))=some (.str (Sx (l.take k))):=fun k hk=>by
   have:=zw2 l (j:=(k:Int)) (by lia) (by lia)
   simp only[zeH,zpx,zgV,lS,if_true,this,Qj]
  have sf:∀ k:Nat,k<=l.length->zeH (.str (Sx l)) (some (k:Int)) none=some (.str (Sx (l.drop k))):=fun k hk=>by
   have:=zrA l (j:=(k:Int)) (by lia) (by lia)
   simp only[zeH,zpx,zgV,lS,if_true,this,Qj]
  have s6:zeH (.str (Sx l)) none (some 6)=some (.str (Sx (l.take 6))):=by
   by_cases h6:6<=l.length
   ·exact sl 6 h6
   ·have h7:Yx (Sx l) none (some 6)=Sx (l.take 6):=by
     have k:∀ n:Nat,n < 6->(Builtin.Str.strSliceIndices none (some 6) 1 n).length=n:=by decide +kernel
     have k:=k l.length (by lia)
     unfold Yx;rw[zgV,k,Q2 (by lia),Ip_ (by simp)]
    simp only[zeH,zpx,zgV,lS,if_true,h7]
  refine za5 (s':=[some (.int c),some (.int m),some (.str letters),some (.int sz),some (.int r),some (.str (Sx l)),a,some (.int sp),none,none,none]) (by simp_all?[hsp]) ?_
  refine za5 (s':=[some (.int c),some (.int m),some (.str letters),some (.int sz),some (.int r),some (.str (Sx l)),a,some (.int sp),some (.lst (([]:List Str).map T.str)),none,none]) (by simp_all?[]<;>rfl) ?_
  refine zgl (fun s=>∃ mk,NmOk mk m/\s=[some (.int c),some (.int m),some (.str letters),some (.int sz),some (.int r),some (.str (Sx l)),a,some (.int sp),some (.lst (mk.map T.str)),none,none]) ?_ ?_
  ·by_cases h1:c / 5%3=1
   ·have r12:zfP 1=true/\zfP ((sz:Int)+1)=true:=⟨zdf (by decide) (by decide),zdf (by lia) (by lia)⟩
    have e3:((sz:Int)+1 - 1).toNat=sz:=by lia
    have er:zaN 1 sz=(jt sz).map fun k=>nT (k+1):=by
     unfold zaN;refine QX fun k _=>?_;rw[vnT]; congr 1; lia
    have l1:=zdn (M:=[8]) (caps:=[none,some 5]) (fi:=ztI (dAc (dC (.int 1)) (dAc (d2 zax (dV 3) (dC (.int 1))) dAn))) (dg:=dGn 0) (fe:=dSl zeH (dV 1) dOn (dOs (dV 0))) (s:=[some (.int c),some (.int m),some (.str letters),some (.int sz),some (.int r),some (.str (Sx l)),a,some (.int sp),some (.lst (([]:List Str).map T.str)),none,none]) (jt sz) (fun k=>nT (k+1)) (fun k=>.str (Sx (l.take (k+1)))) (by simp_all?[r12,and_self,e3,er]) (by simp; lia) (by
     intro k hk;have hk':=jR.mp hk;refine⟨_,by simp_all?[]<;>rfl,?_,rfl⟩
     simp_all?[sl (k+1) (by lia)])
    have l2:(jt sz).map (fun k=>T.str (Sx (l.take (k+1))))=((jt sz).map fun k=>Sx (l.take (k+1))).map T.str:=by rw[Q1]; rfl
    rw[l2] at l1;have hmx:∀ mk:List Str,gSl (.lst (mk.map T.str)) none (some (m:Int))=some (.lst ((mk.take m).map T.str)):=fun mk=>by
     show some (T.lst (zfL (mk.map T.str) none (some (m:Int))))=_;rw[zdv]
     by_cases hq:m<=mk.length
     ·rw[zkq mk (by lia) (by lia),Qj]
     ·rw[zji mk (by lia),Q2 (by lia)]
    refine zas (r:=.nx _) (by simp_all?[Dt_ h1,l1,hmx]<;>rfl) ⟨_,⟨?_,fun x hx=>?_,?_⟩,rfl⟩
    ·refine Ny (Yu _ _) (WO _ (R:=fun a b=>a≠b/\a < sz/\b < sz) (fun a b ⟨n,ha,hb⟩ z=>n ?_) (YH (R:=fun a b=>a≠b) (fun {a b} ha hb n=>⟨n,jR.mp ha,jR.mp hb⟩) N8));have:=congrArg Y5 (zpH z);rw[Q7,Q7] at this;lia
    ·obtain⟨k,hk,rfl⟩:=jB.mp (Zk hx);have hk':=jR.mp hk;exact zk2 (fun c hc=>hlo c (Zk hc)) (by rw[Q7]; lia) (by rw[Q7]; lia)
    ·rw[Q7]; lia
   ·exact zas (r:=.nx _) (by simp_all?[Df_ h1]<;>rfl) ⟨[],⟨ZX,(fun x hx=>by cases hx),by simp⟩,rfl⟩
  rintro s ⟨mk,hmk,rfl⟩;refine zgl (fun s=>∃ mk,NmOk mk m/\s=[some (.int c),some (.int m),some (.str letters),some (.int sz),some (.int r),some (.str (Sx l)),a,some (.int sp),some (.lst (mk.map T.str)),none,none]) ?_ ?_
  ·have far:∀ s:Sg,s=[some (.int c),some (.int m),some (.str letters),some (.int sz),some (.int r),some (.str (Sx l)),a,some (.int sp),some (.lst (mk.map T.str)),none,none]->dLC [8] [none,some 2,some 5,some 4] (znV (dAc (dV 1) dAn)) (dGn 0) zg6 (d2 zax (d2 zax (dSl zeH (dV 2) dOn (dOs (dC (.int 6)))) (d2 za3 (dV 1) (d2 zfe (dV 0) (dC (.int 5))))) (d2 za3 (dV 1) (d2 ze8 (d2 zax (dV 0) (dV 3)) (dC (.int 26))))) s=some (.lst (((jt m).map fun k=>Sx (zm5 l r k)).map T.str),s):=by
    rintro s rfl
    have l1:=zdn (M:=[8]) (caps:=[none,some 2,some 5,some 4]) (fi:=znV (dAc (dV 1) dAn)) (dg:=dGn 0) (fe:=d2 zax (d2 zax (dSl zeH (dV 2) dOn (dOs (dC (.int 6)))) (d2 za3 (dV 1) (d2 zfe (dV 0) (dC (.int 5))))) (d2 za3 (dV 1) (d2 ze8 (d2 zax (dV 0) (dV 3)) (dC (.int 26))))) (s:=[some (.int c),some (.int m),some (.str letters),some (.int sz),some (.int r),some (.str (Sx l)),a,some (.int sp),some (.lst (mk.map T.str)),none,none]) (jt m) nT (fun k=>.str (Sx (zm5 l r k))) (by simp_all?[rgN (k:=m) (by lia),Qj,zhG]) (by simp; lia) (by
     intro k hk;have hk':=jR.mp hk;have x1:=zev (z:=(k:Int) / 5) (by lia) (by lia)
     have x2:=zev (z:=((k:Int)+r)%26) (Zq _ (by decide)) (Z3 _ (by decide))
     have n1:((k:Int) / 5).toNat=k / 5:=by lia
     rw[n1] at x1;have p1:=zf1 (l.take 6) [97+k / 5] (by simp; lia)
     have p2:=zf1 (l.take 6++[97+k / 5]) [97+(((k:Int)+r)%26).toNat] (by simp; lia)
     rw[Qh] at p2;refine⟨[some (nT k),some (.str letters),some (.str (Sx l)),some (.int r)],rfl,?_,rfl⟩
     simp_all?[s6,x1,p1,x2,p2]<;>rfl)
    rw[show (jt m).map (fun k=>T.str (Sx (zm5 l r k)))=((jt m).map fun k=>Sx (zm5 l r k)).map T.str by rw[Q1]; rfl] at l1
    exact l1
   have far:=far _ rfl
   by_cases h2:c / 5%3=2∨(24:Int) < m
   ·have ok:NmOk ((jt m).map fun k=>Sx (zm5 l r k)) m:=by
     refine⟨WO _ (R:=fun a b=>a≠b/\a < 31/\b < 31) (fun a b ⟨n,ha,hb⟩ z=>n (zoI (zpH z) ha hb)) (YH (R:=fun a b=>a≠b) (fun {a b} ha hb n=>⟨n,by have:=jR.mp ha; lia,by have:=jR.mp hb; lia⟩) N8),fun x hx=>?_,by simp⟩
     obtain⟨k,hk,rfl⟩:=jB.mp hx;exact zre hlo (by have:=jR.mp hk; lia)
    refine zas (r:=.nx _) ?_ ⟨_,ok,rfl⟩
    by_cases h3:c / 5%3=2
    ·simp_all?[Dt_ h3,far]
    ·simp_all?[Df_ h3,Dt_ (show (24:Int) < m by lia),far]
   ·exact zas (r:=.nx _) (by simp_all?[Df_ (show ¬ c / 5%3=2 by lia),Df_ (show ¬ (24:Int) < m by lia)]<;>rfl) ⟨mk,hmk,rfl⟩
  rintro s ⟨mk,hmk,rfl⟩;refine zc0 (its:=letters.cps.toList.map zly) (fun i s=>∃(mk:List Str) (a g h:Option T),s=[some (.int c),some (.int m),some (.str letters),some (.int sz),some (.int r),some (.str (Sx l)),a,some (.int sp),some (.lst (mk.map T.str)),g,h]/\NmOk mk m)
   (by simp_all?[]<;>rfl) ⟨mk,a,none,none,rfl,hmk⟩ ?_ ?_
  ·rintro i z s hz ⟨mk,a,g,h,rfl,hmk⟩;rw[jf] at hz;obtain⟨ch,hch,rfl⟩:=Qm hz;have lch:=zk3 ch (jJ hch);have es:zly ch=.str (Sx [ch]):=rfl;rw[es];refine⟨_,rfl,?_⟩;have p1:=zf1 (l.take sp) [ch] (by simp; lia)
   have p2:=zf1 (l.take sp++[ch]) (l.drop (sp+1)) (by simp; lia)
   refine za5 (s':=[some (.int c),some (.int m),some (.str letters),some (.int sz),some (.int r),some (.str (Sx l)),a,some (.int sp),some (.lst (mk.map T.str)),some (.str (Sx [ch])),some (.str (Sx (l.take sp++[ch]++l.drop (sp+1))))]) (by
    have sf1:zeH (.str (Sx l)) (some ((sp:Int)+1)) none=some (.str (Sx (l.drop (sp+1)))):=sf (sp+1) (by lia)
    simp_all?[sl sp (by lia),p1,sf1,p2]) ?_
   have nmx:ze3 (Sx (l.take sp++[ch]++l.drop (sp+1))):=by
    have hlen:(l.take sp++[ch]++l.drop (sp+1)).length=sz:=by
     simp only[jk,Q7,QL,jp,ZJ];lia
    refine zk2 (fun c hc=>?_) (by lia) (by lia)
    simp only[jv,ju,Zd,or_false] at hc;rcases hc with (q |q) |q
    ·exact hlo c (Zk q)
    ·rw[q]; exact lch
    ·exact hlo c (List.mem_of_mem_drop q)
   generalize Sx (l.take sp++[ch]++l.drop (sp+1))=nx at nmx;have hml:=hmk.len
   by_cases hlt:(mk.length:Int) < m
   ·by_cases hin:nx∈mk
    ·exact zap (by simp_all?[Dt_ hlt,Dt_ hin]<;>rfl) ⟨mk,_,_,_,rfl,hmk⟩
    ·refine zap (by simp_all?[Dt_ hlt,Df_ hin]<;>rfl) ⟨mk++[nx],_,_,_,rfl,⟨?_,fun x hx=>?_,by rw[jk,Ze]; lia⟩⟩
     ·rw[jT];exact⟨hmk.nd,by simp,fun a ha b hb e=>hin (by rw[jm] at hb; subst hb; subst e; exact ha)⟩
     ·rcases jv.mp hx with q |q
      ·exact hmk.nm x q
      ·rw[jm.mp q]; exact nmx
   ·exact zap (by simp_all?[Df_ hlt]<;>rfl) ⟨mk,_,_,_,rfl,hmk⟩
  rintro s ⟨mk,a,g,h,rfl,hmk⟩
  exact⟨_,by simp_all?[]<;>rfl,_,_,rfl,mk,rfl,hmk⟩)
 exact⟨wd,e,gw.len,gw.nd,gw.nm⟩
end Dw
set_option maxHeartbeats 1000000
namespace Dw
open PySem L2 L3
def shp:List (List Nat):=[[0,0],[0,1,2,0,1,2],[0,1,2,0,3,2,1,3],[0,1,2,3,4,0,1,2,3,4],[0,1,1,0],[0,1,2,3,4,2,1,0,3,4],[0,1,2,3,1,0,3,2]]
def tL(l:List Nat):T:=.lst (l.map nT)
def zhy:T:=.lst (shp.map tL)
theorem zsd:∀ k,k < 7->∃ sh m,shp[k]?=some sh/\Pairing sh m/\1<=m/\m<=5/\znq (tL sh)=some (.int ((m:Int) - 1))
 |0,_=>⟨_,1,rfl,.of_dec rfl rfl rfl,by lia,by lia,rfl⟩
 |1,_=>⟨_,3,rfl,.of_dec rfl rfl rfl,by lia,by lia,rfl⟩
 |2,_=>⟨_,4,rfl,.of_dec rfl rfl rfl,by lia,by lia,rfl⟩
 |3,_=>⟨_,5,rfl,.of_dec rfl rfl rfl,by lia,by lia,rfl⟩
 |4,_=>⟨_,2,rfl,.of_dec rfl rfl rfl,by lia,by lia,rfl⟩
 |5,_=>⟨_,5,rfl,.of_dec rfl rfl rfl,by lia,by lia,rfl⟩
 |6,_=>⟨_,4,rfl,.of_dec rfl rfl rfl,by lia,by lia,rfl⟩
 |k+7,h=>absurd h (by lia)
def zvB:T->Nat
 |.lst xs=>xs.length
 |_=>0
def zvC(s:Sg):Nat:=zvB ((s[4]?).join.getD .non)
theorem zoZ{x:Bag2}(hx:x.Ok){names:List Str}(hn:names.length<=30)(hd:names.Nodup)(hN:∀ x∈names,ze3 x):∃(wd:List Str) (y:Bag2),zcq [x.t,.lst (names.map T.str)]=some (.lst (wd.map T.str),y.t)/\GoodWord wd/\∀ x∈wd,x∈names:=by
 obtain⟨t,u,e,wd,y,rfl,rfl,gw⟩:=zi6 (n:=7) (d:=zbP) (ts:=[x.t,.lst (names.map T.str)]) (Q:=fun t u=>∃(wd:List Str) (y:Bag2),t=.lst (wd.map T.str)/\u=y.t/\GoodWord wd/\∀ x∈wd,x∈names) (by
  unfold zbP;show Run _ [some x.t,some (.lst (names.map T.str)),none,none,none,none,none] _;refine za5 (s':=[some x.t,some (.lst (names.map T.str)),some (.lst ((shp.take 5).map tL)),none,none,none,none]) (by rfl) ?_
  refine za5 (s':=[some x.t,some (.lst (names.map T.str)),some zhy,none,none,none,none]) (by rfl) ?_
  refine za5 (s':=[some x.t,some (.lst (names.map T.str)),some zhy,some (.lst ((([]:List Nat).map fun k=>names.getD k jz).map T.str)),none,none,none]) (by simp_all?[]<;>rfl) ?_
  refine za5 (s':=[some x.t,some (.lst (names.map T.str)),some zhy,some (.lst ((([]:List Nat).map fun k=>names.getD k jz).map T.str)),some (.lst ((names.drop 0).map T.str)),none,none]) (by simp_all?[]<;>rfl) ?_
  refine zdM (fun s=>∃(y:Bag2) (ps:List Nat) (c:Nat) (a b:Option T),s=[some y.t,some (.lst (names.map T.str)),some zhy,some (.lst ((ps.map fun k=>names.getD k jz).map T.str)),some (.lst ((names.drop c).map T.str)),a,b]/\y.Ok/\Pairing ps c/\c<=names.length)
   zvC (by show ((names.drop 0).map T.str).length < 100; simp; lia) ⟨x,[],0,_,_,rfl,hx,.nil,by lia⟩ ?_ ?_
  ·rintro s ⟨y,ps,c,a,b,rfl,oy,hp,hc⟩;refine⟨decide (c < names.length),[some y.t,some (.lst (names.map T.str)),some zhy,some (.lst ((ps.map fun k=>names.getD k jz).map T.str)),some (.lst ((names.drop c).map T.str)),a,b],?_,?_⟩
   ·simp_all?[]
    congr 3
    simp;lia
   rcases Nat.lt_or_ge c names.length with hlt |hlt
   case inr=>rw[In_ (by simpa using hlt)]; trivial
   rw[Ip_ (by simpa using hlt)]
   obtain⟨z,y1,e1,o1,a1,b1⟩:=zi9 oy 7 (by decide) (by decide)
   obtain⟨k,rfl⟩:∃ k:Nat,z=(k:Int):=⟨z.toNat,by lia⟩
   obtain⟨sh0,m0,at0,hp0,hm0,hm0',gm0⟩:=zsd k (by lia)
   have i0:za3 zhy (.int (k:Int))=some (tL sh0):=by
    unfold zhy;rw[zeL,jf,at0]; rfl
   have i00:za3 zhy (.int 0)=some (tL [0,0]):=rfl;have hpl:=hp.len;have hl4:zcm (.lst ((names.drop c).map T.str))=some (.int ((names.length - c:Nat):Int)):=by rw[zpR,j5,QL]
   refine za5 (s':=[some y1.t,some (.lst (names.map T.str)),some zhy,some (.lst ((ps.map fun k=>names.getD k jz).map T.str)),some (.lst ((names.drop c).map T.str)),some (tL sh0),b]) (by simp_all?[e1,i0]) ?_
   refine zgl (fun s=>∃ sh m,s=[some y1.t,some (.lst (names.map T.str)),some zhy,some (.lst ((ps.map fun k=>names.getD k jz).map T.str)),some (.lst ((names.drop c).map T.str)),some (tL sh),b]/\Pairing sh m/\1<=m/\m<=5/\c+m<=names.length/\znq (tL sh)=some (.int ((m:Int) - 1))) ?_ ?_
   ·by_cases hg:c+m0<=names.length
    ·exact zas (r:=.nx _) (by simp_all?[gm0,hl4,Df_ (show ¬ ((names.length - c:Nat):Int)<=(m0:Int) - 1 by lia)]<;>rfl) ⟨sh0,m0,rfl,hp0,hm0,hm0',hg,gm0⟩
    ·exact zas (r:=.nx _) (by simp_all?[gm0,hl4,i00,Dt_ (show ((names.length - c:Nat):Int)<=(m0:Int) - 1 by lia)]<;>rfl) ⟨[0,0],1,rfl,.of_dec rfl rfl rfl,by lia,by lia,by lia,rfl⟩
   rintro s ⟨sh,m,rfl,hps,hm1,hm2,hcm,gm⟩;have hsl:=hps.len;obtain⟨z2,y2,e2,o2,a2,b2⟩:=zi9 o1 ((ps.length:Int)+1) (by lia) (by lia)
   obtain⟨p,rfl⟩:∃ p:Nat,z2=(p:Int):=⟨z2.toNat,by lia⟩
   refine za5 (s':=[some y2.t,some (.lst (names.map T.str)),some zhy,some (.lst ((ps.map fun k=>names.getD k jz).map T.str)),some (.lst ((names.drop c).map T.str)),some (tL sh),some (.int (p:Int))]) (by simp_all?[e2]) ?_
   have l1:=zdn (M:=[0]) (caps:=[none,some 4]) (fi:=zcs (dV 5)) (dg:=dGn 0) (fe:=d2 za3 (dV 1) (dV 0)) (s:=[some y2.t,some (.lst (names.map T.str)),some zhy,some (.lst ((ps.map fun k=>names.getD k jz).map T.str)),some (.lst ((names.drop c).map T.str)),some (tL sh),some (.int (p:Int))]) sh nT (fun k=>T.str (names.getD (c+k) jz)) (by unfold tL; simp_all?[]) (by lia) (by
    intro k hk;have hk':=hps.lt k hk;refine⟨[some (nT k),some (.lst ((names.drop c).map T.str))],rfl,?_,rfl⟩;have:za3 (.lst ((names.drop c).map T.str)) (.int (k:Int))=some (.str (names.getD (c+k) jz)):=by
     rw[zeL,jf,Wt,j3 (by lia),zew (by lia)]; rfl
    simp_all?[this])
   have l2:sh.map (fun k=>T.str (names.getD (c+k) jz))=((sh.map fun k=>c+k).map fun k=>names.getD k jz).map T.str:=by rw[Q1,Q1]; rfl
   rw[l2] at l1;have c1:zeH (.lst ((ps.map fun k=>names.getD k jz).map T.str)) none (some (p:Int))=some (.lst (((ps.take p).map fun k=>names.getD k jz).map T.str)):=by
    show some (T.lst (zfL _ none (some (p:Int))))=_;rw[zdv,zdv,zkq ps (by lia) (by lia),Qj]
   have c2:zeH (.lst ((ps.map fun k=>names.getD k jz).map T.str)) (some (p:Int)) none=some (.lst (((ps.drop p).map fun k=>names.getD k jz).map T.str)):=by
    show some (T.lst (zfL _ (some (p:Int)) none))=_;rw[zdv,zdv,zgS ps (by lia) (by lia),Qj]
   have c3:zeH (.lst ((names.drop c).map T.str)) (some (m:Int)) none=some (.lst ((names.drop (c+m)).map T.str)):=by
    show some (T.lst (zfL _ (some (m:Int)) none))=_;rw[zdv,zgS (names.drop c) (by lia) (by rw[QL]; lia),Qj,List.drop_drop]
   have c4:(m:Int) - 1+1=m:=by lia
   have p1:zax (.lst (((ps.take p).map fun k=>names.getD k jz).map T.str)) (.lst (((sh.map fun k=>c+k).map fun k=>names.getD k jz).map T.str))=some (.lst (((ps.take p++sh.map fun k=>c+k).map fun k=>names.getD k jz).map T.str)):=by
    rw[zmb (by simp; lia),<-jy,<-jy]
   have p2:zax (.lst (((ps.take p++sh.map fun k=>c+k).map fun k=>names.getD k jz).map T.str)) (.lst (((ps.drop p).map fun k=>names.getD k jz).map T.str))=some (.lst (((ps.take p++(sh.map fun k=>c+k)++ps.drop p).map fun k=>names.getD k jz).map T.str)):=by
    rw[zmb (by simp; lia),<-jy,<-jy]
   refine za5 (s':=[some y2.t,some (.lst (names.map T.str)),some zhy,some (.lst (((ps.take p++(sh.map fun k=>c+k)++ps.drop p).map fun k=>names.getD k jz).map T.str)),some (.lst ((names.drop c).map T.str)),some (tL sh),some (.int (p:Int))]) (by simp_all?[c1,l1,p1,c2,p2]) ?_
   refine zap (s':=[some y2.t,some (.lst (names.map T.str)),some zhy,some (.lst (((ps.take p++(sh.map fun k=>c+k)++ps.drop p).map fun k=>names.getD k jz).map T.str)),some (.lst ((names.drop (c+m)).map T.str)),some (tL sh),some (.int (p:Int))]) (by simp_all?[gm,c4,c3]) ⟨⟨y2,_,c+m,_,_,rfl,o2,hp.put hps,hcm⟩,?_⟩
   show ((names.drop (c+m)).map T.str).length < ((names.drop c).map T.str).length;rw[j5,j5,QL,QL];lia
  ·rintro s0 s' ⟨y,ps,c,a,b,rfl,oy,hp,hc⟩ hf;have hcc:c=names.length:=by
    have e:(dB (d2 gGt (d1 zcm (dV 4)) (dC (.int 0)))) [some y.t,some (.lst (names.map T.str)),some zhy,some (.lst ((ps.map fun k=>names.getD k jz).map T.str)),some (.lst ((names.drop c).map T.str)),a,b]=some (decide (0 < ((names.drop c).map T.str).length),[some y.t,some (.lst (names.map T.str)),some zhy,some (.lst ((ps.map fun k=>names.getD k jz).map T.str)),some (.lst ((names.drop c).map T.str)),a,b]):=by
     simp_all?[]
     congr 3
     simp
    rw[e] at hf;have:=congrArg Ud (jc hf);have:=of_decide_eq_false this;simp at this;lia
   subst hcc;have hs':s'=[some y.t,some (.lst (names.map T.str)),some zhy,some (.lst ((ps.map fun k=>names.getD k jz).map T.str)),some (.lst ((names.drop names.length).map T.str)),a,b]:=by
    have e:(dB (d2 gGt (d1 zcm (dV 4)) (dC (.int 0)))) [some y.t,some (.lst (names.map T.str)),some zhy,some (.lst ((ps.map fun k=>names.getD k jz).map T.str)),some (.lst ((names.drop names.length).map T.str)),a,b]=some (decide (((0:Int) < ((names.drop names.length).map T.str).length)),[some y.t,some (.lst (names.map T.str)),some zhy,some (.lst ((ps.map fun k=>names.getD k jz).map T.str)),some (.lst ((names.drop names.length).map T.str)),a,b]):=by simp_all?[]
    rw[e] at hf;exact(congrArg JT (jc hf)).symm
   subst hs';have hg:=zgH hn rfl hd hN hp;refine⟨_,by simp_all?[]<;>rfl,_,_,_,rfl,_,_,rfl,rfl,hg,fun x hx=>?_⟩
   obtain⟨k,hk,rfl⟩:=jB.mp hx;have hk':=hp.lt k hk;rw[zew hk']
   exact Qz hk')
 exact⟨wd,y,e,gw⟩
theorem znZ(c:Int){names:List Str}(hn:names.length<=30)(hd:names.Nodup)(hN:∀ x∈names,ze3 x):∃ wd:List Str,zgJ [.int c,.lst (names.map T.str)]=some (.lst (wd.map T.str))/\GoodWord wd/\∀ x∈wd,x∈names:=by
 have c8:∃ n8:List Str,zeH (.lst (names.map T.str)) none (some 8)=some (.lst (n8.map T.str))/\n8.length<=30/\n8.Nodup/\(∀ x∈n8,x∈names):=by
  by_cases h8:8<=names.length
  ·refine⟨names.take 8,?_,by rw[Q7]; lia,hd.sublist (Yu _ _),fun x hx=>Zk hx⟩
   show some (T.lst (zfL _ none (some 8)))=_;rw[zdv,zkq names (by lia) (by lia)]; rfl
  ·refine⟨names,?_,hn,hd,fun x hx=>hx⟩;show some (T.lst (zfL _ none (some 8)))=_;rw[zdv,zji names (by lia)]
 obtain⟨n8,e8,l8,d8,s8⟩:=c8;obtain⟨B,eb,ob⟩:=zku c;obtain⟨B2,eb2,ob2⟩:=zku (c / 2);obtain⟨w1,y1,e1,g1,s1⟩:=ztR ob l8 d8 (fun x hx=>hN x (s8 x hx));obtain⟨w2,y2,e2,g2,s2⟩:=zoZ ob2 hn hd hN
 by_cases h:c%2=1
 ·refine⟨w1,?_,g1,fun x hx=>s8 x (s1 x hx)⟩;refine zbS ?_;show Run zg4 [some (.int c),some (.lst (names.map T.str))] _;exact zfZ (s':=[some (.int c),some (.lst (names.map T.str))]) (by simp_all?[Dt_ h,eb,e8,e1]) rfl
 ·refine⟨w2,?_,g2,s2⟩;refine zbS ?_;show Run zg4 [some (.int c),some (.lst (names.map T.str))] _;refine za5 (s':=[some (.int c),some (.lst (names.map T.str))]) (by simp_all?[Df_ h]) ?_
  exact zb7 (s':=[some (.int c),some (.lst (names.map T.str))]) (by simp_all?[eb2,e2]) rfl
def zlc(l:List Str):List (Key × T):=l.map fun x=>(.inr x,.bl true)
theorem zhh(l:List Str)(x:Str):zfH (zlc l) (.inr x) (.bl true)=zlc (stp l x):=by
 have ha:((zlc l).any fun kv=>decide (kv.1=Zi x))=decide (x∈l):=by
  unfold zlc;rw[WX]
  induction l with
  |nil=>rfl
  |cons y l ih=>
   rw[Z6,ih]
   by_cases h:y=x
   ·subst h; simp
   ·have:¬ x=y:=fun q=>h q.symm;simp[h,this]
 unfold zfH stp;rw[ha]
 by_cases h:x∈l
 ·rw[Ip_ (by simpa using h),Ip_ h]
  unfold zlc;rw[Q1];refine QX fun y _=>?_;show (if (Zi y:Key)=Zi x then _ else _)=_
  split<;>rfl
 ·rw[In_ (by simpa using h),In_ h]
  unfold zlc;rw[jy]; rfl
theorem zle(s:Sg):∀(wd acc:List Str),znT [] [none] (dGn 0) zg6 (dV 0) (dC (.bl true)) (wd.map T.str) (zlc acc) s=some (zlc (wd.foldl stp acc),s)
 |[],acc=>rfl
 |x::wd,acc=>by
  show znT [] [none] (dGn 0) zg6 (dV 0) (dC (.bl true)) (wd.map T.str) (zfH (zlc acc) (.inr x) (.bl true)) s=_;rw[zhh,zle s wd,Zo]
theorem zhk{wd:List Str}(h:wd.length<=1000):zcJ [some (.lst (wd.map T.str))]=some (.rt (.lst ((zab wd).map T.str)) [some (.lst (wd.map T.str))]):=by
 have h1:=zle [some (.lst (wd.map T.str))] wd [];have hlc:wd.length<=zfT:=zqY (by lia)
 have e0:zlc []=[]:=rfl;rw[e0] at h1;have l1:zd5 (.dct (zlc (zab wd)))=some (.lst ((zab wd).map T.str)):=by
  show some (T.lst ((zlc (zab wd)).map fun kv=>kT kv.1))=_;unfold zlc;rw[Q1]; rfl
 have h2:dDC [] [none] (zcs (dV 0)) (dGn 0) zg6 (dV 0) (dC (.bl true)) [some (.lst (wd.map T.str))]=some (.dct (zlc (zab wd)),[some (.lst (wd.map T.str))]):=by
  unfold dDC
  simp_all?[hlc,h1]
  rfl
 unfold zcJ
 simp_all?[h2,l1]
theorem zdl{wd:List Str}(h:wd.length<=1000):zar [.lst (wd.map T.str)]=some (.lst ((zab wd).map T.str)):=by
 first
  |exact znu (zhk h)
  |exact znt (zhk h)
theorem zfC{wd:List Str}(h:wd.length<=1000)(x:Str):zbe [.lst (wd.map T.str),.str x]=some (.lst ((zaf wd x).map nT)):=by
 have e:=zgD (M:=[]) (caps:=[none,none,some 1]) (fi:=dEn (dAc (dV 0) dAn)) (dg:=dGt [0,1]) (ft:=dB (d2 gEq (dV 1) (dV 2))) (fe:=dV 0) (s:=[some (.lst (wd.map T.str)),some (.str x)]) wd.zipIdx (fun p=>T.tup [.int (p.2:Nat),.str p.1]) (fun p=>decide (p.1=x)) (fun p=>nT p.2) (by simp_all?[zlb]) (by simp; lia) (by
  intro p hp
  refine⟨_,by simp_all?[]<;>rfl,by simp_all?[],fun _=>by simp_all?[],rfl⟩)
 have e2:(wd.zipIdx.filter fun p=>decide (p.1=x)).map (fun p=>nT p.2)=(zaf wd x).map nT:=by
  rw[show (fun(p:Str × Nat)=>nT p.2)=nT∘JT from rfl,<-Q1]
  congr 1
  unfold zaf;refine(?_:_=(jt wd.length).filter _);have q:∀(l:List Str) (n:Nat) (g:Nat->Bool),(∀ j (hj:j < l.length),g (n+j)=decide (l[j]=x))->((l.zipIdx n).filter fun p=>decide (p.1=x)).map JT=((jt l.length).map (n+·)).filter g:=by
   intro l
   induction l with
   |nil=>intro n g _; rfl
   |cons y l ih=>
    intro n g hg;have h0:=hg 0 (by simp)
    rw[N6,ZA,jp,gH,jr,ZA];have hr:=ih (n+1) g (fun j hj=>by have:=hg (j+1) (by simp; lia); rw[show n+1+j=n+(j+1) by lia]; simpa using this)
    have hm:(List.map (fun x=>n+x) (List.map Nat.succ (jt l.length)))=(jt l.length).map (fun x=>n+1+x):=by
     rw[Q1]; refine QX fun j _=>?_;show n+(j+1)=n+1+j; lia
    rw[hm];have h0':g (n+0)=decide (y=x):=by simpa using h0
    simp only[Nat.add_zero] at h0' ⊢;rw[h0']
    by_cases hy:y=x
    ·simp only[hy,decide_true,if_true,jr,hr]
    ·simp only[hy,decide_false,Z2,if_false,hr]
  have:=q wd 0 (fun j=>decide (wd[j]?=some x)) (fun j hj=>by rw[Z1,j3 hj]; simp)
  rw[this]
  congr 1
  simp
 rw[e2] at e;refine zbS ?_;show Run zc9 [some (.lst (wd.map T.str)),some (.str x)] _;unfold zc9;exact zb7 (by simp_all?[e]<;>rfl) rfl
theorem zm1{wd:List Str}(h:wd.length<=1000){x:Str}{i j:Nat}(hp:zaf wd x=[i,j]):zdU [.lst (wd.map T.str),.str x]=some (.lst ((zlo wd i j).map T.str)):=by
 have st:=zfC h x;rw[hp] at st;obtain⟨h1,h2⟩:=zaV hp;refine zbS ?_;show Run zdu [some (.lst (wd.map T.str)),some (.str x),none,none] _;unfold zdu;refine za5 (by simp_all?[st,jr,Zr]<;>rfl) ?_
 have c:=zoV (wd.map T.str) (t:=(i:Int)+1) (u:=(j:Int)) (by lia) (by lia) (by simp; lia)
 have e1:((i:Int)+1).toNat=i+1:=by lia
 rw[e1,Qj] at c;refine zb7 (by simp_all?[zeH,gSl,c]<;>rfl) ?_
 unfold zlo;rw[Wk,Wj]
theorem zdY{wd:List Str}(h:wd.length<=1000){x:Str}{i j:Nat}(hp:zaf wd x=[i,j]):zaw [.lst (wd.map T.str),.str x]=some (.lst (((zab wd).filter (crs wd x)).map T.str)):=by
 have hb:=zm1 h hp;have hn:=zdl h;have hf:=zgM wd
 have e:=zgD (M:=[]) (caps:=[none,some 2]) (fi:=zcs (zai zar (dAc (dV 0) dAn))) (dg:=dGn 0) (ft:=dB (d2 gEq (d2L zhn (dV 1) (dV 0)) (dC (.int 1)))) (fe:=dV 0) (s:=[some (.lst (wd.map T.str)),some (.str x),some (.lst ((zlo wd i j).map T.str))]) (zab wd) T.str (crs wd x) T.str (by simp_all?[hn]) (by lia) (by
  intro y hy;refine⟨_,by simp_all?[]<;>rfl,?_,fun _=>by simp_all?[],rfl⟩
  have e1:decide (((((zlo wd i j).count y:Nat):Int))=1)=decide ((zlo wd i j).count y=1):=by
   by_cases q:(zlo wd i j).count y=1
   ·rw[q]; rfl
   ·rw[Df_ q,Df_ (by lia)]
  simp_all?[e1,zlh hp])
 have key:Run zbm [some (.lst (wd.map T.str)),some (.str x),none] fun r=>∃ s,r=.rt (.lst (((zab wd).filter (crs wd x)).map T.str)) s:=by
  unfold zbm;refine za5 (by simp_all?[hb]<;>rfl) ?_
  exact zb7 (by simp_all?[e]<;>rfl) rfl
 first
  |exact zgK key
  |exact zbS key
def zal(ns:List Str)(adj:Str->Str->Bool):T:=.fd (ns.map fun x=>(Zi x,.lst ((mts ns adj x).map T.str)))
theorem zcE{ns:List Str}{adj:Str->Str->Bool}{x:Str}(h:x∈ns):za3 (zal ns adj) (.str x)=some (.lst ((mts ns adj x).map T.str)):=by
 unfold zal;rw[zga,ze7,zl8 h];rfl
theorem zcg(ns:List Str)(adj:Str->Str->Bool)(s s':Sg)(f:DE)(h:f s=some (zal ns adj,s')):zcs f s=some (ns.map T.str,s'):=by
 unfold zcs;rw[h];unfold zal;simp only[j7,Q1];rfl
theorem zn9{ns:List Str}{adj:Str->Str->Bool}(g:Gr ns adj)(x:Str):(mts ns adj x).length<=30:=Q9 (Zf _ _) g.len
theorem zfB{ns:List Str}{j:Nat}{z:T}(h:(ns.map T.str)[j]?=some z):∃ x,ns[j]?=some x/\z=.str x:=by
 rw[jf] at h;obtain⟨x,h1,h2⟩:=Qm h;exact⟨x,h1,h2.symm⟩
theorem zaJ{ns:List Str}{P:Str->Prop}{j:Nat}{x:Str}(h:∀ y∈ns.take j,P y)(hx:ns[j]?=some x)(p:P x):∀ y∈ns.take (j+1),P y:=by
 intro y hy;rw[ZU,hx] at hy;rcases jv.mp hy with hy |hy
 ·exact h y hy
 ·have:y=x:=by simpa using hy
  rw[this]; exact p
def zim:Option Str->T
 |none=>.non
 |some x=>.str x
theorem zjY{ns:List Str}{adj:Str->Str->Bool}(g:Gr ns adj):∃ r:Option Str,zdp [zal ns adj]=some (zim r)/\(∀ x,r=some x->x∈ns/\(mts ns adj x).length%2=1)/\(r=none->∀ x∈ns,(mts ns adj x).length%2=0):=by
 obtain⟨t,h,r,rfl,h1,h2⟩:=zc3 (n:=2) (d:=zbU) (ts:=[zal ns adj]) (Q:=fun t=>∃ r:Option Str,t=zim r/\(∀ x,r=some x->x∈ns/\(mts ns adj x).length%2=1)/\(r=none->∀ x∈ns,(mts ns adj x).length%2=0)) (by
  show Run zbU [some (zal ns adj),none] _;unfold zbU;refine zhE (its:=ns.map T.str) (fun j s=>(∀ y∈ns.take j,(mts ns adj y).length%2=0)/\∃ a,s=[some (zal ns adj),a]) (zcg ns adj _ _ _ rfl) ⟨fun y hy=>by simp at hy,_,rfl⟩ ?_ ?_
  ·rintro j z s hz ⟨hj,a,rfl⟩;obtain⟨x,hx,rfl⟩:=zfB hz;have hxn:=jJ hx;refine⟨_,by simp_all?[]<;>rfl,?_⟩
   by_cases hp:(mts ns adj x).length%2=1
   ·have e1:decide ((((mts ns adj x).length:Nat):Int)%2=1)=true:=Dt_ (by lia)
    exact zjS (by simp_all?[zcE hxn,e1]<;>rfl) ⟨_,_,rfl,some x,rfl,fun y e=>by injection e with e; subst e; exact⟨hxn,hp⟩,fun e=>by cases e⟩
   ·have e1:decide ((((mts ns adj x).length:Nat):Int)%2=1)=false:=Df_ (by lia)
    exact zgu (by simp_all?[zcE hxn,e1]<;>rfl) ⟨zaJ hj hx (by lia),_,rfl⟩
  ·rintro s ⟨hj,a,rfl⟩;refine zas (by simp_all?[]<;>rfl) ⟨_,_,rfl,none,rfl,fun x e=>(by cases e),fun _ x hx=>hj x ?_⟩
   rw[j5,QM]; exact hx)
 exact⟨r,h,h1,h2⟩
theorem zj8:∀(l acc:List Str),(acc++l).Nodup->l.foldl stp acc=acc++l
 |[],acc,_=>by simp
 |x::l,acc,h=>by
  rw[Zo];have hx:x∉acc:=fun z=>(jT.mp h).2.2 x z x (.head _) rfl;have e:stp acc x=acc++[x]:=by unfold stp; rw[In_ hx]
  rw[e,zj8 l (acc++[x]) (by simpa using h)]
  simp
theorem zgL{l:List Str}(h:l.Nodup):zab l=l:=by
 have:=zj8 l [] (by simpa using h)
 rw[Jq] at this;exact this
theorem zp0{ns:List Str}{adj:Str->Str->Bool}(g:Gr ns adj)(x y:Str):znN (mts ns adj x) (mts ns adj y)=shr ns adj x y:=by
 unfold znN shr mts;rw[zgL (g.nd.filter _),zgL (g.nd.filter _)];rw[Ws]
 congr 1
 refine YE fun z hz=>?_;rw[JU]
 congr 1
 simp[jZ,hz]
theorem zhb:∀(l:List Str),zhv (l.map T.str)=some l
 |[]=>rfl
 |k::l=>by show (zhv (l.map T.str)).map (k::·)=_; rw[zhb l]; rfl
theorem zpS{a b:List Str}(ha:a.length < 900)(hb:b.length < 900):zi4 (.lst (a.map T.str)) (.lst (b.map T.str))=some (.int (znN a b:Nat)):=by
 simp only[zi4,zhb,j7];rw[Ip_ ha,Ip_ hb]
theorem zjb{ns:List Str}{adj:Str->Str->Bool}(g:Gr ns adj){x y:Str}(hx:x∈ns)(hy:y∈ns):zaU [zal ns adj,.str x,.str y]=some (.bl (evn ns adj x y)):=by
 have h1:=zn9 g x;have h2:=zn9 g y;refine zbS ?_;show Run zb4 [some (zal ns adj),some (.str x),some (.str y)] _;unfold zb4;refine zb7 (by simp_all?[zcE hx,zcE hy,zpS (a:=mts ns adj x) (b:=mts ns adj y) (by lia) (by lia),zp0 g]<;>rfl) ?_
 unfold evn
 congr 1
 rw[decide_eq_decide];lia
theorem mem_mts{ns:List Str}{adj:Str->Str->Bool}{x y:Str}:y∈mts ns adj x↔y∈ns/\adj x y=true:=by unfold mts; rw[jZ]
def zdy(ns:List Str)(adj:Str->Str->Bool)(x y:Str):Prop:=x≠y/\adj x y=false/\evn ns adj x y=false
theorem zjX{ns:List Str}{adj:Str->Str->Bool}(g:Gr ns adj):∃ r:Option (Str × Str),zdo [zal ns adj]=some (match r with |none=>.non |some (x,y)=>.tup [.str x,.str y])/\(∀ x y,r=some (x,y)->x∈ns/\y∈ns/\zdy ns adj x y)/\(r=none->∀ x∈ns,∀ y∈ns,¬ zdy ns adj x y):=by
 obtain⟨t,h,r,rfl,h1,h2⟩:=zc3 (n:=4) (d:=zbT) (ts:=[zal ns adj]) (Q:=fun t=>∃ r:Option (Str × Str),t=(match r with | none=>.non | some (x,y)=>.tup [.str x,.str y])/\(∀ x y,r=some (x,y)->x∈ns/\y∈ns/\zdy ns adj x y)/\(r=none->∀ x∈ns,∀ y∈ns,¬ zdy ns adj x y)) (by
  show Run zbT [some (zal ns adj),none,none,none] _;unfold zbT;refine zhE (its:=ns.map T.str) (fun j s=>(∀ x∈ns.take j,∀ y∈ns,¬ zdy ns adj x y)/\∃ a b c,s=[some (zal ns adj),a,b,c]) (zcg ns adj _ _ _ rfl) ⟨fun y hy=>by simp at hy,_,_,_,rfl⟩ ?_ ?_
  ·rintro j z s hz ⟨hj,a,b,c,rfl⟩;obtain⟨x,hx,rfl⟩:=zfB hz;have hxn:=jJ hx;refine⟨_,by simp_all?[]<;>rfl,?_⟩
   refine zeY (its:=ns.map T.str) (fun j s=>(∀ y∈ns.take j,¬ zdy ns adj x y)/\∃ b c,s=[some (zal ns adj),some (.str x),b,c]) (zcg ns adj _ _ _ rfl) ⟨fun y hy=>by simp at hy,_,_,rfl⟩ ?_ ?_
   ·rintro i z s hz ⟨hi,b,c,rfl⟩;obtain⟨y,hy,rfl⟩:=zfB hz;have hyn:=jJ hy;refine⟨_,by simp_all?[]<;>rfl,?_⟩
    have ev:=zjb g hxn hyn;have e1:(decide (y∈mts ns adj x))=adj x y:=by
     rw[Zp,decide_eq_true_iff,mem_mts];exact⟨fun h=>h.2,fun h=>⟨hyn,h⟩⟩
    by_cases hxy:y=x
    ·subst hxy;refine za5 (by simp_all?[]<;>rfl) ?_
     exact zgu (by simp_all?[]<;>rfl) ⟨zaJ hi hy (fun q=>q.1 rfl),_,_,rfl⟩
    ·have hxy':¬ x=y:=fun e=>hxy e.symm;cases ha:adj x y with
     |true=>
      rw[ha] at e1;refine za5 (by simp_all?[zcE hxn,hxy,e1]<;>rfl) ?_
      refine zgu (by simp_all?[]<;>rfl) ⟨zaJ hi hy (fun q=>?_),_,_,rfl⟩
      rw[q.2.1] at ha; cases ha
     |false=>
      rw[ha] at e1;refine za5 (by simp_all?[zcE hxn,hxy,e1]<;>rfl) ?_
      cases hE:evn ns adj x y with
      |true=>
       rw[hE] at ev;refine zgu (by simp_all?[ev]<;>rfl) ⟨zaJ hi hy (fun q=>?_),_,_,rfl⟩
       rw[q.2.2] at hE; cases hE
      |false=>
       rw[hE] at ev;exact zjS (by simp_all?[ev]<;>rfl) ⟨_,_,rfl,some (x,y),rfl,fun u v e=>by injection e with e; injection e with e1 e2; subst e1 e2; exact⟨hxn,hyn,hxy',ha,hE⟩,fun e=>by cases e⟩
   ·rintro s ⟨hi,b,c,rfl⟩;rw[j5,QM] at hi;exact⟨zaJ hj hx hi,_,_,_,rfl⟩
  ·rintro s ⟨hj,a,b,c,rfl⟩;rw[j5,QM] at hj
   exact zas (by simp_all?[]<;>rfl) ⟨_,_,rfl,none,rfl,fun x y e=>(by cases e),fun _=>hj⟩)
 exact⟨r,h,h1,h2⟩
theorem zhe{ft:DT}{db:DS}{n:Nat}{s:Sg}{Q:Fl->Prop}(I:Sg->Prop)(μ:Sg->Nat)(hn:μ s < n)(h0:I s)(hs:∀ s,I s->∃ b s1,ft s=some (b,s1)/\if b=true then Run db s1 (ztW fun s2=>I s2/\μ s2 < μ s) else True)
  (k:∀ s0 s',I s0->ft s0=some (false,s')->Q (.nx s')):Run (zbF ft db n) s Q:=by
 obtain⟨r,h1,h2⟩:=zdM (d:=zay) (Q:=fun r=>∃ s',r=.nx s'/\∃ s0,I s0/\ft s0=some (false,s')) I μ hn h0 hs fun s0 s' a b=>⟨_,rfl,s',rfl,s0,a,b⟩;obtain⟨s',rfl,s0,a,b⟩:=h2;refine⟨.nx s',?_,k s0 s' a b⟩;unfold zaj at h1;obtain⟨r,h3,h4⟩:=Qb h1;cases r with
 |nx s2=>
  have h4:zay s2=some (.nx s'):=h4;injection h4 with h4;injection h4 with h4;rw[h3,h4]
 |rt t s2=>cases h4
 |bk s2=>cases h4
 |ct s2=>cases h4
theorem zce:∀(l m:List Str),l.Nodup->(∀ x∈l,x∈m)->l.length<=m.length
 |[],m,_,_=>Z8 _
 |x::l,m,nd,h=>by
  obtain⟨n1,n2⟩:=Qp.mp nd;have hx:=h x (.head _);have ih:=zce l (m.erase x) n2 fun y hy=>(gY (fun e:y=x=>n1 (by rw[<-e]; exact hy))).mpr (h y (.tail _ hy))
  have:=gq hx;have hp:0 < m.length:=Nh hx;rw[jp];lia
theorem zjG{c:DT}{f g:DS}{s s':Sg}{Q:Fl->Prop}(h:c s=some (true,s'))(k:Run f s' Q):Run (zcx c f g) s Q:=by
 obtain⟨r,h1,h2⟩:=k;refine⟨r,?_,h2⟩;unfold zcx;rw[h,j7];exact h1
def zbW(O:Org):List (Key × T):=O.map fun e=>(Zi e.1,zim e.2)
theorem zoy{O:Org}:∀(x:Str),((O.find? fun e=>decide ((Zi e.1:Key)=Zi x)).map fun e=>zim e.2).isSome=decide (x∈kys O):=fun x=>by
 rw[gM,Zp,WP,decide_eq_true_iff];constructor
 ·rintro⟨e,he,h⟩;have:=gb (of_decide_eq_true h);rw[<-this]; exact zdS he
 ·intro h;obtain⟨o,ho⟩:=zqZ h;exact⟨_,ho,Dt_ rfl⟩
theorem zhS(O:Org)(x:Str):(zbb (zbW O) (.inr x)).isSome=decide (x∈kys O):=by
 unfold zbW;rw[ze7,zoy]
theorem zn2{O:Org}(nd:(kys O).Nodup){x:Str}{o:Option Str}(h:(x,o)∈O):za3 (.fd (zbW O)) (.str x)=some (zim o):=by
 rw[zga];unfold zbW;rw[ze7];cases hf:O.find? fun e=>decide ((Zi e.1:Key)=Zi x) with
 |none=>exact absurd (Dt_ rfl) (List.find?_eq_none.mp hf _ h)
 |some e=>
  have h1:=List.mem_of_find?_eq_some hf;have h2:e.1=x:=by have:=List.find?_some hf; simpa using this
  obtain⟨x',o'⟩:=e;dsimp only at h2;subst h2;rw[zgO nd h h1];rfl
theorem zn1{O:Org}{x:Str}{o:Option Str}(h:x∉kys O):zfH (zbW O) (.inr x) (zim o)=zbW (O++[(x,o)]):=by
 rw[zhP]
 ·unfold zbW; rw[jy]; rfl
 ·unfold zbW;rw[Q1];intro hm;obtain⟨e,he,h2⟩:=jB.mp hm;exact h (gb h2▸zdS he)
theorem ztY(w:List Str)(x:Str):znS (.lst ((w++[x]).map T.str)) []=some (.lst (w.map T.str),.str x):=by
 simp[znS]
theorem zwb{a b:List Str}(h:a.length+b.length<=1000000):zpq (.lst (a.map T.str)) [.lst (b.map T.str)]=some (.lst ((a++b).map T.str),.non):=by
 have q:(a.map T.str).length+(b.map T.str).length<=jn:=zc6 (by simpa using h)
 simp only[zpq,q,if_true,jy]
def muF:Sg->Nat
 |[_,some (.dct kvs),_,some (.lst w),_,_,_]=>2*(31 - kvs.length)+w.length
 |_=>0
theorem zi5{ns:List Str}{adj:Str->Str->Bool}(g:Gr ns adj):∃ O:Org,zco [zal ns adj]=some (.fd (zbW O))/\Fo ns adj O/\∀ x∈ns,x∈kys O:=by
 obtain⟨t,h,O,rfl,h1,h2⟩:=zc3 (n:=7) (d:=zbg) (ts:=[zal ns adj]) (Q:=fun t=>∃ O:Org,t=.fd (zbW O)/\Fo ns adj O/\∀ x∈ns,x∈kys O) (by
  show Run zbg [some (zal ns adj),none,none,none,none,none,none] _;unfold zbg;refine za5 (by simp_all?[]<;>rfl) ?_
  refine zc0 (its:=ns.map T.str) (fun j s=>∃ O a b c d e,Fo ns adj O/\(∀ y∈ns.take j,y∈kys O)/\s=[some (zal ns adj),some (.dct (zbW O)),a,b,c,d,e]) (zcg ns adj _ _ _ rfl) ⟨[],_,_,_,_,_,Fo.nil,fun y hy=>by simp at hy,rfl⟩ ?_ ?_
  ·rintro j z s hz ⟨O0,a,b,c,d,e,F0,hj,rfl⟩;obtain⟨x,hx,rfl⟩:=zfB hz;have hxn:=jJ hx;have bnd:∀ {O:Org},(kys O).Nodup->(∀ x∈kys O,x∈ns)->O.length<=30:=fun {O} h1 h2=>by
    have:=zce _ _ h1 h2;have:=g.len;unfold kys at *;simp at *;lia
   refine⟨_,by simp_all?[]<;>rfl,?_⟩
   by_cases hk:x∈kys O0
   ·have e1:decide (x∈kys O0)=true:=Dt_ hk;exact zap (by simp_all?[zhS,e1]<;>rfl) ⟨O0,_,_,_,_,_,F0,zaJ hj hx hk,rfl⟩
   ·have e1:decide (x∈kys O0)=false:=Df_ hk;have b0:=bnd F0.nd F0.sub;have l0:(zbW O0).length < jn:=zcy (by unfold zbW; rw[j5]; lia)
    have D0:=Dfs.start F0 hxn hk;have hp:zfH (zbW O0) (.inr x) .non=zbW (O0++[(x,none)]):=zn1 (o:=none) hk;refine zjG (by simp_all?[zhS,e1]<;>rfl) ?_
    refine za5 (by simp_all?[l0,zh7,hp]<;>rfl) (za5 (by simp_all?[]<;>rfl) ?_)
    refine zhe (fun s=>∃ O wt c d e,Dfs ns adj x O0 O wt/\wt.length<=O.length/\x∈kys O/\s=[some (zal ns adj),some (.dct (zbW O)),some (.str x),some (.lst (wt.map T.str)),c,d,e]) muF ?_ ⟨_,[x],_,_,_,D0,by simp,by rw[zaQ]; simp[kys],rfl⟩ ?_ ?_
    ·show 2*(31 - (zbW (O0++[(x,none)])).length)+1 < 100;lia
    ·rintro s ⟨O,wt,c,d,e,D,hw,hxO,rfl⟩;have bO:=bnd D.nd D.sub
     by_cases hwt:wt=[]
     ·subst hwt;exact⟨false,_,by simp_all?[]<;>rfl,trivial⟩
     ·obtain⟨w',y,rfl⟩:∃ w' y,wt=w'++[y]:=⟨wt.dropLast,wt.getLast hwt,(Q5 hwt).symm⟩;obtain⟨hyk,hy0⟩:=D.ws y (by simp)
      have hyn:=D.sub y hyk
      refine⟨true,[some (zal ns adj),some (.dct (zbW O)),some (.str x),some (.lst ((w'++[y]).map T.str)),c,d,e],by
       simp_all?[]
       simp,?_⟩
      have D1:=D.step g;have ml:=zn9 g y;generalize hfr:((mts ns adj y).filter fun z=>decide (z∉kys O))=fr at D1;have frl:fr.length<=30:=by rw[<-hfr]; exact Q9 (Zf _ _) ml
      have b1:=bnd D1.nd D1.sub;rw[jk,j5] at b1;rw[jk] at hw;rw[Ip_ rfl]
      have elc:=zgD (M:=[1,3]) (caps:=[none,some 1]) (fi:=zcs (d2 za3 (dV 0) (dV 4))) (dg:=dGn 0) (ft:=dB (d2 zaK (dV 0) (dV 1))) (fe:=dV 0) (s:=[some (zal ns adj),some (.dct (zbW O)),some (.str x),some (.lst (w'.map T.str)),some (.str y),d,e]) (mts ns adj y) T.str (fun z=>decide (z∉kys O)) T.str (by simp_all?[zcE hyn]) (by lia) (by
       intro z hz
       exact⟨_,by simp_all?[]<;>rfl,by simp_all?[zhS,decide_not],fun _=>by simp_all?[],rfl⟩)
      rw[hfr] at elc;refine za5 (s':=[some (zal ns adj),some (.dct (zbW O)),some (.str x),some (.lst (w'.map T.str)),some (.str y),d,e]) (by simp_all?[ztY]<;>rfl) (za5 (by simp_all?[elc]<;>rfl) ?_)
      have frn:fr.Nodup:=by rw[<-hfr]; exact(g.nd.filter _).filter _
      have frk:∀ z∈fr,z∉kys O:=fun z hz=>by rw[<-hfr] at hz; exact of_decide_eq_true (jZ.mp hz).2
      refine zc0 (its:=fr.map T.str) (fun i s=>∃ e,s=[some (zal ns adj),some (.dct (zbW (O++(fr.take i).map fun z=>(z,some y)))),some (.str x),some (.lst (w'.map T.str)),some (.str y),some (.lst (fr.map T.str)),e]) (by simp_all?[]<;>rfl) ⟨e,by simp⟩ ?_ ?_
      ·rintro i z s hz ⟨e,rfl⟩;obtain⟨u,hu,rfl⟩:=zfB hz;refine⟨_,by simp_all?[]<;>rfl,?_⟩
       have hun:u∉kys (O++(fr.take i).map fun z=>(z,some y)):=by
        rw[zaQ];intro hm;rcases jv.mp hm with hm |hm
        ·exact frk u (jJ hu) hm
        ·have hm:u∈fr.take i:=by
          unfold kys at hm;rw[Q1] at hm;obtain⟨v,hv,rfl⟩:=jB.mp hm;exact hv
         obtain⟨k,hk1,hk2⟩:=Yc hm;rw[List.getElem_take] at hk2;rw[Q7] at hk1;have hiu:=(j9.mp hu);obtain⟨hi1,hi2⟩:=hiu;have:=(N1 frn).mp (hk2.trans hi2.symm);lia
       have ll:(zbW (O++(fr.take i).map fun z=>(z,some y))).length < jn:=zcy (by unfold zbW; simp; lia)
       have hp:zfH (zbW (O++(fr.take i).map fun z=>(z,some y))) (.inr u) (.str y)=_:=zn1 (o:=some y) hun;refine zap (by simp_all?[ll,zh7,hp]<;>rfl) ⟨some (.str u),?_⟩
       rw[ZU,hu];simp
      ·rintro s ⟨e,rfl⟩;rw[j5,QM];refine zap (by simp_all?[zwb (a:=w') (b:=fr) (by lia)]<;>rfl) ⟨⟨_,_,_,_,_,D1,?_,by rw[zaQ]; exact jo _ hxO,rfl⟩,?_⟩
       ·rw[jk,jk,j5];simp at hw;lia
       ·show 2*(31 - (zbW (O++fr.map fun z=>(z,some y))).length)+((w'++fr).map T.str).length < 2*(31 - (zbW O).length)+((w'++[y]).map T.str).length;unfold zbW;simp;lia
    ·rintro s0 s' ⟨O,wt,c,d,e,D,hw,hxO,rfl⟩ hf
     by_cases hwt:wt=[]
     ·subst hwt;have hf:some (false,[some (zal ns adj),some (T.dct (zbW O)),some (T.str x),some (T.lst (([]:List Str).map T.str)),c,d,e])=some (false,s'):=hf;injection hf with hf;injection hf with _ hf;subst hf;have F1:=D.fin g F0;refine⟨O,_,_,_,_,_,F1,zaJ (fun y hy=>?_) hx ?_,rfl⟩
      ·obtain⟨r,hr⟩:=D.pre;rw[hr,zaQ]; exact jo _ (hj y hy)
      ·exact hxO
     ·exfalso
      have h2:znU (dV 3) [some (zal ns adj),some (.dct (zbW O)),some (.str x),some (.lst (wt.map T.str)),c,d,e]=some (true,[some (zal ns adj),some (.dct (zbW O)),some (.str x),some (.lst (wt.map T.str)),c,d,e]):=by
       simp_all?[]
       simp[hwt]
      rw[h2] at hf;cases hf
  ·rintro s ⟨O,a,b,c,d,e,F,hj,rfl⟩;rw[j5,QM] at hj
   exact zas (by simp_all?[]<;>rfl) ⟨_,_,rfl,O,rfl,F,hj⟩)
 exact⟨O,h,h1,h2⟩
def bI(b:Bool):Int:=if b then 1 else 0
theorem zef{ns:List Str}{adj:Str->Str->Bool}(g:Gr ns adj){x y:Str}(hx:x∈ns)(hy:y∈ns){S:T}{b:Bool}(hS:za3 S (.str x)=some (.int (bI b))):zbk [zal ns adj,S,.str x,.str y]=some (.int (bI (evn ns adj x y != b))):=by
 have ev:=zjb g hx hy;refine zbS ?_;show Run zbD [some (zal ns adj),some S,some (.str x),some (.str y)] _;unfold zbD;cases hE:evn ns adj x y with
 |true=>
  rw[hE] at ev;refine zb7 (by simp_all?[ev,hS]<;>rfl) ?_
  cases b<;>rfl
 |false=>
  rw[hE] at ev;refine zb7 (by simp_all?[ev,hS]<;>rfl) ?_
  cases b<;>rfl
def zbs(sd:Str->Bool)(l:List Str):List (Key × T):=l.map fun z=>(Zi z,.int (bI (sd z)))
theorem zfX{sd:Str->Bool}{l:List Str}{x:Str}(h:x∈l):zbb (zbs sd l) (.inr x)=some (.int (bI (sd x))):=by
 unfold zbs;rw[ze7,zl8 h];rfl
theorem zgZ{ns:List Str}{adj:Str->Str->Bool}(g:Gr ns adj){O:Org}(F:Fo ns adj O):zc2 [zal ns adj,.fd (zbW O)]=some (.fd (zbs (zfg (evn ns adj) O) (kys O))):=by
 have bO:O.length<=30:=by
  have:=zce _ _ F.nd F.sub;have:=g.len;unfold kys at *;simp at *;lia
 refine zbS ?_;show Run zbC [some (zal ns adj),some (.fd (zbW O)),none,none,none] _;unfold zbC;refine za5 (by simp_all?[]<;>rfl) ?_
 have it:zcs (dV 1) [some (zal ns adj),some (.fd (zbW O)),some (T.dct []),none,none]=some (O.map fun e=>T.str e.1,[some (zal ns adj),some (.fd (zbW O)),some (T.dct []),none,none]):=by
  unfold zcs zbW
  simp_all?[]
  simp only[Q1];rfl
 refine zc0 (its:=O.map fun e=>T.str e.1) (fun j s=>∃ a b,s=[some (zal ns adj),some (.fd (zbW O)),some (.dct (zbs (zfg (evn ns adj) O) (kys (O.take j)))),a,b]) it ⟨none,none,rfl⟩ ?_ ?_
 ·rintro j z s hz ⟨a,b,rfl⟩;rw[jf] at hz;obtain⟨⟨x,o⟩,hx,rfl⟩:=Qm hz;have hm:(x,o)∈O:=jJ hx;have hxn:=F.sub x (zdS hm);have at1:=zn2 F.nd hm;have sd1:=F.side (evn ns adj) hx;have tk:O.take (j+1)=O.take j++[(x,o)]:=by rw[ZU,hx]; rfl
  have hnk:x∉kys (O.take j):=by
   have nd:=F.nd;rw[<-Z0 (j+1) O,tk,zaQ,zaQ] at nd;intro h;exact(jT.mp (jT.mp nd).1).2.2 x h x (by simp[kys]) rfl
  have ll:(zbs (zfg (evn ns adj) O) (kys (O.take j))).length < jn:=zcy (by unfold zbs kys; simp; lia)
  have hp:zfH (zbs (zfg (evn ns adj) O) (kys (O.take j))) (.inr x) (.int (bI (zfg (evn ns adj) O x)))=zbs (zfg (evn ns adj) O) (kys (O.take (j+1))):=by
   rw[zhP]
   ·rw[tk,zaQ]; unfold zbs; rw[jy]; rfl
   ·unfold zbs;rw[Q1];intro hm;obtain⟨e,he,h2⟩:=jB.mp hm;exact hnk (gb h2▸he)
  refine⟨_,by simp_all?[]<;>rfl,?_⟩
  cases o with
  |none=>
   dsimp only at sd1;rw[sd1] at hp;refine za5 (by simp_all?[at1,zim]<;>rfl) ?_
   exact zap (by simp_all?[zim,gIs,isN,zh7,ll]; rw[show (T.int 0)=T.int (bI false) from rfl,hp]) ⟨_,_,rfl⟩
  |some p=>
   dsimp only at sd1;obtain⟨_,hpk⟩:=F.ord j x p hx;have hpn:p∈ns:=F.sub p (by rw[<-Z0 j O,zaQ]; exact jo _ hpk)
   have sb:=zef g hpn hxn (S:=.dct (zbs (zfg (evn ns adj) O) (kys (O.take j)))) (b:=zfg (evn ns adj) O p) (by rw[zmc]; exact zfX hpk)
   rw[<-sd1] at sb;refine za5 (by simp_all?[at1,zim]<;>rfl) ?_
   exact zap (by simp_all?[zim,gIs,isN,sb,zh8,zh7,ll,hp]<;>rfl) ⟨_,_,rfl⟩
 ·rintro s ⟨a,b,rfl⟩;rw[j5,QM];exact zb7 (by simp_all?[]<;>rfl) rfl
theorem zhr{ns:List Str}{adj:Str->Str->Bool}(g:Gr ns adj){sd:Str->Bool}{l:List Str}(hl:∀ x∈ns,x∈l):∃ r:Option (Str × Str),zcn [zal ns adj,.fd (zbs sd l)]=some (match r with |none=>.non |some (x,y)=>.tup [.str x,.str y])/\(∀ x y,r=some (x,y)->x∈ns/\y∈ns/\adj x y=true/\evn ns adj x y≠(sd x != sd y))/\(r=none->∀ x∈ns,∀ y∈ns,adj x y=true->evn ns adj x y=(sd x != sd y)):=by
 obtain⟨t,h,r,rfl,h1,h2⟩:=zc3 (n:=4) (d:=zbf) (ts:=[zal ns adj,.fd (zbs sd l)]) (Q:=fun t=>∃ r:Option (Str × Str),t=(match r with | none=>.non | some (x,y)=>.tup [.str x,.str y])/\(∀ x y,r=some (x,y)->x∈ns/\y∈ns/\adj x y=true/\evn ns adj x y≠(sd x != sd y))/\(r=none->∀ x∈ns,∀ y∈ns,adj x y=true->evn ns adj x y=(sd x != sd y))) (by
  show Run zbf [some (zal ns adj),some (.fd (zbs sd l)),none,none] _;unfold zbf;refine zhE (its:=ns.map T.str) (fun j s=>(∀ x∈ns.take j,∀ y∈ns,adj x y=true->evn ns adj x y=(sd x != sd y))/\∃ a b,s=[some (zal ns adj),some (.fd (zbs sd l)),a,b]) (zcg ns adj _ _ _ rfl) ⟨fun y hy=>by simp at hy,_,_,rfl⟩ ?_ ?_
  ·rintro j z s hz ⟨hj,a,b,rfl⟩;obtain⟨x,hx,rfl⟩:=zfB hz;have hxn:=jJ hx;refine⟨_,by simp_all?[]<;>rfl,?_⟩
   refine zeY (its:=(mts ns adj x).map T.str) (fun j s=>(∀ y∈(mts ns adj x).take j,evn ns adj x y=(sd x != sd y))/\∃ b,s=[some (zal ns adj),some (.fd (zbs sd l)),some (.str x),b]) (by simp_all?[zcE hxn]<;>rfl) ⟨fun y hy=>by simp at hy,_,rfl⟩ ?_ ?_
   ·rintro i z s hz ⟨hi,b,rfl⟩;obtain⟨y,hy,rfl⟩:=zfB hz;obtain⟨hyn,hyx⟩:=mem_mts.mp (jJ hy);refine⟨_,by simp_all?[]<;>rfl,?_⟩
    have sb:=zef g hxn hyn (S:=.fd (zbs sd l)) (b:=sd x) (by rw[zga]; exact zfX (hl x hxn))
    have sy:za3 (.fd (zbs sd l)) (.str y)=some (.int (bI (sd y))):=by rw[zga]; exact zfX (hl y hyn)
    have key:decide (bI (evn ns adj x y != sd x)=bI (sd y))=decide (evn ns adj x y=(sd x != sd y)):=by cases evn ns adj x y<;>cases sd x<;>cases sd y<;>rfl
    by_cases hE:evn ns adj x y=(sd x != sd y)
    ·rw[Dt_ hE] at key;exact zgu (by simp_all?[sb,sy,key]<;>rfl) ⟨zaJ hi hy hE,_,rfl⟩
    ·rw[Df_ hE] at key;exact zjS (by simp_all?[sb,sy,key]<;>rfl) ⟨_,_,rfl,some (x,y),rfl,fun u v e=>by injection e with e; injection e with e1 e2; subst e1 e2; exact⟨hxn,hyn,hyx,hE⟩,fun e=>by cases e⟩
   ·rintro s ⟨hi,b,rfl⟩;rw[j5,QM] at hi;exact⟨zaJ hj hx fun y hyn ha=>hi y (mem_mts.mpr ⟨hyn,ha⟩),_,_,rfl⟩
  ·rintro s ⟨hj,a,b,rfl⟩;rw[j5,QM] at hj
   exact zas (by simp_all?[]<;>rfl) ⟨_,_,rfl,none,rfl,fun x y e=>(by cases e),fun _=>hj⟩)
 exact⟨r,h,h1,h2⟩
theorem zp1{α:Type}{a b:List α}{z:α}{k:Int}(hk:k=-((b.length:Int)+1)):atI (a++z::b) k=some z:=by
 unfold atI ixN;have hl:(a++z::b).length=a.length+b.length+1:=by simp; lia
 rw[In_ (by lia),Ip_ (by rw[hl]; lia),j7]
 have:(k+((a++z::b).length:Int)).toNat=a.length:=by rw[hl]; lia
 rw[this];simp
theorem ziu{a b:List Str}{z:Str}{k:Int}(hk:k=-((b.length:Int)+1)):za3 (.lst ((a++z::b).map T.str)) (.int k)=some (.str z):=by
 have e:gIx (.lst ((a++z::b).map T.str)) (.int k)=some (.str z):=by
  show atI ((a++z::b).map T.str) k=_;rw[jy,jr];exact zp1 (by simpa using hk)
 unfold za3 orG;rw[e]
theorem zdT(a:List Str)(z:Str):za3 (.lst ((a++[z]).map T.str)) (.int (-1))=some (.str z):=ziu (b:=[]) (by simp)
theorem zlM(a:List Str)(z m:Str):za3 (.lst (((a++[z])++[m]).map T.str)) (.int (-2))=some (.str z):=by
 have:=ziu (a:=a) (b:=[m]) (z:=z) (k:=-2) (by simp)
 rw[Qh];exact this
def muW:Sg->Nat
 |[_,_,some (.lst w)]=>40 - w.length
 |_=>0
theorem zg8{ns:List Str}{adj:Str->Str->Bool}(g:Gr ns adj){O:Org}(F:Fo ns adj O){x:Str}{w:List Str}(hw:Way O x w):zc7 [.fd (zbW O),.str x]=some (.lst (w.map T.str)):=by
 have wl:w.length<=30:=by
  have:=zce _ _ (hw.nodup F.nd) (fun y hy=>F.sub y (hw.key y hy));have:=g.len;lia
 have key:Run zcI [some (.fd (zbW O)),some (.str x),none] fun r=>∃ s,r=.rt (.lst (w.map T.str)) s:=by
  unfold zcI;refine za5 (by simp_all?[]<;>rfl) ?_
  obtain⟨w0,rfl⟩:=hw.head;have at_:∀ {a:List Str} {z:Str} {c:List Str},x::w0=a++z::c->∃ o,za3 (.fd (zbW O)) (.str z)=some (zim o)/\(match o with |none=>c=[] |some p=>∃ c',c=p::c'):=fun {a z c} e=>by
   have k:=hw.from e;cases k with
   |root h=>exact⟨none,zn2 F.nd h,rfl⟩
   |step h k2=>
    obtain⟨t,ht⟩:=k2.head;exact⟨_,zn2 F.nd h,t,ht⟩
  refine zdM (fun s=>∃ a z c,x::w0=a++z::c/\s=[some (.fd (zbW O)),some (.str x),some (.lst ((a++[z]).map T.str))]) muW ?_ ⟨[],x,w0,rfl,rfl⟩ ?_ ?_
  ·show 40 - 1 < 100;lia
  ·rintro s ⟨a,z,c,e,rfl⟩;obtain⟨o,h1,h2⟩:=at_ e;have hl:(x::w0).length=a.length+c.length+1:=by rw[e]; simp; lia
   cases o with
   |none=>exact⟨false,_,by simp_all?[zdT,h1,zim,zbz,isN]<;>rfl,trivial⟩
   |some p=>
    obtain⟨c',rfl⟩:=h2;refine⟨true,_,by simp_all?[zdT,h1,zim,zbz,isN]<;>rfl,?_⟩
    rw[Ip_ rfl];refine zap (s':=[some (.fd (zbW O)),some (.str x),some (.lst (((a++[z])++[p]).map T.str))]) (by simp_all?[zdT,h1,zim,zpV (xs:=a++[z]) p (by simp; lia)]) ⟨⟨a++[z],p,c',by rw[e]; simp,rfl⟩,?_⟩
    show 40 - (((a++[z])++[p]).map T.str).length < 40 - ((a++[z]).map T.str).length;have hl3:a.length+(p::c').length+1<=30:=by rw[<-hl]; exact wl
    rw[jp] at hl3;have e9:(((a++[z])++[p]).map T.str).length=a.length+2:=by simp
    have e8:((a++[z]).map T.str).length=a.length+1:=by simp
    rw[e9,e8];lia
  ·rintro s0 s' ⟨a,z,c,e,rfl⟩ hf;obtain⟨o,h1,h2⟩:=at_ e;cases o with
   |none=>
    have h2:c=[]:=h2;subst h2;have h3:dB (d2 zbz (d2 za3 (dV 0) (d2v za3 2 (d1 zl5 (dC (.int 1))))) (dC .non)) [some (.fd (zbW O)),some (.str x),some (.lst ((a++[z]).map T.str))]=some (false,[some (.fd (zbW O)),some (.str x),some (.lst ((a++[z]).map T.str))]):=by simp_all?[zdT,h1,zim,zbz,isN]<;>rfl
    rw[h3] at hf;injection hf with hf;injection hf with _ hf;subst hf;exact zb7 (by simp_all?[]<;>rfl) (by rw[e])
   |some p=>
    have h3:dB (d2 zbz (d2 za3 (dV 0) (d2v za3 2 (d1 zl5 (dC (.int 1))))) (dC .non)) [some (.fd (zbW O)),some (.str x),some (.lst ((a++[z]).map T.str))]=some (true,[some (.fd (zbW O)),some (.str x),some (.lst ((a++[z]).map T.str))]):=by simp_all?[zdT,h1,zim,zbz,isN]<;>rfl
    rw[h3] at hf;cases hf
 first
  |exact zgK key
  |exact zbS key
theorem zqb(n:List Str)(m:Str):gSl (.lst ((n++[m]).map T.str)) none (some (-1))=some (.lst (n.map T.str)):=by
 show some (T.lst (zfL ((n++[m]).map T.str) none (some (-1))))=_;refine congrArg some (congrArg T.lst ?_);unfold zfL HT.sIx;simp;have:(-1+((n.length:Int)+1)).toNat=n.length:=by lia
 rw[this];simp
theorem znp(n:List Str):zu5 (.lst (n.map T.str))=some (.lst (n.reverse.map T.str)):=by
 show some (T.lst (n.map T.str).reverse)=_;rw[List.map_reverse]
theorem gt1(a:List Str)(m:Str):decide ((1:Int) < (((a++[m]).length:Nat):Int))=!a.isEmpty:=by
 cases a with
 |nil=>rfl
 |cons c a=>rw[Dt_ (by simp; lia)]; rfl
def muR:Sg->Nat
 |[_,_,_,some (.lst w),_]=>w.length
 |_=>0
def ztV(f n:List Str):Prop:=f=[]∨n=[]∨f.getLast?≠n.getLast?
theorem zgm{ns:List Str}{adj:Str->Str->Bool}(g:Gr ns adj){O:Org}(F:Fo ns adj O){x y:Str}{w w':List Str}(hw:Way O x w)(hw':Way O y w')(hl:w.getLast?=w'.getLast?) :
  ∃ f n c m,w=f++m::c/\w'=n++m::c/\ztV f n/\zbM [.fd (zbW O),.str x,.str y]=some (.lst ((f++m::n.reverse).map T.str)):=by
 have w1:=zg8 g F hw;have w2:=zg8 g F hw';have wl:∀ {z:Str} {u:List Str},Way O z u->u.length<=30:=fun {z u} h=>by
  have:=zce _ _ (h.nodup F.nd) (fun y hy=>F.sub y (h.key y hy));have:=g.len;lia
 have l1:=wl hw;have l2:=wl hw'
 obtain⟨t,h,f,n,c,m,h1,h2,h3,rfl⟩:=zc3 (n:=5) (d:=zaS) (ts:=[.fd (zbW O),.str x,.str y]) (Q:=fun t=>∃ f n c m,w=f++m::c/\w'=n++m::c/\ztV f n/\t=.lst ((f++m::n.reverse).map T.str)) (by
  show Run zaS [some (.fd (zbW O)),some (.str x),some (.str y),none,none] _;unfold zaS;refine za5 (by simp_all?[w1]<;>rfl) (za5 (by simp_all?[w2]<;>rfl) ?_)
  have tst:∀(f n:List Str) (m:Str),f.length+n.length<=100->(zpC (dB (d2 gGt (d1 zcm (dV 3)) (dC (.int 1)))) (zpC (dB (d2 gGt (d1 zcm (dV 4)) (dC (.int 1)))) (dB (d2 gEq (d2v za3 3 (d1 zl5 (dC (.int 2)))) (d2v za3 4 (d1 zl5 (dC (.int 2)))))))) [some (.fd (zbW O)),some (.str x),some (.str y),some (.lst ((f++[m]).map T.str)),some (.lst ((n++[m]).map T.str))]=some (!f.isEmpty&&(!n.isEmpty&&decide (f.getLast?=n.getLast?)),[some (.fd (zbW O)),some (.str x),some (.str y),some (.lst ((f++[m]).map T.str)),some (.lst ((n++[m]).map T.str))]):=by
   intro f n m hfn
   by_cases hf:f=[]
   ·subst hf
    simp_all?[gt1]
    rfl
   ·obtain⟨f',u,rfl⟩:∃ f' u,f=f'++[u]:=⟨f.dropLast,f.getLast hf,(Q5 hf).symm⟩;have e1:(f'++[u]).isEmpty=false:=by simp
    by_cases hn:n=[]
    ·subst hn
     simp_all?[gt1,e1]
     rfl
    ·obtain⟨n',v,rfl⟩:∃ n' v,n=n'++[v]:=⟨n.dropLast,n.getLast hn,(Q5 hn).symm⟩;have e2:(n'++[v]).isEmpty=false:=by simp
     have e3:decide ((f'++[u]).getLast?=(n'++[v]).getLast?)=decide (u=v):=by simp
     simp_all?[gt1,e1,e2,e3,zlM,JS]
  refine zdM (fun s=>∃ f n c m,w=f++m::c/\w'=n++m::c/\s=[some (.fd (zbW O)),some (.str x),some (.str y),some (.lst ((f++[m]).map T.str)),some (.lst ((n++[m]).map T.str))]) muR ?_ ?_ ?_ ?_
  ·show (w.map T.str).length < 100;rw[j5]; lia
  ·obtain⟨t,rfl⟩:=hw.head;obtain⟨t',rfl⟩:=hw'.head;have n1:x::t≠[]:=by simp
   have n2:y::t'≠[]:=by simp
   have e1:=(Q5 n1).symm;have e2:=(Q5 n2).symm;have e3:(x::t).getLast n1=(y::t').getLast n2:=by
    rw[gV n1,gV n2] at hl;exact jc hl
   rw[<-e3] at e2;exact⟨_,_,[],_,e1,e2,by rw[<-e1,<-e2]⟩
  ·rintro s ⟨f,n,c,m,e1,e2,rfl⟩;have hfn:f.length+n.length<=100:=by
    rw[e1] at l1;rw[e2] at l2;simp at l1 l2;lia
   refine⟨_,_,tst f n m hfn,?_⟩;split
   ·rename_i hb;rw[jD,jD] at hb;obtain⟨b1,b2,b3⟩:=hb;have hf:f≠[]:=by intro e; subst e; cases b1
    have hn:n≠[]:=by intro e; subst e; cases b2
    obtain⟨f',u,rfl⟩:∃ f' u,f=f'++[u]:=⟨f.dropLast,f.getLast hf,(Q5 hf).symm⟩;obtain⟨n',v,rfl⟩:∃ n' v,n=n'++[v]:=⟨n.dropLast,n.getLast hn,(Q5 hn).symm⟩;have:u=v:=by have:=of_decide_eq_true b3; simpa using this
    subst this;refine za5 (by simp_all?[ztY]<;>rfl) ?_
    refine zap (by simp_all?[ztY]<;>rfl) ⟨⟨f',n',m::c,u,by rw[e1]; simp,by rw[e2]; simp,rfl⟩,?_⟩
    show ((f'++[u]).map T.str).length < (((f'++[u])++[m]).map T.str).length;simp
   ·trivial
  ·rintro s0 s' ⟨f,n,c,m,e1,e2,rfl⟩ hf;have hfn:f.length+n.length<=100:=by
    rw[e1] at l1;rw[e2] at l2;simp at l1 l2;lia
   rw[tst f n m hfn] at hf;injection hf with hf;injection hf with hf1 hf2;subst hf2;refine zas (by simp_all?[zqb,znp]<;>rfl) ⟨_,_,rfl,f,n,c,m,e1,e2,?_,by simp⟩
   by_cases q1:f=[]
   ·exact .inl q1
   ·by_cases q2:n=[]
    ·exact .inr (.inl q2)
    ·refine .inr (.inr fun q3=>?_);have i1:f.isEmpty=false:=by simpa using q1
     have i2:n.isEmpty=false:=by simpa using q2
     rw[i1,i2,Dt_ q3] at hf1
     cases hf1)
 exact⟨f,n,c,m,h1,h2,h3,h⟩
theorem zwe(a b:T):za3 (.tup [a,b]) (.int 0)=some a:=rfl
theorem zwd(a b:T):za3 (.tup [a,b]) (.int 1)=some b:=rfl
structure RingOk (ns:List Str) (adj:Str->Str->Bool) (r:List Str):Prop where
 nd:r.Nodup
 sub:∀ x∈r,x∈ns
 len:3<=r.length
 chn:Chn (fun a b=>adj a b=true) r
 ends:∃ x y,r.head?=some x/\r.getLast?=some y/\adj y x=true/\((if evn ns adj y x then 1 else 0)+evs (evn ns adj) r)%2=1
structure SidesOk (ns:List Str) (adj:Str->Str->Bool) (sd:Str->Bool):Prop where
 even:∀ x∈ns,(mts ns adj x).length%2=0
 pair:∀ x∈ns,∀ y∈ns,¬ zdy ns adj x y
 fit:∀ x∈ns,∀ y∈ns,adj x y=true->evn ns adj x y=(sd x != sd y)
inductive Told (ns:List Str) (adj:Str->Str->Bool):T->Prop
 |odd (x:Str) (hx:x∈ns) (h:(mts ns adj x).length%2=1):Told ns adj (.tup [.str "odd",.str x])
 |pair (x y:Str) (hx:x∈ns) (hy:y∈ns) (h:zdy ns adj x y):Told ns adj (.tup [.str "pair",.str x,.str y])
 |ring (r:List Str) (h:RingOk ns adj r):Told ns adj (.tup [.str "ring",.lst (r.map T.str)])
 |sides (sd:Str->Bool) (h:SidesOk ns adj sd):Told ns adj (.tup [.str "sides",.lst (ns.map fun x=>.int (bI (sd x)))])
theorem zfN{ns:List Str}{adj:Str->Str->Bool}(g:Gr ns adj)(he:∀ x∈ns,(mts ns adj x).length%2=0)(hp:∀ x∈ns,∀ y∈ns,¬ zdy ns adj x y):∃ t,zbA [zal ns adj]=some t/\Told ns adj t:=by
 obtain⟨O,h1,F,hall⟩:=zi5 g;have h2:=zgZ g F;generalize hsd:zfg (evn ns adj) O=sd at h2;obtain⟨r,h3,hr1,hr2⟩:=zhr g (sd:=sd) (l:=kys O) hall;refine zc3 (n:=4) (d:=zaM) (ts:=[zal ns adj]) (Q:=Told ns adj) ?_;show Run zaM [some (zal ns adj),none,none,none] _;unfold zaM;refine za5 (by simp_all?[h1]<;>rfl) (za5 (by simp_all?[h2]<;>rfl) ?_)
 cases r with
 |none=>
  have hfit:=hr2 rfl;refine za5 (by simp_all?[h3]<;>rfl) (za5 (by simp_all?[zbz,isN]<;>rfl) ?_)
  have e:=zdn (M:=[]) (caps:=[none,some 2]) (fi:=zcs (dV 0)) (dg:=dGn 0) (fe:=d2 za3 (dV 1) (dV 0)) (s:=[some (zal ns adj),some (.fd (zbW O)),some (.fd (zbs sd (kys O))),some .non]) ns T.str (fun x=>.int (bI (sd x))) (zcg ns adj _ _ _ rfl) (by have:=g.len; lia) (by
   intro x hx;have sx:za3 (.fd (zbs sd (kys O))) (.str x)=some (.int (bI (sd x))):=by rw[zga]; exact zfX (hall x hx)
   exact⟨_,by simp_all?[]<;>rfl,by simp_all?[sx],rfl⟩)
  exact zas (by simp_all?[e]<;>rfl) ⟨_,_,rfl,.sides sd ⟨he,hp,hfit⟩⟩
 |some xy=>
  obtain⟨x,y⟩:=xy;obtain⟨hx,hy,ha,hw⟩:=hr1 x y rfl;obtain⟨w,hwx⟩:=F.way x (hall x hx);obtain⟨w',hwy⟩:=F.way y (hall y hy);have hl:=F.rt x (hall x hx) y (hall y hy) ha w w' hwx hwy;obtain⟨f,n,c,m,e1,e2,he3,h4⟩:=zgm g F hwx hwy hl;rw[e1] at hwx;rw[e2] at hwy;have hyx:adj y x=true:=by rw[<-g.sym x hx y hy]; exact ha
  have hw2:evn ns adj y x≠(sd y != sd x):=by
   rw[zkg];intro q;apply hw;rw[q];cases sd x<;>cases sd y<;>rfl
  obtain⟨k1,k2,k3,k4,k5,k6,k7⟩:=zqj (adj:=adj) (ev:=evn ns adj) (sd:=sd) F.nd (fun a b hab=>by rw[<-hsd]; exact F.edge g hab) hwx hwy he3 (g.irr x hx) hyx hw2 (zkg _ _ _ _)
  refine za5 (by simp_all?[h3]<;>rfl) (zeX (by simp_all?[zbz,isN,zwe,zwd,h4]<;>rfl) ⟨_,_,rfl,.ring _ ⟨k1,fun z hz=>F.sub z (k2 z hz),k3,k4,x,y,k5,k6,hyx,k7⟩⟩)
theorem zi3{wd:List Str}(g:GoodWord wd):Gr (zab wd) (crs wd):=by
 refine⟨zdV wd,fun x hx y hy=>zrr g (mem_firsts.mp hx) (mem_firsts.mp hy),fun x hx=>zoW g (mem_firsts.mp hx),?_⟩;have:=zme g.two;have:=g.len;lia
theorem znc{wd:List Str}(gw:GoodWord wd):∃ t,zbp [.lst (wd.map T.str)]=some t/\Told (zab wd) (crs wd) t:=by
 have g:=zi3 gw;have gl:=gw.len;have hn:=zdl (wd:=wd) (by lia)
 obtain⟨r,h1,o1,o2⟩:=zjY g;obtain⟨r2,h2,p1,p2⟩:=zjX g;refine zc3 (n:=4) (d:=zd7) (ts:=[.lst (wd.map T.str)]) (Q:=Told (zab wd) (crs wd)) ?_;show Run zd7 [some (.lst (wd.map T.str)),none,none,none] _;unfold zd7;have hf:=zgM wd
 have e:=ztG (M:=[]) (caps:=[none,some 0]) (fi:=zcs (zai zar (dAc (dV 0) dAn))) (dg:=dGn 0) (fk:=dV 0) (fe:=zai zaw (dAc (dV 1) (dAc (dV 0) dAn))) (s:=[some (.lst (wd.map T.str)),none,none,none]) (zab wd) T.str T.str Zi (fun x=>.lst ((mts (zab wd) (crs wd) x).map T.str)) (by simp_all?[hn]) (by lia) (WN.mpr ((zdV wd).imp fun h e=>h (gb e))) (by
  intro x hx;obtain⟨i,j,hp⟩:=gw.places (mem_firsts.mp hx);have hc:=zdY (wd:=wd) (by lia) hp
  refine⟨_,by simp_all?[]<;>rfl,by simp_all?[],rfl,?_,rfl⟩
  simp_all?[hc]
  rfl)
 refine za5 (by simp_all?[e]<;>rfl) ?_
 have fz:T.fd ((zab wd).map fun x=>((Zi x:Key),T.lst ((mts (zab wd) (crs wd) x).map T.str)))=zal (zab wd) (crs wd):=rfl;cases r with
 |some x=>
  obtain⟨hx,ho⟩:=o1 x rfl;refine za5 (by simp_all?[fz,h1]<;>rfl) (zeX (by simp_all?[zim,zbz,isN]<;>rfl) ⟨_,_,rfl,.odd x hx ho⟩)
 |none=>
  have ho:=o2 rfl;refine za5 (by simp_all?[fz,h1]<;>rfl) (za5 (by simp_all?[zim,zbz,isN]<;>rfl) ?_)
  cases r2 with
  |some xy=>
   obtain⟨x,y⟩:=xy;obtain⟨hx,hy,hxy⟩:=p1 x y rfl;refine za5 (by simp_all?[h2]<;>rfl) (zeX (by simp_all?[zbz,isN,zwe,zwd]<;>rfl) ⟨_,_,rfl,.pair x y hx hy hxy⟩)
  |none=>
   obtain⟨t,h3,tt⟩:=zfN g ho (p2 rfl);refine za5 (by simp_all?[h2]<;>rfl) (za5 (by simp_all?[zbz,isN]<;>rfl) ?_)
   exact zas (by simp_all?[h3]<;>rfl) ⟨_,_,rfl,tt⟩
def zaT(r:List Nat):T:=.lst (r.map nT)
def zaF(f:Nat->Nat)(k s:Nat):List Nat:=(jt k).map fun i=>itr f i s
theorem zcd(f:Nat->Nat)(k s:Nat):zaF f (k+1) s=zaF f k s++[itr f k s]:=by unfold zaF; rw[List.range_succ,jy]; rfl
theorem zml{f:Nat->Nat}{k s:Nat}(h:itr f k s∈zaF f k s):∀ m,itr f m s∈zaF f k s:=by
 obtain⟨i,hi,e⟩:=jB.mp h;have hi:=jR.mp hi;intro m
 induction m using Nat.strongRecOn with
 |_ m ih=>
  by_cases hm:m < k
  ·exact jB.mpr ⟨m,jR.mpr hm,rfl⟩
  ·have e1:itr f m s=itr f (m - k+i) s:=by
    rw[zfq,e,<-zfq,show m - k+k=m by lia]
   rw[e1];exact ih _ (by lia)
def ztU(f:Nat->Nat)(s:Nat)(r:List Nat):Prop:=∃ k,r=zaF f k s/\0 < k/\(zaF f k s).Nodup/\itr f k s∈zaF f k s
structure RowsL (f:Nat->Nat) (rows:List (List Nat)) (L:List Nat) (s:Nat):Prop where
 len:rows.length=L.length
 lt:∀ x∈L,x < s
 srt:L.Pairwise fun x y=>x < y
 row:∀(i x:Nat) (r:List Nat),L[i]?=some x->rows[i]?=some r->ztU f x r
 le:∀ x,x < s->∃ t∈L,t<=x/\Orb f t x
theorem RowsL.nil(f:Nat->Nat):RowsL f [] [] 0:=⟨rfl,fun x hx=>(by cases hx),.nil,fun i x r h=>by simp at h,fun x hx=>by lia⟩
theorem RowsL.skip{f:Nat->Nat}{rows:List (List Nat)}{L:List Nat}{s:Nat}(h:RowsL f rows L s)(hs:∃ t∈L,Orb f t s):RowsL f rows L (s+1):=
 ⟨h.len,fun x hx=>QV (h.lt x hx),h.srt,h.row,fun x hx=>by
  by_cases q:x=s
  ·obtain⟨t,ht,o⟩:=hs;exact⟨t,ht,by rw[q]; exact Nj (h.lt t ht),by rw[q]; exact o⟩
  ·exact h.le x (by lia)⟩
theorem RowsL.snoc{f:Nat->Nat}{rows:List (List Nat)}{L:List Nat}{s:Nat}{r:List Nat}(h:RowsL f rows L s)(hr:ztU f s r):RowsL f (rows++[r]) (L++[s]) (s+1):=by
 refine⟨by rw[jk,jk,h.len]; rfl,fun x hx=>?_,?_,fun i x r' hx hr'=>?_,fun x hx=>?_⟩
 ·rcases jv.mp hx with q |q
  ·exact QV (h.lt x q)
  ·rw[jm.mp q]; exact ZZ s
 ·rw[NR];exact⟨h.srt,by simp,fun x hx y hy=>by rw[jm.mp hy]; exact h.lt x hx⟩
 ·by_cases q:i < L.length
  ·rw[Q6 q] at hx;rw[Q6 (by rw[h.len]; exact q)] at hr'
   exact h.row i x r' hx hr'
  ·have hi:i=L.length:=by
    have:=(j9.mp hx).1;rw[jk,Ze] at this;lia
   subst hi;rw[Qc (jj _),Nat.sub_self] at hx;rw[<-h.len,Qc (jj _),Nat.sub_self] at hr';obtain rfl:=jc hx;obtain rfl:=jc hr';exact hr
 ·by_cases q:x=s
  ·exact⟨s,by simp,by lia,by rw[q]; exact Orb.refl f s⟩
  ·obtain⟨t,ht,o⟩:=h.le x (by lia)
   exact⟨t,jo _ ht,o⟩
def Rws(n:Nat)(f:Nat->Nat)(rows:List (List Nat)):Prop:=∃ L,Trav n (Orb f) L/\RowsL f rows L n
structure Wkd (n:Nat) (f:Nat->Nat) (S:Int->Bool) (m:Nat) (Wl L:List Nat) (s:Nat):Prop where
 set:∀ x:Nat,S (x:Int)=true↔x∈Wl
 len:m=Wl.length
 nd:Wl.Nodup
 lt:∀ x∈Wl,x < n
 mem:∀ x,x∈Wl↔x < n/\∃ t∈L,Orb f t x
 ltL:∀ x∈L,x < n
 one:L.Pairwise fun x y=>¬ Orb f x y
 all:∀ x,x < s->∃ t∈L,Orb f t x
def zxi:T->Nat
 |.lst xs=>xs.length
 |_=>0
def zvA(s:Sg):Nat:=300 - zxi ((s[4]?).join.getD .non) - 1
theorem ztm{n:Nat}{f:Nat->Nat}{x:Nat}(hx:x < n):za3 (.lst (((jt n).map f).map nT)) (.int (x:Int))=some (.int (f x:Nat)):=by
 rw[zeL,jf,jf,ge hx]; rfl
theorem zmw{n:Nat}{f:Nat->Nat}(hf:Perm1 n f)(hn:n<=120):∃ rows:List (List Nat),zex [.lst (((jt n).map f).map nT)]=some (.lst (rows.map zaT))/\Rws n f rows:=by
 obtain⟨t,e,rows,rfl,hT⟩:=zc3 (n:=6) (d:=zea) (ts:=[.lst (((jt n).map f).map nT)]) (Q:=fun t=>∃ rows:List (List Nat),t=.lst (rows.map zaT)/\Rws n f rows) (by
  show Run _ [some (.lst (((jt n).map f).map nT)),none,none,none,none,none] _;unfold zea;have la:(((jt n).map f).map nT).length=n:=by simp
  generalize hA:(((jt n).map f).map nT)=A at la;refine za5 (s':=[some (.lst A),some (.lst []),none,none,none,none]) (by simp_all?[]<;>rfl) ?_
  refine za5 (s':=[some (.lst A),some (.lst []),some (.set (fun _=>false) 0),none,none,none]) (by simp_all?[]<;>rfl) ?_
  have r1:zfP (n:Int)=true:=zdf (by lia) (by lia)
  refine zc0 (its:=zaN 0 n) (fun s st=>∃(rows:List (List Nat)) (L Wl:List Nat) (S:Int->Bool) (m:Nat) (a b c:Option T),st=[some (.lst A),some (.lst (rows.map zaT)),some (.set S m),a,b,c]/\Wkd n f S m Wl L s/\RowsL f rows L s/\rows.length<=s)
   (by simp_all?[la,r1,Qj]<;>rfl) ⟨[],[],[],fun _=>false,0,none,none,none,rfl,⟨fun x=>by simp,rfl,ZX,fun x hx=>by simp at hx,fun x=>by simp,fun x hx=>by simp at hx,WD,fun x hx=>by lia⟩,RowsL.nil f,jj _⟩ ?_ ?_
  ·rintro s z st hz ⟨rows,L,Wl,S,m,a,b,c,rfl,hW,hrl,hrs⟩;obtain⟨hs,rfl⟩:s < n/\z=.int (s:Int):=by
    obtain⟨h1,h2⟩:=ziG hz;exact⟨h1,by rw[h2,Nv]⟩
   refine⟨[some (.lst A),some (.lst (rows.map zaT)),some (.set S m),some (.int (s:Int)),b,c],rfl,?_⟩;refine za5 (s':=[some (.lst A),some (.lst (rows.map zaT)),some (.set S m),some (.int (s:Int)),some (.lst []),c]) (by simp_all?[]<;>rfl) ?_
   refine za5 (s':=[some (.lst A),some (.lst (rows.map zaT)),some (.set S m),some (.int (s:Int)),some (.lst []),some (.int (s:Int))]) (by simp_all?[]<;>rfl) ?_
   refine zdM (fun st=>∃(k:Nat) (S':Int->Bool) (m':Nat),st=[some (.lst A),some (.lst (rows.map zaT)),some (.set S' m'),some (.int (s:Int)),some (.lst ((zaF f k s).map nT)),some (.int ((itr f k s:Nat):Int))]/\(∀ x:Nat,S' (x:Int)=true↔x∈Wl++zaF f k s)/\m'=(Wl++zaF f k s).length/\(Wl++zaF f k s).Nodup) zvA ?_ ⟨0,S,m,rfl,by simpa[zaF] using hW.set,by simpa[zaF] using hW.len,by simpa[zaF] using hW.nd⟩ ?_ ?_
   ·show 300 - 0 - 1 < 300;lia
   ·rintro st ⟨k,S',m',rfl,h1,h2,h3⟩;have hx:=hf.itr_lt k hs;have hlen:(Wl++zaF f k s).length<=n:=by
     have:=zgz (m:=jt n) h3 fun x hx=>by
      refine jR.mpr ?_;rcases jv.mp hx with q |q
      ·exact hW.lt x q
      ·obtain⟨i,_,rfl⟩:=jB.mp q;exact hf.itr_lt i hs
     rwa [Zn] at this
    refine⟨!S' ((itr f k s:Nat):Int),[some (.lst A),some (.lst (rows.map zaT)),some (.set S' m'),some (.int (s:Int)),some (.lst ((zaF f k s).map nT)),some (.int ((itr f k s:Nat):Int))],by simp_all?[show zlR (.int ((itr f k s:Nat):Int)) (.set S' m')=some (.bl (!S' ((itr f k s:Nat):Int))) from rfl],?_⟩
    split
    ·rename_i hc;have hc':S' ((itr f k s:Nat):Int)=false:=by simpa using hc
     have hni:itr f k s∉Wl++zaF f k s:=fun z=>by rw[(h1 _).mpr z] at hc'; cases hc'
     have hsl:(zaF f k s).length=k:=by unfold zaF; simp
     have hkn:k<=n:=by rw[jk,hsl] at hlen; lia
     refine za5 (s':=[some (.lst A),some (.lst (rows.map zaT)),some (.set (fun j=>S' j||decide (j=((itr f k s:Nat):Int))) (if S' ((itr f k s:Nat):Int) then m' else m'+1)),some (.int (s:Int)),some (.lst ((zaF f k s).map nT)),some (.int ((itr f k s:Nat):Int))]) (by
      simp_all?[show m' < 1000 by lia]) ?_
     refine za5 (s':=[some (.lst A),some (.lst (rows.map zaT)),some (.set (fun j=>S' j||decide (j=((itr f k s:Nat):Int))) (if S' ((itr f k s:Nat):Int) then m' else m'+1)),some (.int (s:Int)),some (.lst ((zaF f (k+1) s).map nT)),some (.int ((itr f k s:Nat):Int))]) (by
      simp_all?[zo2,zcd,jy,jr,Zr]<;>rfl) ?_
     have it:=ztm (f:=f) hx;rw[hA] at it;refine zap (s':=[some (.lst A),some (.lst (rows.map zaT)),some (.set (fun j=>S' j||decide (j=((itr f k s:Nat):Int))) (if S' ((itr f k s:Nat):Int) then m' else m'+1)),some (.int (s:Int)),some (.lst ((zaF f (k+1) s).map nT)),some (.int ((itr f (k+1) s:Nat):Int))]) (by simp_all?[it]<;>rfl) ⟨⟨k+1,_,_,rfl,fun x=>?_,?_,?_⟩,?_⟩
     ·rw[Z9,h1,decide_eq_true_iff,zcd,<-Qh];constructor
      ·rintro(q |q)
       ·exact jo _ q
       ·exact jx _ (jm.mpr (by lia))
      ·intro q;rcases jv.mp q with q |q
       ·exact .inl q
       ·exact .inr (by have:=jm.mp q; lia)
     ·rw[hc',In_ (by simp),zcd,<-Qh,jk,<-h2]; rfl
     ·rw[zcd,<-Qh,jT];exact⟨h3,by simp,fun x hx y hy e=>hni (by rw[jm] at hy; subst hy; exact e▸hx)⟩
     ·show 300 - ((zaF f (k+1) s).map nT).length - 1 < 300 - ((zaF f k s).map nT).length - 1;rw[j5,j5,zcd,jk,hsl];simp;lia
    ·trivial
   ·rintro st0 st' ⟨k,S',m',rfl,h1,h2,h3⟩ hfalse;have hE:dB (d2 zlR (dV 5) (dV 2)) [some (.lst A),some (.lst (rows.map zaT)),some (.set S' m'),some (.int (s:Int)),some (.lst ((zaF f k s).map nT)),some (.int ((itr f k s:Nat):Int))]=some (!S' ((itr f k s:Nat):Int),[some (.lst A),some (.lst (rows.map zaT)),some (.set S' m'),some (.int (s:Int)),some (.lst ((zaF f k s).map nT)),some (.int ((itr f k s:Nat):Int))]):=by simp_all?[show zlR (.int ((itr f k s:Nat):Int)) (.set S' m')=some (.bl (!S' ((itr f k s:Nat):Int))) from rfl]
    rw[hE] at hfalse;injection hfalse with hfalse;injection hfalse with hb hst;subst hst;have hin:itr f k s∈Wl++zaF f k s:=(h1 _).mp (by simpa using hb)
    cases k with
    |zero=>
     have hsW:s∈Wl:=by simpa[zaF,itr] using hin
     refine zap (s':=[some (.lst A),some (.lst (rows.map zaT)),some (.set S' m'),some (.int (s:Int)),some (.lst ((zaF f 0 s).map nT)),some (.int ((itr f 0 s:Nat):Int))]) (by simp_all?[zaF,List.range_zero,Zr]<;>rfl) ⟨rows,L,Wl,S',m',_,_,_,rfl,⟨by simpa[zaF] using h1,by simpa[zaF] using h2,hW.nd,hW.lt,hW.mem,hW.ltL,hW.one,fun x hx=>?_⟩,hrl.skip ((hW.mem s).mp hsW).2,by lia⟩
     by_cases q:x=s
     ·rw[q]; exact((hW.mem s).mp hsW).2
     ·exact hW.all x (by lia)
    |succ k=>
     have hs0:s∈zaF f (k+1) s:=jB.mpr ⟨0,by simp,rfl⟩
     have hsn:s∉Wl:=fun z=>(jT.mp h3).2.2 s z s hs0 rfl;have hin2:itr f (k+1) s∈zaF f (k+1) s:=by
      rcases jv.mp hin with q |q
      ·exfalso
       obtain⟨_,t,ht,o⟩:=(hW.mem _).mp q;have o2:Orb f (itr f (k+1) s) s:=Orb.symm hf hs ⟨k+1,rfl⟩;exact hsn ((hW.mem s).mpr ⟨hs,t,ht,o.trans o2⟩)
      ·exact q
     have hall:=zml hin2;have hro:((zaF f (k+1) s).map nT).isEmpty=false:=by rw[zcd]; simp
     refine zap (s':=[some (.lst A),some (.lst ((rows++[zaF f (k+1) s]).map zaT)),some (.set S' m'),some (.int (s:Int)),some (.lst ((zaF f (k+1) s).map nT)),some (.int ((itr f (k+1) s:Nat):Int))]) (by simp_all?[hro,zo2,jy,jr,Zr,zaT]<;>rfl) ⟨rows++[zaF f (k+1) s],L++[s],Wl++zaF f (k+1) s,S',m',_,_,_,rfl,⟨h1,h2,h3,fun x hx=>?_,fun x=>?_,fun x hx=>?_,?_,fun x hx=>?_⟩,hrl.snoc ⟨k+1,rfl,Nat.succ_pos k,(jT.mp h3).2.1,hin2⟩,by rw[jk,Ze]; lia⟩
     ·rcases jv.mp hx with q |q
      ·exact hW.lt x q
      ·obtain⟨i,_,rfl⟩:=jB.mp q;exact hf.itr_lt i hs
     ·rw[jv,hW.mem];constructor
      ·rintro(⟨q1,t,ht,o⟩ |q)
       ·exact⟨q1,t,jo _ ht,o⟩
       ·obtain⟨i,_,rfl⟩:=jB.mp q;exact⟨hf.itr_lt i hs,s,by simp,i,rfl⟩
      ·rintro⟨q1,t,ht,o⟩;rcases jv.mp ht with q |q
       ·exact .inl ⟨q1,t,q,o⟩
       ·rw[jm.mp q] at o;obtain⟨i,rfl⟩:=o;exact .inr (hall i)
     ·rcases jv.mp hx with q |q
      ·exact hW.ltL x q
      ·rw[jm.mp q]; exact hs
     ·rw[NR];refine⟨hW.one,by simp,fun x hx y hy o=>?_⟩
      rw[jm.mp hy] at o;exact hsn ((hW.mem s).mpr ⟨hs,x,hx,o⟩)
     ·by_cases q:x=s
      ·exact⟨s,by simp,by rw[q]; exact Orb.refl f s⟩
      ·obtain⟨t,ht,o⟩:=hW.all x (by lia)
       exact⟨t,jo _ ht,o⟩
  ·rintro st ⟨rows,L,Wl,S,m,a,b,c,rfl,hW,hrl,hrs⟩;rw[ziF] at hW hrl;have q:zan [] (dV 1) [some (.lst A),some (.lst (rows.map zaT)),some (.set S m),a,b,c]=some (.rt (.lst (rows.map zaT)) [some (.lst A),some (.lst (rows.map zaT)),some (.set S m),a,b,c]):=by simp_all?[]
   exact zas q ⟨_,_,rfl,rows,rfl,L,⟨hW.ltL,hW.one,hW.all⟩,hrl⟩)
 exact⟨rows,e,hT⟩
def Ew(n w:Nat):Nat:=if w%2=1 then w - 1 else if w / 2+1=n then 1 else w+3
def Bw(n e:Nat):Nat:=if e%2=0 then e else if e=1 then 2*n - 1 else e - 2
def fl(w:Nat):Nat:=if w%2=0 then w+1 else w - 1
theorem zm3{n w:Nat}(h:w < 2*n):Ew n w < 2*n:=by
 unfold Ew;split
 ·lia
 ·split<;>lia
theorem zw6{n e:Nat}(h:e < 2*n):Bw n e < 2*n:=by
 unfold Bw;split
 ·lia
 ·split<;>lia
theorem ztz(w:Nat):fl (fl w)=w:=by unfold fl; split<;>split<;>lia
theorem zw4{n e:Nat}(h:e < 2*n):Ew n (fl (Bw n e))=e:=by
 by_cases h0:e%2=0
 ·have b:Bw n e=e:=Ip_ h0;have f:fl e=e+1:=Ip_ h0;rw[b,f];unfold Ew;rw[Ip_ (by lia)]
  lia
 ·by_cases h1:e=1
  ·have b:Bw n e=2*n - 1:=by unfold Bw; rw[In_ h0,Ip_ h1]
   have f:fl (2*n - 1)=2*n - 2:=by unfold fl; rw[In_ (by lia)]; lia
   rw[b,f];unfold Ew;rw[In_ (by lia),Ip_ (by lia),h1]
  ·have b:Bw n e=e - 2:=by unfold Bw; rw[In_ h0,In_ h1]
   have f:fl (e - 2)=e - 3:=by unfold fl; rw[In_ (by lia)]; lia
   rw[b,f];unfold Ew;rw[In_ (by lia),In_ (by lia)]
   lia
theorem zw7{n w:Nat}(h:w < 2*n):Bw n (Ew n w)=fl w:=by
 by_cases h0:w%2=1
 ·have b:Ew n w=w - 1:=Ip_ h0;have f:fl w=w - 1:=In_ (by lia)
  rw[b,f];exact Ip_ (by lia)
 ·have f:fl w=w+1:=Ip_ (by lia)
  by_cases h1:w / 2+1=n
  ·have b:Ew n w=1:=by unfold Ew; rw[In_ h0,Ip_ h1]
   rw[b,f];unfold Bw;rw[In_ (by lia),Ip_ rfl]
   lia
  ·have b:Ew n w=w+3:=by unfold Ew; rw[In_ h0,In_ h1]
   rw[b,f];unfold Bw;rw[In_ (by lia),In_ (by lia)]
   lia
def ptn(wd:List Str)(p:Nat):Nat:=match zaf wd (wd.getD p jz) with
 |[i,j]=>if p=i then j else i
 |_=>p
theorem zpf{wd:List Str}(g:∀ x∈wd,wd.count x=2){p:Nat}(hp:p < wd.length):∃ i j,zaf wd wd[p]=[i,j]/\i < j/\j < wd.length/\wd[i]?=some wd[p]/\wd[j]?=some wd[p]/\((p=i/\ptn wd p=j)∨(p=j/\ptn wd p=i)):=by
 obtain⟨i,j,e⟩:=zd4 (g wd[p] (Qz hp));obtain⟨h1,h2⟩:=zaV e;have hm:p∈zaf wd wd[p]:=jZ.mpr ⟨jR.mpr hp,Dt_ (j3 hp)⟩;have ei:=zbu (wd:=wd) (x:=wd[p]) (k:=i) (by rw[e]; simp)
 have ej:=zbu (wd:=wd) (x:=wd[p]) (k:=j) (by rw[e]; simp)
 refine⟨i,j,e,h1,h2,ei,ej,?_⟩;have eq:ptn wd p=if p=i then j else i:=by
  unfold ptn;rw[jW,j3 hp];show (match zaf wd wd[p] with |[i,j]=>if p=i then j else i |_=>p)=_
  rw[e]
 rw[e] at hm;simp at hm;rcases hm with rfl |rfl
 ·exact .inl ⟨rfl,by rw[eq,Ip_ rfl]⟩
 ·exact .inr ⟨rfl,by rw[eq,In_ (by lia)]⟩
theorem zpe{wd:List Str}(g:∀ x∈wd,wd.count x=2){p:Nat}(hp:p < wd.length):ptn wd p < wd.length/\ptn wd p≠p/\ptn wd (ptn wd p)=p/\wd.getD (ptn wd p) jz=wd.getD p jz:=by
 obtain⟨i,j,e,h1,h2,ei,ej,h3⟩:=zpf g hp;have gp:wd.getD p jz=wd[p]:=by rw[jW,j3 hp]; rfl
 have gi:wd.getD i jz=wd[p]:=by rw[jW,ei]; rfl
 have gj:wd.getD j jz=wd[p]:=by rw[jW,ej]; rfl
 have pi:ptn wd i=j:=by
  unfold ptn;rw[gi,e];exact Ip_ rfl
 have pj:ptn wd j=i:=by
  unfold ptn;rw[gj,e];exact In_ (by lia)
 rcases h3 with ⟨rfl,h3⟩ |⟨rfl,h3⟩
 ·rw[h3]; exact⟨h2,by lia,pj,by rw[gj,gp]⟩
 ·rw[h3]; exact⟨by lia,by lia,pi,by rw[gi,gp]⟩
def Aw(wd:List Str)(hd:Str->Bool)(e:Nat):Nat:=2*ptn wd (e / 2)+(if decide (e / 2 < ptn wd (e / 2))=hd (wd.getD (e / 2) jz) then 1 - e%2 else e%2)
theorem zrB{wd:List Str}(g:∀ x∈wd,wd.count x=2)(hd:Str->Bool){e:Nat}(h:e < 2*wd.length):Aw wd hd e < 2*wd.length:=by
 have:=(zpe g (p:=e / 2) (by lia)).1
 unfold Aw;split<;>lia
theorem zw8{wd:List Str}(g:∀ x∈wd,wd.count x=2){hd he:Str->Bool}(hh:∀ x,he x=!hd x){e:Nat}(h:e < 2*wd.length):Aw wd he (Aw wd hd e)=e:=by
 obtain⟨h1,h2,h3,h4⟩:=zpe g (p:=e / 2) (by lia)
 generalize hb:(if decide (e / 2 < ptn wd (e / 2))=hd (wd.getD (e / 2) jz) then 1 - e%2 else e%2)=b
 have b2:b < 2:=by rw[<-hb]; split<;>lia
 have q:Aw wd hd e=2*ptn wd (e / 2)+b:=by unfold Aw; rw[hb]
 rw[q];unfold Aw;rw[show (2*ptn wd (e / 2)+b) / 2=ptn wd (e / 2) by lia,show (2*ptn wd (e / 2)+b)%2=b by lia,h3,h4,hh]
 have low:decide (ptn wd (e / 2) < e / 2)=!decide (e / 2 < ptn wd (e / 2)):=by
  by_cases c:e / 2 < ptn wd (e / 2)
  ·rw[Dt_ c,Df_ (by lia)]; rfl
  ·rw[Df_ c,Dt_ (by lia)]; rfl
 rw[low]
 by_cases c:decide (e / 2 < ptn wd (e / 2))=hd (wd.getD (e / 2) jz)
 ·rw[Ip_ c] at hb;rw[Ip_ (by rw[c]),<-hb]
  lia
 ·rw[In_ c] at hb;rw[In_ (fun z=>c (Bool.not_inj z)),<-hb];lia
def fw(wd:List Str)(hd:Str->Bool)(w:Nat):Nat:=Bw wd.length (Aw wd hd (Ew wd.length w))
theorem zns{wd:List Str}(g:∀ x∈wd,wd.count x=2){hd he:Str->Bool}(hh:∀ x,he x=!hd x){w:Nat}(h:w < 2*wd.length):fw wd he (fl (fw wd hd w))=fl w:=by
 unfold fw;rw[zw4 (zrB g hd (zm3 h)),zw8 g hh (zm3 h),zw7 h]
theorem znr{wd:List Str}(g:∀ x∈wd,wd.count x=2)(hd:Str->Bool):Perm1 (2*wd.length) (fw wd hd):=by
 refine⟨fun w h=>zw6 (zrB g hd (zm3 h)),fun x y hx hy e=>?_⟩;have a:=zns g (hd:=hd) (he:=fun x=>!hd x) (fun _=>rfl) hx;have b:=zns g (hd:=hd) (he:=fun x=>!hd x) (fun _=>rfl) hy;rw[e,b] at a;rw[<-ztz x,<-a,ztz]
theorem zaW(p:Key × T)(r:List (Key × T))(k:Key):zbb (p::r) k=if p.1=k then some p.2 else zbb r k:=by
 unfold zbb;rw[QZ]
 by_cases h:p.1=k
 ·rw[Ip_ h,Dt_ h]; rfl
 ·rw[In_ h,Df_ h]
theorem zkV(kvs:List (Key × T))(k k':Key)(v:T):zbb (zfH kvs k v) k'=if k=k' then some v else zbb kvs k':=by
 unfold zfH;split
 ·rename_i h
  induction kvs with
  |nil=>simp at h
  |cons p r ih=>
   rw[jr]
   by_cases hp:p.1=k
   ·rw[Ip_ hp,zaW,zaW]
    by_cases hk:k=k'
    ·rw[Ip_ hk];show (if p.1=k' then some v else _)=some v
     rw[Ip_ (hp.trans hk)]
    ·rw[In_ hk];show (if p.1=k' then some v else _)=_
     rw[In_ (fun z=>hk (hp.symm.trans z)),In_ (fun z=>hk (hp.symm.trans z))]
     clear ih h
     induction r with
     |nil=>rfl
     |cons q r ih2=>
      rw[jr]
      by_cases hq:q.1=k
      ·rw[Ip_ hq,zaW,zaW];show (if q.1=k' then some v else _)=_
       rw[In_ (fun z=>hk (hq.symm.trans z)),In_ (fun z=>hk (hq.symm.trans z)),ih2]
      ·rw[In_ hq,zaW,zaW,ih2]
   ·rw[In_ hp,zaW,zaW];have h2:(r.any fun kv=>decide (kv.1=k))=true:=by
     rw[Z6,Df_ hp,Wg] at h;exact h
    rw[ih h2]
    by_cases hk:k=k'
    ·simp only[Ip_ hk,In_ (fun z:p.1=k'=>hp (z.trans hk.symm))]
    ·simp only[In_ hk]
 ·rename_i h;have h':(kvs.any fun kv=>decide (kv.1=k))=false:=by rw[Bool.not_eq_true] at h; exact h
  clear h
  induction kvs with
  |nil=>
   show zbb [(k,v)] k'=_;rw[zaW]
  |cons p r ih=>
   rw[Z6,Bool.or_eq_false_iff] at h';have hp:p.1≠k:=of_decide_eq_false h'.1;rw[List.cons_append,zaW,zaW,ih h'.2]
   by_cases hk:k=k'
   ·simp only[Ip_ hk,In_ (fun z:p.1=k'=>hp (z.trans hk.symm))]
   ·simp only[In_ hk]
theorem zqB(kvs:List (Key × T))(k:Key)(v:T):(zfH kvs k v).length<=kvs.length+1:=by
 unfold zfH;split
 ·rw[j5]; lia
 ·simp
theorem zt8{k n:Nat}(h:k < n):((k:Int)+1)%(n:Int)=((if k+1=n then 0 else k+1:Nat):Int):=by
 split
 ·rename_i e;rw[show (k:Int)+1=(n:Int) by lia,JV]
  rfl
 ·rw[YI (by lia) (by lia)]; lia
theorem zt9{k n:Nat}(h:k < n):((k:Int) - 1)%(n:Int)=((if k=0 then n - 1 else k - 1:Nat):Int):=by
 split
 ·rename_i e;rw[e,<-Int.add_emod_right,YI (by lia) (by lia)]
  lia
 ·rw[YI (by lia) (by lia)]; lia
theorem zjd{n w:Nat}(hn:n<=1000)(h:w < 2*n):zaY [.int n,.int w]=some (.int (Ew n w:Nat)):=by
 refine zbS ?_;show Run zeb [some (.int n),some (.int w),none] _;unfold zeb;refine za5 (s':=[some (.int n),some (.int w),some (.int ((w / 2:Nat):Int))]) (by simp_all?[]<;>rfl) ?_
 have md:=zt8 (k:=w / 2) (n:=n) (by lia)
 by_cases h1:w%2=1
 ·have hd:decide (((w:Nat):Int)%2=1)=true:=Dt_ (by lia)
  refine zfZ (s':=[some (.int n),some (.int w),some (.int ((w / 2:Nat):Int))]) (t':=.int (2*((w / 2:Nat):Int))) (by simp_all?[hd]) ?_
  unfold Ew;rw[Ip_ h1];exact congrArg T.int (by lia)
 ·have hd:decide (((w:Nat):Int)%2=1)=false:=Df_ (by lia)
  refine za5 (s':=[some (.int n),some (.int w),some (.int ((w / 2:Nat):Int))]) (by simp_all?[hd]) ?_
  refine zb7 (s':=[some (.int n),some (.int w),some (.int ((w / 2:Nat):Int))]) (t':=.int (2*((if w / 2+1=n then 0 else w / 2+1:Nat):Int)+1)) (by simp_all?[md]) ?_
  unfold Ew;rw[In_ h1]
  by_cases h2:w / 2+1=n
  ·rw[Ip_ h2,Ip_ h2]; rfl
  ·rw[In_ h2,In_ h2];exact congrArg T.int (by lia)
theorem zis{n e:Nat}(hn:n<=1000)(h:e < 2*n):zbO [.int n,.int e]=some (.int (Bw n e:Nat)):=by
 refine zbS ?_;show Run zc8 [some (.int n),some (.int e),none] _;unfold zc8;refine za5 (s':=[some (.int n),some (.int e),some (.int ((e / 2:Nat):Int))]) (by simp_all?[]<;>rfl) ?_
 have md:=zt9 (k:=e / 2) (n:=n) (by lia)
 by_cases h1:e%2=0
 ·have hd:decide (((e:Nat):Int)%2=0)=true:=Dt_ (by lia)
  refine zfZ (s':=[some (.int n),some (.int e),some (.int ((e / 2:Nat):Int))]) (t':=.int (2*((e / 2:Nat):Int))) (by simp_all?[hd]) ?_
  unfold Bw;rw[Ip_ h1];exact congrArg T.int (by lia)
 ·have hd:decide (((e:Nat):Int)%2=0)=false:=Df_ (by lia)
  refine za5 (s':=[some (.int n),some (.int e),some (.int ((e / 2:Nat):Int))]) (by simp_all?[hd]) ?_
  refine zb7 (s':=[some (.int n),some (.int e),some (.int ((e / 2:Nat):Int))]) (t':=.int (2*((if e / 2=0 then n - 1 else e / 2 - 1:Nat):Int)+1)) (by simp_all?[md]) ?_
  unfold Bw;rw[In_ h1]
  by_cases h2:e=1
  ·rw[Ip_ h2,Ip_ (by lia)]
   exact congrArg T.int (by lia)
  ·rw[In_ h2,In_ (by lia)]
   exact congrArg T.int (by lia)
def zoL(i j:Nat)(h:Bool):List Nat:=if h then [2*i,2*j,2*i+1,2*j+1] else [2*i,2*j+1,2*i+1,2*j]
def crT(c:Str × List Nat):T:=.tup [.str c.1,.lst (c.2.map nT)]
def Four(A:Nat->Nat)(l:List Nat):Prop:=∃ a b c d,l=[a,b,c,d]/\A a=d/\A b=a/\A c=b/\A d=c
theorem Four.len{A:Nat->Nat}{l:List Nat}(h:Four A l):l.length=4:=by obtain⟨a,b,c,d,rfl,_⟩:=h; rfl
def Knows(A:Nat->Nat)(kvs:List (Key × T))(e:Nat):Prop:=zbb kvs (.inl (e:Int))=some (.int (A e:Nat))
theorem Knows.put{A:Nat->Nat}{kvs:List (Key × T)}{e:Nat}(h:Knows A kvs e)(d:Nat):Knows A (zfH kvs (.inl (d:Int)) (.int (A d:Nat))) e:=by
 unfold Knows;rw[zkV]
 by_cases q:(d:Int)=(e:Int)
 ·rw[Ip_ (congrArg NW q),show d=e by lia]
 ·rw[In_ (fun z=>q (U4 z))];exact h
theorem Knows.new{A:Nat->Nat}{kvs:List (Key × T)}(d:Nat):Knows A (zfH kvs (.inl (d:Int)) (.int (A d:Nat))) d:=by
 unfold Knows;rw[zkV,Ip_ rfl]
theorem zr0(e:Nat):zh7 (nT e)=some (.inl (e:Int)):=rfl
theorem zr5{A:Nat->Nat}{l:List Nat}(h:Four A l){k:Nat}(hk:k < 4){e:Nat}(he:l[k]?=some e):za3 (.lst (l.map nT)) (.int ((k:Int) - 1))=some (nT (A e)):=by
 obtain⟨a,b,c,d,rfl,h1,h2,h3,h4⟩:=h
 match k,hk with
 |0,_=>obtain rfl:a=e:=jc he; rw[h1]; rfl
 |1,_=>obtain rfl:b=e:=jc he; rw[h2]; rfl
 |2,_=>obtain rfl:c=e:=jc he; rw[h3]; rfl
 |3,_=>obtain rfl:d=e:=jc he; rw[h4]; rfl
theorem zeN{α:Type}{l:List α}{k:Nat}{x:α}(h:l[k]?=some x):l.take (k+1)=l.take k++[x]:=by rw[ZU,h]; rfl
theorem zi8{A:Nat->Nat}{cs:List (Str × List Nat)}(h:∀ c∈cs,Four A c.2)(hl:cs.length<=100):∃ kvs,zcp [.lst (cs.map crT)]=some (.fd kvs)/\∀ c∈cs,∀ e∈c.2,Knows A kvs e:=by
 obtain⟨t,e,kvs,rfl,hk⟩:=zc3 (n:=6) (d:=zbh) (ts:=[.lst (cs.map crT)]) (Q:=fun t=>∃ kvs,t=.fd kvs/\∀ c∈cs,∀ e∈c.2,Knows A kvs e) (by
  show Run zbh [some (.lst (cs.map crT)),none,none,none,none,none] _;unfold zbh;refine za5 (s':=[some (.lst (cs.map crT)),some (.dct []),none,none,none,none]) (by simp_all?[]) ?_
  refine zc0 (its:=cs.map crT) (fun j s=>∃ kvs a b c d,s=[some (.lst (cs.map crT)),some (.dct kvs),a,b,c,d]/\kvs.length<=4*j/\∀ c∈cs.take j,∀ e∈c.2,Knows A kvs e) (s1:=[some (.lst (cs.map crT)),some (.dct []),none,none,none,none]) (by simp_all?[]) ⟨[],_,_,_,_,rfl,by simp,by simp⟩ ?_ ?_
  ·rintro j z s hz ⟨kvs,a,b,c,d,rfl,hlen,hkn⟩;rw[jf] at hz;obtain⟨⟨x,es⟩,hj,rfl⟩:=Qm hz;have hF:Four A es:=h (x,es) (jJ hj);have hjl:=(j9.mp hj).1;have hel:=hF.len;refine⟨[some (.lst (cs.map crT)),some (.dct kvs),some (.str x),some (.lst (es.map nT)),c,d],rfl,?_⟩;refine zfG (its:=es.zipIdx.map fun p=>T.tup [.int (p.2:Nat),nT p.1]) (fun k s=>∃ kvs c d,s=[some (.lst (cs.map crT)),some (.dct kvs),some (.str x),some (.lst (es.map nT)),c,d]/\kvs.length<=4*j+k/\(∀ c∈cs.take j,∀ e∈c.2,Knows A kvs e)/\∀ e∈es.take k,Knows A kvs e) (s1:=[some (.lst (cs.map crT)),some (.dct kvs),some (.str x),some (.lst (es.map nT)),c,d]) (by simp_all?[zlb]) ⟨kvs,_,_,rfl,by lia,hkn,by simp⟩ ?_ ?_
   ·rintro k z s hz ⟨kvs,c,d,rfl,l1,k1,k2⟩;rw[jf,List.getElem?_zipIdx] at hz;obtain⟨⟨e,k'⟩,hz',rfl⟩:=Qm hz;obtain⟨e',he,hz'⟩:=Qm hz';obtain⟨rfl,rfl⟩:e'=e/\0+k=k':=by
     injection hz' with q1 q2;exact⟨q1,q2⟩
    rw[Z1];have hk4:k < 4:=by have:=(j9.mp he).1; lia
    have it:=zr5 hF hk4 he;have sz:kvs.length < jn:=zcy (by lia)
    have ky:=zr0 e';refine⟨[some (.lst (cs.map crT)),some (.dct kvs),some (.str x),some (.lst (es.map nT)),some (.int (k:Nat)),some (nT e')],rfl,?_⟩;refine zap (s':=[some (.lst (cs.map crT)),some (.dct (zfH kvs (.inl (e':Int)) (.int (A e':Nat)))),some (.str x),some (.lst (es.map nT)),some (.int (k:Nat)),some (nT e')]) (by unfold nT at it ky ⊢; simp_all?[it,ky,sz]) ⟨_,_,_,rfl,?_,fun c hc e he=>(k1 c hc e he).put _,fun e hm=>?_⟩
    ·have:=zqB kvs (.inl (e':Int)) (.int (A e':Nat));lia
    ·rw[zeN he] at hm;rcases jv.mp hm with q |q
     ·exact(k2 e q).put _
     ·rw[jm.mp q]; exact .new _
   ·rintro s ⟨kvs,c,d,rfl,l1,k1,k2⟩;rw[j5,List.length_zipIdx] at l1 k2;refine⟨kvs,_,_,_,_,rfl,by lia,fun c hc e he=>?_⟩
    rw[zeN hj] at hc;rcases jv.mp hc with q |q
    ·exact k1 c q e he
    ·rw[jm.mp q] at he;exact k2 e (by rw[Q2 (jj _)]; exact he)
  ·rintro s ⟨kvs,a,b,c,d,rfl,hlen,hkn⟩;rw[j5,Q2 (jj _)] at hkn
   exact zas (r:=.rt (.fd kvs) [some (.lst (cs.map crT)),some (.fd kvs),a,b,c,d]) (by simp_all?[]) ⟨_,_,rfl,kvs,rfl,hkn⟩)
 exact⟨kvs,e,hk⟩
structure Crs (wd:List Str) (hd:Str->Bool) (cs:List (Str × List Nat)):Prop where
 two:∀ x∈wd,wd.count x=2
 len:wd.length<=60
 cl:cs.length<=30
 four:∀ c∈cs,Four (Aw wd hd) c.2
 all:∀ e,e < 2*wd.length->∃ c∈cs,e∈c.2
def Pt(wd:List Str)(hd:Str->Bool)(rows:List (List Nat)):Prop:=(wd=[]/\rows=[[],[]])∨(wd≠[]/\Rws (2*wd.length) (fw wd hd) rows)
theorem zlF{wd:List Str}{hd:Str->Bool}{cs:List (Str × List Nat)}(h:Crs wd hd cs):∃ rows:List (List Nat),zaz [.lst (wd.map T.str),.lst (cs.map crT)]=some (.lst (rows.map zaT))/\Pt wd hd rows:=by
 have hcl:=h.cl;have hlen:=h.len
 obtain⟨t,e,rows,rfl,hc⟩:=zc3 (n:=4) (d:=zcr) (ts:=[.lst (wd.map T.str),.lst (cs.map crT)]) (Q:=fun t=>∃ rows:List (List Nat),t=.lst (rows.map zaT)/\Pt wd hd rows) (by
  show Run zcr [some (.lst (wd.map T.str)),some (.lst (cs.map crT)),none,none] _;unfold zcr
  by_cases h0:wd=[]
  ·subst h0;exact zeX (t:=.lst [.lst [],.lst []]) (s':=[some (.lst (([]:List Str).map T.str)),some (.lst (cs.map crT)),none,none]) (by simp_all?[]<;>rfl) ⟨_,_,rfl,[[],[]],rfl,.inl ⟨rfl,rfl⟩⟩
  ·have hp:=W5.mpr h0;have hemp:(wd.map T.str).isEmpty=false:=by
    cases wd with
    |nil=>exact absurd rfl h0
    |cons a l=>rfl
   obtain⟨kvs,ek,hk⟩:=zi8 h.four (by lia)
   have N:=znr h.two hd;obtain⟨rows,er,hT⟩:=zmw N (by lia)
   refine za5 (s':=[some (.lst (wd.map T.str)),some (.lst (cs.map crT)),none,none]) (by simp_all?[hemp]) ?_
   refine za5 (s':=[some (.lst (wd.map T.str)),some (.lst (cs.map crT)),some (.fd kvs),none]) (by simp_all?[ek]) ?_
   refine za5 (s':=[some (.lst (wd.map T.str)),some (.lst (cs.map crT)),some (.fd kvs),some (.int (wd.length:Nat))]) (by simp_all?[]) ?_
   have r1:zfP (2*((wd.length:Nat):Int))=true:=zdf (by lia) (by lia)
   have tn:(2*((wd.length:Nat):Int)).toNat=2*wd.length:=by lia
   have e:=zdn (M:=[]) (caps:=[none,some 3,some 2]) (fi:=znV (dAc (d2 zgI (dC (.int 2)) (dV 3)) dAn)) (dg:=dGn 0) (fe:=zai zbO (dAc (dV 1) (dAc (d2 za3 (dV 2) (zai zaY (dAc (dV 1) (dAc (dV 0) dAn)))) dAn))) (s:=[some (.lst (wd.map T.str)),some (.lst (cs.map crT)),some (.fd kvs),some (.int (wd.length:Nat))]) (jt (2*wd.length)) nT (fun w=>nT (fw wd hd w)) (by simp_all?[r1,tn,zhG]) (by simp; lia) (by
    intro w hw;have hw:=jR.mp hw;have e1:=zjd (n:=wd.length) (by lia) hw
    obtain⟨c,hc,he⟩:=h.all _ (zm3 hw);have e2:za3 (.fd kvs) (.int (Ew wd.length w:Nat))=some (.int (Aw wd hd (Ew wd.length w):Nat)):=hk c hc _ he;have e3:=zis (n:=wd.length) (by lia) (zrB h.two hd (zm3 hw))
    exact⟨[some (.int w),some (.int (wd.length:Nat)),some (.fd kvs)],rfl,by unfold nT; simp_all?[e1,e2,e3]<;>rfl,rfl⟩)
   rw[show (jt (2*wd.length)).map (fun w=>nT (fw wd hd w))=((jt (2*wd.length)).map (fw wd hd)).map nT by rw[Q1]; rfl] at e
   have fl:(((jt (2*wd.length)).map (fw wd hd)).map nT).all zh8=true:=by rw[WT]; exact js.mpr fun _ _=>rfl
   exact zas (r:=.rt (.lst (rows.map zaT)) [some (.lst (wd.map T.str)),some (.lst (cs.map crT)),some (.fd kvs),some (.int (wd.length:Nat))]) (by simp_all?[e,er]) ⟨_,_,rfl,rows,rfl,.inr ⟨h0,hT⟩⟩)
 exact⟨rows,e,hc⟩
def zem(wd:List Str)(x:Str)(h:Bool):List Nat:=match zaf wd x with
 |[i,j]=>zoL i j h
 |_=>[]
theorem zd6{wd:List Str}{x:Str}{i j:Nat}(e:zaf wd x=[i,j])(h:Bool):zem wd x h=zoL i j h:=by unfold zem; rw[e]
def zb5(wd:List Str)(hd:Str->Bool):List (Str × List Nat):=(zab wd).map fun x=>(x,zem wd x (hd x))
theorem zp3{wd:List Str}{hd:Str->Bool}{p q:Nat}{x:Str}(hp:ptn wd p=q)(hx:wd.getD p jz=x){b:Nat}(hb:b < 2):Aw wd hd (2*p+b)=2*q+(if decide (p < q)=hd x then 1 - b else b):=by
 unfold Aw;rw[show (2*p+b) / 2=p by lia,show (2*p+b)%2=b by lia,hp,hx]
theorem zrq{wd:List Str}(g:GoodWord wd)(hd:Str->Bool):Crs wd hd (zb5 wd hd):=by
 have tl:=zme g.two;have hl:=g.len;refine⟨g.two,hl,by unfold zb5; rw[j5]; lia,fun c hc=>?_,fun e he=>?_⟩
 ·unfold zb5 at hc;obtain⟨x,hx,rfl⟩:=jB.mp hc;have hx:=mem_firsts.mp hx;obtain⟨i,j,e⟩:=zd4 (g.two x hx);obtain⟨h1,h2⟩:=zaV e;have ei:=zbu (wd:=wd) (x:=x) (k:=i) (by rw[e]; simp)
  have ej:=zbu (wd:=wd) (x:=x) (k:=j) (by rw[e]; simp)
  have gi:wd.getD i jz=x:=by rw[jW,ei]; rfl
  have gj:wd.getD j jz=x:=by rw[jW,ej]; rfl
  have pi:ptn wd i=j:=by
   unfold ptn;rw[gi,e];exact Ip_ rfl
  have pj:ptn wd j=i:=by
   unfold ptn;rw[gj,e];exact In_ (by lia)
  have dij:decide (i < j)=true:=Dt_ h1;have dji:decide (j < i)=false:=Df_ (by lia)
  have i0:=zp3 (hd:=hd) pi gi (b:=0) (by lia)
  have i1:=zp3 (hd:=hd) pi gi (b:=1) (by lia)
  have j0:=zp3 (hd:=hd) pj gj (b:=0) (by lia)
  have j1:=zp3 (hd:=hd) pj gj (b:=1) (by lia)
  rw[dij] at i0 i1;rw[dji] at j0 j1;show Four (Aw wd hd) (zem wd x (hd x));rw[zd6 e];cases hh:hd x with
  |true=>
   rw[hh] at i0 i1 j0 j1;rw[Ip_ rfl] at i0 i1;rw[In_ (by simp)] at j0 j1
   exact⟨2*i,2*j,2*i+1,2*j+1,rfl,i0,j0,i1,j1⟩
  |false=>
   rw[hh] at i0 i1 j0 j1;rw[In_ (by simp)] at i0 i1
   rw[Ip_ rfl] at j0 j1;exact⟨2*i,2*j+1,2*i+1,2*j,rfl,i0,j1,i1,j0⟩
 ·obtain⟨i,j,e1,h1,h2,ei,ej,h3⟩:=zpf g.two (p:=e / 2) (by lia)
  have hm:wd[e / 2]∈wd:=Qz _;refine⟨(wd[e / 2],zem wd wd[e / 2] (hd wd[e / 2])),jB.mpr ⟨_,mem_firsts.mpr hm,rfl⟩,?_⟩;show e∈zem wd wd[e / 2] (hd wd[e / 2]);rw[zd6 e1];have h4:e=2*i∨e=2*i+1∨e=2*j∨e=2*j+1:=by
   rcases h3 with ⟨h3,_⟩ |⟨h3,_⟩<;>lia
  cases hd wd[e / 2] with
  |true=>
   show e∈[2*i,2*j,2*i+1,2*j+1];simp;lia
  |false=>
   show e∈[2*i,2*j+1,2*i+1,2*j];simp;lia
theorem zjt{f:T->T->Option Bool}:∀ {xs:List T},(∀ x∈xs,f x x=some true)->zih f xs xs=some true:=by
 intro xs
 induction xs with
 |nil=>intro _; rfl
 |cons x xs ih=>
  intro h;unfold zih;rw[h x (by simp),ih fun y hy=>h y (jw _ hy)]
  rfl
theorem zf7{n:Nat}{xs:List T}(h:∀ x∈xs,eqD n x x=some true):eqD (n+1) (.lst xs) (.lst xs)=some true:=by
 show (if xs.length=xs.length then zih (eqD n) xs xs else some false)=some true
 rw[Ip_ rfl,zjt h]
theorem zrf(c:Str × List Nat):eqD 6 (crT c) (crT c)=some true:=by
 show (zih (eqD 5) [T.str c.1,.lst (c.2.map nT)] [T.str c.1,.lst (c.2.map nT)]).map (fun b=>b&&2 == 2)=some true;rw[zjt]
 ·rfl
 ·intro x hx;rcases ju.mp hx with rfl |hx
  ·show scE (.str c.1) (.str c.1)=some true;simp[scE]
  ·rw[jm.mp hx];refine zf7 fun y hy=>?_;obtain⟨z,_,rfl⟩:=jB.mp hy;show scE (.int (z:Int)) (.int (z:Int))=some true;simp[scE]
theorem znz(wd:List Str)(cs:List (Str × List Nat)):gEq (.lst [.lst (wd.map T.str),.lst (cs.map crT)]) (.lst [.lst (wd.map T.str),.lst (cs.map crT)])=some (.bl true):=by
 show (eqD 8 _ _).map T.bl=_;rw[zf7]
 ·rfl
 ·intro x hx;rcases ju.mp hx with rfl |hx
  ·refine zf7 fun y hy=>?_;obtain⟨z,_,rfl⟩:=jB.mp hy;show scE (.str z) (.str z)=some true;simp[scE]
  ·rw[jm.mp hx];refine zf7 fun y hy=>?_;obtain⟨z,_,rfl⟩:=jB.mp hy;exact zrf z
def pl1(wd:List Str)(x:Str):Nat:=(zaf wd x).getD 0 0
def pl2(wd:List Str)(x:Str):Nat:=(zaf wd x).getD 1 0
theorem zvk{wd:List Str}{x:Str}(h:wd.count x=2):zaf wd x=[pl1 wd x,pl2 wd x]/\pl1 wd x < pl2 wd x/\pl2 wd x < wd.length/\wd.getD (pl1 wd x) jz=x/\wd.getD (pl2 wd x) jz=x:=by
 obtain⟨i,j,e⟩:=zd4 h;obtain⟨h1,h2⟩:=zaV e;have ei:=zbu (wd:=wd) (x:=x) (k:=i) (by rw[e]; simp)
 have ej:=zbu (wd:=wd) (x:=x) (k:=j) (by rw[e]; simp)
 unfold pl1 pl2;rw[e];exact⟨rfl,h1,h2,by show wd.getD i _=x; rw[jW,ei]; rfl,by show wd.getD j _=x; rw[jW,ej]; rfl⟩
theorem zgP{wd:List Str}(g:GoodWord wd){x:Str}(hx:x∈zab wd)(b:Bool):zb3 [.lst (wd.map T.str),.str x,.int (bI b)]=some (.lst ((zem wd x (decide ((bI b+(pl1 wd x:Int))%2=0))).map nT)):=by
 have hm:=mem_firsts.mp hx;obtain⟨e,h1,h2,_⟩:=zvk (g.two x hm);have hl:=g.len;have es:=zfC (wd:=wd) (by lia) x
 rw[e] at es;rw[zd6 e];generalize pl1 wd x=i at es h1;generalize pl2 wd x=j at es h1 h2;have es:zbe [.lst (wd.map T.str),.str x]=some (.lst [.int (i:Nat),.int (j:Nat)]):=es;generalize wd.map T.str=W at es;refine zbS ?_;show Run zbl [some (.lst W),some (.str x),some (.int (bI b)),none,none] _;unfold zbl;refine za5 (s':=[some (.lst W),some (.str x),some (.int (bI b)),some (.int (i:Nat)),some (.int (j:Nat))]) (by simp_all?[es]) ?_
 have two:∀ k:Nat,(2:Int)*(k:Int)=((2*k:Nat):Int):=fun k=>by lia
 by_cases q:(bI b+(i:Int))%2=0
 ·rw[Dt_ q];refine zfZ (s':=[some (.lst W),some (.str x),some (.int (bI b)),some (.int (i:Nat)),some (.int (j:Nat))]) (by simp_all?[Dt_ q]<;>rfl) ?_
  show T.lst [.int (2*(i:Int)),.int (2*(j:Int)),.int (2*(i:Int)+1),.int (2*(j:Int)+1)]=.lst [nT (2*i),nT (2*j),nT (2*i+1),nT (2*j+1)];rw[two,two]; rfl
 ·rw[Df_ q];refine za5 (s':=[some (.lst W),some (.str x),some (.int (bI b)),some (.int (i:Nat)),some (.int (j:Nat))]) (by simp_all?[Df_ q]<;>rfl) ?_
  refine zb7 (s':=[some (.lst W),some (.str x),some (.int (bI b)),some (.int (i:Nat)),some (.int (j:Nat))]) (by simp_all?[]<;>rfl) ?_
  show T.lst [.int (2*(i:Int)),.int (2*(j:Int)+1),.int (2*(i:Int)+1),.int (2*(j:Int))]=.lst [nT (2*i),nT (2*j+1),nT (2*i+1),nT (2*j)];rw[two,two]; rfl
def hds(wd:List Str)(sd:Str->Bool)(x:Str):Bool:=decide ((bI (sd x)+(pl1 wd x:Int))%2=0)
theorem zm7(ns:List Str)(f:Str->T):zpJ (ns.map T.str) (ns.map f)=ns.map fun x=>T.tup [.str x,f x]:=by
 unfold zpJ
 induction ns with
 |nil=>rfl
 |cons x ns ih=>rw[jr,jr,List.zip_cons_cons,jr,ih]; rfl
theorem zlX{wd:List Str}(g:GoodWord wd){sd:Str->Bool}(e:zbp [.lst (wd.map T.str)]=some (.tup [.str "sides",.lst ((zab wd).map fun x=>.int (bI (sd x)))])):zav [.lst (wd.map T.str)]=some (.lst ((zb5 wd (hds wd sd)).map crT)):=by
 have hl:=g.len;have en:=zdl (wd:=wd) (by lia)
 refine zbS ?_;show Run zb0 [some (.lst (wd.map T.str)),none] _;unfold zb0;generalize hW:wd.map T.str=W at e en;refine za5 (s':=[some (.lst W),some (.tup [.str "sides",.lst ((zab wd).map fun x=>.int (bI (sd x)))])]) (by simp_all?[e]) ?_
 have i0:za3 (.tup [.str "sides",.lst ((zab wd).map fun x=>.int (bI (sd x)))]) (.int 0)=some (.str "sides"):=rfl;have i1:za3 (.tup [.str "sides",.lst ((zab wd).map fun x=>.int (bI (sd x)))]) (.int 1)=some (.lst ((zab wd).map fun x=>.int (bI (sd x)))):=rfl;have n0:gNe (.str "sides") (.str "sides")=some (.bl false):=rfl;refine za5 (s':=[some (.lst W),some (.tup [.str "sides",.lst ((zab wd).map fun x=>.int (bI (sd x)))])]) (by simp_all?[i0,n0]<;>rfl) ?_
 have e:=zdn (M:=[]) (caps:=[none,none,some 0]) (fi:=zu6 (dAc (zai zar (dAc (dV 0) dAn)) (dAc (d2 za3 (dV 1) (dC (.int 1))) dAn))) (dg:=dGt [0,1]) (fe:=zlg (dAc (dV 0) (dAc (zai zb3 (dAc (dV 2) (dAc (dV 0) (dAc (dV 1) dAn)))) dAn))) (s:=[some (.lst W),some (.tup [.str "sides",.lst ((zab wd).map fun x=>.int (bI (sd x)))])]) (zab wd) (fun x=>T.tup [.str x,.int (bI (sd x))]) (fun x=>crT (x,zem wd x (hds wd sd x))) (by simp_all?[en,i1,zm7]) (by have:=zgM wd; lia) (by
  intro x hx;have ee:=zgP g hx (sd x);rw[hW] at ee
  exact⟨[some (.str x),some (.int (bI (sd x))),some (.lst W)],rfl,by simp_all?[ee]<;>rfl,rfl⟩)
 refine zb7 (s':=[some (.lst W),some (.tup [.str "sides",.lst ((zab wd).map fun x=>.int (bI (sd x)))])]) (by simp_all?[e]<;>rfl) ?_
 unfold zb5;rw[Q1]; rfl
theorem zkI{M:List Nat}{ft:DT}{d d':DS}{s:Sg}{Q:Fl->Prop}(h:ft s=some (false,s))(hf:zm2 M s)(k:Run d' s Q):Run (zrm M ft d d') s Q:=by
 obtain⟨r,h1,h2⟩:=k;refine⟨r,?_,h2⟩;unfold zrm;rw[h,j7];rw[Ip_ ⟨rfl,hf⟩];exact h1
theorem zo8{M:List Nat}{ft:DT}{d d':DS}{s:Sg}{Q:Fl->Prop}(h:ft s=some (true,s))(hf:zm2 M s)(k:Run d s Q):Run (zrm M ft d d') s Q:=by
 obtain⟨r,h1,h2⟩:=k;refine⟨r,?_,h2⟩;unfold zrm;rw[h,j7];rw[Ip_ ⟨rfl,hf⟩];exact h1
theorem zmv{fn:List T->Option T}{fa:DA}{x:Nat}{d:DS}{s s1:Sg}{ts:List T}{t:T}{Q:Fl->Prop}(h1:fa s=some (ts,s1))(h2:fn ts=some t)(h3:x < s1.length)(h4:Run d (s1.set x (some t)) fun r=>∃ r',unD x r=some r'/\Q r'):Run (zjh fn fa x d) s Q:=by
 obtain⟨r,e1,r',e2,q⟩:=h4;refine⟨r',?_,q⟩;unfold zjh;rw[h1,j7];dsimp only;rw[h2,j7,Ip_ h3,e1,j7];exact e2
theorem zqV{t:T}(h:(∃ l:List Str,t=.lst (l.map T.str))∨t=.str "none"):gNe t t=some (.bl false)/\gEq t t=some (.bl true):=by
 rcases h with ⟨l,rfl⟩ |rfl
 ·exact⟨by rw[zrZ,Dt_ rfl]; rfl,by rw[zs3,Dt_ rfl]⟩
 ·exact⟨by rw[zw9,Dt_ rfl]; rfl,by rw[zwc,Dt_ rfl]⟩
theorem zfu{wd:List Str}{t:T}{x:Str}(e:zbp [.lst (wd.map T.str)]=some t)(e0:za3 t (.int 0)=some (.str x))(hx:decide (x=("sides":Str))=false):zav [.lst (wd.map T.str)]=none/\zbt [.lst (wd.map T.str)]=true:=by
 constructor
 ·show fnP 2 zb0 [.lst (wd.map T.str)]=none;unfold fnP;have:zb0 (zaE 2 [.lst (wd.map T.str)])=none:=by
   show zb0 [some (.lst (wd.map T.str)),none]=none;unfold zb0
   simp_all?[e,e0,hx]
   rfl
  rw[this]
 ·show zcH [some (.lst (wd.map T.str)),none]=true;have h1:zaB 1 (zai zbp (dAc (dV 0) dAn)) [some (.lst (wd.map T.str)),none]=some (.nx [some (.lst (wd.map T.str)),some t]):=by simp_all?[e]
  have h2:dB (d2 gNe (d2 za3 (dV 1) (dC (.int 0))) (dC (.str "sides"))) [some (.lst (wd.map T.str)),some t]=some (true,[some (.lst (wd.map T.str)),some t]):=by simp_all?[e0,hx]
  unfold zcH zf9;rw[h1];unfold zoT;dsimp only;rw[h2];rfl
theorem zlW{wd:List Str}(g:GoodWord wd):(∃ hd:Str->Bool,zav [.lst (wd.map T.str)]=some (.lst ((zb5 wd hd).map crT)))∨(zav [.lst (wd.map T.str)]=none/\zbt [.lst (wd.map T.str)]=true):=by
 obtain⟨t,e,ht⟩:=znc g;cases ht with
 |odd x hx h=>exact .inr (zfu e rfl (by decide))
 |pair x y hx hy h=>exact .inr (zfu e rfl (by decide))
 |ring r h=>exact .inr (zfu e rfl (by decide))
 |sides sd h=>exact .inl ⟨hds wd sd,zlX g e⟩
def tdL(E:List (Str × Bool)):List (Key × T):=E.map fun e=>(Zi e.1,T.int (bI e.2))
def tdK(E:List (Str × Bool)):List Str:=E.map (·.1)
theorem zgc(E:List (Str × Bool))(x:Str):(zbb (tdL E) (.inr x)).isSome=decide (x∈tdK E):=by
 unfold tdL tdK;rw[ze7,gM,Zp,WP,decide_eq_true_iff];constructor
 ·rintro⟨e,he,h⟩;have:=gb (of_decide_eq_true h);rw[<-this]; exact jB.mpr ⟨e,he,rfl⟩
 ·intro h;obtain⟨e,he,rfl⟩:=jB.mp h;exact⟨e,he,Dt_ rfl⟩
theorem zuS{E:List (Str × Bool)}{x:Str}(h:x∈tdK E):∃ b:Bool,zbb (tdL E) (.inr x)=some (.int (bI b)):=by
 have q:=zgc E x;rw[Dt_ h] at q;obtain⟨v,hv⟩:=gg.mp q;have hv':=hv;unfold tdL at hv;rw[ze7] at hv;obtain⟨e,_,rfl⟩:=Qm hv;exact⟨e.2,hv'⟩
theorem zs9{E:List (Str × Bool)}{x:Str}(b:Bool)(h:x∉tdK E):zfH (tdL E) (.inr x) (.int (bI b))=tdL (E++[(x,b)]):=by
 rw[zhP]
 ·unfold tdL; rw[jy]; rfl
 ·unfold tdL;rw[Q1];intro hm;obtain⟨e,he,h2⟩:=jB.mp hm;exact h (gb h2▸jB.mpr ⟨e,he,rfl⟩)
def muT:Sg->Nat
 |[_,_,_,some (.dct kvs),_,_,some (.lst w),_,_,_]=>31*(30 - kvs.length)+w.length
 |_=>0
structure Tn (wd:List Str) (E:List (Str × Bool)):Prop where
 nd:(tdK E).Nodup
 sub:∀ x∈tdK E,x∈zab wd
theorem Tn.le{wd:List Str}{E:List (Str × Bool)}(h:Tn wd E)(hl:(zab wd).length<=30):E.length<=30:=by
 have:=zce _ _ h.nd h.sub;unfold tdK at this;rw[j5] at this;lia
theorem Tn.snoc{wd:List Str}{E:List (Str × Bool)}(h:Tn wd E){x:Str}(b:Bool)(hx:x∉tdK E)(hf:x∈zab wd):Tn wd (E++[(x,b)]):=by
 have e:tdK (E++[(x,b)])=tdK E++[x]:=by unfold tdK; rw[jy]; rfl
 refine⟨?_,fun y hy=>?_⟩
 ·rw[e];refine jT.mpr ⟨h.nd,by simp,fun a ha b hb=>?_⟩
  obtain rfl:=jm.mp hb;exact fun z=>hx (z▸ha)
 ·rw[e] at hy;rcases jv.mp hy with hy |hy
  ·exact h.sub y hy
  ·rw[jm.mp hy]; exact hf
theorem zkB(E:List (Str × Bool))(x:Str)(b:Bool):tdK (E++[(x,b)])=tdK E++[x]:=by unfold tdK; rw[jy]; rfl
theorem zta(i j:Nat)(h:Bool):∃ a b c d:Nat,zoL i j h=[a,b,c,d]/\zoL i j (!h)=[a,d,c,b]:=by cases h<;>exact⟨_,_,_,_,rfl,rfl⟩
theorem zo3{wd:List Str}(g:GoodWord wd){x:Bag2}(hx:x.Ok)(L:T)(Q:Fl->Prop){d:DS}(k:∀(b:Bag2) (E:List (Str × Bool)) (a4 a5 a6 a7:Option T),b.Ok->(∀ y∈zab wd,y∈tdK E)->Run d [some b.t,some (.lst (wd.map T.str)),some L,some (.dct (tdL E)),a4,a5,a6,a7,none,none] Q) :
  Run (zaj (zeJ (zcs (zai zar (dAc (dV 1) dAn))) (dGn 4)
  (zcx (dB (d2 zaK (dV 4) (dV 3))) (zaj (zaB 5 (zfa zbB 0 (dAc (dC (.int 2)) dAn)))
  (zaj (zaB 6 (zeI (dAc (dV 4) dAn)))
  (zbF (dB (d2 gGt (d1 zcm (dV 6)) (dC (.int 0))))
  (zaj (zaB 7 (zhp znS 6 dAn))
  (zcx (dB (d2 zaK (dV 7) (dV 3))) (zaj (zpB 3 (dV 7) (dV 5))
  (dDo (zhp zpq 6 (dAc (zai zaw (dAc (dV 1) (dAc (dV 7) dAn))) dAn)))) zay)) 1000))) zay)) d) [some x.t,some (.lst (wd.map T.str)),some L,some (.dct []),none,none,none,none,none,none] Q:=by
 have hl:=g.len;have hf:=(zi3 g).len;have en:=zdl (wd:=wd) (by lia)
 generalize hW:T.lst (wd.map T.str)=W at *;refine zc0 (its:=(zab wd).map T.str) (fun j s=>∃(b:Bag2) (E:List (Str × Bool)) (a4 a5 a6 a7:Option T),b.Ok/\Tn wd E/\(∀ y∈(zab wd).take j,y∈tdK E)/\s=[some b.t,some W,some L,some (.dct (tdL E)),a4,a5,a6,a7,none,none]) (by simp_all?[en]<;>rfl) ⟨x,[],none,none,none,none,hx,⟨ZX,fun y hy=>by cases hy⟩,fun y hy=>by simp at hy,rfl⟩ ?_ ?_
 ·rintro j z s hz ⟨b,E,a4,a5,a6,a7,hb,tn,hj,rfl⟩;obtain⟨nm,hnm,rfl⟩:=zfB hz;have hnf:=jJ hnm;have bE0:=tn.le hf;refine⟨[some b.t,some W,some L,some (.dct (tdL E)),some (.str nm),a5,a6,a7,none,none],by simp_all?[],?_⟩
  by_cases hk:nm∈tdK E
  ·have e1:decide (nm∈tdK E)=true:=Dt_ hk;exact zap (by simp_all?[zgc,e1]<;>rfl) ⟨b,E,_,_,_,_,hb,tn,zaJ hj hnm hk,rfl⟩
  ·have e1:decide (nm∈tdK E)=false:=Df_ hk;obtain⟨sz,b1,edr,hb1,z0,z1⟩:=zi9 hb 2 (by lia) (by lia)
   obtain⟨sb,rfl⟩:∃ sb:Bool,sz=bI sb:=by
    rcases(show sz=0∨sz=1 by lia) with rfl |rfl
    ·exact⟨false,rfl⟩
    ·exact⟨true,rfl⟩
   refine zjG (s':=[some b.t,some W,some L,some (.dct (tdL E)),some (.str nm),a5,a6,a7,none,none]) (by simp_all?[zgc,e1]) ?_
   refine za5 (s':=[some b1.t,some W,some L,some (.dct (tdL E)),some (.str nm),some (.int (bI sb)),a6,a7,none,none]) (by simp_all?[edr]) ?_
   refine za5 (s':=[some b1.t,some W,some L,some (.dct (tdL E)),some (.str nm),some (.int (bI sb)),some (.lst ([nm].map T.str)),a7,none,none]) (by simp_all?[]<;>rfl) ?_
   refine zhe (fun s=>∃(E':List (Str × Bool)) (wt:List Str) (c7:Option T),Tn wd E'/\(∀ y∈tdK E,y∈tdK E')/\(∀ y∈wt,y∈zab wd)/\(nm∈wt∨nm∈tdK E')/\31*(30 - E'.length)+wt.length<=931/\s=[some b1.t,some W,some L,some (.dct (tdL E')),some (.str nm),some (.int (bI sb)),some (.lst (wt.map T.str)),c7,none,none]) muT ?_ ⟨E,[nm],a7,tn,fun _ h=>h,fun y hy=>by rw[jm.mp hy]; exact hnf,.inl (jm.mpr rfl),by show 31*(30 - E.length)+1<=931; lia,rfl⟩ ?_ ?_
   ·show 31*(30 - (tdL E).length)+1 < 1000;lia
   ·rintro s ⟨E',wt,c7,tn',hsub,hwf,hin,hm,rfl⟩;have bE:=tn'.le hf
    by_cases hwt:wt=[]
    ·subst hwt;exact⟨false,_,by simp_all?[]<;>rfl,trivial⟩
    ·obtain⟨w',y,rfl⟩:∃ w' y,wt=w'++[y]:=⟨wt.dropLast,wt.getLast hwt,(Q5 hwt).symm⟩;have hyf:=hwf y (by simp)
     rw[jk] at hm;have hm:31*(30 - E'.length)+(w'.length+1)<=931:=hm;have pos:decide ((0:Int) < (((w'++[y]).map T.str).length:Nat))=true:=Dt_ (by rw[j5,jk]; show (0:Int) < ((w'.length+1:Nat):Int); lia)
     refine⟨true,[some b1.t,some W,some L,some (.dct (tdL E')),some (.str nm),some (.int (bI sb)),some (.lst ((w'++[y]).map T.str)),c7,none,none],by simp_all?[pos,jk]; simp,?_⟩
     rw[Ip_ rfl];refine za5 (s':=[some b1.t,some W,some L,some (.dct (tdL E')),some (.str nm),some (.int (bI sb)),some (.lst (w'.map T.str)),some (.str y),none,none]) (by simp_all?[ztY]) ?_
     by_cases hy:y∈tdK E'
     ·have e2:decide (y∈tdK E')=true:=Dt_ hy;refine zap (by simp_all?[zgc,e2]<;>rfl) ⟨⟨E',w',_,tn',hsub,fun z hz=>hwf z (jo _ hz),?_,by lia,rfl⟩,?_⟩
      ·rcases hin with hin |hin
       ·rcases jv.mp hin with hin |hin
        ·exact .inl hin
        ·rw[jm.mp hin]; exact .inr hy
       ·exact .inr hin
      ·show 31*(30 - (tdL E').length)+(w'.map T.str).length < 31*(30 - (tdL E').length)+((w'++[y]).map T.str).length;rw[j5,j5,jk];show _ < _+(w'.length+1);lia
     ·have e2:decide (y∈tdK E')=false:=Df_ hy;have hp:=zs9 sb hy;have tn2:=tn'.snoc sb hy hyf;have bE2:=tn2.le hf;rw[jk] at bE2;have bE2:E'.length+1<=30:=bE2;have ll:(tdL E').length < jn:=zcy (by unfold tdL; rw[j5]; lia)
      obtain⟨pi,pj,hpl⟩:=zd4 (g.two y (mem_firsts.mp hyf));have ec:=zdY (wd:=wd) (by lia) hpl
      rw[hW] at ec;have cl:((zab wd).filter (crs wd y)).length<=30:=Q9 (Zf _ _) hf;generalize hcw:(zab wd).filter (crs wd y)=cw at ec cl;refine zjG (s':=[some b1.t,some W,some L,some (.dct (tdL E')),some (.str nm),some (.int (bI sb)),some (.lst (w'.map T.str)),some (.str y),none,none]) (by simp_all?[zgc,e2]) ?_
      refine za5 (s':=[some b1.t,some W,some L,some (.dct (tdL (E'++[(y,sb)]))),some (.str nm),some (.int (bI sb)),some (.lst (w'.map T.str)),some (.str y),none,none]) (by simp_all?[ll,zh7,hp]) ?_
      refine zap (s':=[some b1.t,some W,some L,some (.dct (tdL (E'++[(y,sb)]))),some (.str nm),some (.int (bI sb)),some (.lst ((w'++cw).map T.str)),some (.str y),none,none]) (by simp_all?[ec,zwb (a:=w') (b:=cw) (by lia)]) ⟨⟨_,w'++cw,_,tn2,fun z hz=>by rw[zkB]; exact jo _ (hsub z hz),fun z hz=>?_,?_,?_,rfl⟩,?_⟩
      ·rcases jv.mp hz with hz |hz
       ·exact hwf z (jo _ hz)
       ·rw[<-hcw] at hz;exact(jZ.mp hz).1
      ·rw[zkB];rcases hin with hin |hin
       ·rcases jv.mp hin with hin |hin
        ·exact .inl (jo _ hin)
        ·rw[jm.mp hin]; exact .inr (jx _ (jm.mpr rfl))
       ·exact .inr (jo _ hin)
      ·rw[jk,jk];show 31*(30 - (E'.length+1))+_<=_;lia
      ·show 31*(30 - (tdL (E'++[(y,sb)])).length)+((w'++cw).map T.str).length < 31*(30 - (tdL E').length)+((w'++[y]).map T.str).length;unfold tdL;rw[j5,j5,j5,j5,jk,jk,jk];show 31*(30 - (E'.length+1))+_ < _+(w'.length+1);lia
   ·rintro s0 s' ⟨E',wt,c7,tn',hsub,hwf,hin,hm,rfl⟩ h0
    by_cases hwt:wt=[]
    ·subst hwt;have h0:some (false,[some b1.t,some W,some L,some (.dct (tdL E')),some (.str nm),some (.int (bI sb)),some (.lst (([]:List Str).map T.str)),c7,none,none])=some (false,s'):=h0;injection h0 with h0;injection h0 with _ h0;subst h0;refine⟨b1,E',_,_,_,_,hb1,tn',zaJ (fun y hy=>hsub y (hj y hy)) hnm ?_,rfl⟩;rcases hin with hin |hin
     ·cases hin
     ·exact hin
    ·exfalso
     have pos:decide ((0:Int) < (wt.length:Nat))=true:=Dt_ (by have:=W5.mpr hwt; lia)
     have h2:dB (d2 gGt (d1 zcm (dV 6)) (dC (.int 0))) [some b1.t,some W,some L,some (.dct (tdL E')),some (.str nm),some (.int (bI sb)),some (.lst (wt.map T.str)),c7,none,none]=some (true,[some b1.t,some W,some L,some (.dct (tdL E')),some (.str nm),some (.int (bI sb)),some (.lst (wt.map T.str)),c7,none,none]):=by simp_all?[pos]
     rw[h2] at h0;cases h0
 ·rintro s ⟨b,E,a4,a5,a6,a7,hb,tn,hj,rfl⟩;rw[j5,QM] at hj;exact k b E a4 a5 a6 a7 hb hj
def zuT(E:List (Str × Bool))(x:Str):Bool:=match zbb (tdL E) (.inr x) with
 |some (.int i)=>decide (i=1)
 |_=>false
theorem zsa{E:List (Str × Bool)}{x:Str}{b:Bool}(h:zbb (tdL E) (.inr x)=some (.int (bI b))):zuT E x=b:=by
 unfold zuT;rw[h];cases b<;>rfl
theorem zvY{wd:List Str}{hd:Str->Bool}{j:Nat}{z:T}(h:((zb5 wd hd).map crT)[j]?=some z):∃ x,(zab wd)[j]?=some x/\z=.tup [.str x,.lst ((zem wd x (hd x)).map nT)]:=by
 unfold zb5 at h;rw[Q1,jf] at h;obtain⟨x,hx,rfl⟩:=Qm h;exact⟨x,hx,rfl⟩
theorem zj2{wd:List Str}(g:GoodWord wd){x:Bag2}(hx:x.Ok):∃ y:Bag2,y.Ok/\((∃ hd:Str->Bool,zcG [x.t,.lst (wd.map T.str)]=some (.lst ((zb5 wd hd).map crT),y.t))∨zcG [x.t,.lst (wd.map T.str)]=some (.non,y.t)):=by
 have hf:=(zi3 g).len;rcases zlW g with ⟨hd,ed⟩ |⟨en,er⟩
 ·obtain⟨t,u,e,y,hy,rfl,hd',rfl⟩:=zi6 (n:=10) (d:=zb1) (ts:=[x.t,.lst (wd.map T.str)]) (Q:=fun t u=>∃ y:Bag2,y.Ok/\u=y.t/\∃ hd':Str->Bool,t=.lst ((zb5 wd hd').map crT)) (by
   show Run zb1 [some x.t,some (.lst (wd.map T.str)),none,none,none,none,none,none,none,none] _;unfold zb1;have tr:zkm [0] 1 zbt (dAc (dV 1) dAn) (zaB 2 (zai zav (dAc (dV 1) dAn))) [some x.t,some (.lst (wd.map T.str)),none,none,none,none,none,none,none,none]=some (.nx [some x.t,some (.lst (wd.map T.str)),some (.lst ((zb5 wd hd).map crT)),none,none,none,none,none,none,none]):=by
    have q:zaB 2 (zai zav (dAc (dV 1) dAn)) [some x.t,some (.lst (wd.map T.str)),none,none,none,none,none,none,none,none]=some (.nx [some x.t,some (.lst (wd.map T.str)),some (.lst ((zb5 wd hd).map crT)),none,none,none,none,none,none,none]):=by simp_all?[ed]
    unfold zkm;rw[q]
   refine za5 tr ?_;refine za5 (s':=[some x.t,some (.lst (wd.map T.str)),some (.lst ((zb5 wd hd).map crT)),some (.dct []),none,none,none,none,none,none]) (by simp_all?[]) ?_
   refine zo3 g hx _ _ fun b E a4 a5 a6 a7 hb hall=>?_;obtain⟨hd',hd1⟩:∃ hd':Str->Bool,∀ x,hd' x=if zuT E x then !hd x else hd x:=⟨_,fun _=>rfl⟩
   refine za5 (s':=[some b.t,some (.lst (wd.map T.str)),some (.lst ((zb5 wd hd).map crT)),some (.dct (tdL E)),a4,a5,a6,a7,some (.lst []),none]) (by simp_all?[]) ?_
   refine zc0 (its:=(zb5 wd hd).map crT) (fun j s=>∃ a4 a9:Option T,s=[some b.t,some (.lst (wd.map T.str)),some (.lst ((zb5 wd hd).map crT)),some (.dct (tdL E)),a4,a5,a6,a7,some (.lst (((zb5 wd hd').take j).map crT)),a9]) (by simp_all?[]<;>rfl) ⟨a4,none,rfl⟩ ?_ ?_
   ·rintro j z s hz ⟨b4,b9,rfl⟩;obtain⟨nm,hnm,rfl⟩:=zvY hz;have hnf:=jJ hnm;obtain⟨bb,hbb⟩:=zuS (hall nm hnf);obtain⟨pi,pj,hpl⟩:=zd4 (g.two nm (mem_firsts.mp hnf));obtain⟨a,b',c,d,e1,e2⟩:=zta pi pj (hd nm);have jl:j < (zab wd).length:=(j9.mp hnm).1;have tl:(((zb5 wd hd').take j).map crT).length<=1000000:=by rw[j5,Q7]; lia
    have nxt:(zb5 wd hd').take (j+1)=(zb5 wd hd').take j++[(nm,zem wd nm (hd' nm))]:=by
     refine zeN ?_;unfold zb5;rw[jf,hnm]; rfl
    rw[zd6 hpl,e1];refine⟨[some b.t,some (.lst (wd.map T.str)),some (.lst ((zb5 wd hd).map crT)),some (.dct (tdL E)),some (.str nm),a5,a6,a7,some (.lst (((zb5 wd hd').take j).map crT)),some (.lst ([a,b',c,d].map nT))],rfl,?_⟩;have ll:∀ l:List T,zd5 (.lst l)=some (.lst l):=fun _=>rfl;have i0:za3 (.lst ([a,b',c,d].map nT)) (.int 0)=some (nT a):=rfl;have i1:za3 (.lst ([a,b',c,d].map nT)) (.int 1)=some (nT b'):=rfl;have i2:za3 (.lst ([a,b',c,d].map nT)) (.int 2)=some (nT c):=rfl;have i3:za3 (.lst ([a,b',c,d].map nT)) (.int 3)=some (nT d):=rfl;cases bb with
    |true=>
     have hh:hd' nm=!hd nm:=by rw[hd1,zsa hbb]; rfl
     refine za5 (s':=[some b.t,some (.lst (wd.map T.str)),some (.lst ((zb5 wd hd).map crT)),some (.dct (tdL E)),some (.str nm),a5,a6,a7,some (.lst (((zb5 wd hd').take j).map crT)),some (.lst ([a,d,c,b'].map nT))]) (by simp_all?[hbb,show (bI true)=1 from rfl,i0,i1,i2,i3]<;>rfl) ?_
     refine zap (s':=[some b.t,some (.lst (wd.map T.str)),some (.lst ((zb5 wd hd).map crT)),some (.dct (tdL E)),some (.str nm),a5,a6,a7,some (.lst (((zb5 wd hd').take (j+1)).map crT)),some (.lst ([a,d,c,b'].map nT))]) ?_ ⟨_,_,rfl⟩;rw[nxt,hh,zd6 hpl,e2,jy]
     simp_all?[ll,zo2 _ tl]
     rfl
    |false=>
     have hh:hd' nm=hd nm:=by rw[hd1,zsa hbb]; rfl
     refine za5 (s':=[some b.t,some (.lst (wd.map T.str)),some (.lst ((zb5 wd hd).map crT)),some (.dct (tdL E)),some (.str nm),a5,a6,a7,some (.lst (((zb5 wd hd').take j).map crT)),some (.lst ([a,b',c,d].map nT))]) (by simp_all?[hbb,show (bI false)=0 from rfl]<;>rfl) ?_
     refine zap (s':=[some b.t,some (.lst (wd.map T.str)),some (.lst ((zb5 wd hd).map crT)),some (.dct (tdL E)),some (.str nm),a5,a6,a7,some (.lst (((zb5 wd hd').take (j+1)).map crT)),some (.lst ([a,b',c,d].map nT))]) ?_ ⟨_,_,rfl⟩;rw[nxt,hh,zd6 hpl,e1,jy]
     simp_all?[ll,zo2 _ tl]
     rfl
   ·rintro s ⟨b4,b9,rfl⟩;have tk:(zb5 wd hd').take ((zb5 wd hd).map crT).length=zb5 wd hd':=by
     rw[j5];refine Q2 ?_;unfold zb5;rw[j5,j5];exact jj _
    rw[tk]
    exact zas (by simp_all?[]<;>rfl) ⟨_,_,_,rfl,b,hb,rfl,hd',rfl⟩)
  exact⟨y,hy,.inl ⟨hd',e⟩⟩
 ·obtain⟨t,u,e,rfl,rfl⟩:=zi6 (n:=10) (d:=zb1) (ts:=[x.t,.lst (wd.map T.str)]) (Q:=fun t u=>t=.non/\u=x.t) (by
   show Run zb1 [some x.t,some (.lst (wd.map T.str)),none,none,none,none,none,none,none,none] _;unfold zb1;have tr:zkm [0] 1 zbt (dAc (dV 1) dAn) (zaB 2 (zai zav (dAc (dV 1) dAn))) [some x.t,some (.lst (wd.map T.str)),none,none,none,none,none,none,none,none]=some (.rt .non [some x.t,some (.lst (wd.map T.str)),none,none,none,none,none,none,none,none]):=by
    have q:zaB 2 (zai zav (dAc (dV 1) dAn)) [some x.t,some (.lst (wd.map T.str)),none,none,none,none,none,none,none,none]=none:=by simp_all?[en]<;>rfl
    have q2:(dAc (dV 1) dAn) [some x.t,some (.lst (wd.map T.str)),none,none,none,none,none,none,none,none]=some ([.lst (wd.map T.str)],[some x.t,some (.lst (wd.map T.str)),none,none,none,none,none,none,none,none]):=by simp_all?[]
    unfold zkm;rw[q,q2];dsimp only;rw[er];rfl
   exact zeX tr ⟨_,_,_,rfl,rfl,rfl⟩)
  exact⟨x,hx,.inr e⟩
theorem zqi{wd:List Str}{hd:Str->Bool}(g:∀ x∈wd,wd.count x=2){rows:List (List Nat)}(h:Pt wd hd rows){r:List Nat}(hr:r∈rows){w:Nat}(hw:w∈r):w < 2*wd.length:=by
 rcases h with ⟨_,rfl⟩ |⟨_,L,ht,hR⟩
 ·rcases ju.mp hr with rfl |hr
  ·cases hw
  ·rw[jm.mp hr] at hw; cases hw
 ·obtain⟨i,hi,rfl⟩:=Yc hr;have hi':i < L.length:=hR.len▸hi;obtain⟨k,e,_⟩:=hR.row i L[i] rows[i] (j3 hi') (j3 hi);rw[e] at hw;unfold zaF at hw;obtain⟨m,_,rfl⟩:=jB.mp hw;exact(znr g hd).itr_lt m (hR.lt _ (Qz hi'))
def nmw(wd:List Str)(w:Nat):Str:=wd.getD (Ew wd.length w / 2) jz
theorem zpp{wd:List Str}{w:Nat}(hw:w < 2*wd.length):(wd.map T.str)[Ew wd.length w / 2]?=some (.str (nmw wd w)):=by
 have:=zm3 hw;have h:Ew wd.length w / 2 < wd.length:=by lia
 unfold nmw;rw[jf,j3 h,jW,j3 h]; rfl
theorem zq8{n w:Nat}(hw:w < 2*n):(((w:Int) / 2+1 - (w:Int)%2)%(n:Int))=((Ew n w / 2:Nat):Int):=by
 unfold Ew;rcases(show w%2=1∨w%2=0 by lia) with h |h
 ·rw[Ip_ h];rw[show ((w:Int) / 2+1 - (w:Int)%2)=((w / 2:Nat):Int) by lia]
  rw[show (w - 1) / 2=w / 2 by lia,<-J8,J9 (by lia)]
 ·rw[In_ (by lia)]
  by_cases h1:w / 2+1=n
  ·rw[Ip_ h1];rw[show ((w:Int) / 2+1 - (w:Int)%2)=(n:Int) by lia,JV]; rfl
  ·rw[In_ h1];rw[show ((w:Int) / 2+1 - (w:Int)%2)=((w / 2+1:Nat):Int) by lia]
   rw[show (w+3) / 2=w / 2+1 by lia,<-J8,J9 (by lia)]
theorem zjy{wd:List Str}(h:wd.length<=1000)(l:List Str):zcF [.lst (wd.map T.str),.lst (l.map T.str)]=some (.lst ((wd.filter fun y=>!decide (y∈l)).map T.str)):=by
 have e:=zgD (M:=[]) (caps:=[none,some 1]) (fi:=zcs (dV 0)) (dg:=dGn 0) (ft:=dB (d2 zaK (dV 0) (dV 1))) (fe:=dV 0) (s:=[some (.lst (wd.map T.str)),some (.lst (l.map T.str))]) wd T.str (fun y=>!decide (y∈l)) T.str (by simp_all?[]) (by lia) (by
  intro y hy
  exact⟨[some (.str y),some (.lst (l.map T.str))],rfl,by simp_all?[zjA],fun _=>by simp_all?[],rfl⟩)
 refine zgK ?_;show Run zdt [some (.lst (wd.map T.str)),some (.lst (l.map T.str))] _;unfold zdt;exact zb7 (by simp_all?[e]<;>rfl) rfl
theorem ztA{fe:DE}{s s':Sg}{l:List Str}(h:fe s=some (.lst (l.map T.str),s')):ztJ fe s=some (.lst (l.map T.str),s'):=by
 unfold ztJ;rw[h,j7];dsimp only;rw[Ip_ (by rw[WT]; exact js.mpr fun _ _=>rfl)]
theorem zeM{ts:List T}(e:zaD (zaE 5 ts)=none)(r:zaZ (zaE 5 ts)=true):zat ts=some (.str "none"):=by
 have h1:zbR ts=none:=by
  show zin 5 zaD ts=none;unfold zin;rw[e]
 have h2:zcC ts=true:=r;unfold zat;rw[h1];dsimp only;rw[Ip_ h2]
section
variable {wd:List Str}(g:GoodWord wd){Lc:T}{rows:List (List Nat)}(ep:zaz [.lst (wd.map T.str),Lc]=some (.lst (rows.map zaT)))
include g ep
theorem zmd(z:Int):zaB 3 (zai zaz (dAc (dV 0) (dAc (dV 1) dAn))) [some (.lst (wd.map T.str)),some Lc,some (.int z),none,none]=some (.nx [some (.lst (wd.map T.str)),some Lc,some (.int z),some (.lst (rows.map zaT)),none]):=by simp_all?[ep]
theorem zs4{z:Int}(h:dOr (zoS (dB (dCh gLe gLt (dC (.int 0)) (dV 2) (d1 zcm (dV 3))))) (dB (d2 gNe (d1 zcm (d2 za3 (dV 3) (dV 2))) (dC (.int 2)))) [some (.lst (wd.map T.str)),some Lc,some (.int z),some (.lst (rows.map zaT)),none]=some (true,[some (.lst (wd.map T.str)),some Lc,some (.int z),some (.lst (rows.map zaT)),none])):zat [.lst (wd.map T.str),Lc,.int z]=some (.str "none"):=by
 refine zeM ?_ ?_
 ·show zaD [some (.lst (wd.map T.str)),some Lc,some (.int z),none,none]=none;unfold zaD;rw[show ∀ d':DS,zaj (zaB 3 (zai zaz (dAc (dV 0) (dAc (dV 1) dAn)))) d' [some (.lst (wd.map T.str)),some Lc,some (.int z),none,none]=d' [some (.lst (wd.map T.str)),some Lc,some (.int z),some (.lst (rows.map zaT)),none] from fun d'=>by unfold zaj; rw[zmd g ep z]; rfl]
  unfold zaj zcx;rw[h];rfl
 ·show zaZ [some (.lst (wd.map T.str)),some Lc,some (.int z),none,none]=true;unfold zaZ zf9;rw[zmd g ep z];dsimp only;unfold zoT;rw[h];rfl
theorem zpX{z:Int}(hz:¬ (0<=z/\z < rows.length)):zat [.lst (wd.map T.str),Lc,.int z]=some (.str "none")/\zdq [.lst (wd.map T.str),.lst (rows.map zaT),.int z]=some (.str "none"):=by
 have hlen:=j5 (f:=zaT) (as:=rows);constructor
 ·refine zs4 g ep ?_
  by_cases i1:(0:Int)<=z
  ·have i2:decide (z < (rows.length:Int))=false:=Df_ (by lia)
   simp_all?[Dt_ i1,i2]<;>rfl
  ·simp_all?[Df_ i1]<;>rfl
 ·refine zbS ?_;show Run zdW [some (.lst (wd.map T.str)),some (.lst (rows.map zaT)),some (.int z),none,none] _;unfold zdW;refine zeX (t:=.str "none") (s':=[some (.lst (wd.map T.str)),some (.lst (rows.map zaT)),some (.int z),none,none]) ?_ ⟨_,rfl⟩
  by_cases i1:z < 0
  ·simp_all?[Dt_ i1]<;>rfl
  ·have i2:decide ((rows.length:Int)<=z)=true:=Dt_ (by lia)
   simp_all?[Df_ i1,i2]<;>rfl
theorem zpY{k:Nat}{r:List Nat}(hk:rows[k]?=some r)(hr:r.length≠2):zat [.lst (wd.map T.str),Lc,.int (k:Int)]=some (.str "none")/\zdq [.lst (wd.map T.str),.lst (rows.map zaT),.int (k:Int)]=some (.str "none"):=by
 have kl:=(j9.mp hk).1;have it:za3 (.lst (rows.map zaT)) (.int (k:Int))=some (.lst (r.map nT)):=by rw[zeL,jf,hk]; rfl
 have l1:decide (((r.length:Nat):Int)=2)=false:=Df_ (by lia)
 constructor
 ·refine zs4 g ep ?_;have i1:decide ((0:Int)<=(k:Int))=true:=Dt_ (by lia)
  have i2:decide ((k:Int) < (rows.length:Int))=true:=Dt_ (by lia)
  simp_all?[i1,i2,it,l1]<;>rfl
 ·refine zbS ?_;show Run zdW [some (.lst (wd.map T.str)),some (.lst (rows.map zaT)),some (.int (k:Int)),none,none] _;unfold zdW;refine zeX (t:=.str "none") (s':=[some (.lst (wd.map T.str)),some (.lst (rows.map zaT)),some (.int (k:Int)),none,none]) ?_ ⟨_,rfl⟩;have i1:decide ((k:Int) < 0)=false:=Df_ (by lia)
  have i2:decide ((rows.length:Int)<=(k:Int))=false:=Df_ (by lia)
  simp_all?[i1,i2,it,l1]<;>rfl
end
theorem zmp{d d':DS}{s s1:Sg}(h:d s=some (.nx s1)):zaj d d' s=d' s1:=by unfold zaj; rw[h]; rfl
theorem zjD{r1 r2:DR}{d:DS}{s s1:Sg}(h:d s=some (.nx s1))(h2:r2 s1=true):zf9 r1 d r2 s=true:=by
 unfold zf9;rw[h];dsimp only;rw[h2,ND]
section
variable {wd:List Str}(g:GoodWord wd){Lc:T}{rows:List (List Nat)}(ep:zaz [.lst (wd.map T.str),Lc]=some (.lst (rows.map zaT)))
include g ep
theorem zpW{k a b:Nat}(hk:rows[k]?=some [a,b])(ha:a < 2*wd.length)(hb:b < 2*wd.length):∃ t,zat [.lst (wd.map T.str),Lc,.int (k:Int)]=some t/\zdq [.lst (wd.map T.str),.lst (rows.map zaT),.int (k:Int)]=some t/\((∃ l:List Str,t=.lst (l.map T.str)/\l.length<=60)∨t=.str "none"):=by
 have hlen:=g.len;have kl:=(j9.mp hk).1;have it:za3 (.lst (rows.map zaT)) (.int (k:Int))=some (.lst ([a,b].map nT)):=by rw[zeL,jf,hk]; rfl
 have i1:decide ((0:Int)<=(k:Int))=true:=Dt_ (by lia)
 have i2:decide ((k:Int) < (rows.length:Int))=true:=Dt_ (by lia)
 have i3:decide ((k:Int) < 0)=false:=Df_ (by lia)
 have i4:decide ((rows.length:Int)<=(k:Int))=false:=Df_ (by lia)
 have t1:zcx (dOr (zoS (dB (dCh gLe gLt (dC (.int 0)) (dV 2) (d1 zcm (dV 3))))) (dB (d2 gNe (d1 zcm (d2 za3 (dV 3) (dV 2))) (dC (.int 2))))) zfK zay [some (.lst (wd.map T.str)),some Lc,some (.int (k:Int)),some (.lst (rows.map zaT)),none]=some (.nx [some (.lst (wd.map T.str)),some Lc,some (.int (k:Int)),some (.lst (rows.map zaT)),none]):=by
  simp_all?[i1,i2,it]<;>rfl
 have mem:∀ w∈[a,b],w < 2*wd.length:=fun w hw=>by
  rcases ju.mp hw with rfl |hw
  ·exact ha
  ·rw[jm.mp hw]; exact hb
 have dv:∀ m:Nat,((m:Int) / 2)=((m / 2:Nat):Int):=fun m=>by lia
 have lc:=zdn (M:=[]) (caps:=[none,some 0]) (fi:=zcs (d2 za3 (dV 3) (dV 2))) (dg:=dGn 0) (fe:=d2 za3 (dV 1) (d2 zfe (zai zaY (dAc (d1 zcm (dV 1)) (dAc (dV 0) dAn))) (dC (.int 2)))) (s:=[some (.lst (wd.map T.str)),some Lc,some (.int (k:Int)),some (.lst (rows.map zaT)),none]) [a,b] nT (fun w=>.str (nmw wd w)) (by simp_all?[it]) (show 2<=1000000 by decide) (by
  intro w hw;have h:=mem w hw;have e1:=zjd (n:=wd.length) (by lia) h
  have e2:=zpp h
  exact⟨[some (.int (w:Int)),some (.lst (wd.map T.str))],rfl,by simp_all?[e1,dv,e2],rfl⟩)
 have g1:zaB 4 (dLC [] [none,some 0] (zcs (d2 za3 (dV 3) (dV 2))) (dGn 0) zg6 (d2 za3 (dV 1) (d2 zfe (zai zaY (dAc (d1 zcm (dV 1)) (dAc (dV 0) dAn))) (dC (.int 2))))) [some (.lst (wd.map T.str)),some Lc,some (.int (k:Int)),some (.lst (rows.map zaT)),none]=some (.nx [some (.lst (wd.map T.str)),some Lc,some (.int (k:Int)),some (.lst (rows.map zaT)),some (.lst ([nmw wd a,nmw wd b].map T.str))]):=by simp_all?[lc]<;>rfl
 have j0:za3 (.lst ([nmw wd a,nmw wd b].map T.str)) (.int 0)=some (.str (nmw wd a)):=rfl;have j1:za3 (.lst ([nmw wd a,nmw wd b].map T.str)) (.int 1)=some (.str (nmw wd b)):=rfl;have due:∀(t:T),((nmw wd a=nmw wd b/\t=.str "none")∨(nmw wd a≠nmw wd b/\t=.lst ((wd.filter fun y=>!decide (y∈[nmw wd a,nmw wd b])).map T.str)))->zdq [.lst (wd.map T.str),.lst (rows.map zaT),.int (k:Int)]=some t:=by
  intro t ht;refine zbS ?_;show Run zdW [some (.lst (wd.map T.str)),some (.lst (rows.map zaT)),some (.int (k:Int)),none,none] _;unfold zdW;refine za5 (s':=[some (.lst (wd.map T.str)),some (.lst (rows.map zaT)),some (.int (k:Int)),none,none]) (by simp_all?[i3,i4,it]<;>rfl) ?_
  refine za5 (s':=[some (.lst (wd.map T.str)),some (.lst (rows.map zaT)),some (.int (k:Int)),some (.lst (([]:List Str).map T.str)),none]) (by simp_all?[]<;>rfl) ?_
  refine zc0 (its:=[a,b].map nT) (fun j s=>∃ c,s=[some (.lst (wd.map T.str)),some (.lst (rows.map zaT)),some (.int (k:Int)),some (.lst ((([a,b].take j).map (nmw wd)).map T.str)),c]) (by simp_all?[it]<;>rfl) ⟨none,rfl⟩ ?_ ?_
  ·rintro j z s hz ⟨c,rfl⟩;rw[jf] at hz;obtain⟨w,hw,rfl⟩:=Qm hz;have hwl:=mem w (jJ hw);have e2:=zpp hwl;have pos:(0:Int) < (wd.length:Nat):=by lia
   have q:za3 (.lst (wd.map T.str)) (.int (((w:Int) / 2+1 - (w:Int)%2)%((wd.length:Nat):Int)))=some (.str (nmw wd w)):=by rw[zq8 hwl,zeL,e2]
   have tl:(([a,b].take j).map (nmw wd)).length<=1000000:=by rw[j5,Q7]; show min j 2<=_; lia
   refine⟨[some (.lst (wd.map T.str)),some (.lst (rows.map zaT)),some (.int (k:Int)),some (.lst ((([a,b].take j).map (nmw wd)).map T.str)),some (.int (w:Int))],rfl,?_⟩;refine zap (s':=[some (.lst (wd.map T.str)),some (.lst (rows.map zaT)),some (.int (k:Int)),some (.lst ((([a,b].take j).map (nmw wd)++[nmw wd w]).map T.str)),some (.int (w:Int))]) (by simp_all?[zwa pos,q,zpV _ tl]) ⟨some (.int (w:Int)),?_⟩
   rw[zeN hw,show ([a,b].take j++[w]).map (nmw wd)=([a,b].take j).map (nmw wd)++[nmw wd w] by rw[jy]; rfl]
  ·rintro s ⟨c,rfl⟩;show Run _ [some (.lst (wd.map T.str)),some (.lst (rows.map zaT)),some (.int (k:Int)),some (.lst ([nmw wd a,nmw wd b].map T.str)),c] _;rcases ht with ⟨hab,rfl⟩ |⟨hab,rfl⟩
   ·have d1:decide (nmw wd a=nmw wd b)=true:=Dt_ hab;exact zeX (t:=.str "none") (s':=[some (.lst (wd.map T.str)),some (.lst (rows.map zaT)),some (.int (k:Int)),some (.lst ([nmw wd a,nmw wd b].map T.str)),c]) (by simp_all?[j0,j1,d1]<;>rfl) ⟨_,rfl⟩
   ·have d1:decide (nmw wd a=nmw wd b)=false:=Df_ hab;refine za5 (s':=[some (.lst (wd.map T.str)),some (.lst (rows.map zaT)),some (.int (k:Int)),some (.lst ([nmw wd a,nmw wd b].map T.str)),c]) (by simp_all?[j0,j1,d1]<;>rfl) ?_
    have e:=zgD (M:=[3]) (caps:=[none,some 3]) (fi:=zcs (dV 0)) (dg:=dGn 0) (ft:=dB (d2 zaK (dV 0) (dV 1))) (fe:=dV 0) (s:=[some (.lst (wd.map T.str)),some (.lst (rows.map zaT)),some (.int (k:Int)),some (.lst ([nmw wd a,nmw wd b].map T.str)),c]) wd T.str (fun y=>!decide (y∈[nmw wd a,nmw wd b])) T.str (by simp_all?[]) (by lia) (by
     intro y hy
     exact⟨[some (.str y),some (.lst ([nmw wd a,nmw wd b].map T.str))],rfl,by simp_all?[zjA],fun _=>by simp_all?[],rfl⟩)
    exact zas (by simp_all?[e]<;>rfl) ⟨_,rfl⟩
 by_cases hab:nmw wd a=nmw wd b
 ·refine⟨.str "none",?_,due _ (.inl ⟨hab,rfl⟩),.inr rfl⟩;have d1:decide (nmw wd a=nmw wd b)=true:=Dt_ hab;have t2:dB (d2 gEq (d2 za3 (dV 4) (dC (.int 0))) (d2 za3 (dV 4) (dC (.int 1)))) [some (.lst (wd.map T.str)),some Lc,some (.int (k:Int)),some (.lst (rows.map zaT)),some (.lst ([nmw wd a,nmw wd b].map T.str))]=some (true,[some (.lst (wd.map T.str)),some Lc,some (.int (k:Int)),some (.lst (rows.map zaT)),some (.lst ([nmw wd a,nmw wd b].map T.str))]):=by simp_all?[j0,j1,d1]
  refine zeM ?_ ?_
  ·show zaD [some (.lst (wd.map T.str)),some Lc,some (.int (k:Int)),none,none]=none;unfold zaD;rw[zmp (zmd g ep _),zmp t1,zmp g1];unfold zaj zcx;rw[t2];rfl
  ·show zaZ [some (.lst (wd.map T.str)),some Lc,some (.int (k:Int)),none,none]=true;unfold zaZ;refine zjD (zmd g ep _) (zjD t1 (zjD g1 ?_));unfold zf9 zoT;rw[t2];rfl
 ·refine⟨.lst ((wd.filter fun y=>!decide (y∈[nmw wd a,nmw wd b])).map T.str),?_,due _ (.inr ⟨hab,rfl⟩),.inl ⟨_,rfl,Q9 (Zf _ _) hlen⟩⟩;have d1:decide (nmw wd a=nmw wd b)=false:=Df_ hab;have w2:=zjy (wd:=wd) (by lia) [nmw wd a,nmw wd b]
  have h:zbR [.lst (wd.map T.str),Lc,.int (k:Int)]=some (.lst ((wd.filter fun y=>!decide (y∈[nmw wd a,nmw wd b])).map T.str)):=by
   refine zgK ?_;show Run zaD [some (.lst (wd.map T.str)),some Lc,some (.int (k:Int)),none,none] _;unfold zaD;refine za5 (zmd g ep _) (za5 t1 (za5 g1 ?_));refine za5 (s':=[some (.lst (wd.map T.str)),some Lc,some (.int (k:Int)),some (.lst (rows.map zaT)),some (.lst ([nmw wd a,nmw wd b].map T.str))]) (by simp_all?[j0,j1,d1]<;>rfl) ?_
   have fe:=ztA (fe:=zai zcF (dAc (dV 0) (dAc (dV 4) dAn))) (s:=[some (.lst (wd.map T.str)),some Lc,some (.int (k:Int)),some (.lst (rows.map zaT)),some (.lst ([nmw wd a,nmw wd b].map T.str))]) (s':=[some (.lst (wd.map T.str)),some Lc,some (.int (k:Int)),some (.lst (rows.map zaT)),some (.lst ([nmw wd a,nmw wd b].map T.str))]) (l:=wd.filter fun y=>!decide (y∈[nmw wd a,nmw wd b])) (by simp_all?[w2])
   exact zas (r:=.rt (.lst ((wd.filter fun y=>!decide (y∈[nmw wd a,nmw wd b])).map T.str)) [some (.lst (wd.map T.str)),some Lc,some (.int (k:Int)),some (.lst (rows.map zaT)),some (.lst ([nmw wd a,nmw wd b].map T.str))]) (by unfold zan; rw[fe]; rfl) ⟨_,rfl⟩
  unfold zat;rw[h]
theorem zpZ(z:Int)(hrows:∀ r∈rows,∀ w∈r,w < 2*wd.length):∃ t,zat [.lst (wd.map T.str),Lc,.int z]=some t/\zdq [.lst (wd.map T.str),.lst (rows.map zaT),.int z]=some t/\((∃ l:List Str,t=.lst (l.map T.str)/\l.length<=60)∨t=.str "none"):=by
 by_cases hz:0<=z/\z < rows.length
 ·obtain⟨k,rfl⟩:=Int.eq_ofNat_of_zero_le hz.1;have kl:k < rows.length:=by lia
  have hk:=j3 kl;generalize rows[k]=r at hk
  by_cases hr:r.length=2
  ·match r,hr,hk with
   |[a,b],_,hk=>
    have hm:=hrows _ (jJ hk);exact zpW g ep hk (hm a (by simp)) (hm b (by simp))
  ·obtain⟨h1,h2⟩:=zpY g ep hk hr;exact⟨_,h1,h2,.inr rfl⟩
 ·obtain⟨h1,h2⟩:=zpX g ep hz;exact⟨_,h1,h2,.inr rfl⟩
end
theorem zq9:∀ {L:List Nat} {lo s:Nat},L.Pairwise (fun x y=>x < y)->(∀ x∈L,lo<=x/\x < s)->lo<=s->L.length+lo<=s:=by
 intro L
 induction L with
 |nil=>intro lo s _ _ h; simpa using h
 |cons a l ih=>
  intro lo s hp h hs;obtain⟨h1,h2⟩:=List.pairwise_cons.mp hp;have ha:=h a (jX ..);have:=ih (lo:=a+1) h2 (fun x hx=>⟨h1 x hx,(h x (jw _ hx)).2⟩) ha.2;rw[jp];lia
theorem Pt.len{wd:List Str}{hd:Str->Bool}{rows:List (List Nat)}(h:Pt wd hd rows)(hl:wd.length<=60):rows.length<=122:=by
 rcases h with ⟨_,rfl⟩ |⟨_,L,ht,hR⟩
 ·decide
 ·have:=zq9 (lo:=0) hR.srt (fun x hx=>⟨Z8 _,hR.lt x hx⟩) (Z8 _);rw[hR.len];lia
theorem zn7(wd:List Str)(cs:List (Str × List Nat)):gNe (.lst [.lst (wd.map T.str),.lst (cs.map crT)]) (.lst [.lst (wd.map T.str),.lst (cs.map crT)])=some (.bl false):=by
 have h:=znz wd cs;obtain⟨b,h1,h2⟩:=Qm (show (eqD 8 _ _).map T.bl=some (.bl true) from h);obtain rfl:b=true:=by injection h2
 show (eqD 8 _ _).map (fun b=>T.bl (!b))=_;rw[h1]; rfl
theorem zmo(ns:List Int):∃(wd:List Str) (t:T),GoodWord wd/\zey [.scr ns]=some (.tup [.lst (wd.map T.str),t])/\((∃ hd:Str->Bool,t=.lst ((zb5 wd hd).map crT))∨t=.non):=by
 have c0:zaL [.scr ns,.int 0]=some (.int (ns.getD 0 0)):=zig ns 0;have c1:zaL [.scr ns,.int 1]=some (.int (ns.getD 1 0)):=zig ns 1;have c2:zaL [.scr ns,.int 2]=some (.int (ns.getD 2 0)):=zig ns 2;have c3:zaL [.scr ns,.int 3]=some (.int (ns.getD 3 0)):=zig ns 3;generalize ns.getD 0 0=v0 at c0;generalize ns.getD 1 0=v1 at c1;generalize ns.getD 2 0=v2 at c2;generalize ns.getD 3 0=v3 at c3
 obtain⟨t,e,wd,u,gw,rfl,ht⟩:=zc3 (n:=4) (d:=zd8) (ts:=[.scr ns]) (Q:=fun t=>∃(wd:List Str) (u:T),GoodWord wd/\t=.tup [.lst (wd.map T.str),u]/\((∃ hd:Str->Bool,u=.lst ((zb5 wd hd).map crT))∨u=.non)) (by
  show Run zd8 [some (.scr ns),none,none,none] _;unfold zd8;refine za5 (s':=[some (.scr ns),some (.int (v1%13)),none,none]) (by simp_all?[c1]) ?_
  refine zgl (fun s=>∃ m:Nat,m<=30/\s=[some (.scr ns),some (.int (m:Int)),none,none]) ?_ ?_
  ·by_cases h:v1 / 13%8=5
   ·refine zas (r:=.nx [some (.scr ns),some (.int (((13+v1 / 104%18).toNat:Nat):Int)),none,none]) ?_ ⟨_,by lia,rfl⟩
    rw[Ye (by lia)]
    simp_all?[c1,Dt_ h]
   ·refine zas (r:=.nx [some (.scr ns),some (.int (((v1%13).toNat:Nat):Int)),none,none]) ?_ ⟨_,by lia,rfl⟩
    rw[Ye (by lia)]
    simp_all?[c1,Df_ h]<;>rfl
  rintro s ⟨m,hm,rfl⟩;obtain⟨names,en,nl,nd,nN⟩:=zn8 v0 hm;obtain⟨wd,ew,gw,_⟩:=znZ v2 (names:=names) (by lia) nd nN
  obtain⟨b,eb,hb⟩:=zku v3;obtain⟨y,hy,hd⟩:=zj2 gw hb;refine za5 (s':=[some (.scr ns),some (.int (m:Int)),some (.lst (names.map T.str)),none]) (by simp_all?[c0,en]) ?_
  refine za5 (s':=[some (.scr ns),some (.int (m:Int)),some (.lst (names.map T.str)),some (.lst (wd.map T.str))]) (by simp_all?[c2,ew]) ?_
  rcases hd with ⟨hd,ed⟩ |ed
  ·exact zas (by simp_all?[c3,eb,ed]<;>rfl) ⟨_,_,rfl,wd,_,gw,rfl,.inl ⟨hd,rfl⟩⟩
  ·exact zas (by simp_all?[c3,eb,ed]<;>rfl) ⟨_,_,rfl,wd,_,gw,rfl,.inr rfl⟩)
 exact⟨wd,u,gw,e,ht⟩
theorem ztd(ns:List Int):ztw [.scr ns]=some (.bl true):=by
 obtain⟨wd,u,gw,es,hu⟩:=zmo ns;have hlen:=gw.len;refine zbS ?_;show Run zoQ [some (.scr ns),none,none,none,none,none,none,none] _;unfold zoQ;refine za5 (s':=[some (.scr ns),some (.lst (wd.map T.str)),some u,none,none,none,none,none]) (by simp_all?[es]<;>rfl) ?_
 rcases hu with ⟨hd,rfl⟩ |rfl
 ·have ck:=zrq gw hd;obtain⟨rows,ep,hP⟩:=zlF ck;have hrl:=hP.len hlen;have hrows:∀ r∈rows,∀ w∈r,w < 2*wd.length:=fun r hr w hw=>zqi gw.two hP hr hw;have cl:(zb5 wd hd).length<=100:=by
   unfold zb5;rw[j5];have:=(zi3 gw).len;lia
  refine za5 (s':=[some (.scr ns),some (.lst (wd.map T.str)),some (.lst ((zb5 wd hd).map crT)),none,none,none,none,none]) rfl ?_;refine za5 (s':=[some (.scr ns),some (.lst (wd.map T.str)),some (.lst ((zb5 wd hd).map crT)),some (.lst (rows.map zaT)),none,none,none,none]) (by simp_all?[ep]) ?_
  have r1:zfP (-2)=true:=zdf (by lia) (by lia)
  have r2:zfP (((rows.length:Nat):Int)+3)=true:=zdf (by lia) (by lia)
  have ng:zl5 (.int 2)=some (.int (-2)):=rfl;refine zc0 (its:=zaN (-2) (((rows.length:Nat):Int)+3 - -2).toNat) (fun j s=>∃ a4 a5 a6 a7:Option T,s=[some (.scr ns),some (.lst (wd.map T.str)),some (.lst ((zb5 wd hd).map crT)),some (.lst (rows.map zaT)),a4,a5,a6,a7]) (by simp_all?[ng,r1,r2,and_self]) ⟨none,none,none,none,rfl⟩ ?_ ?_
  ·rintro j zt s hz ⟨a4,a5,a6,a7,rfl⟩;obtain⟨z,rfl⟩:∃ z:Int,zt=.int z:=by
    unfold zaN at hz;rw[jf] at hz;obtain⟨i,_,rfl⟩:=Qm hz;exact⟨_,rfl⟩
   refine⟨[some (.scr ns),some (.lst (wd.map T.str)),some (.lst ((zb5 wd hd).map crT)),some (.lst (rows.map zaT)),some (.int z),a5,a6,a7],rfl,?_⟩;have ll:∀ l:List T,zd5 (.lst l)=some (.lst l):=fun _=>rfl
   have lc:=zdn (M:=[]) (caps:=[none,none]) (fi:=zcs (dV 2)) (dg:=dGt [0,1]) (fe:=zlg (dAc (dV 0) (dAc (d1 zd5 (dV 1)) dAn))) (s:=[some (.scr ns),some (.lst (wd.map T.str)),some (.lst ((zb5 wd hd).map crT)),some (.lst (rows.map zaT)),some (.int z),a5,a6,a7]) (zb5 wd hd) crT crT (by simp_all?[]) (by lia) (by
    intro c hc
    exact⟨[some (.str c.1),some (.lst (c.2.map nT))],rfl,by simp_all?[ll]<;>rfl,rfl⟩)
   refine za5 (s':=[some (.scr ns),some (.lst (wd.map T.str)),some (.lst ((zb5 wd hd).map crT)),some (.lst (rows.map zaT)),some (.int z),some (.lst [.lst (wd.map T.str),.lst ((zb5 wd hd).map crT)]),a6,a7]) (by simp_all?[ll,lc]) ?_
   obtain⟨tu,eu,ed,htu⟩:=zpZ gw ep z hrows;have nu:=(zqV (t:=tu) (htu.imp (fun⟨l,e,_⟩=>⟨l,e⟩) id)).1;have nh:=zn7 wd (zb5 wd hd);have p0:za3 (.lst [.lst (wd.map T.str),.lst ((zb5 wd hd).map crT)]) (.int 0)=some (.lst (wd.map T.str)):=rfl;have p1:za3 (.lst [.lst (wd.map T.str),.lst ((zb5 wd hd).map crT)]) (.int 1)=some (.lst ((zb5 wd hd).map crT)):=rfl;have fm:∀ s:Sg,zm2 [] s:=fun s i hi=>by cases hi
   refine zfG (its:=zaN 0 2) (fun i s=>∃ a6 a7:Option T,s=[some (.scr ns),some (.lst (wd.map T.str)),some (.lst ((zb5 wd hd).map crT)),some (.lst (rows.map zaT)),some (.int z),some (.lst [.lst (wd.map T.str),.lst ((zb5 wd hd).map crT)]),a6,a7]) rfl ⟨_,_,rfl⟩ ?_ (fun s' ⟨a6,a7,e⟩=>⟨_,_,_,_,e⟩);rintro i iz s hiz ⟨a6,a7,rfl⟩;refine⟨[some (.scr ns),some (.lst (wd.map T.str)),some (.lst ((zb5 wd hd).map crT)),some (.lst (rows.map zaT)),some (.int z),some (.lst [.lst (wd.map T.str),.lst ((zb5 wd hd).map crT)]),some iz,a7],rfl,?_⟩;refine zmv (s1:=[some (.scr ns),some (.lst (wd.map T.str)),some (.lst ((zb5 wd hd).map crT)),some (.lst (rows.map zaT)),some (.int z),some (.lst [.lst (wd.map T.str),.lst ((zb5 wd hd).map crT)]),some iz,a7]) (ts:=[.lst (wd.map T.str),.lst ((zb5 wd hd).map crT),.int z]) (by simp_all?[p0,p1]) eu (show 7 < 8 by decide) ?_
   show Run _ [some (.scr ns),some (.lst (wd.map T.str)),some (.lst ((zb5 wd hd).map crT)),some (.lst (rows.map zaT)),some (.int z),some (.lst [.lst (wd.map T.str),.lst ((zb5 wd hd).map crT)]),some iz,some tu] _;refine zgl (fun s=>s=[some (.scr ns),some (.lst (wd.map T.str)),some (.lst ((zb5 wd hd).map crT)),some (.lst (rows.map zaT)),some (.int z),some (.lst [.lst (wd.map T.str),.lst ((zb5 wd hd).map crT)]),some iz,some tu]) (zkI (by simp_all?[ed,nu,nh]<;>rfl) (fm _) (zas (r:=.nx _) rfl rfl)) ?_
   rintro s rfl;rcases htu with ⟨l,rfl,hl⟩ |rfl
   ·refine zo8 (by simp_all?[]<;>rfl) (fm _) (zas (r:=.nx [some (.scr ns),some (.lst (wd.map T.str)),some (.lst ((zb5 wd hd).map crT)),some (.lst (rows.map zaT)),some (.int z),some (.lst [.lst (wd.map T.str),.lst ((zb5 wd hd).map crT)]),some iz,some T.any]) ?_ ⟨_,rfl,⟨_,_,rfl⟩⟩)
    unfold zro;rw[show dC (.str "z") [some (.scr ns),some (.lst (wd.map T.str)),some (.lst ((zb5 wd hd).map crT)),some (.lst (rows.map zaT)),some (.int z),some (.lst [.lst (wd.map T.str),.lst ((zb5 wd hd).map crT)]),some iz,some (.lst (l.map T.str))]=some (.str "z",[some (.scr ns),some (.lst (wd.map T.str)),some (.lst ((zb5 wd hd).map crT)),some (.lst (rows.map zaT)),some (.int z),some (.lst [.lst (wd.map T.str),.lst ((zb5 wd hd).map crT)]),some iz,some (.lst (l.map T.str))]) from rfl,j7];rw[Ip_ ⟨rfl,fm _,_,rfl,by rw[j5]; lia⟩]
    rfl
   ·exact zkI (by simp_all?[]<;>rfl) (fm _) (zas (r:=.nx _) rfl ⟨_,rfl,⟨_,_,rfl⟩⟩)
  ·rintro s ⟨a4,a5,a6,a7,rfl⟩;exact zb7 (s':=[some (.scr ns),some (.lst (wd.map T.str)),some (.lst ((zb5 wd hd).map crT)),some (.lst (rows.map zaT)),a4,a5,a6,a7]) (by simp_all?[]<;>rfl) rfl
 ·exact zeX (t:=.bl true) (s':=[some (.scr ns),some (.lst (wd.map T.str)),some .non,none,none,none,none,none]) rfl ⟨_,rfl⟩
end Dw
namespace Dw
open PySem PySem.Spec PyProof.Rows L2 L3
set_option maxHeartbeats 1000000 in
theorem ztS{l:Y6}{w:Qa}{K:j8}{h:Qs}{mg:Str->Option j6}{fa:ji}(X:K.In h)(G:h.Ns jC mg)(hfa:mg "law"=some (.ref fa)){kNoMove kDrawError kNoRow kNotDrawn kNoText kNoWord:ji}
  (a1:Fd K "_law_names" zgj)
  (a2:Fd K "_law_draw" zhC)
  (a3:Fd K "_law_built_word" zcQ)
  (a4:Fd K "_law_any_word" zdL)
  (a5:Fd K "_law_bag" zjF)
  (a6:Fd K "_law_word" zhB)
  (a7:Fd K "_law_cell" zhD)
  (a8:Fd K "names_of" zdK)
  (a9:Fd K "odd_name" zdJ)
  (a10:Fd K "evenly_shared" zbK)
  (a11:Fd K "odd_pair" zdI)
  (a12:Fd K "found_from" zcN)
  (a13:Fd K "side_beside" zcj)
  (a14:Fd K "sides_along" zci)
  (a15:Fd K "wrong_step" zcM)
  (a16:Fd K "way_back" zdH)
  (a17:Fd K "ring_through" zbX)
  (a18:Fd K "sides_or_ring" zbJ)
  (a19:Fd K "standings" zdd)
  (a20:Fd K "between" zeq)
  (a21:Fd K "crossed_with" zbZ)
  (a22:Fd K "looked" zfi)
  (a23:Fd K "ends_by_side" zbY)
  (a24:Fd K "drawing" zde)
  (a25:Fd K "_law_drawing" zes)
  (a26:Fd K "_law_set_up" zfk)
  (a27:Fd K "ends_ahead" zcO)
  (a28:Fd K "rounds" zfh)
  (a29:Fd K "walker_by" zdb)
  (a30:Fd K "end_of" zfj)
  (a31:Fd K "patches" zep)
  (a32:Fd K "without" zeo)
  (a33:Fd K "unpoked" zdc)
  (a34:Fd K "_law_is_no_move" zcP)
  (a35:Fd K "_law_unpoked" zer)
  (a36:Fd K "_law_due" zjE)
  (a37:Fd K "law" zqd)
  (z1:jV K jC "range"=some none)
  (z2:jV K jC "len"=some none)
  (z3:jV K jC "list"=some none)
  (z4:jV K jC "max"=some none)
  (z5:jV K jC "set"=some none)
  (z6:jV K jC "enumerate"=some none)
  (z7:jV K jC "zip"=some none)
  (z8:jV K jC "isinstance"=some none)
  (z9:jV K jC "ValueError"=some none)
  (xNoMove:jV K jC "NoMove"=some (some (.ref kNoMove)))
  (xDrawError:jV K jC "DrawError"=some (some (.ref kDrawError)))
  (xNoRow:jV K jC "NoRow"=some (some (.ref kNoRow)))
  (xNotDrawn:jV K jC "NotDrawn"=some (some (.ref kNotDrawn)))
  (xNoText:jV K jC "NoText"=some (some (.ref kNoText)))
  (xNoWord:jV K jC "NoWord"=some (some (.ref kNoWord)))
  (xAll:L3.zvw K kNoMove kDrawError kNoRow kNotDrawn kNoText kNoWord=true)
  (xnd:∀ h:Qs,K.In h->∃ bm,L2.XClsI K h kNotDrawn kDrawError bm)
  : ∃ fd:QN,(∀(s:ja) (v:j6),Nm s fd ⟨[v],[]⟩ [("_law_script",v)])/\∀ base:Qs,K.In base->base.Ns jC mg->FnOk l.prog w K mg base CX0 9 fa fd ["_law_script"] (L3.zlx K):=by
 have m_range:=Qt X G z1;have m_len:=Qt X G z2;have m_list:=Qt X G z3;have m_max:=Qt X G z4;have m_set:=Qt X G z5;have m_enumerate:=Qt X G z6;have m_zip:=Qt X G z7;have m_isinstance:=Qt X G z8;have m_ValueError:=Qt X G z9;refine zoC (M':=[]) (Mb:=[]) X G hfa a37 zpb (fun _ _ _ _ _ _ _=>rfl) (by decide) ztd fun base KB GB=>?_
 letI:TheK:=⟨K⟩
 let v:Ev:=⟨l.prog,w,mg,base⟩
 let a:Ax:=⟨kNoMove,kDrawError,kNoRow,kNotDrawn,kNoText,kNoWord⟩
 have mv:Mw v a:=L3.zvv KB GB xNoMove xDrawError xNoRow xNotDrawn xNoText xNoWord xAll;have nd:Nd v a:=xnd base KB;have kY:=a1.here X G (ps:=["_law_cell_here","_law_many"]) (bd2 fun _ _ _ _ _ _ _ _=>rfl);have pB:=a2.here X G (ps:=["_law_bag_here","_law_many"]) (bd2 fun _ _ _ _ _ _ _ _=>rfl);have kc:=a3.here X G (ps:=["_law_bag_here","_law_names_here"]) (bd2 fun _ _ _ _ _ _ _ _=>rfl);have kW:=a4.here X G (ps:=["_law_bag_here","_law_names_here"]) (bd2 fun _ _ _ _ _ _ _ _=>rfl);have kr:=a5.here X G (ps:=["_law_cell_here"]) (bd1 fun _ _ _ _ _ _ _=>rfl);have mR:=a6.here X G (ps:=["_law_cell_here","_law_names_here"]) (bd2 fun _ _ _ _ _ _ _ _=>rfl);have pX:=a7.here X G (ps:=["_law_script","_law_k"]) (bd2 fun _ _ _ _ _ _ _ _=>rfl);have kL:=a8.here X G (ps:=["word"]) (bd1 fun _ _ _ _ _ _ _=>rfl);have mH:=a9.here X G (ps:=["mates"]) (bd1 fun _ _ _ _ _ _ _=>rfl);have mq:=a10.here X G (ps:=["mates","one","other"]) (bd3 fun _ _ _ _ _ _ _ _ _=>rfl);have mo:=a11.here X G (ps:=["mates"]) (bd1 fun _ _ _ _ _ _ _=>rfl);have kq:=a12.here X G (ps:=["mates"]) (bd1 fun _ _ _ _ _ _ _=>rfl);have ma:=a13.here X G (ps:=["mates","sides","name","mate"]) (bd4 fun _ _ _ _ _ _ _ _ _ _=>rfl);have kH:=a14.here X G (ps:=["mates","origins"]) (bd2 fun _ _ _ _ _ _ _ _=>rfl);have kM:=a15.here X G (ps:=["mates","sides"]) (bd2 fun _ _ _ _ _ _ _ _=>rfl);have kE:=a16.here X G (ps:=["origins","name"]) (bd2 fun _ _ _ _ _ _ _ _=>rfl);have mM:=a17.here X G (ps:=["origins","one","other"]) (bd3 fun _ _ _ _ _ _ _ _ _=>rfl);have mr:=a18.here X G (ps:=["mates"]) (bd1 fun _ _ _ _ _ _ _=>rfl);have mh:=a19.here X G (ps:=["word","name"]) (bd2 fun _ _ _ _ _ _ _ _=>rfl);have kd:=a20.here X G (ps:=["word","name"]) (bd2 fun _ _ _ _ _ _ _ _=>rfl);have mP:=a21.here X G (ps:=["word","name"]) (bd2 fun _ _ _ _ _ _ _ _=>rfl);have pT:=a22.here X G (ps:=["word"]) (bd1 fun _ _ _ _ _ _ _=>rfl);have kC:=a23.here X G (ps:=["word","name","side"]) (bd3 fun _ _ _ _ _ _ _ _ _=>rfl);have pO:=a24.here X G (ps:=["word"]) (bd1 fun _ _ _ _ _ _ _=>rfl);have p7:=a25.here X G (ps:=["_law_bag_here","_law_word_here"]) (bd2 fun _ _ _ _ _ _ _ _=>rfl);have kj:=a26.here X G (ps:=["_law_script"]) (bd1 fun _ _ _ _ _ _ _=>rfl);have mS:=a27.here X G (ps:=["crossings"]) (bd1 fun _ _ _ _ _ _ _=>rfl);have pZ:=a28.here X G (ps:=["after"]) (bd1 fun _ _ _ _ _ _ _=>rfl);have mX:=a29.here X G (ps:=["size","end"]) (bd2 fun _ _ _ _ _ _ _ _=>rfl);have kN:=a30.here X G (ps:=["size","walker"]) (bd2 fun _ _ _ _ _ _ _ _=>rfl);have kX:=a31.here X G (ps:=["word","crossings"]) (bd2 fun _ _ _ _ _ _ _ _=>rfl);have p8:=a32.here X G (ps:=["word","gone"]) (bd2 fun _ _ _ _ _ _ _ _=>rfl);have pK:=a33.here X G (ps:=["word","crossings","patch"]) (bd3 fun _ _ _ _ _ _ _ _ _=>rfl);have pE:=a34.here X G (ps:=["_law_e"]) (bd1 fun _ _ _ _ _ _ _=>rfl);have me:=a35.here X G (ps:=["_law_word_here","_law_lines","_law_patch"]) (bd3 fun _ _ _ _ _ _ _ _ _=>rfl);have pY:=a36.here X G (ps:=["_law_word_here","_law_some","_law_patch"]) (bd3 fun _ _ _ _ _ _ _ _ _=>rfl);have kz:zgU v 1:=zlH kY m_range m_len;have ph:zfc v 1:=zn4 pB;have mV:zcV v 2:=zgy kc ph.up m_list m_len m_max;have kI:ze2 v 2:=zhX kW ph.up m_list m_range m_len;have pR:zik v 1:=zoA kr;have mz:zii v 3:=zn3 mR kI.up pR.up mV.up;have mU:zij v 1:=zn5 pX m_len;have px:zbv v 1:=zhW kL m_list;have pV:ze1 v 1:=zhV mH m_len;have pP:zb6 v 1:=zf3 mq m_len m_set;have m8:ze0 v 2:=zhU mo pP.up;have mE:zcT v 1:=zgw kq;have pL:zbE v 2:=zfR ma pP.up;have m6:zct v 3:=zfQ kH pL.up;have mG:zcS v 3:=zgv kM pL.up;have km:zdZ v 1:=zhT kE;have hU:zc4 v 2:=zfm mM km.up m_len;have kQ:zbN v 4:=zf2 mr mE.up m6.up mG.up hU.up;have pQ:zcc v 1:=zh5 mh m_enumerate;have mJ:zeE v 2:=ziY kd pQ.up;have pN:zbn v 3:=zfo mP mJ.up px.up;have pM:zed v 5:=zjU pT px.up pN.up pV.up m8.up kQ.up;have hJ:zc5 v 2:=zfn kC pQ.up;have kZ:zeD v 6:=ziX pO pM.up px.up hJ.up m_zip;have pW:zeA v a 6:=zi0 pO pM.up mv nd;have mI:zeG v 7:=ziZ p7 kZ.up px.up ph.up pN.up pW.up m_len m_list mv nd;have k9:zfz v 8:=zjW kj mU.up kz.up mz.up mI.up pR.up;have hG:zcU v 1:=zgx mS m_enumerate;have m9:zfy v 1:=zjT pZ m_set m_range m_len;have mO:zdx v 1:=zh4 mX;have pC:zda v 1:=zjV kN;have pF:zcu v 2:=ziW kX hG.up m9.up mO.up pC.up m_len m_range;have ki:zeB v 1:=ziU p8;have kA:zeC v 3:=ziV pK pF.up pC.up ki.up m_len;have mB:zez v a 3:=zhZ pK pF.up pC.up m_len mv;have mw:zcR v a 1:=zfS pE m_isinstance m_ValueError mv;have mj:zeF v 4:=zhY me kA.up mB.up mw.up mv;have mF:zkx v 1:=zoz pY m_len;exact zw0 (v:=v) k9.up pF.up mj.up mF.up m_range m_len m_list m_isinstance
end Dw
namespace PySem.W.Fast
theorem tw10426103948666979591:True:=⟨⟩
theorem tw3185610793195117334:True:=⟨⟩
theorem tw17210951591590222267:True:=⟨⟩
theorem tw7748772498115139843:True:=⟨⟩
theorem tw8038742099336206706:True:=⟨⟩
theorem tw15099140695664222957:True:=⟨⟩
theorem tw4936722942859596812:True:=⟨⟩
theorem tw11466585025857217787:True:=⟨⟩
theorem tw6145680876320163079:True:=⟨⟩
theorem tw912340931723006330:True:=⟨⟩
theorem tw12554373552713776483:True:=⟨⟩
theorem tw17631089776770702634:True:=⟨⟩
theorem tw6634739260421038296:True:=⟨⟩
theorem tw8252270905616218822:True:=⟨⟩
theorem tw206866427463457798:True:=⟨⟩
theorem tw13942654541811671890:True:=⟨⟩
theorem tw16644069899759860543:True:=⟨⟩
theorem tw124409418200348482:True:=⟨⟩
theorem tw7148712319573981052:True:=⟨⟩
theorem tw10453641333556175666:True:=⟨⟩
theorem tw8086872780204106271:True:=⟨⟩
theorem tw5658979063632817428:True:=⟨⟩
theorem tw6342000488484999959:True:=⟨⟩
theorem tw15322243319799755490:True:=⟨⟩
theorem tw7593186452892832919:True:=⟨⟩
theorem tw11934471820565303572:True:=⟨⟩
theorem tw1608769606040848860:True:=⟨⟩
theorem tw3814240837336125971:True:=⟨⟩
theorem tw15369855690989895425:True:=⟨⟩
theorem tw18138847277548603154:True:=⟨⟩
theorem tw10537920071560549020:True:=⟨⟩
theorem tw3095089350730302776:True:=⟨⟩
theorem tw8205327298848542000:True:=⟨⟩
theorem tw5624601095697344931:True:=⟨⟩
theorem tw16018867686859048057:True:=⟨⟩
theorem tw15516406375695386555:True:=⟨⟩
theorem tw14983946588114301729:True:=⟨⟩
theorem tw11886008232071896695:True:=⟨⟩
theorem tw14551349982151029744:True:=⟨⟩
theorem tw13599505910647441884:True:=⟨⟩
theorem tw17282172065819530144:True:=⟨⟩
theorem tw17748759285807622453:True:=⟨⟩
theorem tw285962324024574937:True:=⟨⟩
theorem tw468935410615913812:True:=⟨⟩
theorem tw11885264651149301524:True:=⟨⟩
theorem tw11153563938986163200:True:=⟨⟩
theorem tw10233353527998004375:True:=⟨⟩
theorem tw1128476320134217994:True:=⟨⟩
theorem tw9273024396502962772:True:=⟨⟩
theorem tw14699323271663708437:True:=⟨⟩
theorem tw2554731067215663915:True:=⟨⟩
theorem tw10366190730855734498:True:=⟨⟩
theorem tw6012361881323600069:True:=⟨⟩
theorem tw7925944357108137828:True:=⟨⟩
theorem tw10921825783664906665:True:=⟨⟩
theorem tw12427223762521592248:True:=⟨⟩
theorem tw8829469975911270908:True:=⟨⟩
theorem tw6270368440762266672:True:=⟨⟩
theorem tw3054898919209587591:True:=⟨⟩
theorem tw3605679439562832657:True:=⟨⟩
theorem tw6174239649357590711:True:=⟨⟩
theorem tw945817320572339514:True:=⟨⟩
theorem tw14023169732786696877:True:=⟨⟩
theorem tw2561576197373015032:True:=⟨⟩
theorem tw17754718466401451099:True:=⟨⟩
theorem tw15706310696611308162:True:=⟨⟩
theorem tw6962935421307227287:True:=⟨⟩
theorem tw17763324661985816344:True:=⟨⟩
theorem tw10175949100842604997:True:=⟨⟩
theorem tw10900471541317911709:True:=⟨⟩
theorem tw11023553398743186166:True:=⟨⟩
end PySem.W.Fast
open PySem PySem.W PyProof.Rows
set_option maxRecDepth 100000 in
set_option maxHeartbeats 0 in
theorem PySem.Challenge.cw_drawnword_k37_pairs_taken_out_holds : PySem.Challenge.rw_drawnword_k37_pairs_taken_out.Holds := by
 w_on; o_law; k_head; (case hw=>w_witness2)
 k_fill
 refine L3.zuf (l:=PySem.Challenge.rw_drawnword_k37_pairs_taken_out) (x:="_law_script") (k:=9) rfl rfl (by decide) (fun w h Y=>PySem.W.kIn_of Y) ?F
 case F=>
  intro w mg fa h KX G hmg
  refine' Dw.ztS KX G hmg (.mk ?_ ?_ ?_ ?_) (.mk ?_ ?_ ?_ ?_) (.mk ?_ ?_ ?_ ?_) (.mk ?_ ?_ ?_ ?_) (.mk ?_ ?_ ?_ ?_) (.mk ?_ ?_ ?_ ?_) (.mk ?_ ?_ ?_ ?_) (.mk ?_ ?_ ?_ ?_) (.mk ?_ ?_ ?_ ?_) (.mk ?_ ?_ ?_ ?_) (.mk ?_ ?_ ?_ ?_) (.mk ?_ ?_ ?_ ?_) (.mk ?_ ?_ ?_ ?_) (.mk ?_ ?_ ?_ ?_) (.mk ?_ ?_ ?_ ?_) (.mk ?_ ?_ ?_ ?_) (.mk ?_ ?_ ?_ ?_) (.mk ?_ ?_ ?_ ?_) (.mk ?_ ?_ ?_ ?_) (.mk ?_ ?_ ?_ ?_) (.mk ?_ ?_ ?_ ?_) (.mk ?_ ?_ ?_ ?_) (.mk ?_ ?_ ?_ ?_) (.mk ?_ ?_ ?_ ?_) (.mk ?_ ?_ ?_ ?_) (.mk ?_ ?_ ?_ ?_) (.mk ?_ ?_ ?_ ?_) (.mk ?_ ?_ ?_ ?_) (.mk ?_ ?_ ?_ ?_) (.mk ?_ ?_ ?_ ?_) (.mk ?_ ?_ ?_ ?_) (.mk ?_ ?_ ?_ ?_) (.mk ?_ ?_ ?_ ?_) (.mk ?_ ?_ ?_ ?_) (.mk ?_ ?_ ?_ ?_) (.mk ?_ ?_ ?_ ?_) (.mk ?_ ?_ ?_ ?_) ?_ ?_ ?_ ?_ ?_ ?_ ?_ ?_ ?_ ?xNoMove ?xDrawError ?xNoRow ?xNotDrawn ?xNoText ?xNoWord ?xAll ?xnd
  (case xNoMove=>k_is)
  (case xDrawError=>k_is)
  (case xNoRow=>k_is)
  (case xNotDrawn=>k_is)
  (case xNoText=>k_is)
  (case xNoWord=>k_is)
  (case xAll=>kernel_rfl)
  case xnd=>
   intro h KX
   refine' ⟨_,L3.znY KX ?xl ?xi ?xn ?xt ?lk ?hcd ?S ?l1 ?l2 ?d1 ?d2 ?hb ?c1 ?c2 ?c3 ?c4 ?c5⟩
   (case xl=>k_is)
   (case xi=>k_is)
   (case xn=>kernel_rfl)
   (case xt=>kernel_rfl)
   (case lk=>k_is)
   (case hcd=>k_is)
   (case S=>exact⟨rfl,rfl,rfl,by decide +kernel,rfl,by decide +kernel,by decide +kernel⟩)
   (case l1=>rfl)
   (case l2=>rfl)
   (case d1=>decide)
   (case d2=>decide)
   (case hb=>exact fun us hl=>match us,hl with |[_,_],_=>rfl)
   (case c1=>k_is)
   (case c2=>rfl)
   (case c3=>rfl)
   (case c4=>k_is)
   (case c5=>k_is)
  all_goals try k_is
