import PyProof.Rows.All
import Wide.All
import OpenK.AllK
import Wide.FinOn
import Lean
import PyProof.EqAt
import PyProof.EqKinds
import PyProof.TupleCall
import PyProof.EnumMake
import PyProof.EnumFor
import PyProof.NeKinds
import PyProof.EnumStmt
import PyProof.DictCompW
import KE.KDictList
import KE.KRevSl
import PyProof.ListRange
import PyProof.ConsumeWalk
import PyProof.SumWalk
import PyProof.MinMaxWalk
import PyProof.DictWalks
import PyProof.StrWalks
import PyProof.Rows.SortStr
import PyProof.Rows.SortShell
import PyProof.Rows.SortWalk
import PyProof.StrBlockG
import PyProof.StrLawsTight
import PyProof.Rows.RuleB_and
import PyProof.Rows.RuleB_or
import PyProof.Rows.SetFrom
import PyProof.SetRoads
import PyProof.Rows.SumAny
import KE.KRevIter
import PyProof.Rows.Range3
import KE.KDictLaws
import PyProof.ConsumeS
import PyProof.ZipIter
import PyProof.ListNew
import PyProof.Draws
import PyProof.SeqI3
import OpenK.KRaise
import PyProof.ExcBaseAll.ValueError
import PyProof.RulesAs
import OpenK.KDescr
import KE.KIsAll
import PyProof.ExcArgs
import PyProof.InstSpecial
import PyProof.ExcClass2
import PyProof.InstStore
import PyProof.InstStoreFacts
import PyProof.AutoSeq1
import PyProof.CallStr
import OpenK.KOwn
import PyProof.StrLawsChain
import PySem.Challenge.RW_drawnword_k26_whole_round_each_crossing
abbrev af:=List (Option Nat)
abbrev ag:=PySem.Str->PySem.Str->Bool
abbrev ah:=PySem.Str->Bool
abbrev ai:=Nat->Nat
abbrev aj:=List PySem.Str
abbrev ak:=List Nat
abbrev am:=List Int
open Option renaming some->aA,none->aB
open Bool renaming true->aC,false->aD
open Decidable renaming decide->aE
open List renaming getElem?_eq_getElem->j3,length_map->j4,getElem?_eq_some_iff->j6,range->j7,mem_singleton->j9,mem_range->je,getElem?_map->jf,mem_append_left->ji,length_append->jk,mem_append->jn,length_cons->jo,map_cons->jp,getElem?_set_ne->jq,size_toArray->jt,mem_append_right->jw,mem_cons->jx,mem_of_getElem?->jy,mem_map->jz,mem_cons_of_mem->jA,all_eq_true->jB,getD_eq_getElem?_getD->jD,map_append->jF,nodup_append->jK,map_map->jP,mem_filter->jQ,getElem_mem->jU,mem_cons_self->jV,getElem?_set_self->jW,take_of_length_le->jZ,length_take->Q2,idxOf_lt_length_iff->Q4,dropLast_concat_getLast->Q7,getElem?_append_left->Q8,getElem?_append_right->Qe,nodup_cons->Qh,length_set->Qi,take_length->Qj,append_assoc->Qn,map_congr_left->Qq,getElem_of_mem->Qw,length_range->QC,append_nil->QH,getElem?_range->QL,replicate->QP,foldl_cons->QU,length_drop->QY,not_mem_nil->QZ,reverse_cons->Z1,length_pos_iff->Z4,find?_cons->Za,map_nil->Zb,take_append_drop->Zd,any_cons->Zm,nodup_nil->Zo,length_nil->Zp,pairwise_lt_range->Zr,filter_cons->Zt,length_singleton->Zu,length_filter_le->Zw,filter_append->Zx,drop_eq_getElem_cons->ZB,mem_of_mem_take->ZC,length_erase_of_mem->ZI,filterMap_cons->ZN,lookup_cons->ZR,nodup_range->ZS,take_succ->ZT,filter_eq_nil_iff->ZU,getElem_range->ZW,count_cons->gb,pairwise_map->gk,mem_erase_of_ne->gx,pairwise_iff_getElem->gA,getElem_inj->gB,mem_nil_iff->gC,getElem?_replicate->gN,count_eq_zero->gP,getElem?_cons_succ->gS,range_succ_eq_map->gV,length_eq_one_iff->gX,length_pos_of_mem->gY,length_replicate->Y7,eq_nil_of_length_eq_zero->Yd,any_eq_true->Ye,getLast?_eq_some_getLast->Yf,getElem_toArray->Yi,getLast?_append->Yn,all_cons->Yp,of_mem_zip->Yv,length->Yw,forIn_cons->Yy,mem_filterMap->YF,pairwise_cons->YH,contains_cons->YI,append_of_mem->YJ,map_replicate->YK,findIdx?_cons->YL,mem_or_eq_of_mem_set->YO,getElem?_eq_none_iff->YQ,take_sublist->YW,eq_of_mem_replicate->N0,foldl_append->N1,filter_congr->N6,find?_isSome->N9,eraseIdx_cons_succ->Nh,pairwise_mergeSort->Nk,sum_cons->Np,drop_length->Nq,zipIdx_cons->Nv,getElem_map->Nw,filter_map->NL,dropLast_eq_take->NN,getElem?_toArray->NQ,nil_append->NW,range_succ->NX,range_zero->NY,map_set->NZ,Nodup->W7,pairwise_append->We,drop_zero->Wi,length_reverse->Wp,mergeSort_perm->Wq,replicate_succ->Wv,getElem?_take->WD,map_drop->WE,map_take->WF,filter_filter->WM,getElem?_drop->WN,find?_eq_none->WP,getElem_idxOf->WQ,getElem_take->J8,reverse_perm->J9,any_map->Jg,countP_cons->Jl,ext_getElem->Jp,take_append->Jq,cons_append->Jr,zipIdx_nil->JD,find?_some->JH,filter->JI,count_set->JJ,forIn_nil->JL,range_add->JN,all_map->Uc,isEmpty->Uf
open PySem renaming wpAny_bind->j5,Value->j8,Shared->jc,starEach->jg,wpAny_pure->jm,sizeLine->ju,Addr->jv,Program->jI,model->jR,wpAny->jT,mainGlobals->jX,wpAny_mono->jY,Expr->Q5,wpAny_holding->Qa,World->Qf,Around->Qg,behindInMarks->Qp,assignEach->Qr,foldedSetIterable->Qz,backTo->QM,Heap->QN,Stmt->QX,wpAny_loadPart_at->Z3,bootBuiltins->Z7,compareOp->Z9,sizeLine_eq->Zi,wpAny_standAt->Zk,FuncData->Zl,scanBound->Zv,wpAny_setField_rec->Zy,sysModules->ZD,wpAny_passesOwn->ZF,wpAny_comprehension_free->ZH,mem_of_lookup->ZO,wpAny_getItem_str_slice->ZP,tupleKind_room_in1->ZV,wpAny_execs_nil->ZY,swapsWith->ZZ,letOwnedTupleGo->ga,codeAny_builtin->gd,cLine->gg,wpAny_newFunctionEnv_cells->gr,wpAny_seqItems->gz,wpAny_field->gD,wpAny_isSubtype_exc->gF,codeAny_mono->gG,GenState->gJ,binaryOp->gK,wpAny_Call_Name_kw->gM,intKind->gR,Scope->Y1,wpAny_truthy_bool->Y2,wpAny_pyIter_list->Y3,sliceBounds->Y4,codeAny_call_function->Y8,wpAny_setAddHashed_of->Ya,wpAny_execs_cons->Yc,wpAny_loadName_local->Yg,codeAny_call_builtin->Yj,IsPair->Yk,wpAny_updateSeq_pair->Yl,bindArgs->Yo,attributeBase->Yq,holding->Yt,codeAny->Yu,post_val_or_str->Yz,wpAny_setEntries_of->YA,excClassObj->YC,assign->YT,wpAny_assign_Name->YU,slot_list_getitem->YX,wpAny_getItem_list_slice->YY,wpAny_setState_of->N3,NameKind->Ng,wpAny_onRaise->Nm,wpAny_callSpecial?_slot->Nn,wpAny_askSetting->Nr,wpAny_call_entry->Nt,wpAny_isInstance->Nu,wpAny_pyNext_list_item->Nx,tupleKind->NC,wpAny_isTrue_Compare1->ND,pyNext->NE,wpAny_pyNext_list_end->NF,exec_Assign_Name_used->NI,codeAny_of_tree->NO,weight_type_call_type->NP,wpAny_nextOf_list_end->NU,wpAny_Name->W2,wpAny_call->W3,call_meets->W5,wpAny_newFunctionEnv->Wa,recursionLimit->Wg,boot_len->Wm,BindsTo->Wn,subscripted->Wo,Builtin->Wr,cellsFrom->Wy,Arguments->Wz,evalPart_none->WA,wpAny_forIn_array'->WI,setWalkUnseen->WJ,PlainAttrs->WS,valueAt->WT,callerA->WV,wpAny_newObj_type->WX,wpAny_pyIter_enum->WY,wpAny_setEpoch_of->J0,isInstance->J1,codeAny_func->Ja,seqIndex_neg->Jb,compEnvC->Jt,SetTable->Ju,PassesOwn->Jv,Result->Jx,getItem->Jy,seqIndex_of->Jz,keywordEach->JA,Keyword->JB,IsZip->JC,wpAny_letGo->JE,ClassData->JF,Paired->JO,builtinsNs->JP,isTrue->JQ,typeIs_str->JS,call->JT,wpAny_rule->JU,relabel->JY,compPost->U0,numAt->U2,again->U9,atKey->Ub,Model->Ug,bindL->Ui,bindC->Uj,Draws->Um
open PySem.Heap renaming get?_push_of_some->ja,lt_size->jr,get?_push_size->jL,SameBut->Qo,size_push->Zn,ExtBut->Nj,get?_update_other->Nz,get?_update_self->NG,get?_none_of_le->W8,get?_update_ne->Ws,FlyingW->Ud
open Option renaming bind_some->jb,map_some->jS,isSome_iff_exists->ZG,isSome_map->gh,getD_none->Jj
open PySem.W renaming Frag->jd,fnOf->Q1,keepIn->Qd,nsIn->Qy,mg_none_of->QD,codeIn->Z6,cellsFrom_some->gT,OpenLaw->Yx,codeRec_of->YG,methodObj->YS,hideAll_get->No,mg_of->WL,findIn->JM,WalkO->JX
open Option.some renaming inj->jh
open Nat renaming le_refl->jj,ne_of_lt->jH,lt_of_lt_of_le->Q0,mod_two_eq_zero_or_one->Q6,lt_irrefl->Q9,le_trans->Qc,lt_succ_of_lt->QB,zero_le->QQ,zero_add->Z0,le_succ->Z2,le_of_lt->Z8,not_lt_zero->Zc,lt_succ_self->Zj,ne_of_gt->g9,le_of_ble_eq_true->gc,lt_trichotomy->gq,lt_of_le_of_lt->gO,min_eq_left->YD,le_antisymm->NR,lt_or_ge->NT,ble_eq_true_of_le->NV,pos_of_ne_zero->WO,le_succ_of_le->J4,lt_trans->Jc,le_of_not_lt->Jk,min_eq_right->Js
open PySem.Str renaming empty->jC,ofString->NS
open Or renaming inl->jE,inr->ZL
open PySem.PassesOwn renaming never->jG
open Bool renaming and_eq_true->jJ,false_ne_true->jO,or_eq_true->QR,eq_iff_iff->Ze,false_eq_true->Zf,false_and->YM,and_false->YN,and_eq_true_iff->Wd,false_or->WC,not_true->U1,true_and->U4,and_comm->U6,true_or->Ua,or_true->Ue
open PySem.F renaming plainAttrs_list->jM,slot_list_append->Qt,type_list_append->Qu,called_set->Qv,slot_list_pop->ge,type_list_pop->gf,slot_dict_get->Y9,excBase_ValueError->Ym,slot_zip_next->YB,slot_list_extend->N7,type_list_extend->N8,args_dict_get_3->Ni,entry_dict_get->NA,sub_list_frozenset->Wb,store_ValueError->WK,entry_type_call->WZ,args_zip_next_1->J2,typeCall_set_1->Jm,entry_set_init->Jn,entry_zip_next->Jo
open Int renaming toNat_natCast->Q3,emod_lt_of_pos->Zh,emod_nonneg->ZJ,emod_eq_of_lt->Na,zero_add->NJ,toNat_of_nonneg->Wu
open PyProof.Rows renaming callWith_type1->Qk,envOfC->ZK,AllBare->Nc,subscriptTail_builtinR->Ny,setObjOf_fresh->Wj,Subscript_->WR,IntsAre->WU,boot_range->JR
open ForInStep renaming yield->Ql
open PySem.NameKind renaming free->Qs,cell->JZ
open PySem.Value renaming ref->QF,isStrOf->Z5,str->gy,isInt->Ys,none->W0,type->W1,notImplemented->Wc,int->U7
open Classical renaming choose->QJ,choose_spec->Zz,byContradiction->YR
open Array renaming length_toList->QK,getElem?_eq_none->NB,getElem?_toList->NH,toList->U8
open PyProof.Rows.F renaming plain_set_update_loop->QV,entry_set_update_loop->ZQ
open List.Pairwise renaming imp_of_mem->Zg,sublist->NM,nil->WW,map->J7,imp->Ur
open PySem.Builtin.Frozenset renaming unchanged->Zq,isAnySet->gs,updateFrom->Yr,addrOf->N5,slot1->Nl,intersection->Jf,baseOf->JV,sizeOf->JW
open False renaming elim->Zs
open Sum renaming inr->ZA,inl->gZ
open Ne renaming symm->ZE
open Fin renaming mul_zero->ZM,zero_mul->Yb,add_zero->Jh,mul_comm->Ji,ext->JG
open Sum.inr renaming inj->ZX
open PySem.Around renaming under_plainId->gv,frames_deeper->W9,under_plain->WG
open PySem.Builtin.SmallTypes renaming ownedTupleIsFree->gE,ownedTupleHandOut->Wk,nextOf->JK
open PySem.Builtin.List renaming listTooLong->gH
open PySem.Calls renaming spliced_cons->gL,callWith_builtin->gU,evalArgs_plain->Yh,Name_function_global->YE,spliced_nil->YV
open PySem.Code renaming quiet_builtin->gQ
open Sum.inl renaming inj->Y0
open True renaming intro->Y5
open PySem.Challenge renaming pw_drawnword_k26_whole_round_each_crossing->Y6
open PySem.Txt renaming slice->YZ
open List.Perm renaming eq_of_pairwise->N2,append_left->NK
open PySem.Heap.SetOf renaming typeIs->N4
open PySem.Paired renaming length->Nb,snoc->Uk
open PySem.Builtin.Range renaming rangeSize->Nf
open PySem.Obj renaming mapSeq->W4
open PUnit renaming unit->W6
open PySem.Builtin.Int renaming intBits->Wt
open PySem.SeqAt.EqAt renaming int_str->Ww,str_int->Wx
open PySem.Heap.IsSliceOf renaming new->WB
open PySem.Shared renaming TypeIs->WH
open PySem.Draws renaming list->J3
open Nat.succ renaming inj->Jd
open PySem.pickOrder renaming go->Je
open PySem.Data renaming cell->Jw
open PySem.Heap.UpToSlots renaming of_keeps->U3
open Prod renaming snd->U5,fst->Up
open PySem.IsRange renaming new->Uh
open PySem.Moved renaming trans->Ul
open Prod.mk renaming inj->Uo
open PySem.W.WShape renaming has->Uq
set_option Elab.async false
set_option linter.all false
set_option maxRecDepth 100000
def Qb{α β:Type _}{x:Option α}{f:α->Option β}{b:β}(h:x.bind f=aA b):∃ a,x=aA a/\f a=aA b:=Option.bind_eq_some_iff.mp h
def Qm{α β:Type _}{x:Option α}{f:α->β}{b:β}(h:x.map f=aA b):∃ a,x=aA a/\f a=b:=Option.map_eq_some_iff.mp h
def bL{p:Prop}[Decidable p](h:¬p):decide p=aD:=decide_eq_false h
def bB{p:Prop}[Decidable p](h:p):decide p=aC:=decide_eq_true h
def aI{c:Prop}{h:Decidable c}(hc:c){α:Sort _}{t e:α}:ite c t e=t:=if_pos hc
def aH{c:Prop}{h:Decidable c}(hc:¬c){α:Sort _}{t e:α}:ite c t e=e:=if_neg hc
namespace L2
open PySem PySem.Spec PyProof.Rows
variable {H:Hp}{h h':QN}{a:jv}{X:Cx}{pc:List (jv × Obj)}{s:jc}{b e:Q5}{ta tb:TE}{pos:Pos}{σ:St}{es:List Q5}{t:TA}
abbrev aL:=Sum Int Str
def qF:aL->j8->Bool
 |.inl k,v=>Ys k v
 |.inr x,v=>Z5 x v
def HV(w:Qf):aL->Int
 |.inl k=>hashInt k
 |.inr x=>hashStr w x
def n6:∀ {k:aL} {v:j8},qF k v=aC->(∃ i t,k=gZ i/\v=U7 i t)∨(∃ x t,k=ZA x/\v=gy x t)
 |.inl i,v,h=>by
  obtain⟨t,e⟩:=Value.isInt_shape (k:=i) (v:=v) h;exact .inl ⟨i,t,rfl,e⟩
 |.inr x,v,h=>by
  obtain⟨t,e⟩:=Value.isStrOf_shape (x:=x) (v:=v) h;exact .inr ⟨x,t,rfl,e⟩
def Sj(i:Int)(t:Tok):qF (.inl i) (.int i t)=aC:=by simp[qF,Ys]
def Sk(x:Str)(t:Tok):qF (.inr x) (.str x t)=aC:=by simp[qF,Z5]
def MY(a b:Int):aE ((gZ a:aL)=gZ b)=(a == b):=by
 by_cases e:a=b
 ·subst e; simp
 ·have h:¬ (gZ a:aL)=gZ b:=λq=>e (Y0 q);rw[bL h];exact(beq_eq_false_iff_ne.mpr e).symm
def Mc(a b:Str):aE ((ZA a:aL)=ZA b)=aE (a=b):=by
 by_cases e:a=b
 ·subst e; simp
 ·have h:¬ (ZA a:aL)=ZA b:=λq=>e (ZX q);rw[bL h,bL e]
def MZ(a:Int)(b:Str):aE ((gZ a:aL)=ZA b)=aD:=bL (λq=>nomatch q)
def Ma(a:Str)(b:Int):aE ((ZA a:aL)=gZ b)=aD:=bL (λq=>nomatch q)
def f7(prog:jI)(w:Qf):PySem.KeyKind prog w aL where
 is:=qF
 hash:=HV w
 inj:=λv a b ha hb=>by
  obtain ⟨i,t,rfl,rfl⟩ |⟨x,t,rfl,rfl⟩:=n6 ha
  ·obtain ⟨j,u,rfl,e⟩ |⟨y,u,rfl,e⟩:=n6 hb
   ·injection e with e1 _; rw[e1]
   ·exact nomatch e
  ·obtain ⟨j,u,rfl,e⟩ |⟨y,u,rfl,e⟩:=n6 hb
   ·exact nomatch e
   ·injection e with e1 _; rw[e1]
 byValue:=λk v h=>by
  obtain ⟨i,t,rfl,rfl⟩ |⟨x,t,rfl,rfl⟩:=n6 h<;>rfl
 pyHash:=λhv h=>by
  obtain ⟨i,t,rfl,rfl⟩ |⟨x,t,rfl,rfl⟩:=n6 hv
  ·exact wpAny_pyHash_int h
  ·exact wpAny_pyHash_str h
 eqBool:=λhu hv h=>by
  obtain ⟨i,t,rfl,rfl⟩ |⟨x,t,rfl,rfl⟩:=n6 hu
  ·obtain ⟨j,u,rfl,rfl⟩ |⟨y,u,rfl,rfl⟩:=n6 hv
   ·rw[MY] at h; exact wpAny_eqBool_int h
   ·rw[MZ] at h; exact Ww i t y u _ _ _ _ h
  ·obtain ⟨j,u,rfl,rfl⟩ |⟨y,u,rfl,rfl⟩:=n6 hv
   ·rw[Ma] at h; exact Wx x t j u _ _ _ _ h
   ·rw[Mc] at h; exact wpAny_eqBool_str h
 «strs»:=λk x t v h=>by
  obtain ⟨i,u,rfl,e⟩ |⟨y,u,rfl,e⟩:=n6 h
  ·exact nomatch e
  ·injection e with e1 _;subst e1;cases v<;>rfl
def UZ(prog:jI)(w:Qf)(i:Int)(t:Tok):(f7 prog w).is (.inl i) (.int i t)=aC:=Sj i t
def Us(prog:jI)(w:Qf)(x:Str)(t:Tok):(f7 prog w).is (.inr x) (.str x t)=aC:=Sk x t
inductive V where
 |non |bl (b:Bool) |int (i:Int) |str (x:Str) |byt (b:Array UInt8) |flt (b:UInt64) |ref (a:jv) |ty (n:String)
 deriving DecidableEq
def RelV:V->j8->Prop
 |.non,u=>u=W0
 |.bl b,u=>u=Value.bool b
 |.int i,u=>∃ t,u=U7 i t
 |.str x,u=>∃ t,u=gy x t
 |.byt b,u=>∃ t,u=Value.bytes b t
 |.flt b,u=>∃ t,u=Value.float b t
 |.ref a,u=>u=QF a
 |.ty n,u=>u=W1 n
abbrev Vals:List V->List j8->Prop:=JO RelV
def Vals.length{xs:List V}{us:List j8}(r:Vals xs us):xs.length=us.length:=Nb r
def Vals.get:∀ {xs:List V} {us:List j8} {i:Nat} {x:V},Vals xs us->xs[i]?=aA x->∃ u,us[i]?=aA u/\RelV x u
 |_,_,_,_,.nil,e=>by simp at e
 |_,_,0,_,.cons r _,e=>by simp at e; subst e; exact⟨_,rfl,r⟩
 |_,_,i+1,x,.cons _ t,e=>by
  obtain⟨u,h1,h2⟩:=Vals.get (i:=i) (x:=x) t (by simpa using e)
  exact⟨u,by simpa using h1,h2⟩
def Vals.set{x:V}{u:j8}(r:RelV x u):∀ {xs:List V} {us:List j8} (i:Nat),Vals xs us->Vals (xs.set i x) (us.set i u)
 |_,_,_,.nil=>.nil
 |_,_,0,.cons _ t=>.cons r t
 |_,_,i+1,.cons q t=>.cons q (Vals.set r i t)
def Vals.append:∀ {xs ys:List V} {us ws:List j8},Vals xs us->Vals ys ws->Vals (xs++ys) (us++ws)
 |_,_,_,_,.nil,s=>s
 |_,_,_,_,.cons r t,s=>.cons r (Vals.append t s)
def Vals.take:∀ {xs:List V} {us:List j8} (n:Nat),Vals xs us->Vals (xs.take n) (us.take n)
 |_,_,0,_=>.nil
 |_,_,_+1,.nil=>.nil
 |_,_,n+1,.cons r t=>.cons r (Vals.take n t)
def Vals.drop:∀ {xs:List V} {us:List j8} (n:Nat),Vals xs us->Vals (xs.drop n) (us.drop n)
 |_,_,0,r=>r
 |_,_,_+1,.nil=>.nil
 |_,_,n+1,.cons _ t=>Vals.drop n t
def RelO:Option V->Option j8->Prop
 |some v,aA u=>RelV v u
 |none,aB=>True
 |_,_=>False
def KV{κ:Type}:List (κ × V)->List (κ × j8)->Prop:=JO fun(p:κ × V) (q:κ × j8)=>p.1=q.1/\RelV p.2 q.2
def kV:aL->V
 |.inl i=>.int i
 |.inr x=>.str x
inductive HO where
 /-- a list -/
 |lst (xs:List V)
 /-- a tuple (never changes) -/
 |tup (xs:List V)
 /-- a dict whose keys are ints and texts; one whose keys are tuples of ints and texts (the empty one is both) -/
 |dK (kvs:List (aL × V)) |dT (kvs:List (List aL × V))
 /-- a set of ints: its members,its size -/
 |set (S:Int->Bool) (n:Nat)
 /-- an instance of the class at C,its dict at dx,its attributes -/
 |ins (C dx:jv) (fs:List (Str × V))
 /-- the dict of the instance at x -/
 |own (x:jv)
 /-- the dict of an exception -/
 |xd (fs:List (Str × V))
 /-- a bound method,f of x -/
 |met (f x:jv)
 /-- a range object lo,lo+1,.. below hi -/
 |rng (lo hi:Int)
 /-- a thing that is known to the object (the script; a dict while a loop walks it): read,never written while it is so -/
 |frz (o:Obj) (u:HO)
 /-- a code object's table -/
 |tbl (ps:Array j8)
 /-- any other thing,by what is aC of its one object (a def of one's own: SetO a S n:=HO.ext λh=>..) -/
 |ext (φ:QN->Prop)
abbrev Hp:=jv->Option HO
def aS(H:Hp)(a:jv)(o:HO):Hp:=λb=>if b=a then aA o else H b
def cD{H:Hp}{a:jv}{o:HO}:aS H a o a=aA o:=by unfold aS; rw[aI rfl]
def au{H:Hp}{a b:jv}{o:HO}(h:b≠a):aS H a o b=H b:=by unfold aS; rw[aH h]
def Iu{H:Hp}{a b:jv}{o u:HO}(h:H a=aA o)(h':H b=aA u)(d:o≠u):a≠b:=by
 intro e; subst e; rw[h] at h'; exact d (jh h')
def dA{H:Hp}{a b:jv}{o:HO}(h:H a=aA o)(h':H b=aB):a≠b:=by
 intro e; subst e; rw[h] at h'; cases h'
section
variable (P:jI)(w:Qf)
def ObjOk(H:Hp)(h:QN)(a:jv):HO->Prop
 |.lst xs=>xs.length<=ju/\∃(its:List j8) (n:Nat),Vals xs its/\h.get? a=aA { cls:=.type "list",data:=.seq its.toArray n }
 |.tup xs=>xs.length<=ju/\∃ its:List j8,Vals xs its/\IsTup h a its.toArray
 |.dK kvs=>kvs.length<=ju/\(a == ZD)=aD/\∃ vs,KV kvs vs/\h.DictOf (f7 P w) a vs
 |.dT kvs=>kvs.length<=ju/\(a == ZD)=aD/\∃ xs:List (List aL × jv × j8),
   JO (fun(p:List aL × V) (q:List aL × jv × j8)=>p.1=q.1/\H q.2.1=aA (.tup (p.1.map kV))/\RelV p.2 q.2.2) kvs xs /\
   ∃ o es ep,h.get? a=aA o/\o.ExactDict/\o.data=.dict es ep/\es.toList=xs.map (entryOfKey (NC (f7 P w)))/\(xs.map (·.1)).Nodup
 |.set S n=>h.SetOf (intKind P w) a S n
 |.ins C dx fs=>H dx=aA (.own a)/\fs.length<=1000/\dx≠a/\h.get? a=aA (PySem.W.instObj C dx) /\
   ∃ mA,h.Ns1 dx mA/\(∀ f,RelO (fs.lookup f) (mA f))/\PySem.Within mA (fs.map (·.1))
 |.own _=>∃ o,h.get? a=aA o
 |.xd fs=>∃ mA,h.Ns1 a mA/\∀ f,RelO (fs.lookup f) (mA f)
 |.rng lo hi=>∃ t u v,h.get? a=aA { cls:=.type "range",data:=.fields #[.int lo t,.int hi u,.int 1 v] }
 |.frz o u=>h.get? a=aA o/\ObjOk H h a u
 |.tbl ps=>h.get? a=aA { cls:=.none,data:=.fields ps }
 |.met f x=>h.get? a=aA (YS (.ref f) (.ref x))
 |.ext φ=>φ h/\(∃ o,h.get? a=aA o)/\∀ h1 h2:QN,φ h1->(∀ o,h1.get? a=aA o->h2.get? a=aA o)->φ h2
def cc(H:Hp)(h:QN):Prop:=∀ a o,H a=aA o->ObjOk P w H h a o
end
section
variable {P:jI}{w:Qf}{H':Hp}{o:HO}
def ObjOk.lt(x:ObjOk P w H h a o):a < h.objs.size:=by
 cases o with
 |lst xs=>obtain⟨_,_,_,_,e⟩:=x; exact jr e
 |tup xs=>obtain⟨_,_,_,p⟩:=x; exact p.lt
 |dK kvs=>obtain⟨_,_,_,_,o,_,_,e,_⟩:=x; exact jr e
 |dT kvs=>obtain⟨_,_,_,_,o,_,_,e,_⟩:=x; exact jr e
 |set S n=>obtain⟨o,_,_,_,e,_⟩:=x; exact jr e
 |ins C dx fs=>obtain⟨_,_,_,e,_⟩:=x; exact jr e
 |own y=>obtain⟨_,e⟩:=x; exact jr e
 |xd fs=>obtain⟨_,⟨_,_,_,e,_⟩,_⟩:=x; exact jr e
 |rng lo hi=>obtain⟨_,_,_,e⟩:=x; exact jr e
 |frz ob u=>obtain⟨e,_⟩:=x; exact jr e
 |tbl ps=>exact jr (show h.get? a=aA _ from x)
 |met f y=>exact jr (show h.get? a=aA _ from x)
 |ext φ=>obtain⟨_,⟨_,e⟩,_⟩:=x; exact jr e
def Paired.mapP{α β:Type}{F G:α->β->Prop}:∀ {l₁:List α} {l₂:List β},JO F l₁ l₂->(∀ a b,F a b->G a b)->JO G l₁ l₂
 |_,_,.nil,_=>.nil
 |_,_,.cons r t,f=>.cons (f _ _ r) (Paired.mapP t f)
def ObjOk.stay(x:ObjOk P w H h a o)(k:∀ b u,(b=a∨H b=aA (.own a))->h.get? b=aA u->h'.get? b=aA u)
  (ho:∀ b,H b=aA (.own a)->H' b=aA (.own a)) (ht:∀ b xs,H b=aA (.tup xs)->H' b=aA (.tup xs)):ObjOk P w H' h' a o:=by
 induction o with
 |lst xs=>obtain⟨z,its,n,r,e⟩:=x; exact⟨z,its,n,r,k _ _ (.inl rfl) e⟩
 |tup xs=>obtain⟨z,its,r,ob,e,c⟩:=x; exact⟨z,its,r,ob,k _ _ (.inl rfl) e,c⟩
 |dK kvs=>obtain⟨z,y,vs,r,ob,es,ep,e,c⟩:=x; exact⟨z,y,vs,r,ob,es,ep,k _ _ (.inl rfl) e,c⟩
 |dT kvs=>
  obtain⟨z,y,xs,r,ob,es,ep,e,c⟩:=x;exact⟨z,y,xs,Paired.mapP r λp q z=>⟨z.1,ht _ _ z.2.1,z.2.2⟩,ob,es,ep,k _ _ (.inl rfl) e,c⟩
 |set S n=>obtain⟨ob,es,ep,t,e,c⟩:=x; exact⟨ob,es,ep,t,k _ _ (.inl rfl) e,c⟩
 |ins C dx fs=>
  obtain⟨d,z,ne,e,mA,⟨od,es,ep,e2,c⟩,r⟩:=x;exact⟨ho _ d,z,ne,k _ _ (.inl rfl) e,mA,⟨od,es,ep,k _ _ (.inr d) e2,c⟩,r⟩
 |own y=>obtain⟨ob,e⟩:=x; exact⟨ob,k _ _ (.inl rfl) e⟩
 |xd fs=>obtain⟨mA,⟨od,es,ep,e,c⟩,r⟩:=x; exact⟨mA,⟨od,es,ep,k _ _ (.inl rfl) e,c⟩,r⟩
 |rng lo hi=>obtain⟨t,u,v,e⟩:=x; exact⟨t,u,v,k _ _ (.inl rfl) e⟩
 |frz ob u ih=>obtain⟨e,q⟩:=x; exact⟨k _ _ (.inl rfl) e,ih q⟩
 |tbl ps=>
  have e:h.get? a=aA { cls:=.none,data:=.fields ps }:=x;show h'.get? a=aA { cls:=.none,data:=.fields ps };exact k a _ (.inl rfl) e
 |met f y=>
  have e:h.get? a=aA (YS (.ref f) (.ref y)):=x;show h'.get? a=aA (YS (.ref f) (.ref y));exact k a _ (.inl rfl) e
 |ext φ=>obtain⟨p,⟨o,e⟩,st⟩:=x; exact⟨st _ _ p λo q=>k _ _ (.inl rfl) q,⟨o,k _ _ (.inl rfl) e⟩,st⟩
def cc.lt(x:cc P w H h)(e:H a=aA o):a < h.objs.size:=(x a o e).lt
def cc.fresh(x:cc P w H h)(e:h.objs.size<=a):H a=aB:=by
 cases q:H a with
 |none=>rfl
 |some u=>exact absurd (Q0 (x.lt q) e) (Q9 _)
def cc.kept(x:cc P w H h)(k:∀ b u,h.get? b=aA u->h'.get? b=aA u):cc P w H h':=λa o e=>
 (x a o e).stay (λb u _ q=>k b u q) (λ_ q=>q) λ_ _ q=>q
def cc.laid(x:cc P w H h)(k:∀ b u,h.get? b=aA u->h'.get? b=aA u)(hp:h.objs.size<=a)(new:ObjOk P w (aS H a o) h' a o):cc P w (aS H a o) h':=λb u e=>by
 have hn:=x.fresh hp
 by_cases hb:b=a
 ·subst hb; rw[cD] at e; cases e; exact new
 ·rw[au hb] at e;exact(x b u e).stay (λc v _ q=>k c v q) (λc q=>by rw[au (dA q hn)]; exact q) λc xs q=>by rw[au (dA q hn)]; exact q
end
def Rd(H:Hp)(a:jv)(u:HO):Prop:=H a=aA u∨∃ o,H a=aA (.frz o u)
def Rd.ok{P:jI}{w:Qf}{H:Hp}{h:QN}{a:jv}{u:HO}(r:Rd H a u)(x:cc P w H h):ObjOk P w H h a u:=by
 obtain r |⟨o,r⟩:=r
 ·exact x a u r
 ·obtain⟨_,q⟩:=x a _ r;exact q
def uL:Option HO->Prop
 |some (.lst _)=>True
 |some (.dK _)=>True
 |some (.dT _)=>True
 |some (.set _ _)=>True
 |some (.ins _ _ _)=>True
 |some (.ext _)=>True
 |_=>False
section
variable {P:jI}{w:Qf}{x e:jv}{o':HO}
def cc.write(ok:cc P w H h)(mu:uL (H x))(he:e=x∨H e=aA (.own x))(k:∀ b u,b≠e->h.get? b=aA u->h'.get? b=aA u)(heo:∃ u,h'.get? e=aA u)
  (new:ObjOk P w (aS H x o') h' x o'):cc P w (aS H x o') h':=λb u q=>by
 have nown:∀ c y,H c=aA (.own y)->c≠x:=λc y r z=>by subst z; rw[r] at mu; exact mu
 have ntup:∀ c xs,H c=aA (.tup xs)->c≠x:=λc xs r z=>by subst z; rw[r] at mu; exact mu
 by_cases hb:b=x
 ·subst hb; rw[cD] at q; cases q; exact new
 ·rw[au hb] at q
  by_cases hbe:b=e
  ·have q':H b=aA (.own x):=by
    obtain z |z:=he
    ·exact absurd (hbe.trans z) hb
    ·rw[hbe]; exact z
   rw[q] at q'; cases q';obtain⟨v,hv⟩:=heo;exact⟨v,by rw[hbe]; exact hv⟩
  ·refine(ok b u q).stay (λc v hc r=>k c v ?_ r) (λc r=>by rw[au (nown c b r)]; exact r) λc xs r=>by rw[au (ntup c xs r)]; exact r
   obtain rfl |hc:=hc
   ·exact hbe
   ·rintro rfl;obtain z |z:=he
    ·exact nown c b hc z
    ·rw[hc] at z; cases z; exact hb rfl
end
structure Un (fs ex:List jv) (H H':Hp) (h h':QN):Prop where
 keep:∀ b o,h.get? b=aA o->H b=aB->b∉fs->b∉ex->h'.get? b=aA o
 slot:∀ b o,h.get? b=aA o->H b=aB->b∈fs->b∉ex->∃ sl,h'.get? b=aA { o with slots:=sl }
 free:∀ b o,h.get? b=aA o->H b=aB->b∉ex->H' b=aB
 there:∀ b o,h.get? b=aA o->b∉ex->∃ o',h'.get? b=aA o'
 tups:∀ b xs,H b=aA (.tup xs)->H' b=aA (.tup xs)
 frzs:∀ b o u,H b=aA (.frz o u)->H' b=aA (.frz o u)
 tbls:∀ b ps,H b=aA (.tbl ps)->∃ more,H' b=aA (.tbl (ps++more))
section
variable {fs fs' ex ex':List jv}{H1 H2:Hp}{h1 h2:QN}{x e:jv}{o:HO}
def Un.any(u:Un fs ex H H1 h h1){b:jv}{ob:Obj}(q:h.get? b=aA ob)(n:H b=aB)(hx:b∉ex):∃ sl,h1.get? b=aA { ob with slots:=sl }:=by
 by_cases hb:b∈fs
 ·exact u.slot b ob q n hb hx
 ·exact⟨ob.slots,u.keep b ob q n hb hx⟩
def Un.kept(k:∀ b u,h.get? b=aA u->h'.get? b=aA u):Un fs ex H H h h':=
 ⟨λb ob q _ _ _=>k b ob q,λb ob q _ _ _=>⟨ob.slots,k b ob q⟩,λ_ _ _ n _=>n,λb ob q _=>⟨ob,k b ob q⟩,λ_ _ q=>q,λ_ _ _ q=>q,λ_ ps q=>⟨#[],by rw[q]; simp⟩⟩
def Un.refl:Un fs ex H H h h:=Un.kept λ_ _ q=>q
def Un.laid(k:∀ b u,h.get? b=aA u->h'.get? b=aA u)(hp:h.objs.size<=a)(hn:H a=aB):Un fs ex H (aS H a o) h h' where
 keep:=λb u q _ _ _=>k b u q
 slot:=λb u q _ _ _=>⟨u.slots,k b u q⟩
 free:=λb u q n _=>by rw[au (jH (Q0 (jr q) hp))]; exact n
 there:=λb u q _=>⟨u,k b u q⟩
 tups:=λb xs q=>by rw[au (dA q hn)]; exact q
 frzs:=λb u xs q=>by rw[au (dA q hn)]; exact q
 tbls:=λb ps q=>⟨#[],by rw[au (dA q hn),q]; simp⟩
def Un.write(mu:uL (H x))(he:e=x∨H e=aA (.own x))(k:∀ b u,b≠e->h.get? b=aA u->h'.get? b=aA u)(heo:∃ u,h'.get? e=aA u):Un fs ex H (aS H x o) h h':=by
 have hx:∀ b,H b=aB->b≠x:=λb n z=>by subst z; rw[n] at mu; exact mu
 have hb:∀ b,H b=aB->b≠e:=λb n z=>by
  subst z;obtain r |r:=he
  ·exact hx b n r
  ·rw[n] at r; cases r
 have hm:∀ b u,H b=aA u->¬ uL (aA u)->b≠x:=λb u q nm z=>by subst z; rw[q] at mu; exact nm mu
 refine⟨λb u q n _ _=>k b u (hb b n) q,λb u q n _ _=>⟨u.slots,k b u (hb b n) q⟩,λb u q n _=>by rw[au (hx b n)]; exact n,λb u q _=>?_,
  λb xs q=>by rw[au (hm b _ q λz=>z)]; exact q,λb u xs q=>by rw[au (hm b _ q λz=>z)]; exact q,λb ps q=>⟨#[],by rw[au (hm b _ q λz=>z),q]; simp⟩⟩
 by_cases hbe:b=e
 ·subst hbe; exact heo
 ·exact⟨u,k b u hbe q⟩
end
def xI(h:QN)(H:Hp):List jv:=(j7 h.objs.size).filter λa=>(H a).isSome
def nF(h:QN)(H:Hp):QN:=PySem.W.hideAll h (xI h H)
def Se(h:QN)(H:Hp):(nF h H).objs.size=h.objs.size:=PySem.W.hideAll_size _ _
def Re{h:QN}{H:Hp}{b:jv}{o:Obj}(e:h.get? b=aA o)(n:H b=aB):(nF h H).get? b=aA o:=
 PySem.W.hideAll_get _ e λhm=>by
  have q:(H b).isSome=aC:=(jQ.mp hm).2;rw[n] at q; simp at q
def Oq{h:QN}{H:Hp}{b:jv}{o:Obj}(e:(nF h H).get? b=aA o):h.get? b=aA o/\H b=aB:=by
 have e':h.get? b=aA o:=PySem.W.of_hideAll (xI h H) e;refine⟨e',?_⟩;cases q:H b with
 |none=>rfl
 |some x=>
  have hm:b∈xI h H:=jQ.mpr ⟨je.mpr (jr e'),by simp[q]⟩
  have z:(nF h H).get? b=aB:=PySem.W.hideAll_none (xI h H) hm;rw[z] at e; cases e
structure Mod (K:jd) (mg:Str->Option j8) (base:QN):Prop where
 kin:K.In base
 glob:base.Ns jX mg
 blt:∃ mb,base.Ns JP mb/\∀ x:Str,x≠"__name__"->mb x=Z7 x
 nolimit:base.NoLimit
structure Cx where
 prog:jI
 w:Qf
 K:jd
 mg:Str->Option j8
 base:QN
 A:Qg
 N:aj
 s₀:jc
 H₀:Hp
 env:Env
 outer:List Env
 stack:List Env
 ex:List jv
 fn:ah
 calm:Bool
 pn:List (jv × Obj)
 xe:j8->jc->Prop
abbrev ac(X:Cx)(e)(es):=jg (e::es) X.env=(aD,eval e X.env)::jg es X.env
abbrev ad(X:Cx)(p)(es):=(QM p (jg es X.env)).any (·.1)=aD
abbrev ae(x:Str):=(x == ("__debug__":Str))=aD
def dH(l:List Env):List jv:=l.filterMap (·.frame)
abbrev Cx.fs(X:Cx):List jv:=dH X.outer
def uI(sc:Y1)(x:Str):Prop:=sc.names.lookup x=aA .local∨sc.names.lookup x=aA .cell∨sc.names.lookup x=aA .free
def oq(sc:Y1)(x:Str):Prop:=sc.names.lookup x=aA .local∨sc.names.lookup x=aA .cell
def HK(env:Env)(h:QN)(m:Str->Option j8)(x:Str)(u:j8):Prop:=
 (env.kindOf x=aA .local/\m x=aA u)∨((env.kindOf x=aA .cell∨env.kindOf x=aA .free)/\∃ c,env.cells.lookup x=aA c/\h.IsCell c (aA u))
structure Cx.Ok (X:Cx):Prop where
 mod:Mod X.K X.mg X.base
 kind:X.env.scope.kind=.function
 glob:X.env.globals=jX
 blt:X.env.builtins=JP
 above:X.s₀.heap.objs.size<=X.env.locals
 inj:∀ x y c,X.env.cells.lookup x=aA c->X.env.cells.lookup y=aA c->x=y
 has:∀ x,(X.env.kindOf x=aA .cell∨X.env.kindOf x=aA .free)->∃ c,X.env.cells.lookup x=aA c
 cab:∀ x c,X.fn x=aC->X.env.cells.lookup x=aA c->X.s₀.heap.objs.size<=c
 hd:X.calm=aC->X.A.handled=aB
 frames:X.A.frames=aA X.stack
 stk:X.stack=X.outer∨(X.stack=X.env::X.outer/\X.env.frame=aA X.env.locals)
 exf:∀ b∈X.ex,b≠X.env.locals/\∀ x c,X.env.cells.lookup x=aA c->c≠b
 bs:∀ b o,X.base.get? b=aA o->X.s₀.heap.get? b=aA o/\X.H₀ b=aB
 bsz:X.base.objs.size<=X.s₀.heap.objs.size
 noex:∀ b o,X.base.get? b=aA o->b∉X.ex
 exfs:∀ b∈X.ex,b∉X.fs
 funs:X.s₀.heap.FunFrames X.base X.outer
 frf:∀ b∈X.fs,X.H₀ b=aB
structure Inv (X:Cx) (pc:List (jv × Obj)) (σ:List (Option V)) (H:Hp) (s:jc):Prop where
 ok:X.Ok
 os:s.os=X.s₀.os
 bare:Nc s.gens
 base:Un X.fs X.ex X.H₀ H X.s₀.heap s.heap
 loc:∃ m,s.heap.Ns X.env.locals m/\∀(i:Nat) (x:Str) (v:V),X.N[i]?=aA x->σ[i]?=aA (aA v)->uI X.env.scope x->∃ u,RelV v u/\HK X.env s.heap m x u
 cell:∀ x c,X.env.cells.lookup x=aA c->∃ v,s.heap.IsCell c v
 free:H X.env.locals=aB
 freeC:∀ x c,X.env.cells.lookup x=aA c->H c=aB
 pin:∀ p∈X.pn++pc,s.heap.get? p.1=aA p.2/\H p.1=aB/\p.1≠X.env.locals/\p.1∉X.fs/\∀ v,p.2.data≠.cell v
 hok:cc X.prog X.w H s.heap
 len:σ.length=X.N.length
section
variable {σ:List (Option V)}{H':Hp}
def Cx.Ok.nofr(ok:X.Ok){b:jv}{o:Obj}(e:X.base.get? b=aA o):b∉X.fs:=λhb=>by
 have:=(ok.funs.mem hb).1;rw[e] at this; cases this
def Inv.bs(I:Inv X pc σ H s):∀ b o,X.base.get? b=aA o->s.heap.get? b=aA o/\H b=aB:=λb o e=>
 ⟨I.base.keep b o (I.ok.bs b o e).1 (I.ok.bs b o e).2 (I.ok.nofr e) (I.ok.noex b o e),I.base.free b o (I.ok.bs b o e).1 (I.ok.bs b o e).2 (I.ok.noex b o e)⟩
def Inv.bk(I:Inv X pc σ H s):∀ b o,X.base.get? b=aA o->s.heap.get? b=aA o:=λb o e=>(I.bs b o e).1
def Inv.mod(I:Inv X pc σ H s):Mod X.K X.mg X.base:=I.ok.mod
def Inv.kIn(I:Inv X pc σ H s):X.K.In s.heap:=I.ok.mod.kin.keeps I.bk
def Inv.lt(I:Inv X pc σ H s):X.env.locals < s.heap.objs.size:=let ⟨_,hn,_⟩:=I.loc; hn.lt
def Inv.sz(I:Inv X pc σ H s):X.s₀.heap.objs.size<=s.heap.objs.size:=Qc I.ok.above (Z8 I.lt)
def Inv.nofs(I:Inv X pc σ H s){a:jv}(h:s.heap.objs.size<=a):a∉X.fs:=λhb=>by
 obtain⟨_,o,ho,_⟩:=I.ok.funs.mem hb;exact absurd (Q0 (jr ho) (Qc I.sz h)) (Q9 _)
def Inv.cne(I:Inv X pc σ H s):∀ x c,X.env.cells.lookup x=aA c->c≠X.env.locals:=λx c e z=>by
 obtain⟨v,o,ho,hd⟩:=I.cell x c e;obtain⟨m,⟨o',es,ep,ho',hd',_⟩,_⟩:=I.loc;rw[z,ho'] at ho; cases ho; rw[hd'] at hd; cases hd
def Inv.funs(I:Inv X pc σ H s):s.heap.FunFrames X.base X.outer:=by
 have all:∀(l:List Env),(∀ b∈dH l,b∈X.fs)->X.s₀.heap.FunFrames X.base l->s.heap.FunFrames X.base l:=by
  intro l
  induction l with
  |nil=>intro _ _; trivial
  |cons env r ih=>
   intro hs hl;obtain⟨hk,⟨L,o,hf,hn,ho,hd⟩,hr⟩:=hl;have hL:L∈X.fs:=hs L (by unfold dH; rw[ZN,hf]; exact jV)
   obtain⟨sl,e⟩:=I.base.slot L o ho (I.ok.frf L hL) hL λz=>I.ok.exfs L z hL;exact⟨hk,⟨L,_,hf,hn,e,hd⟩,ih (λb hb=>hs b (by unfold dH; rw[ZN,hf]; exact jA _ hb)) hr⟩
 exact all X.outer (λ_ hb=>hb) I.ok.funs
def Inv.stack(I:Inv X pc σ H s):s.heap.FunFrames X.base X.stack:=by
 obtain e |⟨e,hf⟩:=I.ok.stk
 ·rw[e]; exact I.funs
 ·rw[e];obtain⟨m,hn,_⟩:=I.loc;refine .cons (by rw[I.ok.kind]; decide) hf hn ?_ I.funs
  exact W8 (Qc I.ok.bsz I.ok.above)
def Inv.stkSub(I:Inv X pc σ H s):∀ b∈dH X.stack,b∈X.env.locals::X.fs:=λb hb=>by
 obtain e |⟨e,hf⟩:=I.ok.stk
 ·rw[e] at hb; exact jA _ hb
 ·rw[e] at hb;unfold dH at hb;rw[ZN,hf] at hb;exact hb
def Inv.stkFree(I:Inv X pc σ H s):∀ b∈dH X.stack,H b=aB:=λb hb=>by
 obtain e |hb:=jx.mp (I.stkSub b hb)
 ·rw[e]; exact I.free
 ·obtain⟨_,o,ho,_⟩:=I.ok.funs.mem hb;exact I.base.free b o ho (I.ok.frf b hb) λz=>I.ok.exfs b z hb
def Inv.step{g':Array gJ}{t':Nat}{d':Drawn}{ch:List jv}(I:Inv X pc σ H s)
  (hch:∀ b∈ch,(b∈X.ex∨X.s₀.heap.objs.size<=b)/\b≠X.env.locals/\(∀ x c,X.env.cells.lookup x=aA c->c≠b)/\∀ p∈X.pn++pc,p.1≠b)
  (keep:∀ b o,b≠X.env.locals->b∉X.fs->b∉ch->s.heap.get? b=aA o->H b=aB->h'.get? b=aA o)
  (slot:∀ b o,b≠X.env.locals->b∈X.fs->b∉ch->s.heap.get? b=aA o->H b=aB->∃ sl,h'.get? b=aA { o with slots:=sl }) (free:∀ b o,b∉ch->s.heap.get? b=aA o->H b=aB->H' b=aB)
  (there:∀ b o,b∉ch->s.heap.get? b=aA o->∃ o',h'.get? b=aA o')
  (tups:∀ b xs,H b=aA (.tup xs)->H' b=aA (.tup xs)) (frzs:∀ b o u,H b=aA (.frz o u)->H' b=aA (.frz o u)) (tbls:∀ b ps,H b=aA (.tbl ps)->∃ more,H' b=aA (.tbl (ps++more)))
  (ns:∀ m,s.heap.Ns X.env.locals m->h'.Ns X.env.locals m) (hok:cc X.prog X.w H' h') (hg:Nc g') :
  Inv X pc σ H' { s with heap:=h',gens:=g',drawn:=d',toks:=t' }:=by
 have neL:∀ b o,X.s₀.heap.get? b=aA o->b≠X.env.locals:=λb o e=>jH (Q0 (jr e) I.ok.above);have neC:∀ b o,X.s₀.heap.get? b=aA o->b∉X.ex->b∉ch:=λb o e hx hb=>by
  rcases(hch b hb).1 with z |z
  ·exact hx z
  ·exact absurd (Q0 (jr e) z) (Q9 _)
 have cellK:∀ x c,X.env.cells.lookup x=aA c->∀ v,s.heap.IsCell c v->h'.IsCell c v:=λx c e v ⟨o,ho,hd⟩=>by
  have nch:c∉ch:=λz=>(hch c z).2.2.1 x c e rfl
  by_cases hc:c∈X.fs
  ·obtain⟨sl,q⟩:=slot c o (I.cne x c e) hc nch ho (I.freeC x c e);exact⟨_,q,hd⟩
  ·exact⟨o,keep c o (I.cne x c e) hc nch ho (I.freeC x c e),hd⟩
 refine⟨I.ok,I.os,hg,⟨λb o e n hb hx=>?_,λb o e n hb hx=>?_,λb o e n hx=>?_,λb o e hx=>?_,λb xs e=>tups b xs (I.base.tups b xs e),λb o xs e=>frzs b o xs (I.base.frzs b o xs e),λb ps e=>?_⟩,?_,λx c e=>?_,?_,λx c e=>?_,λp hp=>?_,hok,I.len⟩
 ·exact keep b o (neL b o e) hb (neC b o e hx) (I.base.keep b o e n hb hx) (I.base.free b o e n hx)
 ·obtain⟨sl,e1⟩:=I.base.slot b o e n hb hx;obtain⟨sl',e2⟩:=slot b _ (neL b o e) hb (neC b o e hx) e1 (I.base.free b o e n hx);exact⟨sl',e2⟩
 ·obtain⟨o',e1⟩:=I.base.there b o e hx;exact free b o' (neC b o e hx) e1 (I.base.free b o e n hx)
 ·obtain⟨o',e1⟩:=I.base.there b o e hx;exact there b o' (neC b o e hx) e1
 ·obtain⟨m1,e1⟩:=I.base.tbls b ps e;obtain⟨m2,e2⟩:=tbls b _ e1;exact⟨m1++m2,by rw[e2,Array.append_assoc]⟩
 ·obtain⟨m,hn,hl⟩:=I.loc;refine⟨m,ns m hn,λi x v e1 e2 e3=>?_⟩;obtain⟨u,r,l⟩:=hl i x v e1 e2 e3;refine⟨u,r,?_⟩;obtain l |⟨k,c,e,z⟩:=l
  ·exact .inl l
  ·exact .inr ⟨k,c,e,cellK x c e _ z⟩
 ·obtain⟨v,z⟩:=I.cell x c e;exact⟨v,cellK x c e v z⟩
 ·obtain⟨m,⟨o,_,_,ho,_⟩,_⟩:=I.loc;exact free _ o (λz=>(hch _ z).2.1 rfl) ho I.free
 ·obtain⟨v,o,ho,hd⟩:=I.cell x c e;exact free c o (λz=>(hch c z).2.2.1 x c e rfl) ho (I.freeC x c e)
 ·obtain⟨e,n,ne,nf,d⟩:=I.pin p hp;have nch:p.1∉ch:=λz=>(hch p.1 z).2.2.2 p hp rfl;exact⟨keep p.1 p.2 ne nf nch e n,free p.1 p.2 nch e n,ne,nf,d⟩
def Inv.un{t':Nat}(I:Inv X pc σ H s)(u:Un X.fs [] H H' s.heap h')(hok:cc X.prog X.w H' h'):Inv X pc σ H' { s with heap:=h',toks:=t' }:=by
 obtain⟨m,⟨o,es,ep,ho,r⟩,_⟩:=id I.loc;obtain⟨sl,hL⟩:=u.any ho I.free (by simp)
 exact I.step (g':=s.gens) (d':=s.drawn) (ch:=[]) (λ_ z=>nomatch z) (λb o _ hb _ e n=>u.keep b o e n hb (by simp)) (λb o _ hb _ e n=>u.slot b o e n hb (by simp)) (λb o _ e n=>u.free b o e n (by simp)) (λb o _ e=>u.there b o e (by simp)) u.tups u.frzs u.tbls (λm' hm=>by
  obtain⟨o',es',ep',ho',r'⟩:=hm;rw[ho] at ho'; cases ho'
  exact⟨_,es',ep',hL,r'⟩) hok I.bare
def Inv.call{g':Array gJ}{t':Nat}{d':Drawn}{ch:List jv}(I:Inv X pc σ H s)(u:Un (dH X.stack) ch H H' s.heap h')(hok:cc X.prog X.w H' h')(hg:Nc g')
  (hch:∀ b∈ch,(b∈X.ex∨X.s₀.heap.objs.size<=b)/\b≠X.env.locals/\(∀ x c,X.env.cells.lookup x=aA c->c≠b)/\∀ p∈X.pn++pc,p.1≠b) :
  Inv X pc σ H' { s with heap:=h',gens:=g',drawn:=d',toks:=t' }:=by
 obtain⟨m,⟨o,es,ep,ho,r⟩,_⟩:=id I.loc;obtain⟨sl,hL⟩:=u.any ho I.free λz=>(hch _ z).2.1 rfl
 exact I.step (ch:=ch) hch (λb o hL hb hc e n=>u.keep b o e n (λz=>(jx.mp (I.stkSub b z)).elim hL hb) hc) (λb o _ _ hc e n=>u.any e n hc) (λb o hc e n=>u.free b o e n hc) (λb o hc e=>u.there b o e hc) u.tups u.frzs u.tbls (λm' hm=>by
  obtain⟨o',es',ep',ho',r'⟩:=hm;rw[ho] at ho'; cases ho'
  exact⟨_,es',ep',hL,r'⟩) hok hg
def Inv.turned{t':Nat}{it:jv}(I:Inv X pc σ H s)(k:∀ b o,b≠it->s.heap.get? b=aA o->h'.get? b=aA o)(hn:H it=aB)(hL:it≠X.env.locals)
  (h1:it∈X.ex∨X.s₀.heap.objs.size<=it) (h2:∀ x c,X.env.cells.lookup x=aA c->c≠it) (h3:∀ p∈X.pn++pc,p.1≠it):Inv X pc σ H { s with heap:=h',toks:=t' }:=by
 have nit:∀ b u,H b=aA u->b≠it:=λb u e z=>by rw[z,hn] at e; cases e
 refine I.step (g':=s.gens) (d':=s.drawn) (ch:=[it]) (λb hb=>?_) (λb o _ _ hc e _=>k b o (λz=>hc (by simp[z])) e) (λb o _ _ hc e _=>⟨o.slots,k b o (λz=>hc (by simp[z])) e⟩) (λ_ _ _ _ n=>n)
  (λb o hc e=>⟨o,k b o (λz=>hc (by simp[z])) e⟩) (λ_ _ e=>e) (λ_ _ _ e=>e) (λb ps e=>⟨#[],by rw[e]; simp⟩) (λm hm=>?_) (λb u e=>?_) I.bare
 ·have e:b=it:=by simpa using hb
  subst e;exact⟨h1,hL,h2,h3⟩
 ·obtain⟨o,es,ep,ho,r⟩:=hm;exact⟨o,es,ep,k _ o (ZE hL) ho,r⟩
 ·refine(I.hok b u e).stay (λc v hc q=>k c v ?_ q) (λ_ q=>q) λ_ _ q=>q;obtain z |z:=hc
  ·rw[z]; exact nit b u e
  ·exact nit c _ z
def Inv.tok(I:Inv X pc σ H s)(t:Nat):Inv X pc σ H { s with toks:=t }:=I.un (h':=s.heap) (t':=t) Un.refl I.hok
def Inv.kept{t':Nat}(I:Inv X pc σ H s)(k:∀ b u,s.heap.get? b=aA u->h'.get? b=aA u):Inv X pc σ H { s with heap:=h',toks:=t' }:=I.un (Un.kept k) (I.hok.kept k)
def Inv.laid{a:jv}{o:HO}{t':Nat}(I:Inv X pc σ H s)(k:∀ b u,s.heap.get? b=aA u->h'.get? b=aA u)(hp:s.heap.objs.size<=a)(new:ObjOk X.prog X.w (aS H a o) h' a o) :
  Inv X pc σ (aS H a o) { s with heap:=h',toks:=t' }:=I.un (Un.laid k hp (I.hok.fresh hp)) (I.hok.laid k hp new)
def Inv.write{x e:jv}{o:HO}{t':Nat}(I:Inv X pc σ H s)(mu:uL (H x))(he:e=x∨H e=aA (.own x))(k:∀ b u,b≠e->s.heap.get? b=aA u->h'.get? b=aA u)(heo:∃ u,h'.get? e=aA u)
  (new:ObjOk X.prog X.w (aS H x o) h' x o):Inv X pc σ (aS H x o) { s with heap:=h',toks:=t' }:=I.un (Un.write mu he k heo) (I.hok.write mu he k heo new)
def Inv.pins_of{pins':List (jv × Obj)}(I:Inv X pc σ H s)(h:∀ p∈pins',s.heap.get? p.1=aA p.2/\H p.1=aB/\p.1≠X.env.locals/\p.1∉X.fs/\∀ v,p.2.data≠.cell v):Inv X pins' σ H s:=
 ⟨I.ok,I.os,I.bare,I.base,I.loc,I.cell,I.free,I.freeC,λp hp=>(jn.mp hp).elim (λz=>I.pin p (ji _ z)) (h p),I.hok,I.len⟩
def Ex{N:aj}(hN:N.Nodup){i j:Nat}{x:Str}(a:N[i]?=aA x)(b:N[j]?=aA x):i=j:=by
 obtain⟨h1,e1⟩:=j6.mp a;obtain⟨h2,e2⟩:=j6.mp b;exact(gB hN).mp (e1.trans e2.symm)
def zx{M:Ug}{A:Qg}{E:j8->jc->Prop}{i:Nat}{x:Str}{v:V}{u:j8}{Q:Unit->jc->Prop}(I:Inv X pc σ H s)(hN:X.N.Nodup)(hi:X.N[i]?=aA x)(hx:oq X.env.scope x)(r:RelV v u)
  (h:∀ s',Inv X pc (σ.set i (aA v)) H s'->(∃ a,Qo a s.heap s'.heap/\(a=X.env.locals∨X.env.cells.lookup x=aA a))->Q () s') (hf:X.fn x=aC∨X.env.scope.names.lookup x=aA .local:=by first |exact .inl rfl |exact .inr rfl |assumption):jT M A (storeName X.env x u) Q E s:=by
 obtain⟨m,hn,hl⟩:=id I.loc;have hcls:(X.env.scope.kind == .class||(X.env.scope.kind == .module&&X.env.locals != X.env.globals))=aD:=by rw[I.ok.kind]; rfl
 have hiσ:i < σ.length:=by rw[I.len]; exact(j6.mp hi).1
 have cne:=I.cne;have tracked:∀ {a:jv} {h':QN},(∃ o,s.heap.get? a=aA o/\H a=aB)->Qo a s.heap h'->cc X.prog X.w H h':=λ{a h'} ha hs b ob e=>by
  obtain⟨_,_,hfree⟩:=ha;refine(I.hok b ob e).stay (λc w' hc q=>(hs.2 c ?_).trans q) (λ_ q=>q) λ_ _ q=>q;rintro rfl;obtain rfl |hc:=hc
  ·rw[hfree] at e; cases e
  ·rw[hfree] at hc; cases hc
 obtain hk |hk:=hx
 ·refine wpAny_storeName_local hk hn (λh' hn' hs=>?_) hcls;obtain⟨oL,_,_,hoL,_⟩:=id hn;refine h _ ⟨I.ok,I.os,I.bare,⟨λb o e n hb hx=>?_,λb o e n hb hx=>?_,I.base.free,λb o e hx=>?_,I.base.tups,I.base.frzs,I.base.tbls⟩,⟨_,hn',λj y v' e1 e2 e3=>?_⟩,λy c e=>?_,I.free,I.freeC,λp hp=>?_,tracked ⟨oL,hoL,I.free⟩ hs,by simpa using I.len⟩ ⟨_,hs,.inl rfl⟩
  ·exact(hs.2 b (jH (Q0 (jr e) I.ok.above))).trans (I.base.keep b o e n hb hx)
  ·obtain⟨sl,e1⟩:=I.base.slot b o e n hb hx;exact⟨sl,(hs.2 b (jH (Q0 (jr e) I.ok.above))).trans e1⟩
  ·obtain⟨o',e1⟩:=I.base.there b o e hx;exact⟨o',(hs.2 b (jH (Q0 (jr e) I.ok.above))).trans e1⟩
  ·by_cases hj:j=i
   ·subst hj;rw[hi] at e1; cases e1;rw[jW hiσ] at e2;cases e2;exact⟨u,r,.inl ⟨hk,by simp⟩⟩
   ·rw[jq (ZE hj)] at e2;obtain⟨u',r',q⟩:=hl j y v' e1 e2 e3;refine⟨u',r',?_⟩;obtain ⟨k,e⟩ |⟨k,c,e,z⟩:=q
    ·refine .inl ⟨k,?_⟩;have:y≠x:=λe=>hj (Ex hN e1 (e▸hi));simp[this,e]
    ·exact .inr ⟨k,c,e,z.sameBut hs (cne y c e)⟩
  ·obtain⟨w',z⟩:=I.cell y c e;exact⟨w',z.sameBut hs (cne y c e)⟩
  ·obtain⟨e,n,ne,nf,d⟩:=I.pin p hp;exact⟨(hs.2 p.1 ne).trans e,n,ne,nf,d⟩
 ·have hfn:X.fn x=aC:=by
   obtain z |z:=hf
   ·exact z
   ·rw[z] at hk; cases hk
  obtain⟨c,hc⟩:=I.ok.has x (.inl hk);obtain⟨w',z⟩:=I.cell x c hc;refine wpAny_storeName_cell I.ok.kind hk hc z (λh' hc' hs=>?_);obtain⟨oc,hoc,hocd⟩:=id z;refine h { s with heap:=h' } ⟨I.ok,I.os,I.bare,⟨λb o e n hb hx=>?_,λb o e n hb hx=>?_,I.base.free,λb o e hx=>?_,I.base.tups,I.base.frzs,I.base.tbls⟩,⟨m,hn.sameBut hs (ZE (cne x c hc)),λj y v' e1 e2 e3=>?_⟩,λy c' e=>?_,I.free,I.freeC,λp hp=>?_,tracked ⟨oc,hoc,I.freeC x c hc⟩ hs,by simpa using I.len⟩ ⟨c,hs,.inr hc⟩
  ·exact(hs.2 b (jH (Q0 (jr e) (I.ok.cab x c hfn hc)))).trans (I.base.keep b o e n hb hx)
  ·obtain⟨sl,e1⟩:=I.base.slot b o e n hb hx;exact⟨sl,(hs.2 b (jH (Q0 (jr e) (I.ok.cab x c hfn hc)))).trans e1⟩
  ·obtain⟨o',e1⟩:=I.base.there b o e hx;exact⟨o',(hs.2 b (jH (Q0 (jr e) (I.ok.cab x c hfn hc)))).trans e1⟩
  ·by_cases hj:j=i
   ·subst hj;rw[hi] at e1; cases e1;rw[jW hiσ] at e2;cases e2;exact⟨u,r,.inr ⟨.inl hk,c,hc,hc'⟩⟩
   ·rw[jq (ZE hj)] at e2;obtain⟨u',r',q⟩:=hl j y v' e1 e2 e3;refine⟨u',r',?_⟩;obtain q |⟨k,c',e,z'⟩:=q
    ·exact .inl q
    ·refine .inr ⟨k,c',e,z'.sameBut hs ?_⟩;rintro rfl;exact hj (Ex hN e1 (I.ok.inj _ _ _ e hc▸hi))
  ·by_cases hcc:c'=c
   ·subst hcc; exact⟨_,hc'⟩
   ·obtain⟨w2,z2⟩:=I.cell y c' e;exact⟨w2,z2.sameBut hs hcc⟩
  ·obtain⟨e,n,ne,nf,d⟩:=I.pin p hp;refine⟨(hs.2 p.1 ?_).trans e,n,ne,nf,d⟩;intro q;rw[q,hoc] at e;have q':oc=p.2:=jh e;exact d w' (by rw[<-q']; exact hocd)
def F4{M:Ug}{A:Qg}{E:j8->jc->Prop}{i:Nat}{x:Str}{v:V}{u:j8}{Q:Unit->jc->Prop}(I:Inv X pc σ H s)(hN:X.N.Nodup)(hi:X.N[i]?=aA x)(hx:oq X.env.scope x)(r:RelV v u)
  (h:∀ s',Inv X pc (σ.set i (aA v)) H s'->Q () s') (hf:X.fn x=aC∨X.env.scope.names.lookup x=aA .local:=by first |exact .inl rfl |exact .inr rfl |assumption):jT M A (storeName X.env x u) Q E s:=
 zx I hN hi hx r (λs' I' _=>h s' I') hf
def Inv.call'{s':jc}{ch:List jv}(I:Inv X pc σ H s)(ho:s'.os=s.os)(u:Un (dH X.stack) ch H H' s.heap s'.heap)(hok:cc X.prog X.w H' s'.heap)(hg:Nc s'.gens)
  (hch:∀ b∈ch,(b∈X.ex∨X.s₀.heap.objs.size<=b)/\b≠X.env.locals/\(∀ x c,X.env.cells.lookup x=aA c->c≠b)/\∀ p∈X.pn++pc,p.1≠b):Inv X pc σ H' s':=by
 obtain⟨h',g',d',t',o'⟩:=s';have e:o'=s.os:=ho;subst e;exact I.call (g':=g') (t':=t') (d':=d') u hok hg hch
end
abbrev XK:=j8->Option jv->Hp->Prop
abbrev St:=List (Option V)
abbrev VK:=V->Hp->Prop
abbrev TE:=St->Hp->VK->Prop
abbrev TT:=St->Hp->(Bool->Hp->Prop)->Prop
abbrev TA:=St->Hp->(List V->Hp->Prop)->Prop
structure Ends where
 nx:St->Hp->Prop
 rt:VK
 bk:St->Hp->Prop:=λ_ _=>False
 ct:St->Hp->Prop:=λ_ _=>False
abbrev TS:=Ends->St->Hp->Prop
def EP(X:Cx)(pc:List (jv × Obj))(σ:St)(Q:VK)(u:j8)(s':jc):Prop:=∃ v H',Inv X pc σ H' s'/\RelV v u/\Q v H'
def TP(X:Cx)(pc:List (jv × Obj))(σ:St)(Q:Bool->Hp->Prop)(b:Bool)(s':jc):Prop:=∃ H',Inv X pc σ H' s'/\Q b H'
def AP(X:Cx)(pc:List (jv × Obj))(σ:St)(Q:List V->Hp->Prop)(us:List j8)(s':jc):Prop:=∃ vs H',Inv X pc σ H' s'/\Vals vs us/\Q vs H'
def SP(X:Cx)(pc:List (jv × Obj))(D:Ends)(f:Flow)(s':jc):Prop:=
 match f with
 |.next=>∃ σ' H',Inv X pc σ' H' s'/\D.nx σ' H'
 |.brk=>∃ σ' H',Inv X pc σ' H' s'/\D.bk σ' H'
 |.cont=>∃ σ' H',Inv X pc σ' H' s'/\D.ct σ' H'
 |.ret u=>∃ v σ' H',Inv X pc σ' H' s'/\RelV v u/\D.rt v H'
def PE(X:Cx)(e:Q5)(t:TE):Prop:=
 ∀(pc:List (jv × Obj)) (s:jc) (σ:St) (H:Hp) (Q:VK),Inv X pc σ H s->t σ H Q->jT (jR X.prog X.w) X.A (eval e X.env) (EP X pc σ Q) X.xe s
def PT(X:Cx)(e:Q5)(t:TT):Prop:=
 ∀(pc:List (jv × Obj)) (s:jc) (σ:St) (H:Hp) (Q:Bool->Hp->Prop),Inv X pc σ H s->t σ H Q->jT (jR X.prog X.w) X.A (JQ e X.env (eval e X.env)) (TP X pc σ Q) X.xe s
def PW(X:Cx)(e:Q5)(t:TT):Prop:=
 ∀(whole:Sem j8) (pc:List (jv × Obj)) (s:jc) (σ:St) (H:Hp) (Q:Bool->Hp->Prop),Inv X pc σ H s->t σ H Q->jT (jR X.prog X.w) X.A (JQ e X.env whole) (TP X pc σ Q) X.xe s
def PW.pt{X:Cx}{e:Q5}{t:TT}(h:PW X e t):PT X e t:=h _
def PA(X:Cx)(es:List Q5)(t:TA):Prop:=
 ∀(pos:Pos) (pc:List (jv × Obj)) (s:jc) (σ:St) (H:Hp) (Q:List V->Hp->Prop),Inv X pc σ H s->t σ H Q->jT (jR X.prog X.w) X.A (spliced (QM pos (jg es X.env))) (AP X pc σ Q) X.xe s
def PS(X:Cx)(st:QX)(t:TS):Prop:=
 ∀(pc:List (jv × Obj)) (s:jc) (σ:St) (H:Hp) (D:Ends),Inv X pc σ H s->t D σ H->jT (jR X.prog X.w) X.A (exec st X.env) (SP X pc D) X.xe s
def cV(X:Cx)(st:List QX)(t:TS):Prop:=
 ∀(pc:List (jv × Obj)) (s:jc) (σ:St) (H:Hp) (D:Ends),Inv X pc σ H s->t D σ H->jT (jR X.prog X.w) X.A (execs st X.env) (SP X pc D) X.xe s
def aW{α:Type}{t:Sem α}{Q Q':α->jc->Prop}{M:Ug}{A:Qg}{E:j8->jc->Prop}{s:jc}(h:jT M A t Q E s)(hQ:∀ a s,Q a s->Q' a s):jT M A t Q' E s:=jY h hQ λ_ _ x=>x
section
def d7(i:Nat):TE:=fun σ H Q=>∃ v,σ[i]?=aA (aA v)/\Q v H
def tC(v:V):TE:=λ_ H Q=>Q v H
def MI{i:Nat}{x:Str}{pos:Pos}(hN:X.N[i]?=aA x)(hv:uI X.env.scope x)(hd:ae x:=by decide)(hcd:(x == ("__classdict__":Str))=aD:=by decide):PE X (.Name x pos) (d7 i):=by
 intro pc s σ H Q I h;obtain⟨v,e,h⟩:=h;obtain⟨m,hn,hl⟩:=I.loc;obtain⟨u,r,l⟩:=hl i x v hN e hv;have fin:EP X pc σ Q u s:=⟨v,H,I,r,h⟩;obtain ⟨hk,hm⟩ |⟨hk,c,hc,hcell⟩:=l
 ·exact W2 (Yg I.ok.kind hk hn hm fin) hd
 ·obtain hk |hk:=hk
  ·exact W2 (wpAny_loadName_cell I.ok.kind hk hc hcell fin) hd
  ·exact W2 (wpAny_loadName_free I.ok.kind hk hc hcell fin hcd) hd
def Mv{i j pos}:PE X (.Constant (.int i) j pos) (tC (.int i)):=λ_ _ _ H _ I h=>wpAny_Constant_int ⟨.int i,H,I.tok _,⟨_,rfl⟩,h⟩
def Ix{b j pos}:PE X (.Constant (.bool b) j pos) (tC (.bl b)):=λ_ _ _ H _ I h=>Constant_bool ⟨.bl b,H,I,rfl,h⟩
def Dn{j pos}:PE X (.Constant .none j pos) (tC .non):=λ_ _ _ H _ I h=>Constant_none ⟨.non,H,I,rfl,h⟩
def MG{x j pos}:PE X (.Constant (.str x) j pos) (tC (.str x)):=λ_ _ _ H _ I h=>Calls.Constant_str ⟨.str x,H,I.tok _,⟨_,rfl⟩,h⟩
def Gl(X:Cx)(x:Str):Prop:=X.env.kindOf x=aA .globalImplicit
def yk{E:j8->jc->Prop}{pc:List (jv × Obj)}{s:jc}{σ:St}{H:Hp}{x:Str}{u:j8}{pos:Pos}{Q:j8->jc->Prop}(I:Inv X pc σ H s)(hg:Gl X x)(hm:X.mg x=aA u)(h:Q u s)
  (hd:ae x:=by decide):jT (jR X.prog X.w) X.A (eval (.Name x pos) X.env) Q E s:=
 YE I.ok.kind hg (Calls.loadGlobal_global (by rw[I.ok.glob]; exact I.mod.glob.keeps I.bk) hm h) hd
def nR{E:j8->jc->Prop}{pc:List (jv × Obj)}{s:jc}{σ:St}{H:Hp}{x:Str}{u:j8}{pos:Pos}{Q:j8->jc->Prop}(I:Inv X pc σ H s)(hg:Gl X x)(hm:X.mg x=aB)(hv:Z7 x=aA u)(h:Q u s)
  (hn:x≠"__name__":=by decide) (hd:ae x:=by decide):jT (jR X.prog X.w) X.A (eval (.Name x pos) X.env) Q E s:=by
 obtain⟨mb,h1,h2⟩:=I.mod.blt;exact YE I.ok.kind hg (Calls.loadGlobal_builtin (by rw[I.ok.glob]; exact I.mod.glob.keeps I.bk) hm (by rw[I.ok.blt]; exact h1.keeps I.bk) ((h2 x hn).trans hv) h) hd
variable {a:Q5}
def PC(X:Cx)(op:CmpOp)(a b:Q5)(t:TE):Prop:=
 ∀(pc:List (jv × Obj)) (s:jc) (σ:St) (H:Hp) (Q:VK),Inv X pc σ H s->t σ H Q->
  jT (jR X.prog X.w) X.A (eval a X.env) (λv s₁=>jT (jR X.prog X.w) X.A (eval b X.env) (λu s₂=>jT (jR X.prog X.w) X.A (Z9 op v u) (EP X pc σ Q) X.xe s₂) X.xe s₁) X.xe s
def tB(t:TE):TT:=fun σ H Q=>t σ H λx H1=>∃ c,x=.bl c/\Q c H1
def Mu{op:CmpOp}{t:TE}(h:PC X op a b t)(h1:Qp op b=aD:=by first |exact nobehind _ (by decide) (by decide) |rfl):PE X (.Compare a [op] [b] pos) t:=λpc s σ H Q I hw=>wpAny_Compare1 (h pc s σ H Q I hw) h1
def Dq{op:CmpOp}{t:TE}(h:PC X op a b t)(h1:Qp op b=aD:=by first |exact nobehind _ (by decide) (by decide) |rfl):PT X (.Compare a [op] [b] pos) (tB t):=by
 intro pc s σ H Q I hw;refine ND (aW (h pc s σ H _ I hw) λv s1 h1=>aW h1 λu s2 h2=>aW h2 λc s3 ⟨x,H1,I1,r1,q1⟩=>?_) h1;obtain⟨d,rfl,q⟩:=q1;cases r1;exact Y2 ⟨H1,I1,q⟩
variable {tA tB':TT}{rest:List Q5}
def Hg(t u:TT):TT:=fun σ H Q=>t σ H λc H1=>if c=aC then u σ H1 Q else Q aD H1
def Xg(t u:TT):TT:=fun σ H Q=>t σ H λc H1=>if c=aC then Q aC H1 else u σ H1 Q
def Hm(t:TT):TT:=fun σ H Q=>t σ H λc H1=>Q (!c) H1
def Pe(ha:PT X a tA):PW X (.BoolOp .And [a] pos) tA:=by
 intro wh pc s σ H Q I h;refine isTrue_and (aW (ha pc s σ H Q I h) λc s1 e=>?_);cases c with
 |true=>exact isTrue_and_nil e
 |false=>exact e
def MS(ha:PT X a tA):PW X (.BoolOp .Or [a] pos) tA:=by
 intro wh pc s σ H Q I h;refine isTrue_or (aW (ha pc s σ H Q I h) λc s1 e=>?_);cases c with
 |false=>exact isTrue_or_nil e
 |true=>exact e
def MR(ha:PT X a tA)(hb:PW X (.BoolOp .And (b::rest) pos) tB'):PW X (.BoolOp .And (a::b::rest) pos) (Hg tA tB'):=by
 intro wh pc s σ H Q I h;refine isTrue_and (aW (ha pc s σ H _ I h) λc s1 h_=>?_); obtain⟨H1,I1,q1⟩:=h_;cases c with
 |true=>exact hb wh pc s1 σ H1 Q I1 q1
 |false=>exact⟨H1,I1,q1⟩
def KN(ha:PT X a tA)(hb:PW X (.BoolOp .Or (b::rest) pos) tB'):PW X (.BoolOp .Or (a::b::rest) pos) (Xg tA tB'):=by
 intro wh pc s σ H Q I h;refine isTrue_or (aW (ha pc s σ H _ I h) λc s1 h_=>?_); obtain⟨H1,I1,q1⟩:=h_;cases c with
 |true=>exact⟨H1,I1,q1⟩
 |false=>exact hb wh pc s1 σ H1 Q I1 q1
def MP(ha:PT X a tA):PT X (.UnaryOp .Not a pos) (Hm tA):=by
 intro pc s σ H Q I h;exact isTrue_not (ha pc s σ H (λc H1=>Q (!c) H1) I h)
def LE(ta tb:TE):TE:=fun σ H Q=>ta σ H λx H1=>∃ c,x=.bl c/\if c=aC then tb σ H1 Q else Q (.bl aD) H1
def ME{op}{t:TE}(h:PE X a t):PE X (.BoolOp op [a] pos) t:=λpc s σ H Q I hw=>BoolOp_one (h pc s σ H Q I hw)
def Ms(ha:PE X a ta)(hb:PE X (.BoolOp .And (b::rest) pos) tb):PE X (.BoolOp .And (a::b::rest) pos) (LE ta tb):=by
 intro pc s σ H Q I h;refine BoolOp_and (aW (ha pc s σ H _ I h) λv s1 h_=>?_); obtain⟨x,H1,I1,r1,q1⟩:=h_;obtain⟨c,rfl,q1⟩:=q1;cases r1;refine Y2 ?_;cases c with
 |true=>exact hb pc s1 σ H1 Q I1 q1
 |false=>exact⟨.bl aD,H1,I1,rfl,q1⟩
def Xi(t:TT)(ta tb:TE):TE:=fun σ H Q=>t σ H λc H1=>if c=aC then ta σ H1 Q else tb σ H1 Q
def SC{c:Q5}(hc:PT X c tA)(ha:PE X a ta)(hb:PE X b tb):PE X (.IfExp c a b pos) (Xi tA ta tb):=by
 intro pc s σ H Q I h;refine wpAny_IfExp (aW (hc pc s σ H _ I h) λd s1 h_=>?_); obtain⟨H1,I1,q1⟩:=h_;cases d with
 |true=>exact ha pc s1 σ H1 Q I1 q1
 |false=>exact hb pc s1 σ H1 Q I1 q1
end
def aq(K:jd)(H:Hp)(a:jv)(xs:List V):Prop:=
 Rd H a (.lst xs) ∨
  ∃(o:Obj) (its:Array j8) (n:Nat),K.lookup a=aA o/\o.cls=.type "list"/\o.dict=aB/\o.data=.seq its n/\its.size<=ju/\Vals xs its.toList
def cL(K:jd)(H:Hp)(a:jv)(xs:List V):Prop:=
 Rd H a (.tup xs) ∨
  ∃(o:Obj) (its:Array j8) (n:Nat),K.lookup a=aA o/\o.cls=.type "tuple"/\o.data=.seq its n/\its.size<=ju/\Vals xs its.toList
def HM:j8->Option V
 |.none=>aA .non
 |.bool b=>aA (.bl b)
 |.int i _=>aA (.int i)
 |.str x _=>aA (.str x)
 |.bytes b _=>aA (.byt b)
 |.float b _=>aA (.flt b)
 |.ref a=>aA (.ref a)
 |.type n=>aA (.ty n)
 |_=>aB
def RelV.abs{x:V}{u:j8}(r:RelV x u):HM u=aA x:=by
 cases x with
 |non=>cases r; rfl
 |bl _=>cases r; rfl
 |int _=>obtain⟨t,rfl⟩:=r; rfl
 |str _=>obtain⟨t,rfl⟩:=r; rfl
 |byt _=>obtain⟨t,rfl⟩:=r; rfl
 |flt _=>obtain⟨t,rfl⟩:=r; rfl
 |ref _=>cases r; rfl
 |ty _=>cases r; rfl
def RelV.inj{x y:V}{u:j8}(r:RelV x u)(q:RelV y u):x=y:=jh (r.abs.symm.trans q.abs)
def Vals.inj:∀ {xs ys:List V} {us:List j8},Vals xs us->Vals ys us->xs=ys
 |_,_,_,.nil,.nil=>rfl
 |_,_,_,.cons r t,.cons r' t'=>by rw[r.inj r',Vals.inj t t']
section
variable {xs ys:List V}
def aq.of{K:jd}(h:H a=aA (.lst xs)):aq K H a xs:=.inl (.inl h)
def cL.of{K:jd}(h:H a=aA (.tup xs)):cL K H a xs:=.inl (.inl h)
def Inv.list(I:Inv X pc σ H s)(h:aq X.K H a xs):∃ its:List j8,Vals xs its/\PlainL s.heap a its.toArray/\xs.length<=ju:=by
 obtain h |⟨o,its,n,hk,hc,hd,hs,hz,r⟩:=h
 ·obtain⟨z,its,n,r,e⟩:=h.ok I.hok;exact⟨its,r,⟨_,n,e,rfl,rfl,rfl⟩,z⟩
 ·refine⟨its.toList,r,⟨o,n,I.kIn a o hk,hc,hd,by simpa using hs⟩,?_⟩
  have e:=r.length;simp only[QK] at e;lia
def Inv.tuple(I:Inv X pc σ H s)(h:cL X.K H a xs):∃ its:List j8,Vals xs its/\IsTup s.heap a its.toArray/\xs.length<=ju:=by
 obtain h |⟨o,its,n,hk,hc,hs,hz,r⟩:=h
 ·obtain⟨z,its,r,p⟩:=h.ok I.hok;exact⟨its,r,p,z⟩
 ·refine⟨its.toList,r,⟨o,I.kIn a o hk,hc,n,by simpa using hs⟩,?_⟩
  have e:=r.length;simp only[QK] at e;lia
def Inv.list_inj(I:Inv X pc σ H s)(h:aq X.K H a xs)(h':aq X.K H a ys):xs=ys:=by
 obtain⟨its,r,⟨o,n,e,_,_,d⟩,_⟩:=I.list h;obtain⟨its',r',⟨o',n',e',_,_,d'⟩,_⟩:=I.list h';rw[e] at e'; cases e';rw[d] at d';injection d' with d1 _;have:its=its':=by simpa using congrArg U8 d1
 subst this;exact r.inj r'
def Inv.tuple_inj(I:Inv X pc σ H s)(h:cL X.K H a xs)(h':cL X.K H a ys):xs=ys:=by
 obtain⟨its,r,⟨o,e,_,n,d⟩,_⟩:=I.tuple h;obtain⟨its',r',⟨o',e',_,n',d'⟩,_⟩:=I.tuple h';rw[e] at e'; cases e';rw[d] at d';injection d' with d1 _;have:its=its':=by simpa using congrArg U8 d1
 subst this;exact r.inj r'
end
abbrev Cx.wish(X:Cx)(E:j8->jc->Prop):Cx:={ X with xe:=E }
abbrev Cx.nox(X:Cx):Cx:=X.wish λ_ _=>False
def Cx.Ok.wish{X:Cx}(ok:X.Ok)(E:j8->jc->Prop):(X.wish E).Ok:=
 ⟨ok.mod,ok.kind,ok.glob,ok.blt,ok.above,ok.inj,ok.has,ok.cab,ok.hd,ok.frames,ok.stk,ok.exf,ok.bs,ok.bsz,ok.noex,ok.exfs,ok.funs,ok.frf⟩
def Cx.Ok.unwish{X:Cx}{E:j8->jc->Prop}(ok:(X.wish E).Ok):X.Ok:=
 ⟨ok.mod,ok.kind,ok.glob,ok.blt,ok.above,ok.inj,ok.has,ok.cab,ok.hd,ok.frames,ok.stk,ok.exf,ok.bs,ok.bsz,ok.noex,ok.exfs,ok.funs,ok.frf⟩
section
variable {E:j8->jc->Prop}
def Inv.wish(I:Inv X pc σ H s)(E:j8->jc->Prop):Inv (X.wish E) pc σ H s:=⟨I.ok.wish E,I.os,I.bare,I.base,I.loc,I.cell,I.free,I.freeC,I.pin,I.hok,I.len⟩
def Inv.unwish(I:Inv (X.wish E) pc σ H s):Inv X pc σ H s:=⟨I.ok.unwish,I.os,I.bare,I.base,I.loc,I.cell,I.free,I.freeC,I.pin,I.hok,I.len⟩
def SP.unwish{D:Ends}{f:Flow}{s':jc}(h:SP (X.wish E) pc D f s'):SP X pc D f s':=by
 cases f with
 |next=>obtain⟨σ',H',I,q⟩:=h; exact⟨σ',H',I.unwish,q⟩
 |brk=>obtain⟨σ',H',I,q⟩:=h; exact⟨σ',H',I.unwish,q⟩
 |cont=>obtain⟨σ',H',I,q⟩:=h; exact⟨σ',H',I.unwish,q⟩
 |ret u=>obtain⟨v,σ',H',I,r,q⟩:=h; exact⟨v,σ',H',I.unwish,r,q⟩
def cV.nox{st:List QX}{t:TS}(h:cV X.nox st t):cV X st t:=λpc s σ H D I hw=>
 jY (h pc s σ H D (I.wish _) hw) (λ_ _ q=>q.unwish) λ_ _ z=>Zs z
end
section
variable {st:QX}{rest:List QX}{t u:TS}{te:TE}
def LI:TS:=λD σ H=>D.nx σ H
def CJ(t u:TS):TS:=λD σ H=>t { D with nx:=u D } σ H
def Pb:cV X [] LI:=λ_ _ σ H _ I h=>ZY ⟨σ,H,I,h⟩
def zd(h1:PS X st t)(h2:cV X rest u):cV X (st::rest) (CJ t u):=by
 intro pc s σ H D I h;refine Yc (aW (h1 pc s σ H { D with nx:=u D } I h) λf s1 q=>?_);cases f with
 |next=>
  obtain⟨σ',H',I',q⟩:=q;exact h2 pc s1 σ' H' D I' q
 |ret v=>exact q
 |brk=>exact q
 |cont=>exact q
def tH(h1:PS X st t):cV X [st] t:=by
 intro pc s σ H D I h;refine Yc (aW (h1 pc s σ H D I h) λf s1 q=>?_);cases f with
 |next=>exact ZY q
 |ret v=>exact q
 |brk=>exact q
 |cont=>exact q
def Inv.quiet{pc:List (jv × Obj)}{σ:St}{H:Hp}{s:jc}(I:Inv X pc σ H s):interactive X.env=aD:=by simp[interactive,I.ok.kind]
def LH(te:TE):TS:=λD σ H=>te σ H λ_ H1=>D.nx σ H1
def Pa(he:PE X e te)(hs:ZZ e aB pos.line X.env=pure aD:=by rfl):PS X (.Expr e pos) (LH te):=by
 intro pc s σ H D I h;exact wpAny_Expr_any (aW (he pc s σ H _ I h) λv s1 ⟨x,H1,I1,r1,q1⟩=>⟨σ,H1,I1,q1⟩) I.quiet hs
def CI(te:TE):TS:=λD σ H=>te σ H D.rt
def v9(he:PE X e te):PS X (.Return (aA e) pos) (CI te):=by
 intro pc s σ H D I h;exact wpAny_Return_some (aW (he pc s σ H _ I h) λv s1 ⟨x,H1,I1,r1,q1⟩=>⟨x,σ,H1,I1,r1,q1⟩)
def Hj(c:TT)(t u:TS):TS:=λD σ H=>c σ H λb H1=>if b=aC then t D σ H1 else u D σ H1
def Ce{c:Q5}{a b:List QX}{tc:TT}(hc:PT X c tc)(ha:cV X a t)(hb:cV X b u):PS X (.If c a b pos) (Hj tc t u):=by
 intro pc s σ H D I h;refine wpAny_If (aW (hc pc s σ H _ I h) λd s1 h_=>?_); obtain⟨H1,I1,q1⟩:=h_;cases d with
 |true=>exact ha pc s1 σ H1 D I1 q1
 |false=>exact hb pc s1 σ H1 D I1 q1
end
abbrev TG:=V->St->Hp->(St->Hp->Prop)->Prop
abbrev fA:=List V->St->Hp->(St->Hp->Prop)->Prop
def PG(X:Cx)(target:Q5)(t:TG):Prop:=
 ∀(pc:List (jv × Obj)) (s:jc) (σ:St) (H:Hp) (v:V) (u:j8) (Q:St->Hp->Prop),Inv X pc σ H s->RelV v u->t v σ H Q->
  jT (jR X.prog X.w) X.A (YT target X.env u) (λ_ s'=>∃ σ' H',Inv X pc σ' H' s'/\Q σ' H') X.xe s
def qw(X:Cx)(ts:List Q5)(t:fA):Prop:=
 ∀(pc:List (jv × Obj)) (s:jc) (σ:St) (H:Hp) (vs:List V) (us:List j8) (Q:St->Hp->Prop),Inv X pc σ H s->Vals vs us->t vs σ H Q->
  jT (jR X.prog X.w) X.A (assignInOrder ((Qr ts X.env).map (·.2)) us) (λ_ s'=>∃ σ' H',Inv X pc σ' H' s'/\Q σ' H') X.xe s
abbrev uS:=V->V->V->Hp->(Hp->Prop)->Prop
def xZ(X:Cx)(t:uS):Prop:=
 ∀(pc:List (jv × Obj)) (s:jc) (σ:St) (H:Hp) (o i v:V) (ov iv u:j8) (Q:Hp->Prop),Inv X pc σ H s->RelV o ov->RelV i iv->RelV v u->t o i v H Q->
  jT (jR X.prog X.w) X.A (setItem ov iv u) (λ_ s'=>∃ H',Inv X pc σ H' s'/\Q H') X.xe s
section
def eS(i:Nat):TG:=λv σ H Q=>Q (σ.set i (aA v)) H
def Oy{i:Nat}{x:Str}(hN:X.N.Nodup)(hi:X.N[i]?=aA x)(hx:oq X.env.scope x)(hf:X.fn x=aC∨X.env.scope.names.lookup x=aA .local:=by first |exact .inl rfl |exact .inr rfl |assumption):PG X (.Name x pos) (eS i):=by
 intro pc s σ H v u Q I r h;exact YU (F4 I hN hi hx r (λs' I'=>⟨_,H,I',h⟩) hf)
def qC:fA:=λvs σ H Q=>vs=[]/\Q σ H
def oC(t:TG)(u:fA):fA:=λvs σ H Q=>∃ v r,vs=v::r/\t v σ H fun σ' H'=>u r σ' H' Q
def P0:qw X [] qC:=by
 intro pc s σ H vs us Q I r h;obtain⟨e,h⟩:=h;subst e;cases r;exact assignInOrder_nil ⟨σ,H,I,h⟩
def SD{e:Q5}{es:List Q5}{t:TG}{u:fA}(h1:PG X e t)(h2:qw X es u)
  (hs:(Qr (e::es) X.env).map (·.2)=YT e X.env::(Qr es X.env).map (·.2):=by rfl):qw X (e::es) (oC t u):=by
 intro pc s σ H vs us Q I r h;obtain⟨v,vr,e1,h⟩:=h;subst e1;cases r with
 |cons r rr=>
  rw[hs];refine assignInOrder_cons (aW (h1 pc s σ H _ _ _ I r h) λ_ s1 h_=>?_); obtain⟨σ1,H1,I1,q1⟩:=h_;exact h2 pc s1 σ1 H1 _ _ Q I1 rr q1
def ia(K:jd)(n:Nat)(t:fA):TG:=λv σ H Q=>∃ a xs,v=.ref a/\cL K H a xs/\xs.length=n/\t xs σ H Q
def Do{es:List Q5}{k:Nat}{t:fA}{n:Nat}(hc:X.calm=aC)(h:qw X es t)
  (hn:(Qr es X.env).length=n:=by rfl) (hst:(Qr es X.env).findIdx? (·.1)=aB:=by rfl):PG X (.Tuple es k pos) (ia X.K n t):=by
 intro pc s σ H v u Q I r hw;obtain⟨a,xs,e1,hq,hl,hw⟩:=hw;subst e1;cases r;obtain⟨its,rv,ht,hz⟩:=I.tuple hq;refine assign_Tuple_tuple (I.ok.hd hc) ht (by simp[hn,<-hl,rv.length]) hst λh' hx=>?_
 have I1:Inv X pc σ H { s with heap:=h' }:=I.kept (t':=s.toks) λb o e=>hx b o (jH (jr e)) e;exact h pc _ σ H xs _ Q I1 (by simpa using rv) hw
def xh(to ti:TE)(t:uS):TG:=λv σ H Q=>to σ H λo H1=>ti σ H1 λi H2=>t o i v H2 λH3=>Q σ H3
def MJ{o i:Q5}{to ti:TE}{t:uS}(ho:PE X o to)(hi:PE X i ti)(hs:xZ X t)
  (ha:∀ v,YT (.Subscript o i pos) X.env v=(do
   let ov <-Yt [v] (eval o X.env)
   let iv <-Yt [v,ov] (eval i X.env)
   standAt pos
   Yt [v,ov,iv] (setItem ov iv v)
   release [v,ov,iv] []):=by intro _; rfl):PG X (.Subscript o i pos) (xh to ti t):=by
 intro pc s σ H v u Q I r h;rw[ha];refine j5 (Qa (aW (ho pc s σ H _ I h) λov s1 h_=>?_)); obtain⟨x,H1,I1,r1,q1⟩:=h_;refine j5 (Qa (aW (hi pc s1 σ H1 _ I1 q1) λiv s2 h_=>?_)); obtain⟨y,H2,I2,r2,q2⟩:=h_;refine j5 (Zk (j5 (Qa (aW (hs pc s2 σ H2 x y v ov iv u _ I2 r1 r2 r q2) λ_ s3 h_=>?_)))); obtain⟨H3,I3,q3⟩:=h_;exact wpAny_release ⟨σ,H3,I3,q3⟩
def ef(te:TE)(g:TG):TS:=λD σ H=>te σ H λx H1=>g x σ H1 D.nx
def MM{tg e:Q5}{te:TE}{g:TG}(he:PE X e te)(hg:PG X tg g)(hs:swapsWithSole [tg] e pos.line X.env=pure aD:=by rfl)(hw:swappedStores [tg] e X.env=pure aB:=by rfl)
  (h1:(Qr [tg] X.env).map (·.2)=[YT tg X.env]:=by rfl):PS X (.Assign [tg] e pos) (ef te g):=by
 intro pc s σ H D I h;refine wpAny_Assign_stores (aW (he pc s σ H _ I h) λv s1 ⟨x,H1,I1,r1,q1⟩=>?_) hs hw;rw[h1];exact aW (hg pc s1 σ H1 x v _ I1 r1 q1) λ_ s2 q=>q
def Dp{i:Nat}{x:Str}{e:Q5}{te:TE}{pos':Pos}(hN:X.N.Nodup)(hi:X.N[i]?=aA x)(hx:oq X.env.scope x)(he:PE X e te)(hs:ZZ e (aA (.Name x pos')) pos.line X.env=pure aD:=by rfl)(hf:X.fn x=aC∨X.env.scope.names.lookup x=aA .local:=by first |exact .inl rfl |exact .inr rfl |assumption) :
  PS X (.Assign [.Name x pos'] e pos) (ef te (eS i)):=by
 intro pc s σ H D I h;refine wpAny_Assign_Name (aW (he pc s σ H _ I h) λv s1 ⟨y,H1,I1,r1,q1⟩=>?_) hs;exact F4 I1 hN hi hx r1 (λs2 I2=>⟨_,H1,I2,q1⟩) hf
end
section
def DX(c:TT)(tb:TS):TS:=λD σ H=>∃ W:Nat->St->Hp->Prop,(∃ m,W m σ H)/\∀ m σ H,W m σ H->
 c σ H λb H1=>if b=aC then ∃ N:St->Hp->Prop,(∀ σ' H',N σ' H'->∃ m',m' < m/\W m' σ' H')/\tb { D with nx:=N,ct:=N,bk:=D.nx } σ H1 else D.nx σ H1
def SJ{c:Q5}{body:List QX}{tc:TT}{tb:TS}(hp:Jv (jR X.prog X.w) X.A X.env X.xe)(hc:PT X c tc)(hb:cV X body tb):PS X (.While c body [] pos) (DX tc tb):=by
 intro pc s σ H D I h;obtain⟨W,⟨m0,w0⟩,turn⟩:=h;refine wpAny_While (codeAny_whileLoop (λn s'=>∃ σ' H',Inv X pc σ' H' s'/\W n σ' H') ?_ m0 ⟨σ,H,I,w0⟩);rintro n s1 ⟨σ1,H1,I1,w1⟩;refine ZF hp (aW (hc pc s1 σ1 H1 _ I1 (turn n σ1 H1 w1)) λb s2 h_=>?_); obtain⟨H2,I2,q2⟩:=h_;cases b with
 |true=>
  obtain⟨N,hN,q2⟩:=q2;rw[aI rfl];refine ZF hp (aW (hb pc s2 σ1 H2 _ I2 q2) λf s3 q3=>?_);cases f with
  |next=>
   obtain⟨σ3,H3,I3,n3⟩:=q3;obtain⟨m',hm,w3⟩:=hN σ3 H3 n3;exact⟨m',hm,σ3,H3,I3,w3⟩
  |cont=>
   obtain⟨σ3,H3,I3,n3⟩:=q3;obtain⟨m',hm,w3⟩:=hN σ3 H3 n3;exact⟨m',hm,σ3,H3,I3,w3⟩
  |brk=>exact q3
  |ret v=>exact q3
 |false=>
  rw[aH jO];exact ZY ⟨σ1,H2,I2,q2⟩
end
structure It where
 go:Nat->Hp->Prop
 yld:Nat->Hp->V->Hp->Prop
 stop:Nat->Hp->Prop
def fT(X:Cx)(pc:List (jv × Obj))(H:Hp)(b:jv):Prop:=
 H b=aB/\b≠X.env.locals/\b∉X.fs/\(b∈X.ex∨X.s₀.heap.objs.size<=b)/\(∀ x c,X.env.cells.lookup x=aA c->c≠b)/\∀ p∈X.pn++pc,p.1≠b
def Inv.fpOk{X:Cx}{pc:List (jv × Obj)}{σ:St}{H H':Hp}{s:jc}{b:jv}(I:Inv X pc σ H s)(hb:s.heap.objs.size<=b)(hn:H' b=aB):fT X pc H' b:=by
 refine⟨hn,g9 (Q0 I.lt hb),I.nofs hb,.inr (Qc I.sz hb),λx c e z=>?_,λp hp z=>?_⟩
 ·obtain⟨v,q⟩:=I.cell x c e;exact absurd (Q0 q.lt (by rw[z]; exact hb)) (Q9 _)
 ·exact absurd (Q0 (jr (I.pin p hp).1) (by rw[z]; exact hb)) (Q9 _)
structure Turn (P:jI) (w:Qf) (K:jd) (tg:Q5) (J:It) (fp:List jv) (it:jv) (tn:Nat->QN->Prop):Prop where
 mem:it∈fp
 obj:∀ i h,tn i h->∀ b∈fp,∃ o,h.get? b=aA o/\∀ v,o.data≠.cell v
 keep:∀ i h h',tn i h->(∀ b∈fp,∀ o,h.get? b=aA o->h'.get? b=aA o)->tn i h'
 item:∀(X:Cx),X.prog=P->X.w=w->X.K=K->X.calm=aC->∀(i:Nat) (pc:List (jv × Obj)) (s:jc) (σ:St) (H:Hp) (E:j8->jc->Prop),Inv X pc σ H s->(∀ b∈fp,fT X pc H b)->tn i s.heap->J.go i H->
  jT (jR P w) X.A (NE (.ref it)) (λr s1=>∃ u,r=aA u /\
   jT (jR P w) X.A (ga tg (.ref it) u) (λ_ s2=>∃ x H',Inv X pc σ H' s2/\RelV x u/\J.yld i H x H'/\tn (i+1) s2.heap/\∀ b∈fp,H' b=aB) E s1) E s
 done:∀(X:Cx),X.prog=P->X.w=w->X.K=K->X.calm=aC->∀(i:Nat) (pc:List (jv × Obj)) (s:jc) (σ:St) (H:Hp) (E:j8->jc->Prop),Inv X pc σ H s->(∀ b∈fp,fT X pc H b)->tn i s.heap->J.stop i H->
  jT (jR P w) X.A (NE (.ref it)) (λr s1=>r=aB/\Inv X pc σ H s1) E s
 self:∀(A:Qg) (i:Nat) (s:jc) (Q:j8->jc->Prop) (E:j8->jc->Prop),tn i s.heap->Q (.ref it) s->jT (jR P w) A (pyIter (.ref it)) Q E s
abbrev TI:=St->Hp->(It->Hp->Prop)->Prop
def HC(X:Cx)(pc:List (jv × Obj))(σ:St)(tg:Q5)(R:It->Hp->Prop)(itv:j8)(s2:jc):Prop:=
 ∃(it:jv) (fp:List jv) (tn:Nat->QN->Prop) (J:It) (H':Hp),itv=.ref it/\Inv X pc σ H' s2/\Turn X.prog X.w X.K tg J fp it tn/\tn 0 s2.heap/\(∀ b∈fp,fT X pc H' b)/\R J H'
def PI(X:Cx)(tg iter:Q5)(wi:TI):Prop:=
 ∀(pc:List (jv × Obj)) (s:jc) (σ:St) (H:Hp) (R:It->Hp->Prop),Inv X pc σ H s->wi σ H R->
  jT (jR X.prog X.w) X.A (eval iter X.env) (λv s1=>jT (jR X.prog X.w) X.A (pyIter v) (HC X pc σ tg R) X.xe s1) X.xe s
def sX{M:Ug}{A:Qg}{E:j8->jc->Prop}{s:jc}{tg:Q5}{it:jv}{u:j8}{o:Obj}{n:String}{vs:Array j8}{Q:Unit->jc->Prop}(ho:s.heap.get? it=aA o)(hc:o.cls=.type n)(hd:o.data=.fields vs)
    (hn:["enumerate","zip","dict_itemiterator","dict_reverseitemiterator","odict_iterator","itertools.zip_longest","itertools.pairwise"].contains n=aD) (hQ:Q () s):jT M A (ga tg (.ref it) u) Q E s:=by
  unfold ga;cases tg<;>first
    |exact jm hQ
    | (cases u<;>first
        |exact jm hQ
        | (refine j5 (wpAny_load ho ?_)
           rw[hc,hd];show jT M A (if (["enumerate","zip","dict_itemiterator","dict_reverseitemiterator","odict_iterator","itertools.zip_longest","itertools.pairwise"].contains n&&vs[0]? == aA (rawInt _))=aC then _ else _) Q E s
           rw[aH (by intro h; rw[hn,YM] at h; cases h)]
           exact jm hQ))
def xT(K:jd)(a:jv):It:=
 ⟨λi H=>∃ xs x,aq K H a xs/\xs[i]?=aA x,λi H x H'=>H'=H/\∀ xs,aq K H a xs->xs[i]?=aA x,λi H=>∃ xs,aq K H a xs/\xs.length<=i⟩
def HD(K:jd)(a:jv):It:=
 ⟨λi H=>∃ xs x,cL K H a xs/\xs[i]?=aA x,λi H x H'=>H'=H/\∀ xs,cL K H a xs->xs[i]?=aA x,λi H=>∃ xs,cL K H a xs/\xs.length<=i⟩
def uM(lo:Int)(n:Nat):It:=⟨λi _=>i < n,λi H x H'=>H'=H/\x=.int (lo+i),λi _=>n<=i⟩
def TM{P:jI}{w:Qf}{K:jd}{tg:Q5}(a it:jv):Turn P w K tg (xT K a) [it] it (λi h=>h.IsListIter it a i) where
 mem:=by simp
 obj:=λi h st b hb=>by
  have e:b=it:=by simpa using hb
  subst e;obtain⟨o,e,c,d⟩:=st;exact⟨o,e,λv z=>by rw[d] at z; cases z⟩
 keep:=λi h h' st k=>st.at λo e=>k it (by simp) o e
 item:=by
  intro X hP hw hK hc i pc s σ H E I hf st hg;subst hP hw hK;obtain⟨xs,x,hq,hx⟩:=hg;obtain⟨its,rv,p,hz⟩:=I.list hq;obtain⟨u,hu,ru⟩:=rv.get hx;obtain⟨f0,f1,f2,f3,f4,f5⟩:=hf it (by simp)
  refine Nx st p.isList (x:=u) (by simpa using hu) λh' st' sb=>?_
  have I1:Inv X pc σ H { s with heap:=h' }:=I.turned (t':=s.toks) (λb o hb e=>(sb.2 b hb).trans e) f0 f1 f3 f4 f5;obtain⟨o,e,c,d⟩:=id st';exact⟨u,rfl,sX (s:={ s with heap:=h' }) e c d (by decide) ⟨x,H,I1,ru,⟨rfl,λys hy=>by rw[I.list_inj hy hq]; exact hx⟩,st',λb hb=>(hf b hb).1⟩⟩
 done:=by
  intro X hP hw hK hc i pc s σ H E I hf st hg;subst hP hw hK;obtain⟨xs,hq,hx⟩:=hg;obtain⟨its,rv,p,hz⟩:=I.list hq;obtain⟨f0,f1,f2,f3,f4,f5⟩:=hf it (by simp)
  have hl:=rv.length;exact NF (I.ok.hd hc) st p.isList (by simp; lia) λh' eb=>⟨rfl,I.turned (t':=s.toks) (λb o hb e=>eb b o hb e) f0 f1 f3 f4 f5⟩
 self:=λ_ _ _ _ _ st h=>wpAny_pyIter_listiter st h
def UR{P:jI}{w:Qf}{K:jd}{tg:Q5}(a it:jv):Turn P w K tg (HD K a) [it] it (λi h=>h.IsTupleIter it a i) where
 mem:=by simp
 obj:=λi h st b hb=>by
  have e:b=it:=by simpa using hb
  subst e;obtain⟨o,e,c,d⟩:=st;exact⟨o,e,λv z=>by rw[d] at z; cases z⟩
 keep:=λi h h' st k=>st.at λo e=>k it (by simp) o e
 item:=by
  intro X hP hw hK hc i pc s σ H E I hf st hg;subst hP hw hK;obtain⟨xs,x,hq,hx⟩:=hg;obtain⟨its,rv,p,hz⟩:=I.tuple hq;obtain⟨u,hu,ru⟩:=rv.get hx;obtain⟨f0,f1,f2,f3,f4,f5⟩:=hf it (by simp)
  refine wpAny_pyNext_tuple_item st (show s.heap.IsTuple a its.toArray from p) (x:=u) (by simpa using hu) λh' st' sb=>?_
  have I1:Inv X pc σ H { s with heap:=h' }:=I.turned (t':=s.toks) (λb o hb e=>(sb.2 b hb).trans e) f0 f1 f3 f4 f5;obtain⟨o,e,c,d⟩:=id st';exact⟨u,rfl,sX (s:={ s with heap:=h' }) e c d (by decide) ⟨x,H,I1,ru,⟨rfl,λys hy=>by rw[I.tuple_inj hy hq]; exact hx⟩,st',λb hb=>(hf b hb).1⟩⟩
 done:=by
  intro X hP hw hK hc i pc s σ H E I hf st hg;subst hP hw hK;obtain⟨xs,hq,hx⟩:=hg;obtain⟨its,rv,p,hz⟩:=I.tuple hq;obtain⟨f0,f1,f2,f3,f4,f5⟩:=hf it (by simp)
  have hl:=rv.length;exact wpAny_pyNext_tuple_end (I.ok.hd hc) st (show s.heap.IsTuple a its.toArray from p) (by simp; lia) λh' eb=>⟨rfl,I.turned (t':=s.toks) (λb o hb e=>eb b o hb e) f0 f1 f3 f4 f5⟩
 self:=λ_ _ _ _ _ st h=>wpAny_pyIter_tupleiter st h
def UQ{P:jI}{w:Qf}{K:jd}{tg:Q5}(it:jv)(lo:Int)(n:Nat):Turn P w K tg (uM lo n) [it] it (λi h=>IsRangeIter h it (lo+(i:Nat)*1) ((n:Int) - (i:Nat)) 1) where
 mem:=by simp
 obj:=λi h st b hb=>by
  have e:b=it:=by simpa using hb
  subst e
  exact⟨_,st,λv z=>by
   have z':Data.fields _=Jw v:=z
   cases z'⟩
 keep:=λi h h' st k=>k it (by simp) _ st
 item:=by
  intro X hP hw hK hc i pc s σ H E I hf st hg;subst hP hw hK;obtain⟨f0,f1,f2,f3,f4,f5⟩:=hf it (by simp)
  have W:=Walks.range (prog:=X.prog) (w:=X.w) (I.ok.hd hc) it lo 1 n;refine W.item i s _ _ hg st λv h' tk hv st' kk=>?_;obtain⟨t,rfl⟩:=hv;have I1:Inv X pc σ H { s with heap:=h',toks:=tk }:=I.turned (λb o hb e=>kk b o (by simpa using hb) e) f0 f1 f3 f4 f5
  refine⟨_,rfl,sX (s:={ s with heap:=h',toks:=tk }) (n:="range_iterator") st' rfl rfl (by decide) ⟨.int (lo+i),H,I1,⟨t,?_⟩,⟨rfl,rfl⟩,st',λb hb=>(hf b hb).1⟩⟩
  rw[Int.mul_one]
 done:=by
  intro X hP hw hK hc i pc s σ H E I hf st hg;subst hP hw hK;obtain⟨f0,f1,f2,f3,f4,f5⟩:=hf it (by simp)
  exact wpAny_pyNext_range_end (I.ok.hd hc) st (by have:n<=i:=hg; lia) λh' eb=>⟨rfl,I.turned (t':=s.toks) (λb o hb e=>eb b o hb e) f0 f1 f3 f4 f5⟩
 self:=λ_ _ _ _ _ st h=>wpAny_pyIter_rangeiter st h
section
variable {tg:Q5}
def CZ(K:jd)(tl:TE):TI:=fun σ H R=>tl σ H λx H1=>∃ a,x=.ref a/\(∃ xs,aq K H1 a xs)/\R (xT K a) H1
def HS(K:jd)(tl:TE):TI:=fun σ H R=>tl σ H λx H1=>∃ a,x=.ref a/\(∃ xs,cL K H1 a xs)/\R (HD K a) H1
def P5{l:Q5}{tl:TE}(hl:PE X l tl):PI X tg l (CZ X.K tl):=by
 intro pc s σ H R I h;refine aW (hl pc s σ H _ I h) λv s1 h_=>?_; obtain⟨x,H1,I1,r1,q1⟩:=h_;obtain⟨a,e,⟨xs,hq⟩,q⟩:=q1;subst e;cases r1;obtain⟨its,rv,p,hz⟩:=I1.list hq;refine Y3 p.isList ?_;refine⟨s1.heap.objs.size,[s1.heap.objs.size],_,_,H1,rfl,I1.kept (t':=s1.toks) λb o e=>ja _ e,TM a _,⟨_,jL _ rfl,rfl,rfl⟩,λb hb=>?_,q⟩;have e:b=s1.heap.objs.size:=by simpa using hb
 subst e;exact I1.fpOk (jj _) (I1.hok.fresh (jj _))
def ML{l:Q5}{tl:TE}(hl:PE X l tl):PI X tg l (HS X.K tl):=by
 intro pc s σ H R I h;refine aW (hl pc s σ H _ I h) λv s1 h_=>?_; obtain⟨x,H1,I1,r1,q1⟩:=h_;obtain⟨a,e,⟨xs,hq⟩,q⟩:=q1;subst e;cases r1;obtain⟨its,rv,p,hz⟩:=I1.tuple hq;refine wpAny_pyIter_tuple (show s1.heap.IsTuple a its.toArray from p) ?_;refine⟨s1.heap.objs.size,[s1.heap.objs.size],_,_,H1,rfl,I1.kept (t':=s1.toks) λb o e=>ja _ e,UR a _,⟨_,jL _ rfl,rfl,rfl⟩,λb hb=>?_,q⟩;have e:b=s1.heap.objs.size:=by simpa using hb
 subst e;exact I1.fpOk (jj _) (I1.hok.fresh (jj _))
def Ez{pc:List (jv × Obj)}{σ:St}{H:Hp}{s:jc}{R:It->Hp->Prop}{E:j8->jc->Prop}{lo hi:Int}{t u v:Tok}{tk:Nat}(I:Inv X pc σ H s)(h1:-(2 ^ 62)<=lo)(h2:lo < 2 ^ 62)(h3:-(2 ^ 62)<=hi)(h4:hi < 2 ^ 62)
  (q:R (uM lo (hi - lo).toNat) H):jT (jR X.prog X.w) X.A (pyIter (.ref s.heap.objs.size)) (HC X pc σ tg R) E { s with heap:=s.heap.push { cls:=.type "range",data:=.fields #[.int lo t,.int hi u,.int 1 v] },toks:=tk }:=by
 refine wpAny_pyIter_range (Uh ..) (small_one h1 h2 h3 h4) ?_;have I1:Inv X pc σ H { s with heap:=s.heap.push { cls:=.type "range",data:=.fields #[.int lo t,.int hi u,.int 1 v] },toks:=tk }:=I.kept λb o e=>ja _ e
 refine⟨(s.heap.push { cls:=.type "range",data:=.fields #[.int lo t,.int hi u,.int 1 v] }).objs.size,[(s.heap.push { cls:=.type "range",data:=.fields #[.int lo t,.int hi u,.int 1 v] }).objs.size],_,_,H,rfl,
  I1.kept (t':=tk) λb o e=>ja _ e,UQ _ lo (hi - lo).toNat,?_,λb hb=>?_,q⟩
 ·have e1:lo+((0:Nat):Int)*1=lo:=by simp
  have e2:(((hi - lo).toNat:Nat):Int) - ((0:Nat):Int)=Nf lo hi 1:=by rw[rangeSize_one]; split<;>lia
  show IsRangeIter _ _ (lo+((0:Nat):Int)*1) ((((hi - lo).toNat:Nat):Int) - ((0:Nat):Int)) 1;rw[e1,e2];exact jL _ rfl
 ·have e:b=(s.heap.push { cls:=.type "range",data:=.fields #[.int lo t,.int hi u,.int 1 v] }).objs.size:=by simpa using hb
  subst e;exact I1.fpOk (jj _) (I1.hok.fresh (jj _))
def Ic(ta:TA):TI:=fun σ H R=>ta σ H λvs H1=>∃ j:Int,vs=[.int j]/\-(2 ^ 62)<=j/\j < 2 ^ 62/\R (uM 0 j.toNat) H1
def Id(ta:TA):TI:=fun σ H R=>ta σ H λvs H1=>∃ i j:Int,vs=[.int i,.int j]/\(-(2 ^ 62)<=i/\i < 2 ^ 62/\-(2 ^ 62)<=j/\j < 2 ^ 62)/\R (uM i (j - i).toNat) H1
def TB{a:Q5}{ta:TA}{p pos:Pos}(hg:Gl X "range")(hm:X.mg "range"=aB)(ha:PA X [a] ta)(hs:jg [a] X.env=[(aD,eval a X.env)]:=by rfl):PI X tg (.Call (.Name "range" p) [a] [] pos) (Ic ta):=by
 intro pc s σ H R I h;refine Call_ (nR I hg hm JR (Qk (aW (ha pos pc s σ H _ I h) λus s1 ⟨vs,H1,I1,r1,q1⟩=>?_) hs rfl));obtain⟨j,e,q1,q2,q⟩:=q1;subst e;cases r1 with
 |cons r rr=>
  cases rr;obtain⟨t,rfl⟩:=r;exact call_range_1 (Ez I1 (by lia) (by lia) q1 q2 (by simpa using q))
def TC{a b:Q5}{ta:TA}{p pos:Pos}(hg:Gl X "range")(hm:X.mg "range"=aB)(ha:PA X [a,b] ta)(hs:jg [a,b] X.env=[(aD,eval a X.env),(aD,eval b X.env)]:=by rfl)(hs2:jg [b] X.env=[(aD,eval b X.env)]:=by rfl) :
  PI X tg (.Call (.Name "range" p) [a,b] [] pos) (Id ta):=by
 intro pc s σ H R I h;refine Call_ (nR I hg hm JR (Qk (aW (ha pos pc s σ H _ I h) λus s1 ⟨vs,H1,I1,r1,q1⟩=>?_) (by rw[hs,hs2]) (by rw[hs2]; rfl)))
 obtain⟨i,j,e,⟨q1,q2,q3,q4⟩,q⟩:=q1;subst e;cases r1 with
 |cons r rr=>
  cases rr with
  |cons r' rr=>
   cases rr;obtain⟨t,rfl⟩:=r;obtain⟨t',rfl⟩:=r';exact call_range_2 (Ez I1 q1 q2 q3 q4 q)
def ua(wi:TI)(g:TG)(tb:TS):TS:=λD σ H=>wi σ H λJ H1=>∃ W:Nat->Nat->St->Hp->Prop,(∃ m,W 0 m σ H1)/\∀ i m σ H,W i m σ H->
 (J.stop i H/\D.nx σ H)∨(J.go i H/\∃ N:St->Hp->Prop,(∀ σ' H',N σ' H'->∃ m',m' < m/\W (i+1) m' σ' H')/\∀ x H',J.yld i H x H'->g x σ H' fun σ2 H2=>tb { D with nx:=N,ct:=N,bk:=D.nx } σ2 H2)
def rN(fp:List jv)(h:QN):List (jv × Obj):=fp.filterMap λb=>(h.get? b).map λo=>(b,o)
def rh{fp:List jv}{h:QN}{b:jv}{o:Obj}(hb:b∈fp)(e:h.get? b=aA o):(b,o)∈rN fp h:=YF.mpr ⟨b,hb,by rw[e]; rfl⟩
def Sr{fp:List jv}{h:QN}{p:jv × Obj}(hp:p∈rN fp h):p.1∈fp/\h.get? p.1=aA p.2:=by
 obtain⟨b,hb,e⟩:=YF.mp hp;cases q:h.get? b with
 |none=>rw[q] at e; cases e
 |some o=>
  rw[q] at e;have e':(b,o)=p:=jh e;subst e';exact⟨hb,q⟩
def Inv.pinned{pc:List (jv × Obj)}{σ:St}{H:Hp}{s:jc}{fp:List jv}(I:Inv X pc σ H s)(hf:∀ b∈fp,fT X pc H b)(ho:∀ b∈fp,∃ o,s.heap.get? b=aA o/\∀ v,o.data≠.cell v):Inv X (pc++rN fp s.heap) σ H s:=
 I.pins_of λp hp=>(jn.mp hp).elim (λz=>I.pin p (jw _ z)) λz=>by
  obtain⟨hb,e⟩:=Sr z;obtain⟨f0,f1,f2,_⟩:=hf p.1 hb;obtain⟨o,e',d⟩:=ho p.1 hb;rw[e] at e'; cases e';exact⟨e,f0,f1,f2,d⟩
def Inv.unpinned{pc pl:List (jv × Obj)}{σ:St}{H:Hp}{s:jc}(I:Inv X (pc++pl) σ H s):Inv X pc σ H s:=I.pins_of λp hp=>I.pin p (jw _ (ji _ hp))
def MN{iter:Q5}{body:List QX}{wi:TI}{g:TG}{tb:TS}{pos:Pos}(hp:Jv (jR X.prog X.w) X.A X.env X.xe)(hc:X.calm=aC)(hi:PI X tg iter wi)(hg:PG X tg g)(hb:cV X body tb)
  (hs:∀ x,Qz iter X.env x=pure x:=by intro _; rfl):PS X (.For tg iter body [] pos) (ua wi g tb):=by
 intro pc s σ H D I h;refine wpAny_For (aW (hi pc s σ H _ I h) λv s1 h1=>aW h1 λitv s2 h2=>?_) hs;obtain⟨it,fp,tn,J,H2,e,I2,T,st2,f2,W,⟨m0,w0⟩,turn⟩:=h2;subst e
 -- what stays aC of the iterator's objects through the loop
 have stat:∀ {H':Hp},(∀ b∈fp,H' b=aB)->∀ b∈fp,fT X pc H' b:=λhn b hb=>⟨hn b hb,(f2 b hb).2⟩;refine codeAny_forLoop_any (λn s'=>∃ i σ' H',Inv X pc σ' H' s'/\tn i s'.heap/\(∀ b∈fp,H' b=aB)/\W i n σ' H') ?_ m0 ⟨0,σ,H2,I2,st2,λb hb=>(f2 b hb).1,w0⟩;rintro n s3 ⟨i,σ3,H3,I3,st3,fr3,w3⟩;obtain ⟨stop,qn⟩ |⟨go,N,hN,step⟩:=turn i n σ3 H3 w3
 ·refine ZF hp (aW (T.done X rfl rfl rfl hc i pc s3 σ3 H3 X.xe I3 (stat fr3) st3 stop) λr s4 h_=>?_); obtain⟨hr,I4⟩:=h_;subst hr;exact ZY ⟨σ3,H3,I4,qn⟩
 ·refine ZF hp (aW (T.item X rfl rfl rfl hc i pc s3 σ3 H3 X.xe I3 (stat fr3) st3 go) λr s4 h_=>?_); obtain⟨u,hr,h4⟩:=h_;subst hr;refine ZF hp (aW h4 λ_ s5 h_=>?_); obtain⟨x,H5,I5,r5,y5,st5,fr5⟩:=h_;have I5':=I5.pinned (stat fr5) (T.obj _ _ st5);refine ZF hp (aW (hg _ s5 σ3 H5 x u _ I5' r5 (step x H5 y5)) λ_ s6 h_=>?_); obtain⟨σ6,H6,I6,q6⟩:=h_;refine ZF hp (aW (hb _ s6 σ6 H6 _ I6 q6) λf s7 q7=>?_);have U9:∀ {σ7:St} {H7:Hp},Inv X (pc++rN fp s5.heap) σ7 H7 s7->N σ7 H7->∃ m,m < n/\∃ i σ' H',Inv X pc σ' H' s7/\tn i s7.heap/\(∀ b∈fp,H' b=aB)/\W i m σ' H':=λ{σ7 H7} I7 n7=>by
   obtain⟨m',hm,w7⟩:=hN σ7 H7 n7;refine⟨m',hm,i+1,σ7,H7,I7.unpinned,T.keep _ _ _ st5 λb hb o e=>(I7.pin (b,o) (jw _ (jw _ (rh hb e)))).1,λb hb=>?_,w7⟩;obtain⟨o,e,d⟩:=T.obj _ _ st5 b hb;exact(I7.pin (b,o) (jw _ (jw _ (rh hb e)))).2.1
  cases f with
  |next=>obtain⟨σ7,H7,I7,n7⟩:=q7; exact U9 I7 n7
  |cont=>obtain⟨σ7,H7,I7,n7⟩:=q7; exact U9 I7 n7
  |brk=>obtain⟨σ7,H7,I7,q7⟩:=q7; exact⟨σ7,H7,I7.unpinned,q7⟩
  |ret v=>obtain⟨x7,σ7,H7,I7,r7,q7⟩:=q7; exact⟨x7,σ7,H7,I7.unpinned,r7,q7⟩
end
abbrev R2:=V->V->Hp->VK->Prop
def cZ(X:Cx)(f:j8->j8->Sem j8)(r:R2):Prop:=
 ∀(pc:List (jv × Obj)) (s:jc) (σ:St) (H:Hp) (x y:V) (v u:j8) (Q:VK),Inv X pc σ H s->RelV x v->RelV y u->r x y H Q->
  jT (jR X.prog X.w) X.A (f v u) (EP X pc σ Q) X.xe s
def Bb(X:Cx)(f:j8->Sem j8)(r:V->Hp->VK->Prop):Prop:=
 ∀(pc:List (jv × Obj)) (s:jc) (σ:St) (H:Hp) (x:V) (v:j8) (Q:VK),Inv X pc σ H s->RelV x v->r x H Q->
  jT (jR X.prog X.w) X.A (f v) (EP X pc σ Q) X.xe s
def CallR(X:Cx)(f:j8)(r:List V->Hp->VK->Prop):Prop:=
 ∀(pc:List (jv × Obj)) (s:jc) (σ:St) (H:Hp) (xs:List V) (us:List j8) (Q:VK),Inv X pc σ H s->Vals xs us->r xs H Q->
  jT (jR X.prog X.w) X.A (call f us) (EP X pc σ Q) X.xe s
def HL(X:Cx)(r:V->Hp->(Bool->Hp->Prop)->Prop):Prop:=
 ∀(pc:List (jv × Obj)) (s:jc) (σ:St) (H:Hp) (x:V) (v:j8) (Q:Bool->Hp->Prop),Inv X pc σ H s->RelV x v->r x H Q->
  jT (jR X.prog X.w) X.A (truthy v) (TP X pc σ Q) X.xe s
def oi(r:R2)(ta tb:TE):TE:=fun σ H Q=>ta σ H λx H1=>tb σ H1 λy H2=>r x y H2 Q
def Xf(r:V->Hp->VK->Prop)(ta:TE):TE:=fun σ H Q=>ta σ H λx H1=>r x H1 Q
def rI(C:Int->Int->Prop)(g:Int->Int->V):R2:=λx y H Q=>∃ i j,x=.int i/\y=.int j/\C i j/\Q (g i j) H
def lU(g:Int->Int->V):R2:=λx y H Q=>∃ i j,x=.int i/\y=.int j/\Q (g i j) H
def rU(g:Int->V):V->Hp->VK->Prop:=λx H Q=>∃ i,x=.int i/\Q (g i) H
section
variable {a c:Q5}{tc:TE}
def xb(ha:PE X a ta)(hb:PE X b tb){pc:List (jv × Obj)}{s:jc}{σ:St}{H:Hp}{R:V->V->Hp->Prop}(I:Inv X pc σ H s)
  (h:ta σ H λx H1=>tb σ H1 λy H2=>R x y H2) {Q:j8->jc->Prop} {f:j8->j8->Sem j8}
  (hf:∀ v u s2 x y H2,Inv X pc σ H2 s2->RelV x v->RelV y u->R x y H2->jT (jR X.prog X.w) X.A (f v u) Q X.xe s2) :
  jT (jR X.prog X.w) X.A (eval a X.env) (λv s₁=>jT (jR X.prog X.w) X.A (eval b X.env) (λu s₂=>jT (jR X.prog X.w) X.A (f v u) Q X.xe s₂) X.xe s₁) X.xe s:=by
 refine aW (ha pc s σ H _ I h) λv s1 h_=>?_; obtain⟨x,H1,I1,r1,q1⟩:=h_;refine aW (hb pc s1 σ H1 _ I1 q1) λu s2 h_=>?_; obtain⟨y,H2,I2,r2,q2⟩:=h_;exact hf v u s2 x y H2 I2 r1 r2 q2
def lb{op:Operator}{r:R2}(ho:cZ X (gK op) r)(ha:PE X a ta)(hb:PE X b tb):PE X (.BinOp a op b pos) (oi r ta tb):=by
 intro pc s σ H Q I h;exact wpAny_BinOp (xb ha hb I h λv u s2 x y H2 I2 rx ry q=>ho pc s2 σ H2 x y v u Q I2 rx ry q)
def K1{op:UnaryOp}{r:V->Hp->VK->Prop}(ho:Bb X (unaryOp op) r)(ha:PE X a ta):PE X (.UnaryOp op a pos) (Xf r ta):=by
 intro pc s σ H Q I h;exact UnaryOp_ (aW (ha pc s σ H _ I h) λv s1 ⟨x,H1,I1,r1,q1⟩=>ho pc s1 σ H1 x v Q I1 r1 q1)
def uD{f:j8->j8->Sem j8}{C:Int->Int->Prop}{g:Int->Int->Int}
  (rule:∀(i j:Int) (t u:Tok) (s:jc) (Q:j8->jc->Prop) (E:j8->jc->Prop),C i j->Q (.int (g i j) s.toks) { s with toks:=s.toks+1 }->jT (jR X.prog X.w) X.A (f (.int i t) (.int j u)) Q E s) :
  cZ X f (rI C λi j=>.int (g i j)):=by
 intro pc s σ H x y v u Q I rx ry h;obtain⟨i,j,rfl,rfl,hc,q⟩:=h;obtain⟨t,rfl⟩:=rx;obtain⟨t',rfl⟩:=ry;exact rule i j t t' s _ _ hc ⟨.int (g i j),H,I.tok _,⟨_,rfl⟩,q⟩
def C5{f:j8->j8->Sem j8}{g:Int->Int->Int}
  (rule:∀(i j:Int) (t u:Tok) (s:jc) (Q:j8->jc->Prop) (E:j8->jc->Prop),Q (.int (g i j) s.toks) { s with toks:=s.toks+1 }->jT (jR X.prog X.w) X.A (f (.int i t) (.int j u)) Q E s) :
  cZ X f (lU λi j=>.int (g i j)):=by
 intro pc s σ H x y v u Q I rx ry h;obtain⟨i,j,rfl,rfl,q⟩:=h;obtain⟨t,rfl⟩:=rx;obtain⟨t',rfl⟩:=ry;exact rule i j t t' s _ _ ⟨.int (g i j),H,I.tok _,⟨_,rfl⟩,q⟩
def xV{f:j8->j8->Sem j8}{g:Int->Int->Bool}
  (rule:∀(i j:Int) (t u:Tok) (s:jc) (Q:j8->jc->Prop) (E:j8->jc->Prop),Q (.bool (g i j)) s->jT (jR X.prog X.w) X.A (f (.int i t) (.int j u)) Q E s) :
  cZ X f (lU λi j=>.bl (g i j)):=by
 intro pc s σ H x y v u Q I rx ry h;obtain⟨i,j,rfl,rfl,q⟩:=h;obtain⟨t,rfl⟩:=rx;obtain⟨t',rfl⟩:=ry;exact rule i j t t' s _ _ ⟨.bl (g i j),H,I,rfl,q⟩
def HI(i j:Int):Prop:=0 < j/\j < 1073741824
def HJ(i j:Int):Prop:=0<=j/\j<=1000000/\i.natAbs < 2 ^ 64
def CMul(i j:Int):Prop:=(-(2 ^ 64) < i/\i < 2 ^ 64)∨(-(2 ^ 64) < j/\j < 2 ^ 64)
def CMul.ok{i j:Int}(h:CMul i j):IntMulOk i j:=by
 obtain ⟨h1,h2⟩ |⟨h1,h2⟩:=h
 ·exact .of_left (intBits_le_64 h1 h2)
 ·exact .of_right (intBits_le_64 h1 h2)
def op_add:cZ X (gK .Add) (lU λi j=>.int (i+j)):=C5 λ_ _ _ _ _ _ _ q=>add_int q
def Mq:cZ X (gK .Sub) (lU λi j=>.int (i - j)):=C5 λ_ _ _ _ _ _ _ q=>sub_int q
def Mo:cZ X (gK .Mult) (rI CMul λi j=>.int (i*j)):=uD λ_ _ _ _ _ _ _ hc q=>mul_int q hc.ok
def Ot:cZ X (gK .FloorDiv) (rI HI λi j=>.int (i / j)):=uD λi j _ _ _ _ _ hc q=>by
 have h1:(0:Int) < j:=hc.1;have h2:j < 1073741824:=hc.2;exact floordiv_int (by lia) (by rw[Int.fdiv_eq_ediv_of_nonneg i (by lia)]; exact q) (.inl (PyProof.noPylong_small (by lia)))
def Mn:cZ X (gK .Mod) (rI (λ_ j=>0 < j) λi j=>.int (i%j)):=uD λi j _ _ _ _ _ hc q=>by
 have h1:(0:Int) < j:=hc;exact mod_int' (by lia) (by rw[Int.fmod_eq_emod_of_nonneg i (by lia)]; exact q)
def Mp:cZ X (gK .Pow) (rI HJ λi j=>.int (i ^ j.toNat)):=uD λ_ _ _ _ _ _ _ hc q=>pow_int_small hc.1 hc.2.1 hc.2.2 q
def Xe{f:j8->Sem j8}{g:Int->Int}
  (rule:∀(i:Int) (t:Tok) (s:jc) (Q:j8->jc->Prop) (E:j8->jc->Prop),Q (.int (g i) s.toks) { s with toks:=s.toks+1 }->jT (jR X.prog X.w) X.A (f (.int i t)) Q E s) :
  Bb X f (rU λi=>.int (g i)):=by
 intro pc s σ H x v Q I rx h;obtain⟨i,rfl,q⟩:=h;obtain⟨t,rfl⟩:=rx;exact rule i t s _ _ ⟨.int (g i),H,I.tok _,⟨_,rfl⟩,q⟩
def OV:Bb X (unaryOp .USub) (rU λi=>.int (-i)):=Xe λ_ _ _ _ _ q=>neg_int q
end
section
variable {a c:Q5}{tc:TE}
def yW{pc:List (jv × Obj)}{σ:St}{H:Hp}{s:jc}{Q:VK}{k k':Bool}(I:Inv X pc σ H s)(q:Q (.bl k) H)(e:k=k'):EP X pc σ Q (.bool k') s:=by
 subst e;exact⟨.bl k,H,I,rfl,q⟩
def op_lt:cZ X (Z9 .Lt) (lU λi j=>.bl (aE (i < j))):=xV λ_ _ _ _ _ _ _ q=>lt_int q
def Iw:cZ X (Z9 .Gt) (lU λi j=>.bl (aE (j < i))):=xV λ_ _ _ _ _ _ _ q=>gt_int q
def Iv:cZ X (Z9 .GtE) (lU λi j=>.bl (aE (j<=i))):=xV λ_ _ _ _ _ _ _ q=>ge_int q
def Sy:cZ X (Z9 .Lt) (λx y H Q=>∃ i j,x=.str i/\y=.str j/\Q (.bl (aE (i.cps.toList < j.cps.toList))) H):=by
 intro pc s σ H x y v u Q I rx ry h;obtain⟨i,j,rfl,rfl,q⟩:=h;obtain⟨t,rfl⟩:=rx;obtain⟨t',rfl⟩:=ry;exact lt_str (yW I q rfl)
def Mm:cZ X (Z9 .Is) (λx y H Q=>y=.non/\Q (.bl (aE (x=.non))) H):=by
 intro pc s σ H x y v u Q I rx ry h;obtain⟨rfl,q⟩:=h;cases ry;refine is_none_gen (yW I q ?_);cases x<;>first
  |(cases rx; rfl)
  |(obtain⟨t,rfl⟩:=rx; rfl)
def Ow:cZ X (Z9 .IsNot) (λx y H Q=>y=.non/\Q (.bl (!aE (x=.non))) H):=by
 intro pc s σ H x y v u Q I rx ry h;obtain⟨rfl,q⟩:=h;cases ry;refine isnot_none_gen (yW I q ?_);cases x<;>first
  |(cases rx; rfl)
  |(obtain⟨t,rfl⟩:=rx; rfl)
def cZ.or{f:j8->j8->Sem j8}{r r':R2}(h:cZ X f r)(h':cZ X f r'):cZ X f (λx y H Q=>r x y H Q∨r' x y H Q):=by
 intro pc s σ H x y v u Q I rx ry q;obtain q |q:=q
 ·exact h pc s σ H x y v u Q I rx ry q
 ·exact h' pc s σ H x y v u Q I rx ry q
def nU(b:Q5){op:CmpOp}(h:op≠.In:=by decide)(h2:op≠.NotIn:=by decide):Qp op b=aD:=by
 have e1:(op == CmpOp.In)=aD:=by cases op<;>first |rfl |exact absurd rfl h
 have e2:(op == CmpOp.NotIn)=aD:=by cases op<;>first |rfl |exact absurd rfl h2
 cases b<;>simp[Qp,e1,e2]
def yq{op:CmpOp}{r:R2}(ho:cZ X (Z9 op) r)(ha:PE X a ta)(hb:PE X b tb)(hm:Qp op b=aD):PE X (.Compare a [op] [b] pos) (oi r ta tb):=by
 intro pc s σ H Q I h;exact wpAny_Compare1 (xb ha hb I h λv u s2 x y H2 I2 rx ry q=>ho pc s2 σ H2 x y v u Q I2 rx ry q) hm
def D8(t:TE):TT:=fun σ H Q=>t σ H λx H'=>∃ k,x=.bl k/\Q k H'
def lv{op:CmpOp}{r:R2}(ho:cZ X (Z9 op) r)(ha:PE X a ta)(hb:PE X b tb)(hm:Qp op b=aD):PT X (.Compare a [op] [b] pos) (D8 (oi r ta tb)):=by
 intro pc s σ H Q I h
 refine ND (aW (ha pc s σ H _ I h) λv s1 ⟨x,H1,I1,r1,q1⟩=>aW (hb pc s1 σ H1 _ I1 q1) λu s2 ⟨y,H2,I2,r2,q2⟩=>
  aW (ho pc s2 σ H2 x y v u _ I2 r1 r2 q2) λc s3 ⟨z,H3,I3,r3,k,e,q3⟩=>?_) hm
 subst e;cases r3;exact Y2 ⟨H3,I3,q3⟩
def xa(K:jd)(x:V)(H:Hp)(k:Bool):Prop:=
 match x with
 |.non=>k=aD
 |.bl b=>k=b
 |.int i=>k=(i != 0)
 |.str y=>y.length<=ju/\k=((y.length:Int) != 0)
 |.byt y=>y.size<=ju/\k=((y.size:Int) != 0)
 |.ref p=>(∃ xs,aq K H p xs/\k=!xs.isEmpty)∨(∃ xs,cL K H p xs/\k=!xs.isEmpty)∨∃ kvs,H p=aA (.dK kvs)/\k=!kvs.isEmpty
 |_=>False
def Ty{κ:Type}{kvs:List (κ × V)}{vs:List (κ × j8)}(r:KV kvs vs):(!vs.isEmpty)=!kvs.isEmpty:=by
 cases r<;>rfl
def Fq{xs:List V}{its:List j8}(r:Vals xs its):(!its.toArray.isEmpty)=!xs.isEmpty:=by
 cases r<;>simp
def qM:(ju:Nat) < 2 ^ 63:=by rw[Zi]; decide
def OT:HL X (λx H Q=>∃ k,xa X.K x H k/\Q k H):=by
 intro pc s σ H x v Q I rx h;obtain⟨k,e,q⟩:=h;have hl:=qM;have hs:ju=16777216:=Zi;cases x with
 |non=>
  cases rx;have e':k=aD:=e;subst e';exact truthy_none ⟨H,I,q⟩
 |bl b=>
  cases rx;have e':k=b:=e;subst e';exact Y2 ⟨H,I,q⟩
 |int i=>
  obtain⟨t,rfl⟩:=rx;have e':k=(i != 0):=e;subst e';exact PySem.P.truthy_int ⟨H,I,q⟩
 |str y=>
  obtain⟨t,rfl⟩:=rx;obtain⟨hy,e'⟩:y.length<=ju/\k=((y.length:Int) != 0):=e;subst e';exact PySem.P.truthy_str (by lia) ⟨H,I.tok _,q⟩
 |byt y=>
  obtain⟨t,rfl⟩:=rx;obtain⟨hy,e'⟩:y.size<=ju/\k=((y.size:Int) != 0):=e;subst e';exact PySem.W.truthy_bytes (by lia) ⟨H,I.tok _,q⟩
 |ref p=>
  cases rx;have e':(∃ xs,aq X.K H p xs/\k=!xs.isEmpty)∨(∃ xs,cL X.K H p xs/\k=!xs.isEmpty)∨∃ kvs,H p=aA (.dK kvs)/\k=!kvs.isEmpty:=e;obtain ⟨xs,hx,e'⟩ |⟨xs,hx,e'⟩ |⟨kvs,hx,e'⟩:=e'
  ·subst e';obtain⟨its,r,pl,hz⟩:=I.list hx;have hlen:=r.length;exact wpAny_truthy_list pl.isList (by simp only[jt]; lia) ⟨H,I.tok _,by rw[Fq r]; exact q⟩
  ·subst e';obtain⟨its,r,pl,hz⟩:=I.tuple hx;have hlen:=r.length;exact truthy_tuple pl (by simp only[jt]; lia) ⟨H,I.tok _,by rw[Fq r]; exact q⟩
  ·subst e';obtain⟨hz,hS,vs,r,m⟩:kvs.length<=ju/\(p == ZD)=aD/\∃ vs,KV kvs vs/\s.heap.DictOf (f7 X.prog X.w) p vs:=I.hok p _ hx;have hlen:kvs.length=vs.length:=Nb r;exact wpAny_truthy_dict hS m (by lia) ⟨H,I.tok _,by rw[Ty r]; exact q⟩
 |_=>exact(show False from e).elim
def SK(ha:PE X a ta)(he:∀ whole,JQ a X.env whole=(do let v <-whole; standAt a.pos; Yt [v] (truthy v))) :
  PT X a (fun σ H Q=>ta σ H λx H'=>∃ k,xa X.K x H' k/\Q k H'):=by
 intro pc s σ H Q I h;exact isTrue_plain (aW (ha pc s σ H _ I h) λv s1 ⟨x,H1,I1,r1,q1⟩=>OT pc s1 σ H1 x v Q I1 r1 q1) (he _)
def UI:cZ X (gK .Add) (λx y H Q=>∃ i j,x=.str i/\y=.str j/\i.length+j.length<=ju/\Q (.str (i++j)) H):=by
 intro pc s σ H x y v u Q I rx ry h;obtain⟨i,j,rfl,rfl,hz,q⟩:=h;obtain⟨t,rfl⟩:=rx;obtain⟨t',rfl⟩:=ry;exact add_str (λt' tk=>⟨.str (i++j),H,I.tok _,⟨_,rfl⟩,q⟩) hz
def sk{x:V}{us:List j8}(r:Vals [x] us):∃ u,us=[u]/\RelV x u:=by
 cases r with
 |cons r1 r2=>cases r2; exact⟨_,rfl,r1⟩
end
def RelO.some_of{v:V}{o:Option j8}(r:RelO (aA v) o):∃ u,o=aA u/\RelV v u:=by
 cases o with
 |none=>exact(show False from r).elim
 |some u=>exact⟨u,rfl,r⟩
structure Room (k:Nat) (A:Qg):Prop where
 hd:A.handled=aB
 dp:A.depth+3*k+5 < Wg
 un:A.units+16*k+200 < gg
def Room.mono{j k:Nat}{A:Qg}(r:Room k A)(h:j<=k):Room j A:=⟨r.hd,by have:=r.dp; lia,by have:=r.un; lia⟩
def Room.deeper{k:Nat}{A:Qg}(r:Room (k+1) A)(env:Env):Room k (A.deeper env):=
 ⟨r.hd,by have:=r.dp; show A.depth+1+3*k+5 < _; lia,by have:=r.un; show A.units+3+16*k+200 < _; lia⟩
def UD{A:Qg}{C:jv}{us:List j8}{kw:List (Str × j8)}:(A.under (.builtin "type.__call__" ⟨.ref C::us,kw⟩)).depth=A.depth+1:=by
 first |rfl |simp[Around.under,Code.weight,Code.isCreation,Code.isGuard,Code.isCaller,Code.frames,Code.isFrame,guardIds]
def Room.depth{k:Nat}{A:Qg}(r:Room k A):A.depth < Wg:=by have:=r.dp; lia
def Room.units{k:Nat}{A:Qg}(r:Room k A):A.units+64 < gg:=by have:=r.un; lia
def nI:TA:=λ_ H Q=>Q [] H
def lA(ta:TE)(tr:TA):TA:=fun σ H Q=>ta σ H λx H1=>tr σ H1 λxs H2=>Q (x::xs) H2
section
variable {te:TE}
def iq:PA X [] nI:=λ_ _ _ _ H Q I h=>YV ⟨[],H,I,.nil,h⟩
def fX(ha:PE X e te)(hr:PA X es t)(hs:ac X e es:=by rfl):PA X (e::es) (lA te t):=by
 intro pos pc s σ H Q I h;rw[hs];show jT _ _ (spliced ((aD,eval e X.env)::QM pos (jg es X.env))) _ _ s;refine gL (aW (ha pc s σ H _ I h) λu s1 h_=>?_); obtain⟨x,H1,I1,r1,q1⟩:=h_;exact aW (hr pos pc s1 σ H1 _ I1 q1) λus s2 ⟨xs,H2,I2,r2,q2⟩=>⟨x::xs,H2,I2,.cons r1 r2,q2⟩
def Ho(t:TA):TE:=fun σ H Q=>t σ H λxs H1=>xs.length<=ju/\∀ p,H1 p=aB->Q (.ref p) (aS H1 p (.tup xs))
def Hl(t:TA):TE:=fun σ H Q=>t σ H λxs H1=>xs.length<=ju/\∀ p,H1 p=aB->Q (.ref p) (aS H1 p (.lst xs))
def MH{x1}(h:PA X es t):PE X (.Tuple es x1 pos) (Ho t):=by
 intro pc s σ H Q I hq;refine wpAny_Tuple_spliced (aW (h pos pc s σ H _ I hq) λus s1 ⟨xs,H1,I1,r,z,q⟩=>⟨by rw[<-r.length]; exact z,?_⟩)
 have hf:H1 s1.heap.objs.size=aB:=I1.hok.fresh (jj _);refine⟨.ref s1.heap.objs.size,aS H1 s1.heap.objs.size (.tup xs),I1.laid (t':=s1.toks) (λb u e=>ja _ e) (jj _) ?_,rfl,q _ hf⟩;exact⟨z,us,r,⟨_,jL _ rfl,rfl,_,rfl⟩⟩
def Mw(h:PA X es t):PE X (.List es pos) (Hl t):=by
 intro pc s σ H Q I hq;refine wpAny_List_spliced (aW (h pos pc s σ H _ I hq) λus s1 ⟨xs,H1,I1,r,z,q⟩=>⟨by rw[<-r.length]; exact z,?_⟩)
 have hf:H1 s1.heap.objs.size=aB:=I1.hok.fresh (jj _);refine⟨.ref s1.heap.objs.size,aS H1 s1.heap.objs.size (.lst xs),I1.laid (t':=s1.toks) (λb u e=>ja _ e) (jj _) ?_,rfl,q _ hf⟩;exact⟨z,us,0,r,jL _ rfl⟩
end
abbrev Sp:=List V->Hp->VK->XK->Prop
abbrev iI:=List Env->Hp->jc->XK->j8->jc->Prop
structure Env0 (P:jI) (w:Qf) (K:jd) (mg:Str->Option j8) (base:QN) (A:Qg) (outer:List Env) (s:jc) (H:Hp):Prop where
 frames:A.frames=aA outer
 mod:Mod K mg base
 bs:∀ b o,base.get? b=aA o->s.heap.get? b=aA o/\H b=aB
 bsz:base.objs.size<=s.heap.objs.size
 funs:s.heap.FunFrames base outer
 frf:∀ b∈dH outer,H b=aB
 hok:cc P w H s.heap
 bare:Nc s.gens
def CE(outer:List Env)(P:jI)(w:Qf)(H:Hp)(s:jc)(Q:VK)(u:j8)(s':jc):Prop:=
 ∃ v H',s'.os=s.os/\Nc s'.gens/\Un (dH outer) [] H H' s.heap s'.heap/\cc P w H' s'.heap/\RelV v u/\Q v H'
def CR(CX:iI)(outer:List Env)(P:jI)(w:Qf)(H:Hp)(s:jc)(Q:VK)(E:XK)(r:Jx)(s':jc):Prop:=
 match r with
 |.ok (.ret u)=>CE outer P w H s Q u s'
 |.ok _=>False
 |.error e=>CX outer H s E e s'
structure FnOk (P:jI) (w:Qf) (K:jd) (mg:Str->Option j8) (base:QN) (CX:iI) (k:Nat) (f:jv) (fd:Zl) (ps:aj) (sp:Sp):Prop where
 len:∀ vs H Q E,sp vs H Q E->vs.length=ps.length
 run:∀(A:Qg) (outer:List Env) (s:jc) (H:Hp) (args:Args) (us:List j8) (vs:List V) (Q:VK) (E:XK),Room k A->Env0 P w K mg base A outer s H->Wn s fd args (ps.zip us)->Vals vs us->sp vs H Q E->
  Yu (jR P w) A (.call (.ref f) args) (CR CX outer P w H s Q E) s
def FnOk.mono{P:jI}{w:Qf}{K:jd}{mg:Str->Option j8}{base:QN}{CX:iI}{j k:Nat}{f:jv}{fd:Zl}{ps:aj}{sp:Sp}(F:FnOk P w K mg base CX j f fd ps sp)(h:j<=k) :
  FnOk P w K mg base CX k f fd ps sp:=⟨F.len,λA outer s H args us vs Q E hr=>F.run A outer s H args us vs Q E (hr.mono h)⟩
section
variable {s':jc}
def Inv.env0(I:Inv X pc σ H s):Env0 X.prog X.w X.K X.mg X.base X.A X.stack s H:=
 ⟨I.ok.frames,I.ok.mod,I.bs,Qc I.ok.bsz I.sz,I.stack,I.stkFree,I.hok,I.bare⟩
def Inv.after{Q:VK}{u:j8}(I:Inv X pc σ H s)(h:CE X.stack X.prog X.w H s Q u s'):EP X pc σ Q u s':=by
 obtain⟨v,H',os,bare,un,hok,r,q⟩:=h;obtain⟨hh,g,d,t,os'⟩:=s';obtain rfl:os'=s.os:=os;exact⟨v,H',I.call (h':=hh) (g':=g) (d':=d) (t':=t) (ch:=[]) un hok bare (λb z=>absurd z (by simp)),r,q⟩
end
def rG(sp:Sp)(dvs:List V)(E:XK)(t:TA):TE:=fun σ H Q=>t σ H λvs H1=>sp (vs++dvs) H1 Q E
def Binds(K:jd)(fd:Zl)(ps:aj)(ds:List j8):Prop:=
 ∀(s:jc) (us:List j8),K.In s.heap->(us++ds).length=ps.length->Wn s fd ⟨us,[]⟩ (ps.zip (us++ds))
def Binds.all{K:jd}{fd:Zl}{ps:aj}(h:∀ us:List j8,us.length=ps.length->Yo fd ⟨us,[]⟩=pure (ps.zip us)):Binds K fd ps []:=λs us _ hl=>by
 rw[QH] at hl ⊢;exact .of_eq (h us hl)
def oN(CX:iI)(X:Cx)(E:XK):Prop:=∀(pc:List (jv × Obj)) (σ:St) (H:Hp) (s:jc) (e:j8) (s':jc),Inv X pc σ H s->CX X.stack H s E e s'->X.xe e s'
section
variable {CX:iI}{k:Nat}{f C:jv}{fd:Zl}{ps:aj}{sp:Sp}{dvs:List V}{ds:List j8}{E:XK}{x m:Str}{p apos:Pos}{o:Q5}
def My{pc:List (jv × Obj)}{σ:St}{H:Hp}{s:jc}{Q:VK}{us:List j8}{vs:List V}(F:FnOk X.prog X.w X.K X.mg X.base CX k f fd ps sp)(hr:Room k X.A)(hb:Binds X.K fd ps ds)(hd:Vals dvs ds)(hx:oN CX X E)
  (I:Inv X pc σ H s) (r:Vals vs us) (h:sp (vs++dvs) H Q E):jT (jR X.prog X.w) X.A (call (.ref f) us) (EP X pc σ Q) X.xe s:=by
 have r2:Vals (vs++dvs) (us++ds):=r.append hd;have hl:(us++ds).length=ps.length:=by rw[<-r2.length]; exact F.len _ _ _ _ h
 refine W3 (gG (F.run X.A X.stack s H ⟨us,[]⟩ (us++ds) (vs++dvs) Q E hr I.env0 (hb s us I.kIn hl) r2 h) λr s' hq=>?_);cases r with
 |error e=>exact hx pc σ H s e s' I hq
 |ok fl=>
  cases fl with
  |ret u=>exact I.after hq
  |next=>exact Zs hq
  |brk=>exact Zs hq
  |cont=>exact Zs hq
def rT(F:FnOk X.prog X.w X.K X.mg X.base CX k f fd ps sp)(hr:Room k X.A)(hg:Gl X x)(hm:X.mg x=aA (.ref f))(hk:Qd X.K (.ref f)=aC)(hb:Binds X.K fd ps ds)(hd:Vals dvs ds)(hx:oN CX X E)
  (ha:PA X (e::es) t) (hdb:ae x:=by decide) (he:ac X e es:=by rfl) (hpl:ad X pos es:=by rfl) :
  PE X (.Call (.Name x p) (e::es) [] pos) (rG sp dvs E t):=by
 intro pc s σ H Q I h;refine gM (yk I hg hm ?_ hdb);refine PySem.W.callWith_K (h₀:=X.base) I.ok.mod.kin hk (aW (ha pos pc s σ H _ I h) λus s1 ⟨vs,H1,I1,r,q⟩=>⟨I1.kIn,?_⟩) he hpl;exact My F hr hb hd hx I1 r q
end
structure FnScope (N P:aj) (sc:Y1):Prop where
 kind:sc.kind=.function
 co:sc.isCoroutine=aD
 gen:sc.isGenerator=aD
 nd:N.Nodup
 pre:N.take P.length=P
 par:∀ x∈P,sc.names.lookup x=aA .local∨sc.names.lookup x=aA .cell
 nofree:∀ y∈sc.names,y.2≠.free
def FJ{kindOf:Str->Option Ng}{x:Str}:∀ {binds:List (Str × j8)} {m:Str->Option j8},(∀ v,(x,v)∉binds)->Ui kindOf binds m x=m x
 |[],_,_=>rfl
 |(n,v)::r,m,h=>by
  unfold Ui;rw[FJ λw hw=>h w (jA _ hw)];split
  ·have:x≠n:=by rintro rfl; exact h v jV
   simp[this]
  ·rfl
def FI{kindOf:Str->Option Ng}{x:Str}:∀ {binds:List (Str × j8)} {m:Str->Option j8},(∀ v,(x,v)∉binds)->Uj kindOf binds m x=m x
 |[],_,_=>rfl
 |(n,v)::r,m,h=>by
  unfold Uj;rw[FI λw hw=>h w (jA _ hw)];split
  ·rfl
  ·have:x≠n:=by rintro rfl; exact h v jV
   simp[this]
def w6{kindOf:Str->Option Ng}{x:Str}{v:j8}:∀ {P:aj} {vs:List j8} {i:Nat} {m:Str->Option j8},P.Nodup->P[i]?=aA x->vs[i]?=aA v->kindOf x=aA .local->
  Ui kindOf (P.zip vs) m x=aA v
 |[],_,_,_,_,h,_,_=>by simp at h
 |_::_,[],_,_,_,_,h,_=>by simp at h
 |p::P,w::vs,0,m,nd,h1,h2,hk=>by
  simp at h1 h2; subst h1; subst h2;show Ui kindOf ((p,w)::P.zip vs) m p=_;unfold Ui;rw[FJ λv hv=>(Qh.mp nd).1 (Yv hv).1,aI hk];simp
 |p::P,w::vs,i+1,m,nd,h1,h2,hk=>by
  show Ui kindOf ((p,w)::P.zip vs) m x=_;unfold Ui;exact w6 (i:=i) (Qh.mp nd).2 (by simpa using h1) (by simpa using h2) hk
def FH{kindOf:Str->Option Ng}{x:Str}{v:j8}:∀ {P:aj} {vs:List j8} {i:Nat} {m:Str->Option j8},P.Nodup->P[i]?=aA x->vs[i]?=aA v->kindOf x≠aA .local->
  Uj kindOf (P.zip vs) m x=aA v
 |[],_,_,_,_,h,_,_=>by simp at h
 |_::_,[],_,_,_,_,h,_=>by simp at h
 |p::P,w::vs,0,m,nd,h1,h2,hk=>by
  simp at h1 h2; subst h1; subst h2;show Uj kindOf ((p,w)::P.zip vs) m p=_;unfold Uj;rw[FI λv hv=>(Qh.mp nd).1 (Yv hv).1,aH hk];simp
 |p::P,w::vs,i+1,m,nd,h1,h2,hk=>by
  show Uj kindOf ((p,w)::P.zip vs) m x=_;unfold Uj;exact FH (i:=i) (Qh.mp nd).2 (by simpa using h1) (by simpa using h2) hk
def start(N:aj)(vs:List V):St:=vs.map aA++QP (N.length - vs.length) aB
def eY(CX:iI)(P:jI)(w:Qf)(K:jd)(mg:Str->Option j8)(base:QN)(N:aj)(qual:Str)(scope:Y1)(f:jv)(cd:j8)(A:Qg)(outer:List Env)(s:jc)(H:Hp)(E:XK):Cx where
 prog:=P
 w:=w
 K:=K
 mg:=mg
 base:=base
 A:=A.deeper (ZK qual scope s.heap.objs.size f cd)
 N:=N
 s₀:=s
 H₀:=H
 env:=ZK qual scope s.heap.objs.size f cd
 outer:=outer
 stack:=ZK qual scope s.heap.objs.size f cd::outer
 ex:=[]
 calm:=aC
 fn:=λ_=>aC
 pn:=[]
 xe:=λe s'=>jT (jR P w) (A.deeper (ZK qual scope s.heap.objs.size f cd)) (leaving (ZK qual scope s.heap.objs.size f cd) e) (λ_ s''=>CX outer H s E e s'') (λe' s''=>CX outer H s E e' s'') s'
def Ec{sc:Y1}{n:Nat}{x:Str}(h:sc.names.lookup x=aA .cell):∃ c,(Wy n sc.names []).lookup x=aA c:=by
 have q:=gT sc.names n [] (.inl h);exact ZG.mp q
def FM{CX:iI}{P:jI}{w:Qf}{K:jd}{mg:Str->Option j8}{base:QN}{N ps:aj}{qual:Str}{scope:Y1}{f:jv}{cd:j8}{A:Qg}{outer:List Env}{s s1:jc}{H:Hp}{E:XK}{us:List j8}{vs:List V}
  (S:FnScope N ps scope) (hd:A.handled=aB) (e0:Env0 P w K mg base A outer s H) (hl:vs.length=ps.length) (r:Vals vs us)
  (x:InCallC s s.heap.objs.size (Ui (ZK qual scope s.heap.objs.size f cd).kindOf (ps.zip us) λ_=>aB) (Wy (s.heap.objs.size+1) scope.names []) (Uj (ZK qual scope s.heap.objs.size f cd).kindOf (ps.zip us) λ_=>aB) s1) :
  Inv (eY CX P w K mg base N qual scope f cd A outer s H E) [] (start N vs) H s1:=by
 have hpl:ps.length<=N.length:=by have:=congrArg Yw S.pre; rw[Q2] at this; lia
 obtain⟨h1,tk,rfl,hk⟩:=x.done;have noA:∀ b:jv,b∉(eY CX P w K mg base N qual scope f cd A outer s H E).ex:=λb z=>absurd (show b∈([]:List jv) from z) (by simp)
 refine⟨⟨e0.mod,S.kind,rfl,rfl,jj _,λy z c h1 h2=>?_,λy hy=>?_,λy c _ h=>?_,λ_=>hd,W9 e0.frames,.inr ⟨rfl,rfl⟩,λb z=>absurd z (noA b),e0.bs,e0.bsz,λb _ _=>noA b,λb z=>absurd z (noA b),e0.funs,e0.frf⟩,
  rfl,e0.bare,Un.kept hk,⟨_,x.toInCall.ns,λi y v h1 h2 h3=>?_⟩,λy c h=>⟨_,x.cell y c h⟩,e0.hok.fresh (jj _),λy c h=>?_,λp hp=>absurd (show p∈([]:List (jv × Obj)) from hp) (by simp),e0.hok.kept hk,?_⟩
 ·exact name_of_addr x.apart (ZO h1) (ZO h2)
 ·have hy:scope.names.lookup y=aA .cell∨scope.names.lookup y=aA .free:=hy;obtain hy |hy:=hy
  ·exact Ec hy
  ·exact absurd rfl (S.nofree _ (ZO hy))
 ·exact Z8 (x.above y c (ZO h))
 ·have hi:i < vs.length:=by
   unfold start at h2
   by_cases hi:i < vs.length
   ·exact hi
   ·rw[Qe (by simpa using hi)] at h2
    rw[gN] at h2;split at h2<;>cases h2
  have ha:vs[i]?=aA v:=by
   unfold start at h2;rw[Q8 (by simpa using hi),jf] at h2
   cases e:vs[i]? with
   |none=>rw[e] at h2; cases h2
   |some a=>rw[e] at h2; cases h2; rfl
  obtain⟨u,hu,rv⟩:=r.get ha;have hp:ps[i]?=aA y:=by
   rw[<-S.pre,List.getElem?_take_of_lt (by lia)]; exact h1
  have ndP:ps.Nodup:=by rw[<-S.pre]; exact S.nd.sublist (YW _ _)
  refine⟨u,rv,?_⟩;obtain k |k:=S.par y (jy hp)
  ·exact .inl ⟨k,w6 ndP hp hu k⟩
  ·obtain⟨c,e⟩:=Ec (n:=s.heap.objs.size+1) k;refine .inr ⟨.inl k,c,e,?_⟩;have q:=x.cell y c e;rw[FH ndP hp hu (by show scope.names.lookup y≠_; rw[k]; decide)] at q
   exact q
 ·exact e0.hok.fresh (Z8 (x.above y c (ZO h)))
 ·unfold start;show _=N.length;rw[jk,j4,Y7];lia
def KK{CX:iI}{P:jI}{w:Qf}{K:jd}{mg:Str->Option j8}{base:QN}{k:Nat}{f:jv}{name qual:Str}{params:Wz}{body:List QX}{scope:Y1}{dV kV doc pm cdv ct oc:j8}{an od:Option jv}
  {osl:Array (Option j8)} {N ps:aj} {sp:Sp} (lk:K.lookup f=aA ⟨oc,od,.func (Q1 name qual params body scope dV kV doc pm an cdv ct),osl⟩) (hcd:Z6 K cdv qual=aC) (S:FnScope N ps scope)
  (len:∀ vs H Q E,sp vs H Q E->vs.length=ps.length)
  (hbody:∀(A:Qg) (outer:List Env) (s:jc) (H:Hp) (vs:List V) (Q:VK) (E:XK),Room k (A.deeper (ZK qual scope s.heap.objs.size f cdv))->sp vs H Q E->
   ∃ t,cV (eY CX P w K mg base N qual scope f cdv A outer s H E) body t/\t { nx:=λ_ H'=>Q .non H',rt:=Q } (start N vs) H) :
  FnOk P w K mg base CX (k+1) f (Q1 name qual params body scope dV kV doc pm an cdv ct) ps sp:=by
 refine⟨len,λA outer s H args us vs Q E hr e0 hb r hsp=>?_⟩;have hl:=len _ _ _ _ hsp;have KX:K.In s.heap:=e0.mod.kin.keeps λb o e=>(e0.bs b o e).1;have lim:s.heap.NoLimit:=e0.mod.nolimit.keeps λb o e=>(e0.bs b o e).1;have hkind:∀ y∈ps.zip us,scope.names.lookup y.1=aA .local∨(scope.names.lookup y.1=aA .cell/\((Wy (s.heap.objs.size+1) scope.names []).lookup y.1).isSome=aC):=fun⟨n,v⟩ hy=>by
  obtain q |q:=S.par n (Yv hy).1
  ·exact .inl q
  ·exact .inr ⟨q,gT _ _ _ (.inl q)⟩
 refine Y8 hr.depth (KX _ _ lk) rfl S.co S.gen rfl (YG KX hcd) (hb _ _ _ _ ?_);refine gr S.kind hkind λenv he s1 x=>?_;subst he;refine⟨lim.keeps x.toInCall.keep,Ja ?_⟩;obtain⟨t,ht,hq⟩:=hbody A outer s H vs Q E (hr.deeper _) hsp;have I:Inv (eY CX P w K mg base N qual scope f cdv A outer s H E) [] (start N vs) H s1:=FM S hr.hd e0 hl r x;refine jY (ht [] s1 (start N vs) H _ I hq) (λfl s' hs=>?_) λe s' hs=>hs;have fin:∀ {σ':St} {H':Hp} {v:V} {u:j8},Inv (eY CX P w K mg base N qual scope f cdv A outer s H E) [] σ' H' s'->RelV v u->Q v H'->CE outer P w H s Q u s':=
  λ{σ' H' v u} J rv q=>⟨v,H',J.os,J.bare,J.base,J.hok,rv,q⟩
 cases fl with
 |ret u=>
  obtain⟨v,σ',H',J,rv,q⟩:=hs;exact fin J rv q
 |next=>
  obtain⟨σ',H',J,q⟩:=hs;exact fin (v:=V.non) (u:=W0) J rfl q
 |brk=>
  obtain⟨_,_,_,q⟩:=hs;exact Zs q
 |cont=>
  obtain⟨_,_,_,q⟩:=hs;exact Zs q
section
variable {x:Str}{p:Pos}{id T:String}{r:List V->Hp->VK->Prop}
def u8(r:List V->Hp->VK->Prop)(t:TA):TE:=fun σ H Q=>t σ H λvs H1=>r vs H1 Q
def rY(hc:CallR X (.builtin id) r)(hg:Gl X x)(hm:X.mg x=aB)(hv:Z7 x=aA (.builtin id))(ha:PA X (e::es) t)(hn:x≠"__name__":=by decide)(hdb:ae x:=by decide)
  (he:ac X e es:=by rfl) (hpl:ad X pos es:=by rfl):PE X (.Call (.Name x p) (e::es) [] pos) (u8 r t):=by
 intro pc s σ H Q I h;refine gM (nR I hg hm hv ?_ hn hdb);exact PyProof.Rows.callWith_builtin1 (aW (ha pos pc s σ H _ I h) λus s1 ⟨vs,H1,I1,r1,q1⟩=>hc pc s1 σ H1 vs us Q I1 r1 q1) he hpl
def wC(hc:CallR X (.type T) r)(hg:Gl X x)(hm:X.mg x=aB)(hv:Z7 x=aA (.type T))(ha:PA X (e::es) t)(hn:x≠"__name__":=by decide)(hdb:ae x:=by decide)
  (he:ac X e es:=by rfl) (hpl:ad X pos es:=by rfl):PE X (.Call (.Name x p) (e::es) [] pos) (u8 r t):=by
 intro pc s σ H Q I h;refine gM (nR I hg hm hv ?_ hn hdb);exact Qk (aW (ha pos pc s σ H _ I h) λus s1 ⟨vs,H1,I1,r1,q1⟩=>hc pc s1 σ H1 vs us Q I1 r1 q1) he hpl
def UK(hc:CallR X (.type T) r)(hg:Gl X x)(hm:X.mg x=aB)(hv:Z7 x=aA (.type T))(hn:x≠"__name__":=by decide)(hdb:ae x:=by decide) :
  PE X (.Call (.Name x p) [] [] pos) (u8 r nI):=by
 intro pc s σ H Q I h;refine gM (nR I hg hm hv ?_ hn hdb);exact PyProof.Rows.callWith_type0 (hc pc s σ H [] [] Q I .nil h)
end
end L2
namespace HT
open PySem PyProof.Rows
section
variable {prog:jI}{w:Qf}{A:Qg}{E:j8->jc->Prop}{s:jc}
def sIx(n d:Nat):Option Int->Nat
 |none=>d
 |some v=>if v < 0 then (v+(n:Int)).toNat else min v.toNat n
end
end HT
namespace L2
open PySem PySem.Spec PyProof.Rows
variable {X:Cx}{e o:Q5}{pos:Pos}{pc:List (jv × Obj)}{σ:St}{H:Hp}{s:jc}{a:jv}{u:j8}{A:Qg}{E:j8->jc->Prop}
abbrev TO:=St->Hp->(Option Int->Hp->Prop)->Prop
def PO(X:Cx)(e:Option Q5)(t:TO):Prop:=
 ∀(pc:List (jv × Obj)) (s:jc) (σ:St) (H:Hp) (Q:Option Int->Hp->Prop),Inv X pc σ H s->t σ H Q->
  jT (jR X.prog X.w) X.A (evalPart e X.env) (λu s'=>∃ o H',Inv X pc σ H' s'/\IsPart u o/\Q o H') X.xe s
def RK:TO:=λ_ H Q=>Q aB H
def LJ(t:TE):TO:=fun σ H Q=>t σ H λx H1=>∃ i,x=.int i/\Q (aA i) H1
section
variable {te:TE}{lo hi:Option Q5}{tl th:TO}{p2:Pos}
def P8:PO X aB RK:=by
 intro pc s σ H Q I h;rw[WA];exact jm ⟨aB,H,I,.none,h⟩
def P9(h:PE X e te):PO X (aA e) (LJ te):=by
 intro pc s σ H Q I hw;rw[evalPart_some];refine aW (h pc s σ H _ I hw) λu s1 h_=>?_; obtain⟨x,H1,I1,r1,q1⟩:=h_;obtain⟨i,rfl,q⟩:=q1;obtain⟨t,rfl⟩:=r1;exact⟨aA i,H1,I1,.int i t,q⟩
def Bc(X:Cx)(r:V->Option Int->Option Int->Hp->VK->Prop):Prop:=
 ∀(pc:List (jv × Obj)) (s:jc) (σ:St) (H:Hp) (x:V) (v vl vu:j8) (lo hi:Option Int) (sl:jv) (Q:VK),Inv X pc σ H s->RelV x v->s.heap.IsSliceOf sl vl vu .none->IsPart vl lo->IsPart vu hi->r x lo hi H Q->
  ∃ T id,typeLookup (.type T) "__getitem__"=pure (aA (.builtin id))/\s.TypeIs v T/\jT (jR X.prog X.w) X.A (Jy v (.ref sl)) (EP X pc σ Q) X.xe s
def BU(r:V->Option Int->Option Int->Hp->VK->Prop)(te:TE)(tl th:TO):TE:=fun σ H Q=>te σ H λx H1=>tl σ H1 λl H2=>th σ H2 λu H3=>r x l u H3 Q
def zc{r:V->Option Int->Option Int->Hp->VK->Prop}(hr:Bc X r)(he:PE X e te)(hl:PO X lo tl)(hu:PO X hi th):PE X (.Subscript e (.Slice lo hi aB p2) pos) (BU r te tl th):=by
 intro pc s σ H Q I h;refine WR (aW (he pc s σ H _ I h) λv s1 h_=>?_); obtain⟨x,H1,I1,r1,q1⟩:=h_;refine wpAny_Slice (aW (hl pc s1 σ H1 _ I1 q1) λvl s2 h_=>?_); obtain⟨l,H2,I2,pl,q2⟩:=h_; refine aW (hu pc s2 σ H2 _ I2 q2) λvu s3 h_=>?_; obtain⟨u,H3,I3,pu,q3⟩:=h_;rw[WA];refine jm ?_;have I4:Inv X pc σ H3 { s3 with heap:=s3.heap.push { cls:=.type "slice",data:=.fields #[vl,vu,.none] } }:=I3.kept (t':=s3.toks) λb ob q=>ja _ q;obtain⟨T,id,hT,ht,hg⟩:=hr pc { s3 with heap:=s3.heap.push { cls:=.type "slice",data:=.fields #[vl,vu,.none] } } σ H3 x v vl vu l u s3.heap.objs.size Q I4 r1 (WB ..) pl pu q3;exact tail_any (ops:=[.ref s3.heap.objs.size,v]) ht hT hg (by with_unfolding_all rfl)
def o4(xs:List V)(lo hi:Option Int):List V:=(xs.drop (HT.sIx xs.length 0 lo)).take (HT.sIx xs.length xs.length hi - HT.sIx xs.length 0 lo)
def V2(xs:List V)(lo hi:Option Int):(o4 xs lo hi).length<=xs.length:=by
 unfold o4;rw[Q2,QY];lia
end
def fS(n:Nat)(i:Int):Option Nat:=if 0<=i then (if i < n then aA i.toNat else aB) else if -(n:Int)<=i then aA (i+n).toNat else aB
def dU{α:Type}(xs:List α)(i:Int):Option α:=(fS xs.length i).bind λj=>xs[j]?
def EA{n:Nat}{i:Int}{j:Nat}(h:fS n i=aA j):seqIndex? i n=aA j/\j < n/\-(n:Int)<=i/\i < n:=by
 unfold fS at h
 by_cases h0:0<=i
 ·rw[aI h0] at h
  by_cases h1:i < n
  ·rw[aI h1] at h;have e:=jh h;exact⟨by rw[Jz h0 h1,e],by lia,by lia,h1⟩
  ·rw[aH h1] at h; cases h
 ·rw[aH h0] at h
  by_cases h1:-(n:Int)<=i
  ·rw[aI h1] at h;have e:=jh h;exact⟨by rw[Jb (by lia) h1,e],by lia,h1,by lia⟩
  ·rw[aH h1] at h; cases h
def yt{α:Type}{xs:List α}{i:Int}{v:α}(h:dU xs i=aA v):∃ j,seqIndex? i xs.length=aA j/\xs[j]?=aA v/\j < xs.length/\-(xs.length:Int)<=i/\i < xs.length:=by
 unfold dU at h;cases e:fS xs.length i with
 |none=>rw[e] at h; cases h
 |some j=>
  rw[e] at h;obtain⟨h1,h2,h3,h4⟩:=EA e;exact⟨j,h1,h,h2,h3,h4⟩
def Od{α:Type}{xs:List α}{j:Nat}{v:α}(h:xs[j]?=aA v):dU xs (j:Int)=aA v:=by
 have hj:=(j6.mp h).1;have e:fS xs.length (j:Int)=aA j:=by
  unfold fS;rw[aI (by lia),aI (by lia)]; simp
 unfold dU; rw[e]; exact h
def tJ(b:Q5):Prop:=∀ o i,Wo b aD o i=operate [o,i] (Jy o i)
def nv(X:Cx)(r:R2):Prop:=
 ∀(value slice:Q5) (pc:List (jv × Obj)) (s:jc) (σ:St) (H:Hp) (x y:V) (v u:j8) (Q:VK),Inv X pc σ H s->RelV x v->RelV y u->r x y H Q->
  Wo slice aD v u=operate [v,u] (Jy v u)->jT (jR X.prog X.w) X.A (subscriptTail value slice v u) (EP X pc σ Q) X.xe s
def qx(X:Cx)(id:String)(r:V->List V->Hp->VK->Prop):Prop:=
 ∀(pc:List (jv × Obj)) (s:jc) (σ:St) (H:Hp) (x:V) (xs:List V) (v:j8) (us:List j8) (Q:VK),Inv X pc σ H s->RelV x v->Vals xs us->r x xs H Q->
  jT (jR X.prog X.w) X.A (call (.builtin id) (v::us)) (EP X pc σ Q) X.xe s
section
variable {a b:Q5}{ta tb:TE}
def nv.or{r r':R2}(h:nv X r)(h':nv X r'):nv X (λx y H Q=>r x y H Q∨r' x y H Q):=by
 intro value slice pc s σ H x y v u Q I rx ry q hs;obtain q |q:=q
 ·exact h value slice pc s σ H x y v u Q I rx ry q hs
 ·exact h' value slice pc s σ H x y v u Q I rx ry q hs
def Cm{r:R2}(hr:nv X r)(ha:PE X a ta)(hb:PE X b tb)(hs:tJ b):PE X (.Subscript a b pos) (oi r ta tb):=by
 intro pc s σ H Q I h;exact WR (xb ha hb I h λv u s2 x y H2 I2 rx ry q=>hr a b pc s2 σ H2 x y v u Q I2 rx ry q (hs _ _))
def C8(K:jd):R2:=λx y H Q=>∃ p xs i v,x=.ref p/\y=.int i/\aq K H p xs/\dU xs i=aA v/\Q v H
def CA(K:jd):R2:=λx y H Q=>∃ p xs i v,x=.ref p/\y=.int i/\cL K H p xs/\dU xs i=aA v/\Q v H
def C9:R2:=λx y H Q=>∃ z i c,x=.str z/\y=.int i/\z.length<=ju/\dU z.cps.toList i=aA c/\Q (.str ⟨#[c]⟩) H
def ix_list:nv X (C8 X.K):=by
 intro value slice pc s σ H x y v u Q I rx ry h hs;obtain⟨p,xs,i,z,rfl,rfl,hq,he,q⟩:=h;cases rx;obtain⟨t,rfl⟩:=ry;obtain⟨its,r,pl,hz⟩:=I.list hq;obtain⟨j,h1,h2,h3,h4,h5⟩:=yt he;obtain⟨w,ew,rw'⟩:=r.get h2;have hl:=r.length;have hn:=qM;have fin:EP X pc σ Q w s:=⟨z,H,I,rw',q⟩
 by_cases h0:0<=i
 ·have hj:i.toNat=j:=by
   rw[Jz h0 h5] at h1;exact jh h1
  exact item_listR pl.isList h0 (by lia) (by rw[hj]; simpa using ew) fin hs
 ·have hj:(i+(its.toArray.size:Int)).toNat=j:=by
   rw[Jb (by lia) h4] at h1
   rw[jt,<-hl];exact jh h1
  exact Ny (x:=w) pl.isList.typeIs YX.lookup
   (wpAny_getItem_list_neg (Q:=λr s'=>r=w/\EP X pc σ Q r s') pl.isList (by lia) (by rw[jt]<;>lia) (by lia) (by rw[hj]; simpa using ew) ⟨rfl,fin⟩) hs
def ix_tup:nv X (CA X.K):=by
 intro value slice pc s σ H x y v u Q I rx ry h hs;obtain⟨p,xs,i,z,rfl,rfl,hq,he,q⟩:=h;cases rx;obtain⟨t,rfl⟩:=ry;obtain⟨its,r,pl,hz⟩:=I.tuple hq;obtain⟨j,h1,h2,h3,h4,h5⟩:=yt he;obtain⟨w,ew,rw'⟩:=r.get h2;have hl:=r.length;have hn:=qM;have fin:EP X pc σ Q w s:=⟨z,H,I,rw',q⟩;exact Ny (x:=w) pl.typeIs slot_tuple_getitem.lookup
  (getItem_tuple (j:=j) (Q:=λr s'=>r=w/\EP X pc σ Q r s') pl (by lia) (by lia) (by rw[jt,<-hl]; exact h1) (by simpa using ew) ⟨rfl,fin⟩) hs
def MC:nv X C9:=by
 intro value slice pc s σ H x y v u Q I rx ry h hs;obtain⟨z,i,c,rfl,rfl,hz,he,q⟩:=h;obtain⟨t,rfl⟩:=rx;obtain⟨t',rfl⟩:=ry;obtain⟨j,h1,h2,h3,h4,h5⟩:=yt he;have hl:z.cps.toList.length=z.length:=by simp[Str.length]
 rw[hl] at h1 h4 h5;have hn:=qM
 exact tail_any (JS s z t) slot_str_getitem.lookup (getItem_str (c:=c) (by
  have e1:aE (i < -(2 ^ 63:Int))=aD:=bL (by lia)
  have e2:aE (i≥2 ^ 63)=aD:=bL (by lia)
  rw[e1,e2,Bool.or_false]) (by rw[h1]; simpa using h2) ⟨.str ⟨#[c]⟩,H,I.tok _,⟨_,rfl⟩,q⟩) hs
def Gv(K:jd):R2:=λx y H Q=>C8 K x y H Q∨CA K x y H Q∨C9 x y H Q
def Dh:nv X (Gv X.K):=ix_list.or (ix_tup.or MC)
def UE(its:List j8)(n j:Nat)(u:j8):W4 (·.setIfInBounds j u) { cls:=.type "list",data:=.seq its.toArray n }={ cls:=.type "list",data:=.seq (its.set j u).toArray n }:=by
 simp[W4]
def Inv.lst{pc:List (jv × Obj)}{σ:St}{H:Hp}{s:jc}{p:jv}{xs:List V}(I:Inv X pc σ H s)(h:H p=aA (.lst xs)) :
  ∃(its:List j8) (n:Nat),Vals xs its/\s.heap.get? p=aA { cls:=.type "list",data:=.seq its.toArray n }/\xs.length<=ju:=by
 obtain⟨z,its,n,r,e⟩:=I.hok p _ h;exact⟨its,n,r,e,z⟩
def Inv.lstUpd{pc:List (jv × Obj)}{σ:St}{H:Hp}{s:jc}{p:jv}{xs ys:List V}{its its':List j8}{n n':Nat}{f:Obj->Obj}(I:Inv X pc σ H s)(h:H p=aA (.lst xs))
  (ho:s.heap.get? p=aA { cls:=.type "list",data:=.seq its.toArray n }) (hf:f { cls:=.type "list",data:=.seq its.toArray n }={ cls:=.type "list",data:=.seq its'.toArray n' }) (r:Vals ys its') (hz:ys.length<=ju) (t:Nat) :
  Inv X pc σ (aS H p (.lst ys)) { s with heap:=s.heap.update p f,toks:=t }:=by
 have e:(s.heap.update p f).get? p=aA { cls:=.type "list",data:=.seq its'.toArray n' }:=by
  rw[NG f ho (by rw[hf]<;>rfl),hf]
 refine I.write (x:=p) (e:=p) (by rw[h]; trivial) (.inl rfl) (λb u hb q=>(Nz _ _ (ZE hb)).trans q) ⟨_,e⟩ ?_
 exact⟨hz,its',n',r,e⟩
def Ci:V->V->V->Hp->(Hp->Prop)->Prop:=λo i v H Q=>∃ p xs k j,o=.ref p/\i=.int k/\H p=aA (.lst xs)/\fS xs.length k=aA j/\Q (aS H p (.lst (xs.set j v)))
def vd:xZ X Ci:=by
 intro pc s σ H o i v ov iv u Q I ro ri rv h;obtain⟨p,xs,k,j,rfl,rfl,hp,hj,q⟩:=h;cases ro;obtain⟨t,rfl⟩:=ri;obtain⟨its,n,r,ho,hz⟩:=I.lst hp;obtain⟨h1,h2,h3,h4⟩:=EA hj;have hl:=r.length;have hn:=qM;have I':Inv X pc σ (aS H p (.lst (xs.set j v))) { s with heap:=s.heap.update p (W4 (·.setIfInBounds j u)) }:=
  I.lstUpd hp ho (UE its n j u) (r.set rv j) (by rw[Qi]; exact hz) s.toks
 by_cases h0:0<=k
 ·have hk:k.toNat=j:=by
   rw[Jz h0 h4] at h1;exact jh h1
  exact PySem.W.ki_setAt ho h0 (by lia) (by rw[jt,<-hl]; exact h4) (by rw[hk]; exact⟨_,I',q⟩)
 ·have hk:(k+(its.toArray.size:Int)).toNat=j:=by
   rw[Jb (by lia) h3] at h1
   rw[jt,<-hl];exact jh h1
  exact PySem.W.ki_setBack ho (by lia) (by rw[jt,<-hl]; exact h3) (by lia) (by rw[hk]; exact⟨_,I',q⟩)
def Ve(lo hi:Option Int)(n:Nat):(Y4 lo hi aB n).1=((HT.sIx n 0 lo:Nat):Int)/\(Y4 lo hi aB n).2.1=((HT.sIx n n hi:Nat):Int)/\(Y4 lo hi aB n).2.2=1:=by
 refine⟨?_,?_,rfl⟩
 ·cases lo with
  |none=>simp[Y4,HT.sIx]
  |some i=>
   simp only[Y4,HT.sIx,Jj,show (1:Int) > 0 by decide,if_true]
   by_cases h:i < 0
   ·simp only[h,if_true]<;>lia
   ·simp only[h,if_false]<;>lia
 ·cases hi with
  |none=>simp[Y4,HT.sIx]
  |some i=>
   simp only[Y4,HT.sIx,Jj,show (1:Int) > 0 by decide,if_true]
   by_cases h:i < 0
   ·simp only[h,if_true]<;>lia
   ·simp only[h,if_false]<;>lia
def Vj(its:List j8)(lo hi:Option Int):slicePick its.toArray lo hi aB=((its.drop (HT.sIx its.length 0 lo)).take (HT.sIx its.length its.length hi - HT.sIx its.length 0 lo)).toArray:=by
 obtain⟨h1,h2,h3⟩:=Ve lo hi its.toArray.size;unfold slicePick;rw[h1,h2,h3];simp only[sliceRange_one,pick_run,jt]<;>rfl
def CB(K:jd):V->Option Int->Option Int->Hp->VK->Prop:=λx lo hi H Q=>∃ a xs,x=.ref a/\aq K H a xs/\∀ p,H p=aB->Q (.ref p) (aS H p (.lst (o4 xs lo hi)))
def EL:Bc X (CB X.K):=by
 intro pc s σ H x v vl vu lo hi sl Q I rx hs pl pu h;obtain⟨a,xs,rfl,hx,q⟩:=h;cases rx;obtain⟨its,r,ht,hz⟩:=I.list hx;have hlen:=r.length;refine⟨"list",_,YX.lookup,ht.isList.typeIs,?_⟩;refine YY ht.isList hs pl pu .none (by simp) ?_ (by rw[jt]<;>lia)
 rw[Vj,<-hlen];refine⟨.ref s.heap.objs.size,_,I.laid (t':=s.toks) (o:=.lst (o4 xs lo hi)) (λb ob q=>ja _ q) (jj _) ?_,rfl,q _ (I.hok.fresh (jj _))⟩;exact⟨Qc (V2 xs lo hi) hz,_,0,(r.drop (HT.sIx xs.length 0 lo)).take (HT.sIx xs.length xs.length hi - HT.sIx xs.length 0 lo),jL _ rfl⟩
def iM:V->Bool
 |.non=>aC
 |.bl _=>aC
 |.int _=>aC
 |.str _=>aC
 |_=>aD
def dt:V->V->Bool
 |.non,.non=>aC
 |.bl a,.bl b=>a == b
 |.bl a,.int b=>(if a then 1 else 0) == b
 |.int a,.bl b=>a == (if b then 1 else 0)
 |.int a,.int b=>a == b
 |.str a,.str b=>a == b
 |_,_=>aD
def Lp{A:Qg}{s:jc}{y x:V}{u v:j8}(ry:RelV y u)(rx:RelV x v)(fy:iM y=aC)(fx:iM x=aC):SeqAt.EqAt A s u v (dt y x):=by
 cases y with
 |non=>
  cases ry;cases x with
  |non=>cases rx; exact SeqAt.EqAt.same _
  |bl b=>cases rx; exact SeqAt.EqAt.none_bool b
  |int b=>obtain⟨t,rfl⟩:=rx; exact SeqAt.EqAt.none_int b t
  |str b=>obtain⟨t,rfl⟩:=rx; exact SeqAt.EqAt.none_str b t
  |_=>exact absurd fx jO
 |bl a=>
  cases ry;cases x with
  |non=>cases rx; exact SeqAt.EqAt.bool_none a
  |bl b=>cases rx; exact SeqAt.EqAt.bool_bool a b
  |int b=>obtain⟨t,rfl⟩:=rx; exact SeqAt.EqAt.bool_int a b t
  |str b=>obtain⟨t,rfl⟩:=rx; exact SeqAt.EqAt.bool_str a b t
  |_=>exact absurd fx jO
 |int a=>
  obtain⟨t',rfl⟩:=ry;cases x with
  |non=>cases rx; exact SeqAt.EqAt.int_none a t'
  |bl b=>cases rx; exact SeqAt.EqAt.int_bool a t' b
  |int b=>obtain⟨t,rfl⟩:=rx; exact SeqAt.EqAt.int_int a t' b t
  |str b=>obtain⟨t,rfl⟩:=rx; exact Ww a t' b t
  |_=>exact absurd fx jO
 |str a=>
  obtain⟨t',rfl⟩:=ry;cases x with
  |non=>cases rx; exact SeqAt.EqAt.str_none a t'
  |bl b=>cases rx; exact SeqAt.EqAt.str_bool a t' b
  |int b=>obtain⟨t,rfl⟩:=rx; exact Wx a t' b t
  |str b=>obtain⟨t,rfl⟩:=rx; exact SeqAt.EqAt.str_str a t' b t
  |_=>exact absurd fx jO
 |_=>exact absurd fy jO
def fJ(x:V)(u:j8):Bool:=match u with
 |.none=>dt .non x
 |.bool b=>dt (.bl b) x
 |.int i _=>dt (.int i) x
 |.str z _=>dt (.str z) x
 |_=>aD
def uz{x y:V}{u:j8}(r:RelV y u)(f:iM y=aC):fJ x u=dt y x:=by
 cases y with
 |non=>cases r; rfl
 |bl b=>cases r; rfl
 |int i=>obtain⟨t,rfl⟩:=r; rfl
 |str z=>obtain⟨t,rfl⟩:=r; rfl
 |_=>exact absurd f jO
def tK{x:V}:∀ {xs:List V} {us:List j8},Vals xs us->xs.all iM=aC->us.any (fJ x)=xs.any λy=>dt y x
 |_,_,.nil,_=>rfl
 |y::xs,u::us,.cons r t,f=>by
  rw[Yp,jJ] at f;rw[Zm,Zm,uz r f.1,tK t f.2]
def qa{A:Qg}{s:jc}{x:V}{v:j8}(rx:RelV x v)(fx:iM x=aC):∀ {xs:List V} {us:List j8},Vals xs us->xs.all iM=aC->∀ u∈us,SeqAt.EqAt A s u v (fJ x u)
 |_,_,.nil,_=>λu hu=>by cases hu
 |y::xs,u::us,.cons r t,f=>λu' hu=>by
  rw[Yp,jJ] at f;obtain rfl |hu:=jx.mp hu
  ·rw[uz r f.1]; exact Lp r rx f.1 fx
  ·exact qa rx fx t f.2 u' hu
def nk(x:V)(xs:List V):Bool:=xs.any λy=>dt y x
def xJ(K:jd)(neg:Bool):R2:=λx y H Q=>∃ p xs,y=.ref p/\(aq K H p xs∨cL K H p xs)/\iM x=aC/\xs.all iM=aC/\Q (.bl (if neg then !nk x xs else nk x xs)) H
def Sw:cZ X (Z9 .In) (xJ X.K aD):=by
 intro pc s σ H x y v u Q I rx ry h;obtain⟨p,xs,rfl,hq,fx,fs,q⟩:=h;cases ry;obtain hq |hq:=hq
 ·obtain⟨its,r,pl,hz⟩:=I.list hq;refine SeqAt.in_listAt (fJ x) pl.isList (λw hw=>qa rx fx r fs w (by simpa using hw)) ⟨.bl _,H,I,rfl,?_⟩
  rw[show its.toArray.any (fJ x)=its.any (fJ x) by simp,tK r fs]
  exact q
 ·obtain⟨its,r,pl,hz⟩:=I.tuple hq;refine SeqAt.in_tupleAt (fJ x) pl (λw hw=>qa rx fx r fs w (by simpa using hw)) ⟨.bl _,H,I,rfl,?_⟩
  rw[show its.toArray.any (fJ x)=its.any (fJ x) by simp,tK r fs]
  exact q
def G8:cZ X (Z9 .NotIn) (xJ X.K aC):=by
 intro pc s σ H x y v u Q I rx ry h;obtain⟨p,xs,rfl,hq,fx,fs,q⟩:=h;cases ry;obtain hq |hq:=hq
 ·obtain⟨its,r,pl,hz⟩:=I.list hq;refine SeqAt.notIn_listAt (fJ x) pl.isList (λw hw=>qa rx fx r fs w (by simpa using hw)) ⟨.bl _,H,I,rfl,?_⟩
  rw[show its.toArray.any (fJ x)=its.any (fJ x) by simp,tK r fs]
  exact q
 ·obtain⟨its,r,pl,hz⟩:=I.tuple hq;refine SeqAt.notIn_tupleAt (fJ x) pl (λw hw=>qa rx fx r fs w (by simpa using hw)) ⟨.bl _,H,I,rfl,?_⟩
  rw[show its.toArray.any (fJ x)=its.any (fJ x) by simp,tK r fs]
  exact q
def VG:CallR X (.builtin "len") (λxs H Q=>∃ p ys,xs=[.ref p]/\(aq X.K H p ys∨cL X.K H p ys)/\Q (.int ys.length) H):=by
 intro pc s σ H xs us Q I r h;obtain⟨p,ys,rfl,hq,q⟩:=h;obtain⟨u,rfl,rx⟩:=sk r;cases rx;have hn:=qM;obtain hq |hq:=hq
 ·obtain⟨its,r',pl,hz⟩:=I.list hq;have hlen:=r'.length;exact Calls.call_len_list pl.isList (by simp only[jt]<;>lia) ⟨.int ys.length,H,I.tok _,⟨s.toks+1,by rw[jt,hlen]⟩,q⟩
 ·obtain⟨its,r',pl,hz⟩:=I.tuple hq;have hlen:=r'.length;exact len_tuple pl (by simp only[jt]<;>lia) ⟨.int ys.length,H,I.tok _,⟨s.toks+1,by rw[jt,hlen]⟩,q⟩
def V4:CallR X (.builtin "len") (λxs H Q=>∃ z,xs=[.str z]/\z.length<=ju/\Q (.int z.length) H):=by
 intro pc s σ H xs us Q I r h;obtain⟨z,rfl,hz,q⟩:=h;obtain⟨u,rfl,t,rfl⟩:=sk r;have hn:=qM;exact len_str (by lia) ⟨.int z.length,H,I.tok _,⟨_,rfl⟩,q⟩
def CallR.or{f:j8}{r r':List V->Hp->VK->Prop}(h:CallR X f r)(h':CallR X f r'):CallR X f (λxs H Q=>r xs H Q∨r' xs H Q):=by
 intro pc s σ H xs us Q I rs q;obtain q |q:=q
 ·exact h pc s σ H xs us Q I rs q
 ·exact h' pc s σ H xs us Q I rs q
def V5:CallR X (.type "list") (λxs H Q=>∃ p ys,xs=[.ref p]/\(aq X.K H p ys∨cL X.K H p ys)/\∀ l,H l=aB->Q (.ref l) (aS H l (.lst ys))):=by
 intro pc s σ H xs us Q I r h;obtain⟨p,ys,rfl,hq,q⟩:=h;obtain⟨u,rfl,rx⟩:=sk r;cases rx;have fin:∀(its:List j8),Vals ys its->ys.length<=ju->∀(h':QN) (c':Nat),(∀ b o',s.heap.get? b=aA o'->h'.get? b=aA o')->
   h'.get? s.heap.objs.size=aA { cls:=.type "list",dict:=aB,data:=.seq its.toArray c',slots:=#[] }->EP X pc σ Q (.ref s.heap.objs.size) { s with heap:=h' }:=λits r' hz h' c' kp e=>
  ⟨.ref s.heap.objs.size,_,I.laid (t':=s.toks) kp (jj _) (show ObjOk X.prog X.w _ h' _ (.lst ys) from ⟨hz,its,c',r',e⟩),rfl,q _ (I.hok.fresh (jj _))⟩
 obtain hq |hq:=hq
 ·obtain⟨its,r',pl,hz⟩:=I.list hq;have hlen:=r'.length;obtain⟨o,ho,hc,n,hd⟩:=pl.isList;exact call_list_seq p (.inl rfl) ho hc hd (λh' c' kp e=>fin its r' hz h' c' kp e) (by simp only[jt]<;>lia)
 ·obtain⟨its,r',pl,hz⟩:=I.tuple hq;have hlen:=r'.length;obtain⟨o,ho,hc,n,hd⟩:=pl;exact call_list_seq p (.inr rfl) ho hc hd (λh' c' kp e=>fin its r' hz h' c' kp e) (by simp only[jt]<;>lia)
def xH(K:jd)(T:String)(x:V)(H:Hp):Prop:=match x with
 |.str _=>T="str"
 |.int _=>T="int"
 |.ref p=>(T="list"/\∃ xs,aq K H p xs)∨(T="tuple"/\∃ o,K.lookup p=aA o/\o.cls=.type "tuple"/\o.dict=aB) ∨
   (T="dict"/\((∃ kvs,H p=aA (.dK kvs))∨∃ kvs,H p=aA (.dT kvs)))∨(T="set"/\∃ S n,H p=aA (.set S n))
 |_=>False
def Dc{pc:List (jv × Obj)}{σ:St}{H:Hp}{s:jc}{T:String}{x:V}{v:j8}(I:Inv X pc σ H s)(r:RelV x v)(ty:xH X.K T x H) :
  s.TypeIs v T/\∀ a,v=.ref a->∃ ob,s.heap.get? a=aA ob/\ob.dict=aB:=by
 cases x with
 |str z=>
  obtain⟨t,rfl⟩:=r;cases ty;exact⟨JS s z t,λ_ e=>nomatch e⟩
 |int i=>
  obtain⟨t,rfl⟩:=r;cases ty;exact⟨typeIs_int s i t,λ_ e=>nomatch e⟩
 |ref p=>
  cases r;obtain ⟨rfl,xs,hq⟩ |⟨rfl,o,hk,hc,hd⟩ |⟨rfl,hk⟩ |⟨rfl,S,n,hk⟩:=ty
  ·obtain⟨its,_,pl,_⟩:=I.list hq;refine⟨pl.isList.typeIs,λa e=>?_⟩;cases e;obtain⟨o,n,e,c,hd,_⟩:=pl;exact⟨o,e,hd⟩
  ·refine⟨⟨o,I.kIn p o hk,hc⟩,λa e=>?_⟩;cases e;exact⟨o,I.kIn _ o hk,hd⟩
  ·have z:∃ o,s.heap.get? p=aA o/\o.ExactDict:=by
    obtain ⟨kvs,hk⟩ |⟨kvs,hk⟩:=hk
    ·obtain⟨_,_,_,_,o,_,_,e,ex,_⟩:=I.hok p _ hk;exact⟨o,e,ex⟩
    ·obtain⟨_,_,_,_,o,_,_,e,ex,_⟩:=I.hok p _ hk;exact⟨o,e,ex⟩
   obtain⟨o,e,ex⟩:=z;refine⟨⟨o,e,ex.1⟩,λa e2=>?_⟩;cases e2;exact⟨o,e,ex.2.1⟩
  ·obtain⟨o,_,_,_,e,ex,_⟩:=I.hok p _ hk;refine⟨⟨o,e,ex.1⟩,λa e2=>?_⟩;cases e2;exact⟨o,e,ex.2.1⟩
 |_=>exact Zs ty
def uZ(K:jd)(T:String)(r:V->List V->Hp->VK->Prop)(to:TE):TE:=fun σ H Q=>to σ H λx H1=>xH K T x H1/\r x [] H1 Q
def ng(K:jd)(T:String)(r:V->List V->Hp->VK->Prop)(to:TE)(t:TA):TE:=fun σ H Q=>to σ H λx H1=>xH K T x H1/\t σ H1 λxs H2=>r x xs H2 Q
variable {es:List Q5}{to:TE}{t:TA}{name:Str}{apos cpos:Pos}{T id:String}{r:V->List V->Hp->VK->Prop}
def Mt(pa:WS T)(slot:Slot T name id)(hty:typeOf (.builtin id)=pure (.type "method_descriptor"))(hm:qx X id r)(ho:PE X o to)
  (hbase:Yq o name X.env (eval o X.env)=eval o X.env:=by rfl) (hline:(apos.endLine == cpos.line)=aC:=by rfl):PE X (.Call (.Attribute o name apos) [] [] cpos) (uZ X.K T r to):=by
 intro pc s σ H Q I h;refine wpAny_Call_method0_late hbase hline (aW (ho pc s σ H _ I h) λv s1 h_=>?_); obtain⟨x,H1,I1,r1,ty,q1⟩:=h_;obtain⟨h1,h2⟩:=Dc I1 r1 ty;exact⟨T,id,pa,slot,hty,h1,h2,gU rfl (PySem.evalArgs_none (hm pc s1 σ H1 x [] v [] Q I1 r1 .nil q1))⟩
def Iy(pa:WS T)(slot:Slot T name id)(hty:typeOf (.builtin id)=pure (.type "method_descriptor"))(hm:qx X id r)(ho:PE X o to)(ha:PA X (e::es) t)
  (hbase:Yq o name X.env (eval o X.env)=eval o X.env:=by rfl)
  (hfew:((QM cpos (jg (e::es) X.env)).all (λx=>!x.1)&&(backToKw cpos (JA [] X.env)).all (λx=>x.1.isSome)
   && aE ((e::es).length+([]:List JB).length+(if ([]:List JB).isEmpty then 0 else 1) < 30))=aC:=by rfl)
  (hline:(apos.endLine == cpos.line)=aC:=by rfl) (hs:ac X e es:=by rfl) (hplain:ad X cpos es:=by rfl) :
  PE X (.Call (.Attribute o name apos) (e::es) [] cpos) (ng X.K T r to t):=by
 intro pc s σ H Q I h;refine wpAny_Call_method_late hbase hfew hline rfl (aW (ho pc s σ H _ I h) λv s1 h_=>?_); obtain⟨x,H1,I1,r1,ty,q1⟩:=h_;obtain⟨h1,h2⟩:=Dc I1 r1 ty;refine⟨T,id,pa,slot,hty,h1,h2,?_⟩;have hA:=ha cpos pc s1 σ H1 _ I1 q1;rw[hs] at hA ⊢;refine gU (by show (aD||(QM cpos (jg es X.env)).any (·.1))=aD; rw[hplain]<;>rfl) (Yh ?_)
 exact aW hA λus s2 ⟨vs,H2,I2,r2,q2⟩=>hm pc s2 σ H2 x vs v us Q I2 r1 r2 q2
end
def Bj(X:Cx)(id:String)(r:V->List V->Hp->VK->Prop):Prop:=
 ∀(pc:List (jv × Obj)) (s:jc) (σ:St) (H:Hp) (x:V) (xs:List V) (v:j8) (us:List j8) (Q:VK),Inv X pc σ H s->RelV x v->Vals xs us->r x xs H Q->
  jT (jR X.prog X.w) X.A (call (.builtin id) (v::us)) (EP X pc σ Q) X.xe s
def Vals.one{x:V}{us:List j8}(h:Vals [x] us):∃ u,us=[u]/\RelV x u:=by
 cases h with
 |cons r t=>cases t; exact⟨_,rfl,r⟩
def Vals.zero:∀ {us:List j8},Vals [] us->us=[]
 |_,.nil=>rfl
def Vals.dropLast{xs:List V}{us:List j8}(h:Vals xs us):Vals xs.dropLast us.dropLast:=by
 induction h with
 |nil=>exact .nil
 |cons r t ih=>
  cases t with
  |nil=>exact .nil
  |cons q t'=>exact .cons r ih
def Vals.reverse{xs:List V}{us:List j8}(h:Vals xs us):Vals xs.reverse us.reverse:=by
 induction h with
 |nil=>exact .nil
 |cons r t ih=>rw[Z1,Z1]; exact Vals.append ih (.cons r .nil)
def Ts{α:Type}(l:List α):l.eraseIdx (l.length - 1)=l.dropLast:=by
 induction l with
 |nil=>rfl
 |cons a r ih=>
  cases r with
  |nil=>rfl
  |cons b r=>
   have e:(a::b::r).length - 1=((b::r).length - 1)+1:=by
    have h1:(a::b::r).length=r.length+2:=rfl;have h2:(b::r).length=r.length+1:=rfl;lia
   rw[e,Nh,ih]
   all_goals rfl
section
variable {l b:jv}{xs ys zs:List V}
def Inv.lset{its its':List j8}{n:Nat}{f:Array j8->Array j8}{t':Nat}(I:Inv X pc σ H s)(hH:H l=aA (.lst xs))
  (e:s.heap.get? l=aA { cls:=.type "list",data:=.seq its.toArray n }) (hf:f its.toArray=its'.toArray) (hv:Vals ys its') (hz:ys.length<=ju) :
  Inv X pc σ (aS H l (.lst ys)) { s with heap:=s.heap.update l (W4 f),toks:=t' }:=by
 have q:=PySem.IsL.update e f;rw[hf] at q;refine I.write (x:=l) (e:=l) (by rw[hH]; exact trivial) (.inl rfl) (λb' u hb hu=>(Nz s.heap (W4 f) (ZE hb)).trans hu) ⟨_,q⟩ ?_
 exact⟨hz,its',_,hv,q⟩
def Inv.lnew{its:List j8}{t':Nat}(I:Inv X pc σ H s)(hv:Vals ys its)(hz:ys.length<=ju) :
  Inv X pc σ (aS H s.heap.objs.size (.lst ys)) { s with heap:=s.heap.push { cls:=.type "list",data:=.seq its.toArray },toks:=t' }:=
 I.laid (λ_ _ q=>ja _ q) (jj _) ⟨hz,its,0,hv,jL _ rfl⟩
def Inv.fresh(I:Inv X pc σ H s):H s.heap.objs.size=aB:=I.hok.fresh (jj _)
def Inv.lstM(I:Inv X pc σ H s)(hH:H l=aA (.lst xs)):xs.length<=ju/\∃(its:List j8) (n:Nat),Vals xs its/\xs.length=its.length/\s.heap.get? l=aA { cls:=.type "list",data:=.seq its.toArray n }:=by
 obtain⟨z,its,n,r,e⟩:=I.hok l _ hH;exact⟨z,its,n,r,r.length,e⟩
def S4{n:Nat}(h:n<=ju):gH n=aD:=by
 unfold gH;exact bL (by lia)
end
section
def zF:V->List V->Hp->VK->Prop:=λx vs H Q=>∃ l xs y,x=.ref l/\vs=[y]/\H l=aA (.lst xs)/\xs.length < ju/\Q .non (aS H l (.lst (xs++[y])))
def oY:Bj X "list.append" zF:=by
 intro pc s σ H x vs v us Q I rx rv h;obtain⟨l,xs,y,rfl,rfl,hH,hz,q⟩:=h;cases rx;obtain⟨u,rfl,ru⟩:=rv.one;obtain⟨z,its,n,r,hl,e⟩:=I.lstM hH;refine W5 F.slot_list_append ⟨_,e,rfl⟩ F.entry_list_append (F.args_list_append_2 _ _) (PySem.list_append l its.toArray n u (by rw[jt]; lia)) ⟨e,?_⟩
 refine⟨.non,_,I.lset (its':=its++[u]) hH e (by simp) (r.append (.cons ru .nil)) ?_,rfl,q⟩
 rw[jk,Zu];lia
def zH:V->List V->Hp->VK->Prop:=λx vs H Q=>∃ l b xs zs,x=.ref l/\vs=[.ref b]/\H l=aA (.lst xs)/\H b=aA (.lst zs)/\xs.length+zs.length<=ju/\Q .non (aS H l (.lst (xs++zs)))
def FP:Bj X "list.extend" zH:=by
 intro pc s σ H x vs v us Q I rx rv h;obtain⟨l,b,xs,zs,rfl,rfl,hH,hB,hz,q⟩:=h;cases rx;obtain⟨u,rfl,ru⟩:=rv.one;cases ru;obtain⟨z,its,n,r,hl,e⟩:=I.lstM hH;obtain⟨z2,its2,n2,r2,hl2,e2⟩:=I.lstM hB;have hsz:its.toArray.size+its2.toArray.size<=ju:=by rw[jt,jt]; lia
 have hlong:¬ (!its.toArray.isEmpty&&gH (its.toArray.size+its2.toArray.size))=aC:=by
  rw[S4 hsz,YN];exact jO
 refine W5 F.slot_list_extend ⟨_,e,rfl⟩ F.entry_list_extend (F.args_list_extend_2 _ _)
  (AutoSeq1.list_extend_list_list_0 l its.toArray n b its2.toArray n2 hlong (by rw[jt]; lia) (by lia)) ⟨e,e2,?_⟩
 refine⟨.non,_,I.lset (its':=its++its2) hH e (by simp) (r.append r2) ?_,rfl,q⟩
 rw[jk];lia
def xj:V->List V->Hp->VK->Prop:=λx vs H Q=>∃ l xs y,x=.ref l/\vs=[]/\H l=aA (.lst xs)/\xs[xs.length - 1]?=aA y/\Q y (aS H l (.lst xs.dropLast))
def v8:Bj X "list.pop" xj:=by
 intro pc s σ H x vs v us Q I rx rv h;obtain⟨l,xs,y,rfl,rfl,hH,hy,q⟩:=h;cases rx;have hus:=rv.zero;subst hus;obtain⟨z,its,n,r,hl,e⟩:=I.lstM hH;obtain⟨u,hu,ru⟩:=r.get hy;have hy':its.toArray[its.toArray.size - 1]?=aA u:=by
  show its.toArray[its.length - 1]?=aA u;rw[<-NH,<-hl];exact hu
 refine W5 F.slot_list_pop ⟨_,e,rfl⟩ F.entry_list_pop (F.args_list_pop_1 _) (MeetsSeq.list_pop_last l its.toArray n u hy' (by rw[jt]; lia)) ⟨e,?_⟩
 refine⟨y,_,I.lset (its':=its.dropLast) hH e ?_ r.dropLast ?_,ru,q⟩
 ·rw[jt,List.eraseIdxIfInBounds_toArray,Ts]
 ·rw[List.length_dropLast];lia
def C7:R2:=λx y H Q=>∃ l b xs zs,x=.ref l/\y=.ref b/\H l=aA (.lst xs)/\H b=aA (.lst zs)/\xs.length+zs.length<=ju/\∀ p,H p=aB->Q (.ref p) (aS H p (.lst (xs++zs)))
def Dj:cZ X (gK .Add) C7:=by
 intro pc s σ H x y v u Q I rx ry h;obtain⟨l,b,xs,zs,rfl,rfl,hH,hB,hz,q⟩:=h;cases rx;cases ry;obtain⟨z,its,n,r,hl,e⟩:=I.lstM hH;obtain⟨z2,its2,n2,r2,hl2,e2⟩:=I.lstM hB;refine PySem.P.add_list e e2 ?_ (by rw[jt,jt]; lia)
 have ea:its.toArray++its2.toArray=(its++its2).toArray:=by simp
 rw[ea];exact⟨.ref _,_,I.lnew (t':=s.toks) (r.append r2) (by rw[jk]; lia),rfl,q _ I.fresh⟩
end
section
variable {κ:Type}[DecidableEq κ]
def iL(kvs:List (κ × V))(k:κ):Option V:=(kvs.find? λkv=>aE (kv.1=k)).map (·.2)
def dv(kvs:List (κ × V))(k:κ)(v:V):List (κ × V):=
 if (kvs.any λkv=>aE (kv.1=k))=aC then kvs.map (λkv=>if kv.1=k then (kv.1,v) else kv) else kvs++[(k,v)]
def vi{p:κ × V}{r:List (κ × V)}{k:κ}(e:p.1=k):iL (p::r) k=aA p.2:=by simp[iL,Za,e]
def vh{p:κ × V}{r:List (κ × V)}{k:κ}(e:¬ p.1=k):iL (p::r) k=iL r k:=by simp[iL,Za,e]
def F6(k:κ):∀ kvs:List (κ × V),(kvs.any λkv=>aE (kv.1=k))=(iL kvs k).isSome
 |[]=>rfl
 |p::r=>by
  rw[Zm]
  by_cases e:p.1=k
  ·simp only[vi e,bB e,Ua,Option.isSome_some]
  ·rw[vh e,bL e,WC]; exact F6 k r
def tq(kvs:List (κ × V))(k:κ)(v:V):(dv kvs k v).length<=kvs.length+1:=by
 unfold dv;split
 ·rw[j4]; lia
 ·rw[jk,jo,Zp]; lia
def RelO.isSome_eq{o:Option V}{u:Option j8}(r:RelO o u):o.isSome=u.isSome:=by
 cases o with
 |none=>cases u with
  |none=>rfl
  |some _=>exact r.elim
 |some _=>cases u with
  |none=>exact r.elim
  |some _=>rfl
def RelO.getD{o:Option V}{u:Option j8}{d:V}{d':j8}(r:RelO o u)(rd:RelV d d'):RelV (o.getD d) (u.getD d'):=by
 cases o with
 |none=>cases u with
  |none=>exact rd
  |some _=>exact r.elim
 |some _=>cases u with
  |none=>exact r.elim
  |some _=>exact r
def KV.val{kvs:List (κ × V)}{vs:List (κ × j8)}(r:KV kvs vs)(k:κ):RelO (iL kvs k) (WT vs k):=by
 unfold KV at r
 induction r with
 |nil=>exact Y5
 |@cons p q ps qs h t ih=>
  obtain⟨h1,h2⟩:=h
  by_cases e:p.1=k
  ·have e':=h1.symm.trans e;have b:WT (q::qs) k=aA q.2:=by simp[WT,Za,e']
   rw[vi e,b]; exact h2
  ·have e':¬ q.1=k:=λz=>e (h1.trans z);have b:WT (q::qs) k=WT qs k:=by simp[WT,Za,e']
   rw[vh e,b]; exact ih
def KV.any{kvs:List (κ × V)}{vs:List (κ × j8)}(r:KV kvs vs)(k:κ):(kvs.any λkv=>aE (kv.1=k))=vs.any λkv=>aE (kv.1=k):=by
 unfold KV at r
 induction r with
 |nil=>rfl
 |cons h t ih=>rw[Zm,Zm,ih,h.1]
def KV.repl{kvs:List (κ × V)}{vs:List (κ × j8)}(r:KV kvs vs)(k:κ){y:V}{u:j8}(ry:RelV y u) :
  KV (kvs.map λkv=>if kv.1=k then (kv.1,y) else kv) (vs.map λkv=>if kv.1=k then (kv.1,u) else kv):=by
 unfold KV at r ⊢
 induction r with
 |nil=>exact .nil
 |@cons p q ps qs h t ih=>
  rw[jp,jp];refine .cons ?_ ih;obtain⟨h1,h2⟩:=h
  by_cases e:p.1=k
  ·rw[aI e,aI (h1.symm.trans e)]; exact⟨h1,ry⟩
  ·rw[aH e,aH (λz=>e (h1.trans z))]; exact⟨h1,h2⟩
def KV.put{kvs:List (κ × V)}{vs:List (κ × j8)}(r:KV kvs vs)(k:κ){y:V}{u:j8}(ry:RelV y u):KV (dv kvs k y) (stored vs k u):=by
 unfold dv stored;rw[r.any k]
 by_cases e:(vs.any λkv=>aE (kv.1=k))=aC
 ·rw[aI e,aI e]; exact r.repl k ry
 ·rw[aH e,aH e]; exact Uk r ⟨rfl,ry⟩
def KV.length{kvs:List (κ × V)}{vs:List (κ × j8)}(r:KV kvs vs):kvs.length=vs.length:=Nb r
end
def oJ{P:jI}{w:Qf}{k:aL}{u:j8}(r:RelV (kV k) u):(f7 P w).is k u=aC:=by
 cases k with
 |inl i=>obtain⟨t,e⟩:=r; subst e; exact UZ P w i t
 |inr x=>obtain⟨t,e⟩:=r; subst e; exact Us P w x t
def FN{P:jI}{w:Qf}:∀ {ks:List aL} {us:List j8},Vals (ks.map kV) us->ItemsAre (f7 P w) ks us
 |[],_,r=>by rw[Zb] at r; cases r; exact .nil
 |k::ks,_,r=>by
  rw[jp] at r;cases r with
  |cons h t=>exact .cons (oJ h) (FN t)
abbrev KT(H:Hp):List (List aL × V)->List (List aL × jv × j8)->Prop:=JO λp q=>p.1=q.1/\H q.2.1=aA (.tup (p.1.map kV))/\RelV p.2 q.2.2
def KT.val{H:Hp}{kvs:List (List aL × V)}{xs:List (List aL × jv × j8)}(r:KT H kvs xs)(k:List aL):RelO (iL kvs k) ((Ub xs k).map (·.2)):=by
 induction r with
 |nil=>exact Y5
 |@cons p q ps qs h t ih=>
  obtain⟨h1,_,h2⟩:=h
  by_cases e:p.1=k
  ·have e':=h1.symm.trans e;have b:Ub (q::qs) k=aA q.2:=by simp[Ub,Za,e']
   rw[vi e,b]; exact h2
  ·have e':¬ q.1=k:=λz=>e (h1.trans z);have b:Ub (q::qs) k=Ub qs k:=by simp[Ub,Za,e']
   rw[vh e,b]; exact ih
def KT.repl{H:Hp}{kvs:List (List aL × V)}{xs:List (List aL × jv × j8)}(r:KT H kvs xs)(k:List aL){y:V}{u:j8}(ry:RelV y u) :
  KT H (kvs.map λkv=>if kv.1=k then (kv.1,y) else kv) (xs.map (putAt k u)):=by
 induction r with
 |nil=>exact .nil
 |@cons p q ps qs h t ih=>
  rw[jp,jp];refine .cons ?_ ih;obtain⟨h1,h2,h3⟩:=h;unfold putAt
  by_cases e:p.1=k
  ·rw[aI e,aI (h1.symm.trans e)]; exact⟨h1,h2,ry⟩
  ·rw[aH e,aH (λz=>e (h1.trans z))]; exact⟨h1,h2,h3⟩
def KT.put{H:Hp}{kvs:List (List aL × V)}{xs:List (List aL × jv × j8)}(r:KT H kvs xs)(k:List aL){b:jv}{y:V}{u:j8}(hb:H b=aA (.tup (k.map kV)))(ry:RelV y u) :
  KT H (dv kvs k y) (storedH xs k b u):=by
 have e:(kvs.any λkv=>aE (kv.1=k))=(Ub xs k).isSome:=by
  rw[F6,(r.val k).isSome_eq,gh]
 unfold dv storedH;rw[e]
 by_cases q:(Ub xs k).isSome=aC
 ·rw[aI q,aI q]; exact r.repl k ry
 ·rw[aH q,aH q]; exact Uk r ⟨rfl,hb,ry⟩
def KT.keeps{H H':Hp}{kvs:List (List aL × V)}{xs:List (List aL × jv × j8)}(r:KT H kvs xs)(ht:∀ b ys,H b=aA (.tup ys)->H' b=aA (.tup ys)):KT H' kvs xs:=
 Paired.mapP r λ_ _ z=>⟨z.1,ht _ _ z.2.1,z.2.2⟩
section
variable {P:jI}{w:Qf}{h:QN}
def Cn{u:HO}(ok:cc P w H h)(e:Rd H a u):ObjOk P w H h a u:=e.ok ok
def nJ{kvs:List (aL × V)}(ok:cc P w H h)(e:Rd H a (.dK kvs)):kvs.length<=ju/\(a == ZD)=aD/\∃ vs,KV kvs vs/\h.DictOf (f7 P w) a vs:=
 show ObjOk P w H h a (.dK kvs) from Cn ok e
def uh{kvs:List (aL × V)}(ok:cc P w H h)(e:H a=aA (.dK kvs)):kvs.length<=ju/\(a == ZD)=aD/\∃ vs,KV kvs vs/\h.DictOf (f7 P w) a vs:=nJ ok (.inl e)
def rK{ks:List aL}(ok:cc P w H h)(e:H a=aA (.tup (ks.map kV))):(NC (f7 P w)).is h ks a:=by
 obtain⟨_,its,r,o,h1,h2,n,h3⟩:=(ok a _ e);exact⟨o,its.toArray,n,h1,h2,h3,by simpa using FN r⟩
def qJ{kvs:List (List aL × V)}(ok:cc P w H h)(e:Rd H a (.dT kvs)):kvs.length<=ju/\(a == ZD)=aD /\
  ∃ xs,KT H kvs xs/\h.DictOfH (NC (f7 P w)) a xs:=by
 obtain⟨z,y,xs,r,o,es,ep,h1,h2,h3,h4,h5⟩:=(Cn ok e);refine⟨z,y,xs,r,o,es,ep,h1,h2,h3,h4,λx hx=>?_,h5⟩;have all:∀ {l:List (List aL × V)} {m:List (List aL × jv × j8)},KT H l m->∀ x∈m,(NC (f7 P w)).is h x.1 x.2.1:=by
  intro l m q
  induction q with
  |nil=>intro x hx; exact nomatch hx
  |@cons p q ps qs hq t ih=>
   intro x hx;obtain e |hx:=jx.mp hx
   ·subst e;exact rK ok (by rw[<-hq.1]; exact hq.2.1)
   ·exact ih x hx
 exact all r x hx
def KD{kvs:List (List aL × V)}(ok:cc P w H h)(e:H a=aA (.dT kvs)):kvs.length<=ju/\(a == ZD)=aD /\
  ∃ xs,KT H kvs xs/\h.DictOfH (NC (f7 P w)) a xs:=qJ ok (.inl e)
end
def DGet(H:Hp)(a:jv)(y:V)(r:Option V):Prop:=
 (∃ kvs k,Rd H a (.dK kvs)/\y=kV k/\r=iL kvs k)∨∃ kvs k b,Rd H a (.dT kvs)/\y=.ref b/\H b=aA (.tup (k.map kV))/\r=iL kvs k
def DPut(H:Hp)(a:jv)(y v:V)(H':Hp):Prop:=
 (∃ kvs k,H a=aA (.dK kvs)/\y=kV k/\kvs.length < ju/\H'=aS H a (.dK (dv kvs k v))) ∨
 ∃ kvs k b,H a=aA (.dT kvs)/\y=.ref b/\H b=aA (.tup (k.map kV))/\kvs.length < ju/\H'=aS H a (.dT (dv kvs k v))
def DGet.k{H:Hp}{a:jv}{kvs:List (aL × V)}{k:aL}(e:H a=aA (.dK kvs)):DGet H a (kV k) (iL kvs k):=.inl ⟨kvs,k,.inl e,rfl,rfl⟩
def DPut.k{H:Hp}{a:jv}{kvs:List (aL × V)}{k:aL}{v:V}(e:H a=aA (.dK kvs))(hl:kvs.length < ju):DPut H a (kV k) v (aS H a (.dK (dv kvs k v))):=.inl ⟨kvs,k,e,rfl,hl,rfl⟩
section
variable {y v:V}{r:j8}{o:Option V}
def Inv.big(I:Inv X pc σ H s):ZD < s.heap.objs.size:=by
 have h:=(I.mod.glob.keeps I.bk).lt;exact Jc (by decide) h
def T3{Q:j8->jc->Prop}(hu:A.units+1 < gg)(I:Inv X pc σ H s)(g:DGet H a y (aA v))(ry:RelV y u)(h:∀ w' s',Inv X pc σ H s'->RelV v w'->Q w' s') :
  jT (jR X.prog X.w) A (Jy (.ref a) u) Q E s:=by
 obtain ⟨kvs,k,e,ey,l⟩ |⟨kvs,k,b,e,ey,eb,l⟩:=g
 ·subst ey;obtain⟨z,hd,vs,rel,dd⟩:=nJ I.hok e;obtain⟨w',hw,rw'⟩:=RelO.some_of (v:=v) (o:=WT vs k) (by rw[l]; exact rel.val k)
  exact wpAny_getItem_of (oJ ry) dd.mapOf hw (h w' _ (I.tok _) rw')
 ·subst ey;cases ry;obtain⟨z,hd,xs,rel,dd⟩:=qJ I.hok e;obtain⟨w',hw,rw'⟩:=RelO.some_of (v:=v) (o:=(Ub xs k).map (·.2)) (by rw[l]; exact rel.val k)
  obtain⟨p,hp,hp2⟩:=Qm hw;refine wpAny_getItem_heap (ZV hu) (rK I.hok eb) dd hp ?_;rw[hp2];exact h w' _ (I.tok _) rw'
def HQ{Q:j8->jc->Prop}(hu:A.units+1 < gg)(I:Inv X pc σ H s)(g:DGet H a y o)(ry:RelV y u)(h:∀ s',Inv X pc σ H s'->Q (.bool o.isSome) s') :
  jT (jR X.prog X.w) A (Z9 .In u (.ref a)) Q E s:=by
 obtain ⟨kvs,k,e,ey,l⟩ |⟨kvs,k,b,e,ey,eb,l⟩:=g
 ·subst ey;obtain⟨z,hd,vs,rel,dd⟩:=nJ I.hok e;refine wpAny_in_of (oJ ry) hd dd.mapOf ?_;rw[<-(rel.val k).isSome_eq,<-l];exact h _ (I.tok _)
 ·subst ey;cases ry;obtain⟨z,hd,xs,rel,dd⟩:=qJ I.hok e;refine wpAny_in_heap (ZV hu) (rK I.hok eb) hd dd ?_;have q:=(rel.val k).isSome_eq;rw[gh] at q;rw[<-q,<-l];exact h _ (I.tok _)
def PJ{Q:j8->jc->Prop}(hu:A.units+1 < gg)(I:Inv X pc σ H s)(g:DGet H a y o)(ry:RelV y u)(h:∀ s',Inv X pc σ H s'->Q (.bool (!o.isSome)) s') :
  jT (jR X.prog X.w) A (Z9 .NotIn u (.ref a)) Q E s:=by
 obtain ⟨kvs,k,e,ey,l⟩ |⟨kvs,k,b,e,ey,eb,l⟩:=g
 ·subst ey;obtain⟨z,hd,vs,rel,dd⟩:=nJ I.hok e;refine wpAny_notIn_of (oJ ry) hd dd.mapOf ?_;rw[<-(rel.val k).isSome_eq,<-l];exact h _ (I.tok _)
 ·subst ey;cases ry;obtain⟨z,hd,xs,rel,dd⟩:=qJ I.hok e;refine wpAny_notIn_heap (ZV hu) (rK I.hok eb) hd dd ?_;have q:=(rel.val k).isSome_eq;rw[gh] at q;rw[<-q,<-l];exact h _ (I.tok _)
def t8{h':QN}{t':Nat}{ob:HO}(I:Inv X pc σ H s)(mu:uL (H a))(hs:Qo a s.heap h')(he:∃ q,h'.get? a=aA q)(new:ObjOk X.prog X.w (aS H a ob) h' a ob) :
  Inv X pc σ (aS H a ob) { s with heap:=h',toks:=t' }:=
 I.write (x:=a) (e:=a) mu (.inl rfl) (λb q hb z=>(hs.2 b hb).trans z) he new
def yT{P:jI}{w:Qf}{H':Hp}{h':QN}{kvs:List (aL × V)}{vs:List (aL × j8)}(z:kvs.length<=ju)(hd:(a == ZD)=aD)(rel:KV kvs vs)(dd:h'.DictOf (f7 P w) a vs) :
  ObjOk P w H' h' a (.dK kvs):=⟨z,hd,vs,rel,dd⟩
def T4{H':Hp}{Q:Unit->jc->Prop}(hu:A.units+1 < gg)(I:Inv X pc σ H s)(g:DPut H a y v H')(ry:RelV y u)(rv:RelV v r)(h:∀ s',Inv X pc σ H' s'->Q () s') :
  jT (jR X.prog X.w) A (setItem (.ref a) u r) Q E s:=by
 obtain ⟨kvs,k,e,ey,l,eH⟩ |⟨kvs,k,b,e,ey,eb,l,eH⟩:=g
 ·subst ey eH;obtain⟨z,hd,vs,rel,dd⟩:=uh I.hok e;have hz:vs.length<=ju:=by rw[<-rel.length]; exact z
  have hl:(dv kvs k v).length<=ju:=by have:=tq kvs k v; lia
  refine wpAny_setItem_pairs (hsz:=hz) (oJ ry) dd λh' dd' hs=>h _ ?_;have he:∃ q,h'.get? a=aA q:=let ⟨q,_,_,hq,_⟩:=dd'; ⟨q,hq⟩
  exact t8 I (by rw[e]; exact Y5) hs he (yT hl hd (rel.put k rv) dd')
 ·subst ey eH;cases ry;obtain⟨z,hd,xs,rel,dd⟩:=KD I.hok e;have hz:xs.length<=ju:=by rw[<-Nb rel]; exact z
  have hl:(dv kvs k v).length<=ju:=by have:=tq kvs k v; lia
  refine wpAny_setItem_heap (hsz:=hz) (ZV hu) (rK I.hok eb) dd λh' dd' hs=>h _ ?_;obtain⟨q,es,ep,hq,h2,h3,h4,_,h5⟩:=dd';refine t8 I (by rw[e]; exact Y5) hs ⟨q,hq⟩ ⟨hl,hd,_,(rel.put k eb rv).keeps λc ys ec=>?_,q,es,ep,hq,h2,h3,h4,h5⟩
  rw[au (Iu ec e (λz=>nomatch z))]
  exact ec
end
section
variable {kvs:List (aL × V)}{k:aL}
def KC{Q:j8->jc->Prop}(I:Inv X pc σ H s)(e:Rd H a (.dK kvs))(h:∀ t s',Inv X pc σ H s'->Q (.int kvs.length t) s'):jT (jR X.prog X.w) A (call (.builtin "len") [.ref a]) Q E s:=by
 obtain⟨z,hd,vs,rel,dd⟩:=nJ I.hok e;refine call_len_dict hd dd (by rw[<-rel.length]; rw[Zi] at z; lia) ?_
 rw[<-rel.length];exact h _ _ (I.tok _)
end
def uQ(i:Q5):Prop:=∀ ov iv,Wo i aD ov iv=operate [ov,iv] (Jy ov iv)
def RI{prog:jI}{w:Qf}{A:Qg}{E:j8->jc->Prop}{s:jc}{env:Env}{value slice:Q5}{pos:Pos}{T id:String}{Q:j8->jc->Prop}
  (hl:typeLookup (.type T) "__getitem__"=pure (aA (.builtin id))) (hs:uQ slice)
  (h:jT (jR prog w) A (eval value env) (λo s₁=>jT (jR prog w) A (eval slice env) (λi s₂=>s₂.TypeIs o T/\jT (jR prog w) A (Jy o i) Q E s₂) E s₁) E s) :
  jT (jR prog w) A (eval (.Subscript value slice pos) env) Q E s:=by
 refine WR (jY h (λo s₁ h₁=>jY h₁ (λi s₂ h₂=>?_) λ_ _ x=>x) λ_ _ x=>x);obtain⟨hT,h₂⟩:=h₂;unfold subscriptTail;refine j5 ?_;rw[getitemInPython_of_ne hT.not_modules];refine j5 (wpAny_specialOf hT hl ?_);have fin:jT (jR prog w) A (Wo slice aD o i) (λr s₃=>jT (jR prog w) A (letTemporaryGo value o r >>= λ_=>pure r) Q E s₃) E s₂:=by
  rw[hs o i];exact wpAny_operating (jY h₂ (λr s₃ h₃=>j5 (wpAny_letTemporaryGo (jm h₃))) λ_ _ x=>x)
 first
  |exact jm (j5 fin)
  |exact j5 (jm (j5 fin))
  |exact j5 fin
def V3{X:Cx}{pc:List (jv × Obj)}{σ:St}{H:Hp}{s:jc}{a:jv}{y:V}{o:Option V}(I:Inv X pc σ H s)(g:DGet H a y o):s.TypeIs (.ref a) "dict":=by
 obtain ⟨kvs,k,e,_,_⟩ |⟨kvs,k,b,e,_,_,_⟩:=g
 ·obtain⟨_,_,vs,_,dd⟩:=nJ I.hok e;exact dd.typeIs
 ·obtain⟨_,_,xs,_,dd⟩:=qJ I.hok e;exact dd.typeIs
def LF(td ty:TE):TE:=fun σ H Q=>td σ H λx H1=>ty σ H1 λy H2=>∃ a v,x=.ref a/\DGet H2 a y (aA v)/\Q v H2
def Hi(ty td:TE):TE:=fun σ H Q=>ty σ H λy H1=>td σ H1 λx H2=>∃ a o,x=.ref a/\DGet H2 a y o/\Q (.bl o.isSome) H2
def RJ(ty td:TE):TE:=fun σ H Q=>ty σ H λy H1=>td σ H1 λx H2=>∃ a o,x=.ref a/\DGet H2 a y o/\Q (.bl (!o.isSome)) H2
def yH(td ty tv:TE):TS:=λD σ H=>tv σ H λv H1=>td σ H1 λx H2=>ty σ H2 λy H3=>∃ a H4,x=.ref a/\DPut H3 a y v H4/\D.nx σ H4
section
variable {i value:Q5}{pos' tpos:Pos}{td ty tv:TE}
def EK(hu:X.A.units+1 < gg)(ho:PE X o td)(hi:PE X i ty)(hs:uQ i):PE X (.Subscript o i pos) (LF td ty):=by
 intro pc s σ H Q I h;refine RI PySem.F.slot_dict_getitem.lookup hs (aW (ho pc s σ H _ I h) λu s1 h_=>?_); obtain⟨x,H1,I1,rx,q1⟩:=h_; refine aW (hi pc s1 σ H1 _ I1 q1) λiv s2 h_=>?_; obtain⟨y,H2,I2,ry,a,v,ex,g,q2⟩:=h_;subst ex;obtain rfl:u=QF a:=rx;exact⟨V3 I2 g,T3 hu I2 g ry λw' s3 I3 rw'=>⟨v,H2,I3,rw',q2⟩⟩
def Mr(hu:X.A.units+1 < gg)(hi:PE X i ty)(ho:PE X o td):PC X .In i o (Hi ty td):=by
 intro pc s σ H Q I h;refine aW (hi pc s σ H _ I h) λiv s1 h_=>?_; obtain⟨y,H1,I1,ry,q1⟩:=h_; refine aW (ho pc s1 σ H1 _ I1 q1) λu s2 h_=>?_; obtain⟨x,H2,I2,rx,a,ov,ex,g,q2⟩:=h_;subst ex;obtain rfl:u=QF a:=rx;exact HQ hu I2 g ry λs3 I3=>⟨.bl ov.isSome,H2,I3,rfl,q2⟩
def FY(hu:X.A.units+1 < gg)(hi:PE X i ty)(ho:PE X o td):PC X .NotIn i o (RJ ty td):=by
 intro pc s σ H Q I h;refine aW (hi pc s σ H _ I h) λiv s1 h_=>?_; obtain⟨y,H1,I1,ry,q1⟩:=h_; refine aW (ho pc s1 σ H1 _ I1 q1) λu s2 h_=>?_; obtain⟨x,H2,I2,rx,a,ov,ex,g,q2⟩:=h_;subst ex;obtain rfl:u=QF a:=rx;exact PJ hu I2 g ry λs3 I3=>⟨.bl (!ov.isSome),H2,I3,rfl,q2⟩
def PZ(hu:X.A.units+1 < gg)(ho:PE X o td)(hi:PE X i ty)(hv:PE X value tv)(hs:ZZ value (aA (.Subscript o i pos')) pos.line X.env=pure aD) :
  PS X (.Assign [.Subscript o i pos'] value pos) (yH td ty tv):=by
 intro pc s σ H D I h;refine wpAny_Assign_Subscript (aW (hv pc s σ H _ I h) λr s1 ⟨v,H1,I1,rv,q1⟩=>aW (ho pc s1 σ H1 _ I1 q1) λu s2 ⟨x,H2,I2,rx,q2⟩=>aW (hi pc s2 σ H2 _ I2 q2) λiv s3 ⟨y,H3,I3,ry,a,H4,ex,g,q3⟩=>?_) hs;subst ex;obtain rfl:u=QF a:=rx;exact T4 hu I3 g ry rv λs4 I4=>⟨σ,H4,I4,q3⟩
end
def zT{P:jI}{w:Qf}{H:Hp}(h:QN)(hb:ZD < h.objs.size):ObjOk P w H (h.push { cls:=.type "dict",data:=.dict #[] }) h.objs.size (.dK []):=
 ⟨QQ _,beq_eq_false_iff_ne.mpr (ZE (jH hb)),[],.nil,Heap.DictOf.new h⟩
def OR:TE:=λ_ H Q=>∀ p,H p=aB->Q (.ref p) (aS H p (.dK []))
section
def SB:PE X (.Dict [] [] pos) OR:=λpc s σ H Q I h=>
 wpAny_Dict_empty ⟨.ref s.heap.objs.size,_,I.laid (a:=s.heap.objs.size) (o:=.dK []) (t':=s.toks) (λ_ _ q=>ja _ q) (jj _) (zT s.heap I.big),rfl,h _ (I.hok.fresh (jj _))⟩
end
def yZ:List (TE × TE)->St->Hp->(List (V × V)->Hp->Prop)->Prop
 |[],_,H,Q=>Q [] H
 |(tk,tv)::r,σ,H,Q=>tk σ H λx H1=>tv σ H1 λy H2=>yZ r σ H2 λps H3=>Q ((x,y)::ps) H3
abbrev VV:List (V × V)->List (j8 × j8)->Prop:=JO λp q=>RelV p.1 q.1/\RelV p.2 q.2
def xQ(X:Cx)(pos:Pos)(keys:List (Option Q5))(values:List Q5)(trs:List (TE × TE)):Prop:=
 ∀(pc:List (jv × Obj)) (s:jc) (σ:St) (H:Hp) (Q:List (V × V)->Hp->Prop),Inv X pc σ H s->yZ trs σ H Q->
  jT (jR X.prog X.w) X.A (evalPairs (pairTrees keys values X.env pos)) (λvs s'=>∃ ps H',Inv X pc σ H' s'/\VV ps vs/\Q ps H') X.xe s
def PY{X:Cx}{pos:Pos}:xQ X pos [] [] []:=λpc s σ H Q I h=>pairTrees_nil_walk ⟨[],H,I,.nil,h⟩
def SE{X:Cx}{pos:Pos}{k v:Q5}{ks:List (Option Q5)}{vs:List Q5}{tk tv:TE}{trs:List (TE × TE)}(hk:PE X k tk)(hv:PE X v tv)(hr:xQ X pos ks vs trs) :
  xQ X pos (aA k::ks) (v::vs) ((tk,tv)::trs):=λpc s σ H Q I h=>
 pairTrees_cons_walk (aW (hk pc s σ H _ I h) λu s1 ⟨x,H1,I1,rx,q1⟩=>aW (hv pc s1 σ H1 _ I1 q1) λw2 s2 ⟨y,H2,I2,ry,q2⟩=>
  aW (hr pc s2 σ H2 _ I2 q2) λws s3 ⟨ps,H3,I3,rel,q3⟩=>⟨(x,y)::ps,H3,I3,.cons ⟨rx,ry⟩ rel,q3⟩)
def t6(kvs more:List (aL × V)):List (aL × V):=more.foldl (λacc kv=>dv acc kv.1 kv.2) kvs
def KV.merge:∀ {more:List (aL × V)} {rs:List (aL × j8)} {kvs:List (aL × V)} {vs:List (aL × j8)},KV more rs->KV kvs vs->KV (t6 kvs more) (merged vs rs):=by
 intro more rs kvs vs r;unfold KV at r
 induction r generalizing kvs vs with
 |nil=>intro q; exact q
 |@cons p q ps qs h t ih=>
  intro r0;have e:KV (dv kvs p.1 p.2) (stored vs q.1 q.2):=by
   have:=r0.put p.1 h.2;rw[<-h.1]; exact this
  exact ih e
def GS:∀(more kvs:List (aL × V)),(t6 kvs more).length<=kvs.length+more.length
 |[],kvs=>by show kvs.length<=kvs.length+0; lia
 |p::r,kvs=>by
  have h1:=GS r (dv kvs p.1 p.2);have h2:=tq kvs p.1 p.2;show (t6 (dv kvs p.1 p.2) r).length<=_;rw[jo]; lia
def Fk{P:jI}{w:Qf}:∀ {kvs:List (aL × V)} {ws:List (j8 × j8)},VV (kvs.map λkv=>(kV kv.1,kv.2)) ws->∃ rs,Carries (f7 P w) ws rs/\KV kvs rs
 |[],_,r=>by rw[Zb] at r; cases r; exact⟨[],Y5,.nil⟩
 |p::kvs,_,r=>by
  rw[jp] at r;cases r with
  |@cons a b as bs h t=>
   obtain⟨rs,c,q⟩:=Fk (P:=P) (w:=w) t;obtain⟨b1,b2⟩:=b;exact⟨(p.1,b2)::rs,⟨oJ h.1,rfl,c⟩,.cons ⟨rfl,h.2⟩ q⟩
def LG(trs:List (TE × TE)):TE:=fun σ H Q=>∀ p,H p=aB->yZ trs σ (aS H p (.dK [])) λps H2=>H2 p=aA (.dK [])/\∃ kvs:List (aL × V),ps=kvs.map (λkv=>(kV kv.1,kv.2))/\kvs.length<=15/\Q (.ref p) (aS H2 p (.dK (t6 [] kvs)))
def Ox{X:Cx}{pos:Pos}{keys:List (Option Q5)}{values:List Q5}{trs:List (TE × TE)}(h:xQ X pos keys values trs)(hall:keys.all (·.isSome)=aC)(hl:keys.length=values.length)(h0:keys≠[])
  (h15:keys.length<=15):PE X (.Dict keys values pos) (LG trs):=by
 intro pc s σ H Q I q;have hn:=I.hok.fresh (jj s.heap.objs.size);have I1:=I.laid (a:=s.heap.objs.size) (o:=.dK []) (h':=s.heap.push { cls:=.type "dict",data:=.dict #[] }) (t':=s.toks) (λ_ _ q=>ja _ q) (jj _) (zT s.heap I.big);refine wpAny_Dict_walk (knd:=f7 X.prog X.w) hall hl h0 h15 (aW (h pc _ σ _ _ I1 (q _ hn)) λws s2 ⟨ps,H2,I2,rel,e,kvs,ep,lk,q2⟩=>?_);subst ep;obtain⟨rs,c,rk⟩:=Fk (P:=X.prog) (w:=X.w) rel;obtain⟨z,hd,vs0,r0,dd⟩:=uh I2.hok e;cases r0;refine⟨rs,c,dd,λh' dd' hs=>⟨.ref s.heap.objs.size,_,?_,rfl,q2⟩⟩;have hz:(t6 [] kvs).length<=ju:=by
  have h1:=GS kvs [];rw[Zp] at h1;rw[Zi]; lia
 have he:∃ q,h'.get? s.heap.objs.size=aA q:=let ⟨q,_,_,hq,_⟩:=dd'; ⟨q,hq⟩
 exact t8 I2 (by rw[e]; exact Y5) hs he (yT hz hd (rk.merge .nil) dd')
structure M2 (X:Cx) (o:Q5) (m:Str) (apos:Pos) (e f:Q5) (cpos:Pos):Prop where
 base:Yq o m X.env (eval o X.env)=eval o X.env
 few:((QM cpos (jg [e,f] X.env)).all (λx=>!x.1)&&(backToKw cpos (JA [] X.env)).all (λx=>x.1.isSome)
  && aE (([e,f]:List Q5).length+([]:List JB).length+(if ([]:List JB).isEmpty then 0 else 1) < 30))=aC
 line:(apos.endLine == cpos.line)=aC
 trees:QM cpos (jg [e,f] X.env)=[(aD,eval e X.env),(aD,eval f X.env)]
def HF(H:Hp)(a:jv):Prop:=(∃ kvs,Rd H a (.dK kvs))∨∃ kvs,Rd H a (.dT kvs)
def MA{X:Cx}{pc:List (jv × Obj)}{σ:St}{H:Hp}{s:jc}{a:jv}(I:Inv X pc σ H s)(d:HF H a) :
  s.TypeIs (.ref a) "dict"/\(∀ b,QF a=.ref b->∃ ob,s.heap.get? b=aA ob/\ob.dict=aB)/\(a == ZD)=aD:=by
 obtain ⟨kvs,e⟩ |⟨kvs,e⟩:=d
 ·obtain⟨_,hd,vs,_,dd⟩:=nJ I.hok e;refine⟨dd.typeIs,λb q=>?_,hd⟩;cases q;obtain⟨ob,_,_,h1,h2,_⟩:=dd;exact⟨ob,h1,h2.2.1⟩
 ·obtain⟨_,hd,xs,_,dd⟩:=qJ I.hok e;refine⟨dd.typeIs,λb q=>?_,hd⟩;cases q;obtain⟨ob,_,_,h1,h2,_⟩:=dd;exact⟨ob,h1,h2.2.1⟩
section
variable {y d:V}{r:j8}{o:Option V}
def Lm{Q:j8->jc->Prop}(hu:A.units+1 < gg)(I:Inv X pc σ H s)(g:DGet H a y o)(ry:RelV y u)(rd:RelV d r)(h:∀ w' s',Inv X pc σ H s'->RelV (o.getD d) w'->Q w' s') :
  jT (jR X.prog X.w) A (call (.builtin "dict.get") [.ref a,u,r]) Q E s:=by
 obtain ⟨kvs,k,e,ey,l⟩ |⟨kvs,k,b,e,ey,eb,l⟩:=g
 ·subst ey;obtain⟨z,hd,vs,rel,dd⟩:=nJ I.hok e;refine call_meetsIn Y9 dd.typeIs NA (Ni _ _ _) (meets_dict_get_default (f7 X.prog X.w) a (oJ ry) hd r) ⟨_,dd.mapOf,h _ _ (I.tok _) ?_⟩;rw[l];exact(rel.val k).getD rd
 ·subst ey;cases ry;obtain⟨z,hd,xs,rel,dd⟩:=qJ I.hok e;refine call_meetsIn Y9 dd.typeIs NA (Ni _ _ _) (meetsH_dict_get_default (NC (f7 X.prog X.w)) a b hd r) ⟨ZV hu,k,xs,rK I.hok eb,dd,h _ _ (I.tok _) ?_⟩;rw[l];exact(rel.val k).getD rd
end
def OQ(td ty tx:TE):TE:=fun σ H Q=>td σ H λx H1=>∃ a,x=.ref a/\HF H1 a/\ty σ H1 λy H2=>tx σ H2 λz H3=>∃ o,DGet H3 a y o/\Q (o.getD z) H3
section
variable {f:Q5}{apos cpos:Pos}{td ty tx:TE}
def SA(hu:X.A.units+1 < gg)(ho:PE X o td)(he:PE X e ty)(hf:PE X f tx)(m:M2 X o "get" apos e f cpos):PE X (.Call (.Attribute o "get" apos) [e,f] [] cpos) (OQ td ty tx):=by
 intro pc s σ H Q I h;refine wpAny_Call_method m.base m.few m.line PySem.F.plainAttrs_dict Y9 PySem.F.type_dict_get (aW (ho pc s σ H _ I h) λu s1 h_=>?_); obtain⟨x,H1,I1,rx,a,ex,d,q1⟩:=h_;subst ex;obtain rfl:u=QF a:=rx;obtain⟨t1,t2,_⟩:=MA I1 d;refine⟨t1,t2,?_⟩;rw[m.trees]
 refine gU rfl (Yh (gL (aW (he pc s1 σ H1 _ I1 q1) λiv s2 ⟨y,H2,I2,ry,q2⟩=>
  gL (aW (hf pc s2 σ H2 _ I2 q2) λfv s3 ⟨z,H3,I3,rz,ov,g,q3⟩=>YV ?_))))
 exact Lm hu I3 g ry rz λw' s4 I4 rw'=>⟨_,H3,I4,rw',q3⟩
end
end L2
namespace Att
open PySem PySem.W PySem.Calls PyProof.Rows
def Vx{P:Params}{h:QN}:∀(ns:am) (vs:List j8),WellAll P h vs (ns.map WData.int)->WU vs ns:=by
 intro ns
 induction ns with
 |nil=>
  intro vs w;rw[Zb] at w;cases w;exact .nil
 |cons n ns ih=>
  intro vs w;rw[jp] at w;cases w with
  |cons a b=>
   cases a;exact .cons _ _ (ih _ b)
def Tm{l:OpenLaw}{n:Nat}(hn:l.most=aA n){P:Params}{h:QN}{args:List WData}{vals:List j8}
  (hpre:l.row.toRowW.claim.pre args=aC) (hwl:WellAll P h vals args) :
  ∃ a vs ns,vals=[QF a]/\args=[WData.list (ns.map WData.int)]/\h.get? a=aA { cls:=.type "list",data:=.seq vs.toArray }/\WU vs ns/\ns.length<=n:=by
 have hsh:=(pre_splitW hpre).1;have hc:l.pre.holds [] { args:=args }=aC:=(pre_splitW hpre).2;obtain⟨d,r,rfl,h1,h2⟩:=hasAllW_cons hsh;cases hasAllW_nil h2;obtain⟨xs,rfl,h3⟩:=hasW_list h1;obtain⟨ns,rfl⟩:=items_int h3;have hlen:ns.length<=n:=by
  unfold OpenLaw.pre at hc;have h4:(WTm.not (.lt (.lit (.int (n:Int))) (.len (.arg 0)))).holds [] { args:=[.list (ns.map .int)] }=aC:=by
   have h4:=(holds_andW hc).1
   rwa [hn] at h4
  have h5:=condW_of h4 (w_not (w_lt w_lit (w_len_list (w_arg rfl))));rw[j4] at h5;refine Jk λq=>?_;have q':(n:Int) < ((ns.length:Nat):Int):=by lia
  first
   |(rw[bB q'] at h5; exact absurd h5 (by decide))
   |(simp at h5; lia)
 cases hwl with
 |cons w1 w2=>
  cases w2;cases w1 with
  |list ho hall=>exact⟨_,_,ns,rfl,rfl,ho,Vx ns _ hall,hlen⟩
def TD(l:OpenLaw)(args:List WData):l.row.toRowW.claim.post args (.bool aC) args=aC:=
 postW_of (r:=l.row.toRowW) (X:=(aC == aC))
  (show Uq [] (.bool aC) .bool=aC by first |rfl |decide |simp[Uq,WShape.arms,WShape.armsAll])
  (w_eq_bool (w_res rfl) w_lit) rfl
def attach_call{l:OpenLaw}{n:Nat}{q:jI}{loose:aj}{XP:(Str->Option j8)->QN->Prop}{YP:Qf->QN->Prop}{d:DefRec}
  (hn:l.most=aA n) (hdf:d.params.defaults=[])
  (call:∀(w:Qf) (s₀ s₁:jc) (mg mb:Str->Option j8) (fa:jv) (o:Obj) (pm cd doc:j8) (a:jv) (vs:List j8) (ns:am),
   Ground q loose [] XP w s₀ mg mb s₁.heap->YP w s₁.heap->
   s₁.heap.get? fa=aA o->o.data=.func (docDef d.name d.params d.body d.scope pm cd doc)->s₁.heap.CodeRec cd d.name->mg d.name=aA (.ref fa)->
   s₁.heap.get? a=aA { cls:=.type "list",data:=.seq vs.toArray }->WU vs ns->ns.length<=n->s₁.gens=#[]->
   Yu (jR l.prog w) WV (.call (.ref fa) ⟨[.ref a],[]⟩) (λr s'=>r=.ok (.ret (.bool aC))/\OldK s₁.heap s'.heap/\s'.os=s₁.os/\Nc s'.gens) s₁) :
  WalkO q loose XP YP l.row.toRowW d [] (λf vs=>JT f vs):=by
 intro w s₀ s₁ mg mb G Y fa o pm cd doc dV kV ho hd hcd hD hmg hg args vals as hpre hlay hrd hwl hlo;obtain rfl:dV=.none:=Dflts.none hD hdf;obtain rfl:kV=.none:=Dflts.noKw hD;obtain⟨a,vs,ns,rfl,rfl,hobj,hints,hlen⟩:=Tm hn hpre hwl;refine enter_call (gG (call w s₀ s₁ mg mb fa o pm cd doc a vs ns G Y ho (fd_plain hd) hcd hmg hobj hints hlen hg) λr s' hq=>?_);obtain⟨rfl,h2,h3,h4⟩:=hq;exact⟨.inl ⟨.bool aC,.bool aC,[],rfl,λ_=>rfl,.bool aC,TD l _,λ_=>⟨WW,λ_ hm=>(nomatch hm)⟩⟩,h2,h3,h4⟩
end Att
namespace L2
open PySem PySem.Spec PyProof.Rows
variable {w:Qf}{X:Cx}{N:aj}{scope:Y1}{caps:af}{s:jc}{prog:jI}{A:Qg}{pos:Pos}
def FX:∀ {vs:List j8} {ns:am},WU vs ns->Vals (ns.map V.int) vs
 |_,_,.nil=>.nil
 |_,_,.cons n t h=>.cons ⟨t,rfl⟩ (FX h)
def uR(H:Hp):Prop:=∀ b,H b=aB∨∃ o xs,H b=aA (.frz o (.lst xs))
def Rg{P:jI}{w:Qf}{K:jd}{mg mb:Str->Option j8}{CX:iI}{k:Nat}{fa a:jv}{fd:Zl}{x:Str}{sp:Sp}{s₁:jc}{vs:List j8}{ns:am}
  (KX:K.In s₁.heap) (hns:s₁.heap.Ns jX mg) (hb:s₁.heap.Ns JP mb) (hbb:∀ x:Str,x≠"__name__"->mb x=Z7 x) (hlim:s₁.heap.NoLimit) (hg:s₁.gens=#[])
  (ha:s₁.heap.get? a=aA { cls:=.type "list",data:=.seq vs.toArray }) (hi:WU vs ns) (hl:ns.length<=ju) (hr:Room k WV)
  (F:∀ base:QN,K.In base->base.Ns jX mg->FnOk P w K mg base CX k fa fd [x] sp) (hbind:∀(s:jc) (u:j8),Wn s fd ⟨[u],[]⟩ [(x,u)])
  (hsp:∀ H:Hp,uR H->aq K H a (ns.map V.int)->sp [.ref a] H (λv _=>v=.bl aC) λ_ _ _=>False)
  (hCX:∀ H e s',CX [] H s₁ (λ_ _ _=>False) e s'->False) :
  Yu (jR P w) WV (.call (.ref fa) ⟨[.ref a],[]⟩) (λr s'=>r=.ok (.ret (.bool aC))/\OldK s₁.heap s'.heap/\s'.os=s₁.os/\Nc s'.gens) s₁:=by
 have rv:=FX hi;have lenV:=hi.length
 -- from an abstract heap in which nothing but the script may be tracked
 have core:∀ H:Hp,uR H->aq K H a (ns.map V.int)->cc P w H s₁.heap->(∀ b,H b≠aB->b=a)->(H a≠aB->K.lookup a=aB)->
   Yu (jR P w) WV (.call (.ref fa) ⟨[.ref a],[]⟩) (λr s'=>r=.ok (.ret (.bool aC))/\OldK s₁.heap s'.heap/\s'.os=s₁.os/\Nc s'.gens) s₁:=by
  intro H hO hS hok hA hK;have base_of:∀ {b:jv} {o:Obj},s₁.heap.get? b=aA o->H b=aB->(nF s₁.heap H).get? b=aA o:=λe n=>Re e n;have noA:∀ {b:jv} {o:Obj} {es:Array DictEntry} {ep:Nat},s₁.heap.get? b=aA o->o.data=.dict es ep->H b=aB:=λ{b o es ep} e d=>by
   cases q:H b with
   |none=>rfl
   |some u=>
    have e':=hA b (by rw[q]; simp)
    subst e';rw[ha] at e; cases e;have d':=d;cases d'
  have nsK:∀ {b:jv} {m:Str->Option j8},s₁.heap.Ns b m->(nF s₁.heap H).Ns b m:=λ{b m} ⟨o,es,ep,e,d,r⟩=>⟨o,es,ep,base_of e (noA e d),d,r⟩
  have hKb:K.In (nF s₁.heap H):=λb o e=>base_of (KX b o e) (by
   cases q:H b with
   |none=>rfl
   |some u=>
    have e':=hA b (by rw[q]; simp)
    subst e'
    rw[hK (by rw[q]; simp)] at e; cases e)
  have hM:Mod K mg (nF s₁.heap H):=⟨hKb,nsK hns,⟨mb,nsK hb,hbb⟩,let ⟨mc,h1,h2⟩:=hlim; ⟨mc,nsK h1,h2⟩⟩
  have e0:Env0 P w K mg (nF s₁.heap H) WV [] s₁ H:=⟨rfl,hM,λb o e=>Oq e,Nat.le_of_eq (Se _ _),trivial,λb hb=>absurd (show b∈([]:List jv) from hb) (by simp),hok,.of_eq hg⟩
  refine gG ((F _ hKb (nsK hns)).run WV [] s₁ H ⟨[.ref a],[]⟩ [.ref a] [.ref a] _ _ hr e0 (hbind s₁ (.ref a)) (.cons rfl .nil) (hsp H hO hS)) λr s' h=>?_;cases r with
  |error e=>exact(hCX H e s' h).elim
  |ok fl=>
   cases fl with
   |next=>exact Zs h
   |brk=>exact Zs h
   |cont=>exact Zs h
   |ret u=>
    obtain⟨v,H',os,bare,un,hok',r',q⟩:=h;have q':=q;subst q';obtain rfl:u=Value.bool aC:=r';refine⟨rfl,OldK.of_keep λb o e=>?_,os,bare⟩;cases q:H b with
    |none=>exact un.keep b o e q (by intro z; exact absurd (show b∈([]:List jv) from z) (by simp)) (by simp)
    |some u=>
     obtain z |⟨ob,xs,z⟩:=hO b
     ·rw[q] at z; cases z
     ·have z2:=un.frzs b ob _ z;obtain⟨e1,_⟩:=hok b _ z;obtain⟨e2,_⟩:=hok' b _ z2;rw[e] at e1; cases e1;exact e2
 cases hk:K.lookup a with
 |some o=>
  -- the script is one of the module's own objects
  have e:=KX a o hk;rw[ha] at e;cases e;refine core (λ_=>aB) (λ_=>.inl rfl) (.inr ⟨_,vs.toArray,_,hk,rfl,rfl,rfl,by rw[jt,lenV]; exact hl,by simpa using rv⟩) (λb u z=>by have z':(aB:Option HO)=aA u:=z; cases z') (λb z=>absurd rfl z) λz=>absurd rfl z
 |none=>
  refine core (λb=>if b=a then aA (.frz { cls:=.type "list",data:=.seq vs.toArray } (.lst (ns.map V.int))) else aB) (λb=>?_) (.inl (.inr ⟨{ cls:=.type "list",data:=.seq vs.toArray },aI rfl⟩)) (λb u z=>?_) (λb z=>?_) λ_=>hk
  ·by_cases hb:b=a
   ·exact .inr ⟨_,_,aI hb⟩
   ·exact .inl (aH hb)
  ·by_cases hb:b=a
   ·have z':=(aI hb).symm.trans z;cases z';subst hb;exact⟨ha,by rw[j4]; exact hl,vs,_,rv,ha⟩
   ·have z':=(aH hb).symm.trans z;cases z'
  ·by_cases hb:b=a
   ·exact hb
   ·exact absurd (aH hb) z
def Pu{l:Yx}{n k:Nat}{q:jI}{loose:aj}{XP:(Str->Option j8)->QN->Prop}{YP:Qf->QN->Prop}{d:DefRec}{K:Params->jd}{CX:Qf->iI}{sp:Qf->Sp}{x:Str}
  (hn:l.most=aA n) (hn2:n<=ju) (hdf:d.params.defaults=[]) (hr:Room k WV)
  (hY:∀(w:Qf) (h:QN),YP w h->(K w.params).In h)
  (F:∀(w:Qf) (mg:Str->Option j8) (fa:jv) (h:QN),(K w.params).In h->h.Ns jX mg->mg d.name=aA (.ref fa)->
   ∃ fd:Zl,(∀(s:jc) (u:j8),Wn s fd ⟨[u],[]⟩ [(x,u)]) /\
    ∀ base:QN,(K w.params).In base->base.Ns jX mg->FnOk l.prog w (K w.params) mg base (CX w) k fa fd [x] (sp w))
  (hsp:∀(w:Qf) (H:Hp) (a:jv) (ns:am),ns.length<=n->uR H->aq (K w.params) H a (ns.map V.int)->sp w [.ref a] H (λv _=>v=.bl aC) λ_ _ _=>False)
  (hCX:∀(w:Qf) (H:Hp) (s:jc) (e:j8) (s':jc),CX w [] H s (λ_ _ _=>False) e s'->False) :
  JX q loose XP YP l.row.toRowW d [] (λf vs=>JT f vs):=by
 refine Att.attach_call hn hdf λw s₀ s₁ mg mb fa o pm cd doc a vs ns G Y ho hd hcd hmg hobj hints hlen hg=>?_;have KX:=hY w _ Y;obtain⟨fd,hb,hF⟩:=F w mg fa _ KX G.T.g hmg;exact Rg KX G.T.g G.T.b G.T.builtins G.T.nolimit hg hobj hints (Qc hlen hn2) hr hF hb (λH hO hS=>hsp w H a ns hlen hO hS) λH e s'=>hCX w H s₁ e s'
def iQ(s:QX):Wz:=match s with
 |.FunctionDef _ a _ _ _ _ _ _ _ _=>a
 |_=>{ posonlyargs:=[],args:=[],vararg:=aB,kwonlyargs:=[],kw_defaults:=[],kwarg:=aB,defaults:=[] }
def eB(s:QX):List QX:=match s with
 |.FunctionDef _ _ b _ _ _ _ _ _ _=>b
 |_=>[]
def aY(s:QX):Y1:=match s with
 |.FunctionDef _ _ _ _ _ _ sc _ _ _=>sc
 |_=>{ kind:=.function,names:=[],isGenerator:=aD,isCoroutine:=aD }
abbrev fC:iI:=λ_ _ _ _ _ _=>False
abbrev E0:XK:=λ_ _ _=>False
def sj{X:Cx}:oN fC X E0:=λ_ _ _ _ _ _ _ h=>h.elim
structure Fun (K:jd) (x qual:Str) (st:QX) (f:jv) (fd:Zl):Prop where
 ex:∃(oc:j8) (od:Option jv) (kV doc pm:j8) (an:Option jv) (cdv ct:j8) (osl:Array (Option j8)),
  fd=Q1 x qual (iQ st) (eB st) (aY st) .none kV doc pm an cdv ct/\K.lookup f=aA ⟨oc,od,.func fd,osl⟩/\Z6 K cdv qual=aC
 kp:Qd K (.ref f)=aC
section
variable {P:jI}{K:jd}{mg:Str->Option j8}{base:QN}
def Fun.ok{x qual:Str}{st:QX}{f:jv}{fd:Zl}{N ps:aj}{k:Nat}{sp:Sp}(F:Fun K x qual st f fd)(S:FnScope N ps (aY st))(len:∀ vs H Q E,sp vs H Q E->vs.length=ps.length)
  (hbody:∀(cdv:j8) (A:Qg) (outer:List Env) (s:jc) (H:Hp) (vs:List V) (Q:VK) (E:XK),Room k (A.deeper (ZK qual (aY st) s.heap.objs.size f cdv))->sp vs H Q E->
   ∃ t,cV (eY fC P w K mg base N qual (aY st) f cdv A outer s H E).nox (eB st) t/\t { nx:=λ_ H'=>Q .non H',rt:=Q } (start N vs) H):FnOk P w K mg base fC (k+1) f fd ps sp:=by
 obtain⟨oc,od,kV,doc,pm,an,cdv,ct,osl,rfl,lk,hcd⟩:=F.ex;refine KK lk hcd S len λA outer s H vs Q E hr hsp=>?_;obtain⟨t,h,q⟩:=hbody cdv A outer s H vs Q E hr hsp;exact⟨t,h.nox,q⟩
def Fun.binds{x qual:Str}{st:QX}{f:jv}{fd:Zl}{ps:aj}(F:Fun K x qual st f fd)
  (h:∀(kV doc pm:j8) (an:Option jv) (cdv ct:j8) (us:List j8),us.length=ps.length->Yo (Q1 x qual (iQ st) (eB st) (aY st) .none kV doc pm an cdv ct) ⟨us,[]⟩=pure (ps.zip us)):Binds K fd ps []:=by
 obtain⟨oc,od,kV,doc,pm,an,cdv,ct,osl,rfl,lk,hcd⟩:=F.ex;exact .all (h kV doc pm an cdv ct)
def DN{x qual:Str}{st:QX}{f:jv}{oc:j8}{od an:Option jv}{osl:Array (Option j8)}{kV doc pm cdv ct:j8}(l:K.lookup f=aA ⟨oc,od,.func (Q1 x qual (iQ st) (eB st) (aY st) .none kV doc pm an cdv ct),osl⟩)
  (c:Z6 K cdv qual=aC) (k:Qd K (.ref f)=aC):Fun K x qual st f (Q1 x qual (iQ st) (eB st) (aY st) .none kV doc pm an cdv ct):=⟨⟨oc,od,kV,doc,pm,an,cdv,ct,osl,rfl,l,c⟩,k⟩
end
def d9{A:Qg}{k:Nat}(hr:Room k A):A.units+1 < gg:=gO (Nat.add_le_add_left (by decide:1<=64) _) hr.units
section
def pv(i:Nat){x:Str}{pos:Pos}(hN:X.N[i]?=aA x:=by rfl)(hv:uI X.env.scope x:=by first |exact jE rfl |exact ZL (jE rfl) |exact ZL (ZL rfl))(hd:ae x:=by decide)
  (hcd:(x == ("__classdict__":Str))=aD:=by decide):PE X (.Name x pos) (d7 i):=MI hN hv hd hcd
end
def Inv.forget{X:Cx}{pc:List (jv × Obj)}{sg sg':St}{H:Hp}{s:jc}(I:Inv X pc sg H s)(hl:sg'.length=sg.length)(h:∀(i:Nat) (v:V),sg'[i]?=aA (aA v)->sg[i]?=aA (aA v)):Inv X pc sg' H s:=by
 obtain⟨m,hn,hm⟩:=I.loc;exact⟨I.ok,I.os,I.bare,I.base,⟨m,hn,λi x v e1 e2 e3=>hm i x v e1 (h i v e2) e3⟩,I.cell,I.free,I.freeC,I.pin,I.hok,by rw[hl]; exact I.len⟩
def bw(X:Cx)(N:aj)(scope:Y1)(cl:List (Str × jv))(C:jv)(s0:jc)(H0:Hp)(fp:List jv):Cx where
 prog:=X.prog
 w:=X.w
 K:=X.K
 mg:=X.mg
 base:=X.base
 A:=X.A
 N:=N
 s₀:=s0
 H₀:=H0
 env:=Jt scope cl C X.env
 outer:=X.stack
 stack:=X.stack
 ex:=fp
 fn:=λ_=>aD
 calm:=X.calm
 pn:=[]
 xe:=λ_ _=>False
def capOk(N:aj)(XN:aj)(sc outer:Y1)(caps:af):Bool:=
 aE (caps.length=N.length)&&((j7 caps.length).all λi=>match caps[i]? with
  | some (aA j)=>(match N[i]?,XN[j]? with
   |some x,aA y=>x == y&&sc.names.lookup x == aA .free&&(outer.names.lookup x == aA .cell||outer.names.lookup x == aA .free)
   | _,_=>aD)
  | _=>aC)
def cp(caps:af)(sg:St):St:=caps.map λo=>o.bind λj=>(sg[j]?).join
def capOk.len{N XN:aj}{sc outer:Y1}{caps:af}(h:capOk N XN sc outer caps=aC):caps.length=N.length:=by
 unfold capOk at h;rw[jJ] at h;exact of_decide_eq_true h.1
def capOk.get{N XN:aj}{sc outer:Y1}{caps:af}(h:capOk N XN sc outer caps=aC){i j:Nat}(e:caps[i]?=aA (aA j)) :
  ∃ x,N[i]?=aA x/\XN[j]?=aA x/\sc.names.lookup x=aA .free/\(outer.names.lookup x=aA .cell∨outer.names.lookup x=aA .free):=by
 unfold capOk at h;rw[jJ] at h;have hi:=(j6.mp e).1;have q:=jB.mp h.2 i (je.mpr hi);rw[e] at q;dsimp only at q;cases h1:N[i]? with
 |none=>rw[h1] at q; cases q
 |some x=>
  cases h2:XN[j]? with
  |none=>rw[h1,h2] at q; cases q
  |some y=>
   rw[h1,h2] at q;dsimp only at q;rw[jJ,jJ,QR] at q;obtain⟨⟨q1,q2⟩,q3⟩:=q;have e1:=eq_of_beq q1;subst e1;exact⟨x,rfl,rfl,by simpa using q2,q3.imp (λz=>by simpa using z) λz=>by simpa using z⟩
def A3{env:Env}:∀(names:List (Str × Ng)) (acc:List (Str × jv)),(∀ x,(x,Qs)∈names->∃ c,env.cells.lookup x=aA c)->
  ∃ cl,(forIn (m:=Sem) names acc fun(p:Str × Ng) cs=>(if p.2 == Qs then (do let c <-cellOf env p.1; pure (Ql ((p.1,c)::cs))) else pure (Ql cs)))=pure cl /\
   (∀ p∈cl,p∈acc∨env.cells.lookup p.1=aA p.2)/\(∀ p∈acc,p∈cl)/\(∀ x,(x,Qs)∈names->∃ c,(x,c)∈cl)
 |[],acc,_=>⟨acc,rfl,λp hp=>.inl hp,λp hp=>hp,λx hx=>nomatch hx⟩
 |(n,k)::r,acc,h=>by
  by_cases hk:k=.free
  ·subst hk;obtain⟨c,hc⟩:=h n jV;obtain⟨cl,e,h1,h2,h3⟩:=A3 r ((n,c)::acc) λx hx=>h x (jA _ hx);refine⟨cl,?_,λp hp=>?_,λp hp=>h2 p (jA _ hp),λx hx=>?_⟩
   ·rw[Yy,aI (by rfl)]
    show (do let c <-cellOf env n; pure (Ql ((n,c)::acc)):Sem _) >>= _=_
    rw[cellOf,hc];exact e
   ·obtain z |z:=h1 p hp
    ·obtain z |z:=jx.mp z
     ·subst z; exact .inr hc
     ·exact .inl z
    ·exact .inr z
   ·obtain z |z:=jx.mp hx
    ·injection z with z1 _;subst z1;exact⟨c,h2 _ jV⟩
    ·exact h3 x z
  ·obtain⟨cl,e,h1,h2,h3⟩:=A3 r acc λx hx=>h x (jA _ hx);refine⟨cl,?_,h1,h2,λx hx=>?_⟩
   ·rw[Yy,aH (by simpa using hk)]
    exact e
   ·obtain z |z:=jx.mp hx
    ·injection z with _ z2;exact absurd z2.symm hk
    ·exact h3 x z
def wU{scope:Y1}{env:Env}(h:∀ x,(x,Qs)∈scope.names->∃ c,env.cells.lookup x=aA c) :
  ∃ cl,closureFor scope env=pure cl/\(∀ p∈cl,env.cells.lookup p.1=aA p.2)/\(∀ x,(x,Qs)∈scope.names->∃ c,(x,c)∈cl):=by
 obtain⟨cl,e,h1,_,h3⟩:=A3 scope.names [] h;refine⟨cl,?_,λp hp=>(h1 p hp).resolve_left (by simp),h3⟩
 have e2:closureFor scope env=((forIn (m:=Sem) scope.names ([]:List (Str × jv)) fun(p:Str × Ng) cs=>(if p.2 == Qs then (do let c <-cellOf env p.1; pure (Ql ((p.1,c)::cs))) else pure (Ql cs))) >>= λcs=>pure cs):=rfl
 rw[e2,e];rfl
def n5{α β:Type}[BEq α][LawfulBEq α]{x:α}{y:β}:∀ {l:List (α × β)},l.lookup x=aA y->(x,y)∈l
 |(a,b)::r,h=>by
  rw[ZR] at h;cases hx:x == a with
  |true=>
   rw[hx] at h;have e:=jh h;rw[eq_of_beq hx,e];exact jV
  |false=>rw[hx] at h; exact jA _ (n5 h)
def BI{α β:Type}[BEq α][LawfulBEq α]{x:α}{y:β}:∀ {l:List (α × β)},(x,y)∈l->∃ z,l.lookup x=aA z
 |(a,b)::r,h=>by
  rw[ZR];cases hx:x == a with
  |true=>exact⟨b,rfl⟩
  |false=>
   obtain z |z:=jx.mp h
   ·injection z with z1 _;rw[z1] at hx;simp at hx
   ·exact BI z
def Vc{scope:Y1}{env:Env}(hcell:∀ y∈scope.names,y.2≠.cell){x:Str}(h:(JY scope env).names.lookup x=aA .cell∨(JY scope env).names.lookup x=aA .free):(x,Qs)∈scope.names:=by
 have key:∀ k,(x,k)∈(JY scope env).names->k=.cell∨k=.free->(x,Qs)∈scope.names:=λk hm hk=>by
  obtain⟨⟨n,k'⟩,hn,e⟩:=jz.mp hm;dsimp only at e;split at e
  ·rename_i hc;injection e with e1 e2;subst e1;have:k'=.free:=by
    simp only[jJ] at hc;simpa using hc.1.1
   subst this;exact hn
  ·injection e with e1 e2;subst e1; subst e2;obtain z |z:=hk
   ·subst z; exact absurd rfl (hcell _ hn)
   ·subst z; exact hn
 obtain h |h:=h
 ·exact key _ (n5 h) (.inl rfl)
 ·exact key _ (n5 h) (.inr rfl)
def G6{env:Env}{x:Str}:∀ {names:List (Str × Ng)},names.lookup x=aA .free->
  (names.map fun(n,k)=>if (k == Qs&&env.scope.kind == .function&&env.kindOf n == aA .cell) then (n,JZ) else (n,k)).lookup x=aA .cell ∨
  (names.map fun(n,k)=>if (k == Qs&&env.scope.kind == .function&&env.kindOf n == aA .cell) then (n,JZ) else (n,k)).lookup x=aA .free
 |(n,k)::r,h=>by
  rw[ZR] at h;rw[jp];cases hx:x == n with
  |true=>
   rw[hx] at h;have e:=jh h;subst e;dsimp only;split
   ·left; rw[ZR,hx]
   ·right; rw[ZR,hx]
  |false=>
   rw[hx] at h;have ih:=G6 (env:=env) h;dsimp only;split<;>(rw[ZR,hx]; exact ih)
section
variable {cl:List (Str × jv)}{pc:List (jv × Obj)}{sg:St}{H:Hp}{fp:List jv}{h1:QN}{tk:Nat}{m0:Str->Option j8}
def tW(hkind:scope.kind=.function)(hcell:∀ y∈scope.names,y.2≠.cell)(I:Inv X pc sg H s)
  (hcl1:∀ p∈cl,X.env.cells.lookup p.1=aA p.2) (hcl2:∀ x,(x,Qs)∈scope.names->∃ c,(x,c)∈cl)
  (hf:∀ b∈fp,fT X pc H b) (hlt:∀ b∈fp,b < s.heap.objs.size):(bw X N scope cl s.heap.objs.size s H fp).Ok where
 mod:=I.ok.mod
 kind:=hkind
 glob:=I.ok.glob
 blt:=I.ok.blt
 above:=jj _
 inj:=λx y c hx hy=>I.ok.inj x y c (hcl1 (x,c) (n5 hx)) (hcl1 (y,c) (n5 hy))
 has:=λx hx=>by
  obtain⟨c,hc⟩:=hcl2 x (Vc hcell hx);exact BI hc
 cab:=λx c hx=>nomatch hx
 hd:=I.ok.hd
 frames:=I.ok.frames
 stk:=.inl rfl
 exf:=λb hb=>⟨jH (hlt b hb),λx c hx=>(hf b hb).2.2.2.2.1 x c (hcl1 (x,c) (n5 hx))⟩
 bs:=I.bs
 bsz:=Qc I.ok.bsz I.sz
 noex:=λb o e hb=>by
  rcases(hf b hb).2.2.2.1 with z |z
  ·exact I.ok.noex b o e z
  ·exact absurd (Q0 (jr e) (Qc I.ok.bsz z)) (Q9 _)
 exfs:=λb hb z=>by
  obtain e |e:=jx.mp (I.stkSub b z)
  ·exact(hf b hb).2.1 e
  ·exact(hf b hb).2.2.1 e
 funs:=I.stack
 frf:=I.stkFree
def Fm(hcap:capOk N X.N scope X.env.scope caps=aC)(hkind:scope.kind=.function)(hcell:∀ y∈scope.names,y.2≠.cell)(I:Inv X pc sg H s)
  (hcl1:∀ p∈cl,X.env.cells.lookup p.1=aA p.2) (hcl2:∀ x,(x,Qs)∈scope.names->∃ c,(x,c)∈cl)
  (hf:∀ b∈fp,fT X pc H b) (hlt:∀ b∈fp,b < s.heap.objs.size) (hk:∀ b u,s.heap.get? b=aA u->h1.get? b=aA u) (hns:h1.Ns s.heap.objs.size m0) :
  Inv (bw X N scope cl s.heap.objs.size s H fp) [] (cp caps sg) H { s with heap:=h1,toks:=tk } where
 ok:=tW hkind hcell I hcl1 hcl2 hf hlt
 os:=rfl
 bare:=I.bare
 base:=Un.kept hk
 loc:=by
  refine⟨m0,hns,λi x v e1 e2 e3=>?_⟩;have e2':∃ j,caps[i]?=aA (aA j)/\sg[j]?=aA (aA v):=by
   unfold cp at e2;rw[jf] at e2;cases hc:caps[i]? with
   |none=>rw[hc] at e2; simp at e2
   |some o=>
    rw[hc] at e2;cases o with
    |none=>simp at e2
    |some j=>
     refine⟨j,rfl,?_⟩;simp only[jS,jb,Option.some.injEq] at e2;cases hj:sg[j]? with
     |none=>rw[hj] at e2; simp at e2
     |some y=>rw[hj] at e2; simp at e2; rw[e2]
  obtain⟨j,hj1,hj2⟩:=e2';obtain⟨x',n1,n2,f1,f2⟩:=capOk.get hcap hj1;have e1':N[i]?=aA x:=e1;rw[e1'] at n1;obtain rfl:x=x':=jh n1;obtain⟨m,hn,hm⟩:=I.loc;obtain⟨u,ru,l⟩:=hm j x v n2 hj2 (f2.elim (λz=>.inr (.inl z)) λz=>.inr (.inr z));refine⟨u,ru,.inr ⟨G6 f1,?_⟩⟩;obtain ⟨k,_⟩ |⟨_,c,hc,hcell⟩:=l
  ·have k':X.env.scope.names.lookup x=aA .local:=k;obtain z |z:=f2<;>(rw[k'] at z; cases z)
  ·obtain⟨c',hc'⟩:=hcl2 x (n5 f1);obtain⟨c'',hc''⟩:=BI hc';have q:=hcl1 (x,c'') (n5 hc'');rw[hc] at q;obtain rfl:c=c'':=jh q;obtain⟨o,ho,hd⟩:=hcell;exact⟨c,hc'',o,hk c o ho,hd⟩
 cell:=λx c hx=>by
  obtain⟨v,o,ho,hd⟩:=I.cell x c (hcl1 (x,c) (n5 hx));exact⟨v,o,hk c o ho,hd⟩
 free:=I.hok.fresh (jj _)
 freeC:=λx c hx=>I.freeC x c (hcl1 (x,c) (n5 hx))
 pin:=λp hp=>nomatch hp
 hok:=I.hok.kept hk
 len:=by
  unfold cp;rw[j4];exact capOk.len hcap
end
def lV(X:Cx)(ifs:List Q5)(t:TT):Prop:=
 ∀(pc:List (jv × Obj)) (s:jc) (sg:St) (H:Hp) (Q:Bool->Hp->Prop),Inv X pc sg H s->t sg H Q->
  jT (jR X.prog X.w) X.A (forIn ifs aC λc r=>if r=aC then do let ok <-JQ c X.env (eval c X.env); pure (Ql ok) else pure (Ql r)) (TP X pc sg Q) X.xe s
def xk:TT:=λ_ H Q=>Q aC H
def Pc{X:Cx}:lV X [] xk:=λ_ _ _ H _ I h=>wpAny_tests_nil ⟨H,I,h⟩
def Pd{X:Cx}{c:Q5}{t:TT}(h:PT X c t):lV X [c] t:=λpc s sg H Q I hq=>wpAny_tests_one (h pc s sg H Q I hq)
section
variable {R:Jx->jc->Prop}
def V8{elt target iter:Q5}{ifs:List Q5}{scope:Y1}{pos:Pos}{it acc:j8}{env:Env}(I:Nat->jc->Prop)
  (turn:∀ n s,I n s->jT (jR prog w) A (NE it) (λr s1=>match r with
   |none=>R (.ok .next) s1
   | some v=>jT (jR prog w) A (ga target it v) (λ_ s1'=>jT (jR prog w) A (YT target env v) (λ_ s2=>
     jT (jR prog w) A (forIn ifs aC λc r=>if r=aC then do let ok <-JQ c env (eval c env); pure (Ql ok) else pure (Ql r)) (λok s3=>
      if ok=aC then jT (jR prog w) A (eval elt env) (λx s4=>
       jT (jR prog w) A (call (.builtin "list.append") [acc,x]) (λ_ s5=>∃ m,m < n/\I m s5) (λ_ _=>False) s4) (λ_ _=>False) s3
      else ∃ m,m < n/\I m s3) (λ_ _=>False) s2) (λ_ _=>False) s1') (λ_ _=>False) s1) (λ_ _=>False) s)
  (n:Nat) (h:I n s) :
  Yu (jR prog w) A (.compLoop (.ListComp elt [⟨target,iter,ifs,0⟩] scope pos) 0 it acc env) R s:=by
 refine codeAny_loop rfl I (λn s hI=>?_) n h;show jT _ A ((compTurn (.ListComp elt [⟨target,iter,ifs,0⟩] scope pos) 0 it acc env).onRaise (λx=>do noteFrame x env; theTreesLotGoes x)) _ _ s
 refine wpAny_noted ?_;rw[compTurn_list];refine j5 (Zk (j5 (jY (turn n s hI) (λr s1 h1=>?_) λ_ _ h'=>h'.elim)));cases r with
 |none=>exact jm h1
 |some v=>
  refine j5 (jY h1 (λ_ s1' h1'=>?_) λ_ _ h'=>h'.elim);refine j5 (jY h1' (λ_ s2 h2=>j5 (jY h2 (λok s3 h3=>?_) λ_ _ h'=>h'.elim)) λ_ _ h'=>h'.elim);cases ok with
  |false=>exact jm ⟨rfl,h3⟩
  |true=>
   exact j5 (j5 (jY h3 (λx s4 h4=>j5 (jY h4 (λ_ s5 h5=>jm (jm ⟨rfl,h5⟩)) λ_ _ h'=>h'.elim)) λ_ _ h'=>h'.elim))
end
def ic(caps:af)(g:TG):Prop:=∀(x:V) (sg:St) (H:Hp) (Q:St->Hp->Prop),g x sg H Q->g x sg H λs2 H2=>Q s2 H2/\∀(j k:Nat),caps[j]?=aA (aA k)->s2[j]?=sg[j]?
def uu(caps:af)(g:fA):Prop:=∀(x:List V) (sg:St) (H:Hp) (Q:St->Hp->Prop),g x sg H Q->g x sg H λs2 H2=>Q s2 H2/\∀(j k:Nat),caps[j]?=aA (aA k)->s2[j]?=sg[j]?
def fR{caps:af}{i:Nat}(h:caps[i]?=aA aB:=by rfl):ic caps (eS i):=λx sg H Q q=>⟨q,λj k e=>by
 have:i≠j:=λz=>by subst z; rw[h] at e; cases e
 exact jq this⟩
def Md{caps:af}:uu caps qC:=λx sg H Q ⟨e,q⟩=>⟨e,q,λ_ _ _=>rfl⟩
def EB{caps:af}{t:TG}{u:fA}(mt:∀ x sg H (Q Q':St->Hp->Prop),(∀ a b,Q a b->Q' a b)->t x sg H Q->t x sg H Q')(mu:∀ x sg H (Q Q':St->Hp->Prop),(∀ a b,Q a b->Q' a b)->u x sg H Q->u x sg H Q')
  (h:ic caps t) (h2:uu caps u):uu caps (oC t u):=λx sg H Q ⟨v,r,e,q⟩=>
 ⟨v,r,e,mt _ _ _ _ _ (λs2 H2 ⟨q2,k2⟩=>mu _ _ _ _ _ (λs3 H3 ⟨q3,k3⟩=>⟨q3,λj k e=>(k3 j k e).trans (k2 j k e)⟩) (h2 _ _ _ _ q2)) (h _ _ _ _ q)⟩
def Me{caps:af}{K:jd}{n:Nat}{t:fA}(h:uu caps t):ic caps (ia K n t):=λx sg H Q ⟨a,xs,e,hq,hl,q⟩=>⟨a,xs,e,hq,hl,h _ _ _ _ q⟩
def A7{i:Nat}:∀ x sg H (Q Q':St->Hp->Prop),(∀ a b,Q a b->Q' a b)->eS i x sg H Q->eS i x sg H Q':=λ_ _ _ _ _ h q=>h _ _ q
def FG:∀ x sg H (Q Q':St->Hp->Prop),(∀ a b,Q a b->Q' a b)->qC x sg H Q->qC x sg H Q':=λ_ _ _ _ _ h q=>⟨q.1,h _ _ q.2⟩
def Tv{t:TG}{u:fA}(mt:∀ x sg H (Q Q':St->Hp->Prop),(∀ a b,Q a b->Q' a b)->t x sg H Q->t x sg H Q')(mu:∀ x sg H (Q Q':St->Hp->Prop),(∀ a b,Q a b->Q' a b)->u x sg H Q->u x sg H Q') :
  ∀ x sg H (Q Q':St->Hp->Prop),(∀ a b,Q a b->Q' a b)->oC t u x sg H Q->oC t u x sg H Q':=λ_ _ _ _ _ h ⟨v,r,e,q⟩=>⟨v,r,e,mt _ _ _ _ _ (λ_ _ z=>mu _ _ _ _ _ h z) q⟩
def vY{caps:af}{K:jd}{i j:Nat}(h:caps[i]?=aA aB:=by rfl)(h2:caps[j]?=aA aB:=by rfl):ic caps (ia K 2 (oC (eS i) (oC (eS j) qC))):=
 Me (EB A7 (Tv A7 FG) (fR h) (EB A7 FG (fR h2) Md))
def HA(J:It)(g:TG)(tt:TT)(te:TE)(sg':St)(Q:VK)(H1:Hp):Prop:=
 ∀ D,H1 D=aB->∃ W:Nat->Nat->Hp->Prop,(∃ m,W 0 m (aS H1 D (.lst [])))/\∀ i m H,W i m H->
  (J.stop i H/\Q (.ref D) H)∨(J.go i H/\∀ x H',J.yld i H x H'->g x sg' H' λs2 H2=>tt s2 H2 λb H3=>if b=aC then
   te s2 H3 λy H4=>∃ xs,H4 D=aA (.lst xs)/\xs.length < ju/\∃ m',m' < m/\W (i+1) m' (aS H4 D (.lst (xs++[y])))
   else ∃ m',m' < m/\W (i+1) m' H3)
section
variable {tg elt iter:Q5}{ifs:List Q5}{wi:TI}{g:TG}{tt:TT}{te:TE}
def Et{pc:List (jv × Obj)}{sg:St}{H:Hp}{s2:jc}{cl:List (Str × jv)}{it:jv}{fp:List jv}{tn:Nat->QN->Prop}{J:It}{Q:VK}{E:j8->jc->Prop}{RR:j8->jv->Jx->jc->Prop}
  (hc:X.calm=aC) (hcap:capOk N X.N scope X.env.scope caps=aC) (hkind:scope.kind=.function) (hcell:∀ y∈scope.names,y.2≠.cell)
  (hg:∀ cl C s0 H0 fp,PG (bw X N scope cl C s0 H0 fp) tg g) (hgk:ic caps g) (ht:∀ cl C s0 H0 fp,lV (bw X N scope cl C s0 H0 fp) ifs tt) (he:∀ cl C s0 H0 fp,PE (bw X N scope cl C s0 H0 fp) elt te)
  (hcl1:∀ p∈cl,X.env.cells.lookup p.1=aA p.2) (hcl2:∀ x,(x,Qs)∈scope.names->∃ c,(x,c)∈cl)
  (I2:Inv X pc sg H s2) (T:Turn X.prog X.w X.K tg J fp it tn) (st2:tn 0 s2.heap) (f2:∀ b∈fp,fT X pc H b) (hw:HA J g tt te (cp caps sg) Q H)
  (hRR:∀(D C:jv) (s':jc) (H':Hp) (m':Str->Option j8),Inv X pc sg H' s'->s'.heap.Ns C m'->H' C=aB->s2.heap.objs.size<=C->(∀ x c,X.env.cells.lookup x=aA c->c≠C)->(∀ p∈X.pn++pc,p.1≠C)->C≠X.env.locals->Q (.ref D) H'->RR (.ref D) C (.ok .next) s') :
  jT (jR X.prog X.w) X.A (newList []) (λacc s3=>jT (jR X.prog X.w) X.A (newFunctionEnv scope X.env.globals cl [] X.env.qual aB .none (aA X.env)) (λcenv s4=>
   Yu (jR X.prog X.w) X.A (.compStart (.ListComp elt [⟨tg,iter,ifs,0⟩] scope pos) 0 (.ref it) acc { cenv with scope:=JY scope X.env }) (RR acc cenv.locals) s4) E s3) E s2:=by
 refine WX ?_;have I3:Inv X pc sg (aS H s2.heap.objs.size (.lst [])) { s2 with heap:=s2.heap.push { cls:=.type "list",dict:=aB,data:=.seq ([]:List j8).toArray } }:=
  I2.laid (t':=s2.toks) (λb u e=>ja _ e) (jj _) ⟨QQ _,[],0,.nil,jL _ rfl⟩
 have hfree:=I2.hok.fresh (jj _);obtain⟨W,⟨mm,w0⟩,turn⟩:=hw s2.heap.objs.size hfree;generalize hD:s2.heap.objs.size=D at *;generalize hs3:({ s2 with heap:=s2.heap.push { cls:=.type "list",dict:=aB,data:=.seq ([]:List j8).toArray } }:jc)=s3 at *;have hlt3:∀ b o,s2.heap.get? b=aA o->s3.heap.get? b=aA o:=λb o e=>by rw[<-hs3]; exact ja _ e
 have hsz3:s3.heap.objs.size=D+1:=by rw[<-hs3,<-hD]; exact Zn ..
 have fpD:∀ b∈fp,b < D:=λb hb=>by
  obtain⟨o,ho,_⟩:=T.obj 0 _ st2 b hb;rw[<-hD]; exact jr ho
 have f3:∀ b∈fp,fT X pc (aS H D (.lst [])) b:=λb hb=>⟨by rw[au (jH (fpD b hb))]; exact(f2 b hb).1,(f2 b hb).2⟩
 have lt3:∀ b∈fp,b < s3.heap.objs.size:=λb hb=>by rw[hsz3]; exact QB (fpD b hb)
 have st3:=T.keep 0 _ _ st2 λb _ o e=>hlt3 b o e;refine Wa hcell (by intro y hy; simp at hy) (λh1 hns1 hsb1=>?_) hkind
 try dsimp only at hns1 hsb1 ⊢
 have keep1:∀ b u,s3.heap.get? b=aA u->h1.get? b=aA u:=λb u e=>hsb1.extBut b u (jH (jr e)) (ja _ e);have I4:=Fm (N:=N) (tk:=s3.toks+([]:List (Str × j8)).length) hcap hkind hcell I3 hcl1 hcl2 f3 lt3 keep1 hns1;have loop:Yu (jR X.prog X.w) X.A (.compLoop (.ListComp elt [⟨tg,iter,ifs,0⟩] scope pos) 0 (.ref it) (.ref D) (Jt scope cl s3.heap.objs.size X.env)) (RR (.ref D) s3.heap.objs.size) { s3 with heap:=h1,toks:=s3.toks+([]:List (Str × j8)).length }:=by
  generalize hX':bw X N scope cl s3.heap.objs.size s3 (aS H D (.lst [])) fp=X' at I4;have eP:X'.prog=X.prog:=by rw[<-hX']; rfl
  have ew:X'.w=X.w:=by rw[<-hX']; rfl
  have eK:X'.K=X.K:=by rw[<-hX']; rfl
  have eA:X'.A=X.A:=by rw[<-hX']; rfl
  have eE:X'.env=Jt scope cl s3.heap.objs.size X.env:=by rw[<-hX']; rfl
  have ex:X'.xe=λ_ _=>False:=by rw[<-hX']; rfl
  have ecalm:X'.calm=aC:=by rw[<-hX']; exact hc
  have hg':PG X' tg g:=by rw[<-hX']; exact hg _ _ _ _ _
  have ht':lV X' ifs tt:=by rw[<-hX']; exact ht _ _ _ _ _
  have he':PE X' elt te:=by rw[<-hX']; exact he _ _ _ _ _
  have stat:∀ {H':Hp},(∀ b∈fp,H' b=aB)->∀ b∈fp,fT X' [] H' b:=λ{H'} hn b hb=>by
   refine⟨hn b hb,?_,?_,?_,?_,λp hp=>?_⟩
   ·rw[<-hX']; exact jH (lt3 b hb)
   ·rw[<-hX'];exact λz=>(tW (N:=N) hkind hcell I3 hcl1 hcl2 f3 lt3).exfs b hb z
   ·rw[<-hX']; exact .inl hb
   ·rw[<-hX'];exact((tW (N:=N) hkind hcell I3 hcl1 hcl2 f3 lt3).exf b hb).2
   ·rw[<-hX'] at hp; cases hp
  have out:∀ {sg':St} {H':Hp} {s':jc},Inv X' [] sg' H' s'->Inv X pc sg H' s':=λ{sg' H' s'} I'=>by
   have hb:=I'.base;rw[<-hX'] at hb;have ho:=I'.os;rw[<-hX'] at ho;have hk:=I'.hok;rw[eP,ew] at hk;exact I3.call' (ch:=fp) ho hb hk I'.bare λb hb=>⟨(f3 b hb).2.2.2.1,(f3 b hb).2.1,(f3 b hb).2.2.2.2.1,(f3 b hb).2.2.2.2.2⟩
  rw[<-eE,<-eA,<-eP,<-ew];refine V8 (λn s'=>∃ i H',Inv X' [] (cp caps sg) H' s'/\tn i s'.heap/\(∀ b∈fp,H' b=aB)/\W i n H') ?_ mm
   ⟨0,_,I4,T.keep 0 _ _ st3 λb _ o e=>keep1 b o e,λb hb=>(f3 b hb).1,w0⟩
  rintro n s5 ⟨i,H5,I5,st5,fr5,w5⟩;obtain ⟨stop,q⟩ |⟨go,step⟩:=turn i n H5 w5
  ·have z:=T.done X' eP ew eK ecalm i [] s5 _ H5 (λ_ _=>False) I5 (stat fr5) st5 stop;rw[<-eP,<-ew] at z;refine aW z λr s6 h_=>?_; obtain⟨hr,I6⟩:=h_;subst hr;obtain⟨m',hn',_⟩:=I6.loc;have hfr:=I6.free;rw[eE] at hn' hfr;refine hRR D s3.heap.objs.size s6 H5 m' (out I6) hn' hfr (by rw[hsz3]; exact Z2 _) (λx c e z=>?_) (λp hp z=>?_) (λz=>?_) q
   ·obtain⟨v,o,ho,_⟩:=I3.cell x c e;rw[z] at ho;exact absurd (jr ho) (Q9 _)
   ·have:=jr (I3.pin p hp).1;rw[z] at this;exact absurd this (Q9 _)
   ·have:=I3.lt;rw[<-z] at this;exact absurd this (Q9 _)
  ·have z:=T.item X' eP ew eK ecalm i [] s5 _ H5 (λ_ _=>False) I5 (stat fr5) st5 go;rw[<-eP,<-ew] at z;refine aW z λr s6 h_=>?_; obtain⟨u,hr,h6⟩:=h_;subst hr;dsimp only;refine aW h6 λ_ s7 h_=>?_; obtain⟨x,H7,I7,r7,y7,st7,fr7⟩:=h_;have I7':=I7.pinned (stat fr7) (T.obj _ _ st7);have q7:=step x H7 y7;have a7:=hg' _ s7 (cp caps sg) H7 x u _ I7' r7 (hgk _ _ _ _ q7);rw[ex] at a7;refine aW a7 λ_ s8 h_=>?_; obtain⟨sg8,H8,I8,q8,k8⟩:=h_;have k8':∀(j:Nat) (v:V),(cp caps sg)[j]?=aA (aA v)->sg8[j]?=aA (aA v):=λj v e=>by
    have e':=e;unfold cp at e';rw[jf] at e';cases hc:caps[j]? with
    |none=>rw[hc] at e'; simp at e'
    |some o=>
     cases o with
     |none=>rw[hc] at e'; simp at e'
     |some k=>rw[k8 j k hc]; exact e
   have a8:=ht' _ s8 sg8 H8 _ I8 q8;rw[ex] at a8;refine aW a8 λok s9 h_=>?_; obtain⟨H9,I9,q9⟩:=h_;have U9:∀ {sg':St} {H':Hp} {s':jc} {m':Nat},Inv X' ([]++rN fp s7.heap) sg' H' s'->(∀(j:Nat) (v:V),(cp caps sg)[j]?=aA (aA v)->sg'[j]?=aA (aA v))->m' < n->W (i+1) m' H'->
     ∃ m,m < n/\∃ i H',Inv X' [] (cp caps sg) H' s'/\tn i s'.heap/\(∀ b∈fp,H' b=aB)/\W i m H':=λ{sg' H' s' m'} I' hs hm hw=>by
    refine⟨m',hm,i+1,H',I'.unpinned.forget (I4.len.trans I'.len.symm) hs,T.keep _ _ _ st7 λb hb o e=>(I'.pin (b,o) (jw _ (jw _ (rh hb e)))).1,λb hb=>?_,hw⟩;obtain⟨o,e,d⟩:=T.obj _ _ st7 b hb;exact(I'.pin (b,o) (jw _ (jw _ (rh hb e)))).2.1
   cases ok with
   |false=>
    obtain⟨m',hm,w9⟩:=q9;exact U9 I9 k8' hm w9
   |true=>
    have a9:=he' _ s9 sg8 H9 _ I9 q9;rw[ex] at a9;refine aW a9 λv s10 h_=>?_; obtain⟨y,H10,I10,r10,xs,hD',hz,m',hm,w10⟩:=h_;have a10:=oY (X:=X') _ s10 sg8 H10 (.ref D) [y] (.ref D) [v] (λ_ H'=>W (i+1) m' H') I10 rfl (.cons r10 .nil) ⟨D,xs,y,rfl,rfl,hD',hz,w10⟩;rw[ex] at a10;exact aW a10 λ_ s11 ⟨_,H11,I11,_,w11⟩=>U9 I11 k8' hm w11
 exact codeAny_compStart_list loop (T.self _ _ _ _ _ (T.keep 0 _ _ st3 λb _ o e=>keep1 b o e) loop)
def ql(caps:af)(wi:TI)(g:TG)(tt:TT)(te:TE):TE:=λsg H Q=>wi sg H λJ H1=>HA J g tt te (cp caps sg) Q H1
def vp{X:Cx}{scope:Y1}(ok:X.Ok)(hfr:scope.names.all (λp=>p.2 != .free||(X.env.scope.names.lookup p.1 == aA .cell||X.env.scope.names.lookup p.1 == aA .free))=aC) :
  ∀ x,(x,Qs)∈scope.names->∃ c,X.env.cells.lookup x=aA c:=λx hx=>by
 have q:=jB.mp hfr (x,.free) hx;simp only[bne_self_eq_false,WC,QR] at q;exact ok.has x (q.imp (λz=>eq_of_beq z) λz=>eq_of_beq z)
def K0(hc:X.calm=aC)(hi:PI X tg iter wi)(hg:∀ cl C s0 H0 fp,PG (bw X N scope cl C s0 H0 fp) tg g)(hgk:ic caps g)(ht:∀ cl C s0 H0 fp,lV (bw X N scope cl C s0 H0 fp) ifs tt)(he:∀ cl C s0 H0 fp,PE (bw X N scope cl C s0 H0 fp) elt te)
  (hcap:capOk N X.N scope X.env.scope caps=aC:=by rfl) (hkind:scope.kind=.function:=by rfl) (hcell:scope.names.all (λp=>p.2 != .cell)=aC:=by rfl)
  (hnames:scope.names.all (λp=>p.2 != .local||scope.names.lookup p.1 == aA .local)=aC:=by rfl)
  (hfr:scope.names.all (λp=>p.2 != .free||(X.env.scope.names.lookup p.1 == aA .cell||X.env.scope.names.lookup p.1 == aA .free))=aC:=by rfl)
  (hs:∀ x,Qz iter X.env x=pure x:=by intro _; rfl):PE X (.ListComp elt [⟨tg,iter,ifs,0⟩] scope pos) (ql caps wi g tt te):=by
 intro pc s sg H Q I h;have hcell':∀ y∈scope.names,y.2≠.cell:=λy hy=>by simpa using jB.mp hcell y hy
 have hnames':∀ x∈scope.names,x.2=.local->scope.names.lookup x.1=aA .local:=λx hx e=>by
  have q:=jB.mp hnames x hx;rw[e] at q;simpa using q
 obtain⟨cl,hclos,hcl1,hcl2⟩:=wU (scope:=scope) (env:=X.env) (vp I.ok hfr);rw[eval_ListComp];refine ZH (use:=aB) rfl hs hclos hkind hnames' (aW (hi pc s sg H _ I h) λv s1 h1=>aW h1 λitv s2 h2=>?_);obtain⟨it,fp,tn,J,H2,e,I2,T,st2,f2,hw⟩:=h2;subst e;refine Et (RR:=λacc C=>U0 (jR X.prog X.w) X.A X.xe aB (EP X pc sg Q) acc C) hc hcap hkind hcell' hg hgk ht he hcl1 hcl2 I2 T st2 f2 hw ?_;intro D C s' H' m' I' hn hfree hCs hCc hCp hCl q;refine⟨m',hn,λh' hs'=>⟨.ref D,H',?_,rfl,q⟩⟩;exact I'.turned (t':=s'.toks) (it:=C) (λb o hb e=>(hs'.2 b hb).trans e) hfree hCl (.inr (Qc I2.sz hCs)) hCc hCp
def SI{i:Nat}{y:Str}{py spos:Pos}(hN:X.N.Nodup)(hiy:X.N[i]?=aA y)(hy:X.env.scope.names.lookup y=aA .local)(hc:X.calm=aC)(hi:PI X tg iter wi)(hg:∀ cl C s0 H0 fp,PG (bw X N scope cl C s0 H0 fp) tg g)(hgk:ic caps g)(ht:∀ cl C s0 H0 fp,lV (bw X N scope cl C s0 H0 fp) ifs tt)(he:∀ cl C s0 H0 fp,PE (bw X N scope cl C s0 H0 fp) elt te)
  (hsw:ZZ (.ListComp elt [⟨tg,iter,ifs,0⟩] scope pos) (aA (.Name y py)) spos.line X.env=pure aC:=by rfl)
  (hcap:capOk N X.N scope X.env.scope caps=aC:=by rfl) (hkind:scope.kind=.function:=by rfl) (hcell:scope.names.all (λp=>p.2 != .cell)=aC:=by rfl)
  (hnames:scope.names.all (λp=>p.2 != .local||scope.names.lookup p.1 == aA .local)=aC:=by rfl)
  (hfr:scope.names.all (λp=>p.2 != .free||(X.env.scope.names.lookup p.1 == aA .cell||X.env.scope.names.lookup p.1 == aA .free))=aC:=by rfl)
  (hs:∀ x,Qz iter X.env x=pure x:=by intro _; rfl):PS X (.Assign [.Name y py] (.ListComp elt [⟨tg,iter,ifs,0⟩] scope pos) spos) (ef (ql caps wi g tt te) (eS i)):=by
 intro pc s sg H D0 I h;have hcell':∀ y∈scope.names,y.2≠.cell:=λy hy=>by simpa using jB.mp hcell y hy
 have hnames':∀ x∈scope.names,x.2=.local->scope.names.lookup x.1=aA .local:=λx hx e=>by
  have q:=jB.mp hnames x hx;rw[e] at q;simpa using q
 obtain⟨cl,hclos,hcl1,hcl2⟩:=wU (scope:=scope) (env:=X.env) (vp I.ok hfr);rw[NI _ _ _ _ hsw];refine j5 (Zk (j5 ?_))
 refine j5 (jY (ZH (use:=aA (YT (.Name y py) X.env)) (Q:=λ_ s'=>SP X pc D0 .next s') rfl hs hclos hkind hnames'
  (aW (hi pc s sg H _ I h) λv s1 h1=>aW h1 λitv s2 h2=>?_)) (λ_ s' hq=>jm (jm hq)) λ_ _ e=>e)
 obtain⟨it,fp,tn,J,H2,e,I2,T,st2,f2,hw⟩:=h2;subst e;refine Et (Q:=λx H1=>eS i x sg H1 D0.nx) (RR:=λacc C=>U0 (jR X.prog X.w) X.A X.xe (aA (YT (.Name y py) X.env)) (λ_ s'=>SP X pc D0 .next s') acc C) hc hcap hkind hcell' hg hgk ht he hcl1 hcl2 I2 T st2 f2 hw ?_
 intro D C s' H' m' I' hn hfree hCs hCc hCp hCl q;refine YU (zx I' hN hiy (.inl hy) (v:=.ref D) rfl (λs3 I3 ⟨a,hs3,ha⟩=>?_) (.inr hy));have hCa:C≠a:=by
  obtain z |z:=ha
  ·rw[z]; exact hCl
  ·exact λz'=>hCc y a z z'.symm
 refine⟨m',hn.sameBut hs3 hCa,λh' hs'=>?_⟩;exact⟨_,H',I3.turned (t':=s3.toks) (it:=C) (λb o hb e=>(hs'.2 b hb).trans e) hfree hCl (.inr (Qc I2.sz hCs)) hCc hCp,q⟩
end
section
def HZ:V->Option Int->Option Int->Hp->VK->Prop:=λx lo hi H Q=>∃ z,x=.str z/\z.length<=ju/\Q (.str (YZ z lo hi)) H
def OL:Bc X HZ:=by
 intro pc s sg H x v vl vu lo hi sl Q I rx hs pl pu h;obtain⟨z,rfl,hz,q⟩:=h;obtain⟨t,rfl⟩:=rx;refine⟨"str",_,F.slot_str_getitem.lookup,JS _ _ _,?_⟩;have fin:∀ t' k,EP X pc sg Q (.str (YZ z lo hi) t') { s with toks:=k }:=λt' k=>⟨.str _,H,I.tok _,⟨_,rfl⟩,q⟩;have le:=Qc (Txt.slice_le z lo hi) hz;cases pl with
 |none=>
  cases pu with
  |none=>exact ZP (l:=aB) (u:=aB) (st:=aB) hs rfl (Yz ⟨le,fin⟩)
  |int j uj=>exact ZP (l:=aB) (u:=aA (j,uj)) (st:=aB) hs rfl (Yz ⟨le,fin⟩)
 |int i ui=>
  cases pu with
  |none=>exact ZP (l:=aA (i,ui)) (u:=aB) (st:=aB) hs rfl (Yz ⟨le,fin⟩)
  |int j uj=>exact ZP (l:=aA (i,ui)) (u:=aA (j,uj)) (st:=aB) hs rfl (Yz ⟨le,fin⟩)
end
section
variable {K:jd}
def Oz{es:List Q5}{k:Nat}{t:fA}{n:Nat}{pos:Pos}(hK:X.K=K)(hc:X.calm=aC)(h:qw X es t)
  (hn:(Qr es X.env).length=n:=by rfl) (hst:(Qr es X.env).findIdx? (·.1)=aB:=by rfl):PG X (.Tuple es k pos) (ia K n t):=by subst hK; exact Do hc h hn hst
end
def Og:Z7 "list"=aA (.type "list"):=by decide +kernel
def VF:Z7 "enumerate"=aA (.type "enumerate"):=by decide +kernel
section
def op_isF:cZ X (Z9 .Is) (λx y H Q=>∃ c d,x=.bl c/\y=.bl d/\Q (.bl (c == d)) H):=by
 intro pc s sg H x y v u Q I rx ry h;obtain⟨c,d,rfl,rfl,q⟩:=h;cases rx; cases ry;exact is_bool ⟨.bl _,H,I,rfl,q⟩
def op_isnotF:cZ X (Z9 .IsNot) (λx y H Q=>∃ c d,x=.bl c/\y=.bl d/\Q (.bl (c != d)) H):=by
 intro pc s sg H x y v u Q I rx ry h;obtain⟨c,d,rfl,rfl,q⟩:=h;cases rx; cases ry;exact isnot_bool ⟨.bl _,H,I,rfl,q⟩
end
section
variable {E:j8->jc->Prop}
def FA{it t:jv}{items:Array j8}(hne:t≠it):∀(n i:Nat) (s:jc) (Q:List j8->jc->Prop),s.heap.IsListIter it t i->s.heap.IsList t items->i+n<=items.size->
  (∀ h':QN,h'.IsListIter it t (i+n)->Qo it s.heap h'->Q ((items.toList.drop i).take n) { s with heap:=h' })->jT (jR prog w) A (draw (.ref it) n) Q E s
 |0,i,s,Q,hit,_,_,hQ=>by
  exact jm (by simpa using hQ s.heap hit (Heap.SameBut.refl ..))
 |n+1,i,s,Q,hit,ht,hle,hQ=>by
  have hlt:i < items.size:=by lia
  refine j5 (Nx hit ht (x:=items[i]) (by simp[hlt]) λh1 hit1 hs1=>?_)
  refine j5 (Qa (FA hne n (i+1) _ _ hit1 (ht.extBut hs1.extBut hne) (by lia) λh2 hit2 hs2=>jm ?_))
  have hd:items.toList.drop i=items[i]::items.toList.drop (i+1):=by simp[ZB,hlt]
  have:=hQ h2 (by rw[show i+(n+1)=i+1+n by lia]; exact hit2) (hs1.trans hs2)
  rwa [hd,List.take_succ_cons] at this
def XG{s:jc}{t:jv}{items:Array j8}{Q:List j8->jc->Prop}(hh:A.handled=aB)(ht:s.heap.IsList t items)
  (hQ:∀ h',Nj s.heap.objs.size s.heap h'->Q items.toList { s with heap:=h' }):jT (jR prog w) A (unpackItems (.ref t) items.size aB) Q E s:=by
 have hlt:t≠s.heap.objs.size:=by obtain⟨o,ho,_⟩:=ht; exact jH (jr ho)
 unfold unpackItems;refine j5 ?_
 ·unfold notIterableAtAll;refine j5 (wpAny_specialOf ht.typeIs slot_list_iter.lookup ?_);refine jm ?_;simp only[Zf,if_false];refine j5 (Qa (Y3 ht ?_));refine j5 (Qa (FA hlt items.size 0 _ _ ⟨_,jL _ rfl,rfl,rfl⟩ (ht.push _) (by lia) λh1 hit1 hs1=>?_))
  have hall:List.take items.size (List.drop 0 items.toList)=items.toList:=by
   rw[Wi]; exact jZ (by simp)
  rw[hall];rw[aH (by simp)]
  have ht1:=(ht.push _).extBut hs1.extBut hlt;refine j5 (Qa (NF hh hit1 ht1 (by simp) λh2 he2=>?_))
  simp only[Option.isSome_none,Zf,if_false];refine jm (hQ h2 λb o hb e=>he2 b o hb (hs1.extBut b o hb (ja _ e)))
def XM{s:jc}{env:Env}{elts:List Q5}{x1}{pos:Pos}{t:jv}{items:Array j8}{Q:Unit->jc->Prop}(hh:A.handled=aB)(ht:s.heap.IsList t items)
  (hn:(Qr elts env).length=items.size) (hstar:(Qr elts env).findIdx? (·.1)=aB)
  (h:∀ h',Nj s.heap.objs.size s.heap h'->jT (jR prog w) A (assignInOrder ((Qr elts env).map (·.2)) items.toList) Q E { s with heap:=h' }) :
  jT (jR prog w) A (YT (.Tuple elts x1 pos) env (.ref t)) Q E s:=by
 rw[PyProof.Rows.assign_Tuple];refine j5 (Zk ?_);unfold unpack;rw[hn,hstar];exact j5 (Qa (XG hh ht λh' hx=>h h' hx))
end
section
def xU(K:jd)(n:Nat)(t:fA):TG:=λv sg H Q=>∃ a xs,v=.ref a/\aq K H a xs/\xs.length=n/\t xs sg H Q
def MK{es:List Q5}{k:Nat}{t:fA}{n:Nat}(hc:X.calm=aC)(h:qw X es t)
  (hn:(Qr es X.env).length=n:=by rfl) (hst:(Qr es X.env).findIdx? (·.1)=aB:=by rfl):PG X (.Tuple es k pos) (xU X.K n t):=by
 intro pc s sg H v u Q I r hw;obtain⟨a,xs,e1,hq,hl,hw⟩:=hw;subst e1;cases r;obtain⟨its,rv,ht,hz⟩:=I.list hq;refine XM (I.ok.hd hc) ht.isList (by simp[hn,<-hl,rv.length]) hst λh' hx=>?_
 have I1:Inv X pc sg H { s with heap:=h' }:=I.kept (t':=s.toks) λb o e=>hx b o (jH (jr e)) e;exact h pc _ sg H xs _ Q I1 (by simpa using rv) hw
def HE(K:jd)(a:jv):It:=
 ⟨λi H=>∃ xs x,aq K H a xs/\xs[i]?=aA x,λi H v H'=>∃ p x,v=.ref p/\H p=aB/\H'=aS H p (.tup [.int i,x])/\∀ xs,aq K H a xs->xs[i]?=aA x,λi H=>∃ xs,aq K H a xs/\xs.length<=i⟩
def TL{P:jI}{w:Qf}{K:jd}{elts:List Q5}{x1:Nat}{tp:Pos}(a it e:jv)(hne:e≠it) :
  Turn P w K (.Tuple elts x1 tp) (HE K a) [e,it] e (λi h=>(∃ old,IsEnum h e it i old)/\h.IsListIter it a i) where
 mem:=by simp
 obj:=λi h st b hb=>by
  obtain⟨⟨old,he⟩,o,ho,hc,hd⟩:=st;obtain z |z:=jx.mp hb
  ·subst z
   exact⟨_,he,λv z=>by
    have z':=z
    cases z'⟩
  ·have z':b=it:=by simpa using z
   subst z';exact⟨o,ho,λv z=>by rw[hd] at z; cases z⟩
 keep:=λi h h' st k=>by
  obtain⟨⟨old,he⟩,hi⟩:=st;exact⟨⟨old,k e (by simp) _ he⟩,hi.at λo q=>k it (by simp) o q⟩
 item:=by
  intro X hP hw hK hc i pc s sg H E I hf st hg;subst hP hw hK;obtain⟨⟨old,he⟩,hit⟩:=st;obtain⟨xs,x,hq,hx⟩:=hg;obtain⟨its,rv,p,hz⟩:=I.list hq;obtain⟨u,hu,ru⟩:=rv.get hx;obtain⟨f0,f1,f2,f3,f4,f5⟩:=hf e (by simp)
  obtain⟨g0,g1,g2,g3,g4,g5⟩:=hf it (by simp)
  refine wpAny_pyNext_enum_item he hit p.isList (x:=u) (by simpa using hu) hne λh1 eo hit1 htup hsz keep1=>?_
  refine⟨_,rfl,wpAny_letOwnedTupleGo_enum eo λh2 en sb=>?_⟩;have hn:=I.hok.fresh (jj _);have elt:=jr he;have keep2:∀ b o,b≠e->b≠it->s.heap.get? b=aA o->h2.get? b=aA o:=λb o n1 n2 q=>(sb.2 b n1).trans (keep1 b o n1 n2 q);have tup2:h2.get? s.heap.objs.size=aA { cls:=.type "tuple",data:=.seq #[.int i s.toks,u] }:=(sb.2 _ (g9 elt)).trans htup;have nH:∀ b v,H b=aA v->b≠e/\b≠it/\b≠s.heap.objs.size:=λb v q=>⟨(λz=>by rw[z,f0] at q; cases q),(λz=>by rw[z,g0] at q; cases q),dA q hn⟩
  have I2:Inv X pc sg (aS H s.heap.objs.size (.tup [.int i,x])) { s with heap:=h2,toks:=s.toks+1 }:=by
   refine I.step (g':=s.gens) (d':=s.drawn) (ch:=[e,it]) (λb hb=>?_) (λb o _ _ hc q _=>keep2 b o (λz=>hc (by simp[z])) (λz=>hc (by simp[z])) q)
    (λb o _ _ hc q _=>⟨o.slots,keep2 b o (λz=>hc (by simp[z])) (λz=>hc (by simp[z])) q⟩) (λb o hc q n=>by rw[au (jH (jr q))]; exact n)
    (λb o hc q=>⟨o,keep2 b o (λz=>hc (by simp[z])) (λz=>hc (by simp[z])) q⟩) (λb ys q=>by rw[au (nH b _ q).2.2]; exact q) (λb o v q=>by rw[au (nH b _ q).2.2]; exact q)
    (λb ps q=>⟨#[],by rw[au (nH b _ q).2.2,q]; simp⟩) (λm hm=>?_) (λb v q=>?_) I.bare
   ·obtain z |z:=jx.mp hb
    ·subst z; exact⟨f3,f1,f4,f5⟩
    ·have z':b=it:=by simpa using z
     subst z'; exact⟨g3,g1,g4,g5⟩
   ·obtain⟨o,es,ep,ho,r⟩:=hm;exact⟨o,es,ep,keep2 _ o (ZE f1) (ZE g1) ho,r⟩
   ·by_cases hb:b=s.heap.objs.size
    ·subst hb;rw[cD] at q;cases q;exact⟨by show 2<=ju; decide,[.int i s.toks,u],.cons ⟨_,rfl⟩ (.cons ru .nil),_,tup2,rfl,_,rfl⟩
    ·rw[au hb] at q;refine(I.hok b v q).stay (λc v' hc q'=>?_) (λc q'=>by rw[au (nH c _ q').2.2]; exact q') λc ys q'=>by rw[au (nH c _ q').2.2]; exact q'
     obtain z |z:=hc
     ·exact keep2 c v' (by rw[z]; exact(nH b v q).1) (by rw[z]; exact(nH b v q).2.1) q'
     ·exact keep2 c v' (nH c _ z).1 (nH c _ z).2.1 q'
  refine⟨.ref s.heap.objs.size,_,I2,rfl,⟨s.heap.objs.size,x,rfl,hn,rfl,λys hy=>by rw[I.list_inj hy hq]; exact hx⟩,⟨⟨_,en⟩,?_⟩,λb hb=>?_⟩
  ·obtain⟨o,ho,r⟩:=hit1;exact⟨o,(sb.2 it (ZE hne)).trans ho,r⟩
  ·obtain z |z:=jx.mp hb
   ·subst z; rw[au (jH elt)]; exact f0
   ·have z':b=it:=by simpa using z
    subst z';obtain⟨o,ho,_⟩:=hit;rw[au (jH (jr ho))]; exact g0
 done:=by
  intro X hP hw hK hc i pc s sg H E I hf st hg;subst hP hw hK;obtain⟨⟨old,he⟩,hit⟩:=st;obtain⟨xs,hq,hx⟩:=hg;obtain⟨its,rv,p,hz⟩:=I.list hq;obtain⟨g0,g1,g2,g3,g4,g5⟩:=hf it (by simp)
  have hl:=rv.length;exact wpAny_pyNext_enum_end (I.ok.hd hc) he hit p.isList (by simp; lia) λh' eb=>⟨rfl,I.turned (t':=s.toks) (λb o hb q=>eb b o hb q) g0 g1 g3 g4 g5⟩
 self:=λ_ _ _ _ _ st h=>by
  obtain⟨⟨old,he⟩,_⟩:=st;exact WY he h
def Ib(K:jd)(ta:TA):TI:=λsg H R=>ta sg H λvs H1=>∃ a,vs=[.ref a]/\(∃ xs,aq K H1 a xs)/\R (HE K a) H1
def P4{elts:List Q5}{x1:Nat}{tp:Pos}{a:Q5}{ta:TA}{p pos:Pos}(hg:Gl X "enumerate")(hm:X.mg "enumerate"=aB)(ha:PA X [a] ta)(hs:jg [a] X.env=[(aD,eval a X.env)]:=by rfl) :
  PI X (.Tuple elts x1 tp) (.Call (.Name "enumerate" p) [a] [] pos) (Ib X.K ta):=by
 intro pc s sg H R I h;refine Call_ (nR I hg hm VF (Qk (aW (ha pos pc s sg H _ I h) λus s1 ⟨vs,H1,I1,r1,q1⟩=>?_) hs rfl));obtain⟨a',rfl,⟨xs,hq⟩,q⟩:=q1;obtain⟨u,rfl,ru⟩:=sk r1;cases ru;obtain⟨its,rv,pl,hz⟩:=I1.list hq;refine call_enumerate_list pl.isList λh' en il hsz kp=>?_;refine WY en ?_;have I2:Inv X pc sg H1 { s1 with heap:=h' }:=I1.kept (t':=s1.toks) kp;refine⟨s1.heap.objs.size+1,[s1.heap.objs.size+1,s1.heap.objs.size],_,_,H1,rfl,I2,TL a' s1.heap.objs.size (s1.heap.objs.size+1) (Nat.succ_ne_self _),⟨⟨_,en⟩,il⟩,λb hb=>?_,q⟩;obtain z |z:=jx.mp hb
 ·subst z; exact I1.fpOk (Z2 _) (I1.hok.fresh (Z2 _))
 ·have z':b=s1.heap.objs.size:=by simpa using z
  subst z'; exact I1.fpOk (jj _) (I1.hok.fresh (jj _))
end
section
variable {R:Jx->jc->Prop}
def VR{kx vx target iter:Q5}{ifs:List Q5}{scope:Y1}{pos:Pos}{it:j8}{D:jv}{env:Env}(I:Nat->jc->Prop)
  (turn:∀ n s,I n s->jT (jR prog w) A (NE it) (λr s1=>match r with
   |none=>R (.ok .next) s1
   | some v=>jT (jR prog w) A (ga target it v) (λ_ s1'=>jT (jR prog w) A (YT target env v) (λ_ s2=>
     jT (jR prog w) A (forIn ifs aC λc r=>if r=aC then do let ok <-JQ c env (eval c env); pure (Ql ok) else pure (Ql r)) (λok s3=>
      if ok=aC then jT (jR prog w) A (eval kx env) (λkv s4=>jT (jR prog w) A (eval vx env) (λvv s5=>
       jT (jR prog w) A (dictSet D kv vv) (λ_ s6=>∃ m,m < n/\I m s6) (λ_ _=>False) s5) (λ_ _=>False) s4) (λ_ _=>False) s3
      else ∃ m,m < n/\I m s3) (λ_ _=>False) s2) (λ_ _=>False) s1') (λ_ _=>False) s1) (λ_ _=>False) s)
  (n:Nat) (h:I n s) :
  Yu (jR prog w) A (.compLoop (.DictComp kx vx [⟨target,iter,ifs,0⟩] scope pos) 0 it (.ref D) env) R s:=by
 refine codeAny_loop rfl I (λn s hI=>?_) n h;show jT _ A ((compTurn (.DictComp kx vx [⟨target,iter,ifs,0⟩] scope pos) 0 it (.ref D) env).onRaise (λx=>do noteFrame x env; theTreesLotGoes x)) _ _ s
 refine wpAny_noted ?_;rw[compTurn_dict];refine j5 (Zk (j5 (jY (turn n s hI) (λr s1 h1=>?_) λ_ _ h'=>h'.elim)));cases r with
 |none=>exact jm h1
 |some v=>
  refine j5 (jY h1 (λ_ s1' h1'=>?_) λ_ _ h'=>h'.elim);refine j5 (jY h1' (λ_ s2 h2=>j5 (jY h2 (λok s3 h3=>?_) λ_ _ h'=>h'.elim)) λ_ _ h'=>h'.elim);cases ok with
  |false=>exact jm ⟨rfl,h3⟩
  |true=>
   exact j5 (j5 (jY h3 (λkv s4 h4=>j5 (Qa (jY h4 (λvv s5 h5=>j5 (Zk (Qa (jY h5 (λ_ s6 h6=>jm ⟨rfl,h6⟩) λ_ _ h'=>h'.elim)))) λ_ _ h'=>h'.elim))) λ_ _ h'=>h'.elim))
end
def HB(J:It)(g:TG)(tt:TT)(tk tv:TE)(sg':St)(Q:VK)(H1:Hp):Prop:=
 ∀ D,H1 D=aB->∃ W:Nat->Nat->Hp->Prop,(∃ m,W 0 m (aS H1 D (.dK [])))/\∀ i m H,W i m H->
  (J.stop i H/\Q (.ref D) H)∨(J.go i H/\∀ x H',J.yld i H x H'->g x sg' H' λs2 H2=>tt s2 H2 λb H3=>if b=aC then
   tk s2 H3 λy H4=>tv s2 H4 λz H5=>∃ kvs k,H5 D=aA (.dK kvs)/\y=kV k/\kvs.length < ju/\∃ m',m' < m/\W (i+1) m' (aS H5 D (.dK (dv kvs k z)))
   else ∃ m',m' < m/\W (i+1) m' H3)
section
variable {tg kx vx iter:Q5}{ifs:List Q5}{wi:TI}{g:TG}{tt:TT}{tk tv:TE}
def Ed{pc:List (jv × Obj)}{sg:St}{H:Hp}{s2:jc}{cl:List (Str × jv)}{it:jv}{fp:List jv}{tn:Nat->QN->Prop}{J:It}{Q:VK}{E:j8->jc->Prop}{RR:j8->jv->Jx->jc->Prop}
  (hc:X.calm=aC) (hcap:capOk N X.N scope X.env.scope caps=aC) (hkind:scope.kind=.function) (hcell:∀ y∈scope.names,y.2≠.cell)
  (hg:∀ cl C s0 H0 fp,PG (bw X N scope cl C s0 H0 fp) tg g) (hgk:ic caps g) (ht:∀ cl C s0 H0 fp,lV (bw X N scope cl C s0 H0 fp) ifs tt) (hk:∀ cl C s0 H0 fp,PE (bw X N scope cl C s0 H0 fp) kx tk) (he:∀ cl C s0 H0 fp,PE (bw X N scope cl C s0 H0 fp) vx tv)
  (hcl1:∀ p∈cl,X.env.cells.lookup p.1=aA p.2) (hcl2:∀ x,(x,Qs)∈scope.names->∃ c,(x,c)∈cl)
  (I2:Inv X pc sg H s2) (T:Turn X.prog X.w X.K tg J fp it tn) (st2:tn 0 s2.heap) (f2:∀ b∈fp,fT X pc H b) (hw:HB J g tt tk tv (cp caps sg) Q H)
  (hRR:∀(D C:jv) (s':jc) (H':Hp) (m':Str->Option j8),Inv X pc sg H' s'->s'.heap.Ns C m'->H' C=aB->s2.heap.objs.size<=C->(∀ x c,X.env.cells.lookup x=aA c->c≠C)->(∀ p∈X.pn++pc,p.1≠C)->C≠X.env.locals->Q (.ref D) H'->RR (.ref D) C (.ok .next) s') :
  jT (jR X.prog X.w) X.A (newDict) (λacc s3=>jT (jR X.prog X.w) X.A (newFunctionEnv scope X.env.globals cl [] X.env.qual aB .none (aA X.env)) (λcenv s4=>
   Yu (jR X.prog X.w) X.A (.compStart (.DictComp kx vx [⟨tg,iter,ifs,0⟩] scope pos) 0 (.ref it) acc { cenv with scope:=JY scope X.env }) (RR acc cenv.locals) s4) E s3) E s2:=by
 refine WX ?_;have I3:Inv X pc sg (aS H s2.heap.objs.size (.dK [])) { s2 with heap:=s2.heap.push { cls:=.type "dict",dict:=aB,data:=.dict #[] } }:=
  I2.laid (t':=s2.toks) (λb u e=>ja _ e) (jj _) (zT s2.heap I2.big)
 have hfree:=I2.hok.fresh (jj _);obtain⟨W,⟨mm,w0⟩,turn⟩:=hw s2.heap.objs.size hfree;generalize hD:s2.heap.objs.size=D at *;generalize hs3:({ s2 with heap:=s2.heap.push { cls:=.type "dict",dict:=aB,data:=.dict #[] } }:jc)=s3 at *;have hlt3:∀ b o,s2.heap.get? b=aA o->s3.heap.get? b=aA o:=λb o e=>by rw[<-hs3]; exact ja _ e
 have hsz3:s3.heap.objs.size=D+1:=by rw[<-hs3,<-hD]; exact Zn ..
 have fpD:∀ b∈fp,b < D:=λb hb=>by
  obtain⟨o,ho,_⟩:=T.obj 0 _ st2 b hb;rw[<-hD]; exact jr ho
 have f3:∀ b∈fp,fT X pc (aS H D (.dK [])) b:=λb hb=>⟨by rw[au (jH (fpD b hb))]; exact(f2 b hb).1,(f2 b hb).2⟩
 have lt3:∀ b∈fp,b < s3.heap.objs.size:=λb hb=>by rw[hsz3]; exact QB (fpD b hb)
 have st3:=T.keep 0 _ _ st2 λb _ o e=>hlt3 b o e;refine Wa hcell (by intro y hy; simp at hy) (λh1 hns1 hsb1=>?_) hkind
 try dsimp only at hns1 hsb1 ⊢
 have keep1:∀ b u,s3.heap.get? b=aA u->h1.get? b=aA u:=λb u e=>hsb1.extBut b u (jH (jr e)) (ja _ e);have I4:=Fm (N:=N) (tk:=s3.toks+([]:List (Str × j8)).length) hcap hkind hcell I3 hcl1 hcl2 f3 lt3 keep1 hns1;have loop:Yu (jR X.prog X.w) X.A (.compLoop (.DictComp kx vx [⟨tg,iter,ifs,0⟩] scope pos) 0 (.ref it) (.ref D) (Jt scope cl s3.heap.objs.size X.env)) (RR (.ref D) s3.heap.objs.size) { s3 with heap:=h1,toks:=s3.toks+([]:List (Str × j8)).length }:=by
  generalize hX':bw X N scope cl s3.heap.objs.size s3 (aS H D (.dK [])) fp=X' at I4;have eP:X'.prog=X.prog:=by rw[<-hX']; rfl
  have ew:X'.w=X.w:=by rw[<-hX']; rfl
  have eK:X'.K=X.K:=by rw[<-hX']; rfl
  have eA:X'.A=X.A:=by rw[<-hX']; rfl
  have eE:X'.env=Jt scope cl s3.heap.objs.size X.env:=by rw[<-hX']; rfl
  have ex:X'.xe=λ_ _=>False:=by rw[<-hX']; rfl
  have ecalm:X'.calm=aC:=by rw[<-hX']; exact hc
  have hg':PG X' tg g:=by rw[<-hX']; exact hg _ _ _ _ _
  have ht':lV X' ifs tt:=by rw[<-hX']; exact ht _ _ _ _ _
  have hk':PE X' kx tk:=by rw[<-hX']; exact hk _ _ _ _ _
  have he':PE X' vx tv:=by rw[<-hX']; exact he _ _ _ _ _
  have stat:∀ {H':Hp},(∀ b∈fp,H' b=aB)->∀ b∈fp,fT X' [] H' b:=λ{H'} hn b hb=>by
   refine⟨hn b hb,?_,?_,?_,?_,λp hp=>?_⟩
   ·rw[<-hX']; exact jH (lt3 b hb)
   ·rw[<-hX'];exact λz=>(tW (N:=N) hkind hcell I3 hcl1 hcl2 f3 lt3).exfs b hb z
   ·rw[<-hX']; exact .inl hb
   ·rw[<-hX'];exact((tW (N:=N) hkind hcell I3 hcl1 hcl2 f3 lt3).exf b hb).2
   ·rw[<-hX'] at hp; cases hp
  have out:∀ {sg':St} {H':Hp} {s':jc},Inv X' [] sg' H' s'->Inv X pc sg H' s':=λ{sg' H' s'} I'=>by
   have hb:=I'.base;rw[<-hX'] at hb;have ho:=I'.os;rw[<-hX'] at ho;have hk:=I'.hok;rw[eP,ew] at hk;exact I3.call' (ch:=fp) ho hb hk I'.bare λb hb=>⟨(f3 b hb).2.2.2.1,(f3 b hb).2.1,(f3 b hb).2.2.2.2.1,(f3 b hb).2.2.2.2.2⟩
  rw[<-eE,<-eA,<-eP,<-ew];refine VR (λn s'=>∃ i H',Inv X' [] (cp caps sg) H' s'/\tn i s'.heap/\(∀ b∈fp,H' b=aB)/\W i n H') ?_ mm
   ⟨0,_,I4,T.keep 0 _ _ st3 λb _ o e=>keep1 b o e,λb hb=>(f3 b hb).1,w0⟩
  rintro n s5 ⟨i,H5,I5,st5,fr5,w5⟩;obtain ⟨stop,q⟩ |⟨go,step⟩:=turn i n H5 w5
  ·have z:=T.done X' eP ew eK ecalm i [] s5 _ H5 (λ_ _=>False) I5 (stat fr5) st5 stop;rw[<-eP,<-ew] at z;refine aW z λr s6 h_=>?_; obtain⟨hr,I6⟩:=h_;subst hr;obtain⟨m',hn',_⟩:=I6.loc;have hfr:=I6.free;rw[eE] at hn' hfr;refine hRR D s3.heap.objs.size s6 H5 m' (out I6) hn' hfr (by rw[hsz3]; exact Z2 _) (λx c e z=>?_) (λp hp z=>?_) (λz=>?_) q
   ·obtain⟨v,o,ho,_⟩:=I3.cell x c e;rw[z] at ho;exact absurd (jr ho) (Q9 _)
   ·have:=jr (I3.pin p hp).1;rw[z] at this;exact absurd this (Q9 _)
   ·have:=I3.lt;rw[<-z] at this;exact absurd this (Q9 _)
  ·have z:=T.item X' eP ew eK ecalm i [] s5 _ H5 (λ_ _=>False) I5 (stat fr5) st5 go;rw[<-eP,<-ew] at z;refine aW z λr s6 h_=>?_; obtain⟨u,hr,h6⟩:=h_;subst hr;dsimp only;refine aW h6 λ_ s7 h_=>?_; obtain⟨x,H7,I7,r7,y7,st7,fr7⟩:=h_;have I7':=I7.pinned (stat fr7) (T.obj _ _ st7);have q7:=step x H7 y7;have a7:=hg' _ s7 (cp caps sg) H7 x u _ I7' r7 (hgk _ _ _ _ q7);rw[ex] at a7;refine aW a7 λ_ s8 h_=>?_; obtain⟨sg8,H8,I8,q8,k8⟩:=h_;have k8':∀(j:Nat) (v:V),(cp caps sg)[j]?=aA (aA v)->sg8[j]?=aA (aA v):=λj v e=>by
    have e':=e;unfold cp at e';rw[jf] at e';cases hc:caps[j]? with
    |none=>rw[hc] at e'; simp at e'
    |some o=>
     cases o with
     |none=>rw[hc] at e'; simp at e'
     |some k=>rw[k8 j k hc]; exact e
   have a8:=ht' _ s8 sg8 H8 _ I8 q8;rw[ex] at a8;refine aW a8 λok s9 h_=>?_; obtain⟨H9,I9,q9⟩:=h_;have U9:∀ {sg':St} {H':Hp} {s':jc} {m':Nat},Inv X' ([]++rN fp s7.heap) sg' H' s'->(∀(j:Nat) (v:V),(cp caps sg)[j]?=aA (aA v)->sg'[j]?=aA (aA v))->m' < n->W (i+1) m' H'->
     ∃ m,m < n/\∃ i H',Inv X' [] (cp caps sg) H' s'/\tn i s'.heap/\(∀ b∈fp,H' b=aB)/\W i m H':=λ{sg' H' s' m'} I' hs hm hw=>by
    refine⟨m',hm,i+1,H',I'.unpinned.forget (I4.len.trans I'.len.symm) hs,T.keep _ _ _ st7 λb hb o e=>(I'.pin (b,o) (jw _ (jw _ (rh hb e)))).1,λb hb=>?_,hw⟩;obtain⟨o,e,d⟩:=T.obj _ _ st7 b hb;exact(I'.pin (b,o) (jw _ (jw _ (rh hb e)))).2.1
   cases ok with
   |false=>
    obtain⟨m',hm,w9⟩:=q9;exact U9 I9 k8' hm w9
   |true=>
    have a9:=hk' _ s9 sg8 H9 _ I9 q9;rw[ex] at a9;refine aW a9 λkv s10 h_=>?_; obtain⟨y,H10,I10,r10,q10⟩:=h_;have a10:=he' _ s10 sg8 H10 _ I10 q10;rw[ex] at a10;refine aW a10 λvv s11 h_=>?_; obtain⟨z,H11,I11,r11,kvs,k,hD',ey,hz,m',hm,w11⟩:=h_;subst ey;obtain⟨zz,hdd,vs,rel,dd⟩:=uh I11.hok hD';have hvz:vs.length<=ju:=by rw[<-rel.length]; exact zz
    have hl:(dv kvs k z).length<=ju:=by have:=tq kvs k z; lia
    refine wpAny_dictSet_pairs (hsz:=hvz) (oJ r10) dd λh' dd' hs=>?_;have he2:∃ q,h'.get? D=aA q:=let ⟨q,_,_,hq,_⟩:=dd'; ⟨q,hq⟩
    have I12:=t8 (t':=s11.toks+1) I11 (by rw[hD']; exact Y5) hs he2 (yT hl hdd (rel.put k r11) dd')
    exact U9 I12 k8' hm w11
 exact codeAny_compStart_dict loop (T.self _ _ _ _ _ (T.keep 0 _ _ st3 λb _ o e=>keep1 b o e) loop)
def qm(caps:af)(wi:TI)(g:TG)(tt:TT)(tk tv:TE):TE:=λsg H Q=>wi sg H λJ H1=>HB J g tt tk tv (cp caps sg) Q H1
def Iz(hc:X.calm=aC)(hi:PI X tg iter wi)(hg:∀ cl C s0 H0 fp,PG (bw X N scope cl C s0 H0 fp) tg g)(hgk:ic caps g)(ht:∀ cl C s0 H0 fp,lV (bw X N scope cl C s0 H0 fp) ifs tt)(hk:∀ cl C s0 H0 fp,PE (bw X N scope cl C s0 H0 fp) kx tk)(he:∀ cl C s0 H0 fp,PE (bw X N scope cl C s0 H0 fp) vx tv)
  (hcap:capOk N X.N scope X.env.scope caps=aC:=by rfl) (hkind:scope.kind=.function:=by rfl) (hcell:scope.names.all (λp=>p.2 != .cell)=aC:=by rfl)
  (hnames:scope.names.all (λp=>p.2 != .local||scope.names.lookup p.1 == aA .local)=aC:=by rfl)
  (hfr:scope.names.all (λp=>p.2 != .free||(X.env.scope.names.lookup p.1 == aA .cell||X.env.scope.names.lookup p.1 == aA .free))=aC:=by rfl)
  (hs:∀ x,Qz iter X.env x=pure x:=by intro _; rfl):PE X (.DictComp kx vx [⟨tg,iter,ifs,0⟩] scope pos) (qm caps wi g tt tk tv):=by
 intro pc s sg H Q I h;have hcell':∀ y∈scope.names,y.2≠.cell:=λy hy=>by simpa using jB.mp hcell y hy
 have hnames':∀ x∈scope.names,x.2=.local->scope.names.lookup x.1=aA .local:=λx hx e=>by
  have q:=jB.mp hnames x hx;rw[e] at q;simpa using q
 obtain⟨cl,hclos,hcl1,hcl2⟩:=wU (scope:=scope) (env:=X.env) (vp I.ok hfr);rw[arm_eval_DictComp];refine ZH (use:=aB) rfl hs hclos hkind hnames' (aW (hi pc s sg H _ I h) λv s1 h1=>aW h1 λitv s2 h2=>?_);obtain⟨it,fp,tn,J,H2,e,I2,T,st2,f2,hw⟩:=h2;subst e;refine Ed (RR:=λacc C=>U0 (jR X.prog X.w) X.A X.xe aB (EP X pc sg Q) acc C) hc hcap hkind hcell' hg hgk ht hk he hcl1 hcl2 I2 T st2 f2 hw ?_;intro D C s' H' m' I' hn hfree hCs hCc hCp hCl q;refine⟨m',hn,λh' hs'=>⟨.ref D,H',?_,rfl,q⟩⟩;exact I'.turned (t':=s'.toks) (it:=C) (λb o hb e=>(hs'.2 b hb).trans e) hfree hCl (.inr (Qc I2.sz hCs)) hCc hCp
def SH{i:Nat}{y:Str}{py spos:Pos}(hN:X.N.Nodup)(hiy:X.N[i]?=aA y)(hy:X.env.scope.names.lookup y=aA .local)(hc:X.calm=aC)(hi:PI X tg iter wi)(hg:∀ cl C s0 H0 fp,PG (bw X N scope cl C s0 H0 fp) tg g)(hgk:ic caps g)(ht:∀ cl C s0 H0 fp,lV (bw X N scope cl C s0 H0 fp) ifs tt)(hk:∀ cl C s0 H0 fp,PE (bw X N scope cl C s0 H0 fp) kx tk)(he:∀ cl C s0 H0 fp,PE (bw X N scope cl C s0 H0 fp) vx tv)
  (hsw:ZZ (.DictComp kx vx [⟨tg,iter,ifs,0⟩] scope pos) (aA (.Name y py)) spos.line X.env=pure aC:=by rfl)
  (hcap:capOk N X.N scope X.env.scope caps=aC:=by rfl) (hkind:scope.kind=.function:=by rfl) (hcell:scope.names.all (λp=>p.2 != .cell)=aC:=by rfl)
  (hnames:scope.names.all (λp=>p.2 != .local||scope.names.lookup p.1 == aA .local)=aC:=by rfl)
  (hfr:scope.names.all (λp=>p.2 != .free||(X.env.scope.names.lookup p.1 == aA .cell||X.env.scope.names.lookup p.1 == aA .free))=aC:=by rfl)
  (hs:∀ x,Qz iter X.env x=pure x:=by intro _; rfl):PS X (.Assign [.Name y py] (.DictComp kx vx [⟨tg,iter,ifs,0⟩] scope pos) spos) (ef (qm caps wi g tt tk tv) (eS i)):=by
 intro pc s sg H D0 I h;have hcell':∀ y∈scope.names,y.2≠.cell:=λy hy=>by simpa using jB.mp hcell y hy
 have hnames':∀ x∈scope.names,x.2=.local->scope.names.lookup x.1=aA .local:=λx hx e=>by
  have q:=jB.mp hnames x hx;rw[e] at q;simpa using q
 obtain⟨cl,hclos,hcl1,hcl2⟩:=wU (scope:=scope) (env:=X.env) (vp I.ok hfr);rw[NI _ _ _ _ hsw];refine j5 (Zk (j5 ?_))
 refine j5 (jY (ZH (use:=aA (YT (.Name y py) X.env)) (Q:=λ_ s'=>SP X pc D0 .next s') rfl hs hclos hkind hnames'
  (aW (hi pc s sg H _ I h) λv s1 h1=>aW h1 λitv s2 h2=>?_)) (λ_ s' hq=>jm (jm hq)) λ_ _ e=>e)
 obtain⟨it,fp,tn,J,H2,e,I2,T,st2,f2,hw⟩:=h2;subst e;refine Ed (Q:=λx H1=>eS i x sg H1 D0.nx) (RR:=λacc C=>U0 (jR X.prog X.w) X.A X.xe (aA (YT (.Name y py) X.env)) (λ_ s'=>SP X pc D0 .next s') acc C) hc hcap hkind hcell' hg hgk ht hk he hcl1 hcl2 I2 T st2 f2 hw ?_
 intro D C s' H' m' I' hn hfree hCs hCc hCp hCl q;refine YU (zx I' hN hiy (.inl hy) (v:=.ref D) rfl (λs3 I3 ⟨a,hs3,ha⟩=>?_) (.inr hy));have hCa:C≠a:=by
  obtain z |z:=ha
  ·rw[z]; exact hCl
  ·exact λz'=>hCc y a z z'.symm
 refine⟨m',hn.sameBut hs3 hCa,λh' hs'=>?_⟩;exact⟨_,H',I3.turned (t':=s3.toks) (it:=C) (λb o hb e=>(hs'.2 b hb).trans e) hfree hCl (.inr (Qc I2.sz hCs)) hCc hCp,q⟩
end
section
def ET{k:aL}{v:j8}(h:qF k v=aC):RelV (kV k) v:=by
 obtain ⟨i,t,rfl,rfl⟩ |⟨x,t,rfl,rfl⟩:=n6 h
 ·exact⟨t,rfl⟩
 ·exact⟨t,rfl⟩
def GJ:∀ {xs:List V} {us:List j8},xs.length=us.length->(∀(j:Nat) x u,xs[j]?=aA x->us[j]?=aA u->RelV x u)->Vals xs us:=by
 intro xs
 induction xs with
 |nil=>
  intro us hl _;cases us with
  |nil=>exact .nil
  |cons _ _=>cases hl
 |cons x xs ih=>
  intro us hl h;cases us with
  |nil=>cases hl
  |cons u us=>exact .cons (h 0 x u rfl rfl) (ih (Jd hl) λj y v e1 e2=>h (j+1) y v e1 e2)
def Di{κ:Type}{kvs:List (κ × V)}{vs:List (κ × j8)}{j:Nat}{p:κ × V}(h:KV kvs vs):kvs[j]?=aA p->∃ q,vs[j]?=aA q/\p.1=q.1/\RelV p.2 q.2:=by
 induction h generalizing j with
 |nil=>intro e; cases e
 |cons r t ih=>
  intro e;cases j with
  |zero=>obtain rfl:=jh e; exact⟨_,rfl,r⟩
  |succ j=>exact ih (j:=j) e
def X2(hc:X.calm=aC):CallR X (.type "list") (λxs H Q=>∃ a kvs,xs=[V.ref a]/\Rd H a (.dK kvs)/\∀ l,H l=aB->Q (.ref l) (aS H l (.lst (kvs.map λkv=>kV kv.1)))):=by
 intro pc s σ H xs us Q I rv h;obtain⟨a,kvs,rfl,e,q⟩:=h;obtain⟨u,rfl,ru⟩:=rv.one;cases ru;obtain⟨z,hd,vs,rel,dd⟩:=nJ I.hok e;have hl:vs.length<=ju:=by rw[<-rel.length]; exact z
 obtain⟨ep,da⟩:=dd.dictAt;refine PySem.W.kdl_call (PySem.W.kdl_dict (knd:=f7 X.prog X.w) (kvs:=vs) (ep:=ep) hd) (I.ok.hd hc) da hl λh' tk acc c hk hnew hit=>?_;have hv:Vals (kvs.map λkv=>kV kv.1) acc.toList:=by
  refine GJ (by have h1:=hit.1; have h2:=rel.length; simp only[j4,QK]; lia) λj x u e1 e2=>?_
  rw[jf] at e1;obtain⟨p,h1,h2⟩:=Qm e1;obtain⟨k,y,h3,h4⟩:=hit.2 j u (by simpa using e2)
  obtain⟨w,h5,h6⟩:=Di rel h1;rw[h3] at h5;injection h5 with h5;subst h5 h2;rw[h6.1];exact ET h4
 exact⟨.ref _,_,I.laid (a:=s.heap.objs.size) (o:=.lst (kvs.map λkv=>kV kv.1)) (t':=tk) hk (jj _) ⟨by rw[j4]; exact z,acc.toList,c,hv,by rw[hnew]⟩,rfl,q _ (I.hok.fresh (jj _))⟩
end
section
variable {e:Q5}{te:TE}{p2:Pos}
def Hn(K:jd)(te:TE)(ts:TO):TE:=fun σ H Q=>te σ H λx H1=>ts σ H1 λk H2=>k=aA (-1)/\∃ a xs,x=.ref a/\aq K H2 a xs/\∀ p,H2 p=aB->Q (.ref p) (aS H2 p (.lst xs.reverse))
def MF{st:Q5}{ts:TO}(he:PE X e te)(hs:PO X (aA st) ts):PE X (.Subscript e (.Slice aB aB (aA st) p2) pos) (Hn X.K te ts):=by
 intro pc s σ H Q I h;refine WR (aW (he pc s σ H _ I h) λv s1 h_=>?_); obtain⟨x,H1,I1,r1,q1⟩:=h_;refine wpAny_Slice ?_;rw[WA];refine jm (jm (aW (hs pc s1 σ H1 _ I1 q1) λvk s3 h_=>?_)); obtain⟨k,H3,I3,pk,q3⟩:=h_;obtain⟨rfl,a,xs,rfl,hx,q⟩:=q3;cases r1;have I4:Inv X pc σ H3 { s3 with heap:=s3.heap.push { cls:=.type "slice",data:=.fields #[.none,.none,vk] } }:=I3.kept (t':=s3.toks) λb ob q=>ja _ q;obtain⟨its,r,ht,hz⟩:=I4.list hx;have hlen:=r.length;refine tail_any (ops:=[.ref a,.ref s3.heap.objs.size]) ht.isList.typeIs YX.lookup ?_ (by with_unfolding_all rfl)
 refine YY ht.isList (WB ..) .none .none pk (by decide) ?_ (by rw[jt]<;>lia)
 rw[PySem.W.krv_pick];refine⟨.ref _,_,I4.laid (t':=s3.toks) (o:=.lst xs.reverse) (λb ob q=>ja _ q) (jj _) ?_,rfl,q _ (I4.hok.fresh (jj _))⟩;exact⟨by rw[Wp]; exact hz,_,0,r.reverse,jL _ rfl⟩
end
section
variable {a:Q5}{ta:TA}{p p' pos':Pos}
def Xh(ta:TA):TE:=fun σ H Q=>ta σ H λvs H1=>∃ j:Int,vs=[.int j]/\-(2 ^ 62)<=j/\j<=16777216/\∀ l,H1 l=aB->Q (.ref l) (aS H1 l (.lst ((j7 j.toNat).map fun(k:Nat)=>V.int k)))
def Va(hc:X.calm=aC)(hg:Gl X "list")(hm:X.mg "list"=aB)(hg':Gl X "range")(hm':X.mg "range"=aB)(ha:PA X [a] ta)(hs:jg [a] X.env=[(aD,eval a X.env)]:=by rfl)
  (hs':jg [.Call (.Name "range" p') [a] [] pos'] X.env=[(aD,eval (.Call (.Name "range" p') [a] [] pos') X.env)]:=by rfl) :
  PE X (.Call (.Name "list" p) [.Call (.Name "range" p') [a] [] pos'] [] pos) (Xh ta):=by
 intro pc s σ H Q I h;refine Call_ (nR I hg hm boot_list (Qk ?_ hs' rfl));rw[hs'];refine gL (Call_ (nR I hg' hm' JR (Qk (aW (ha pos' pc s σ H _ I h) λus s1 ⟨vs,H1,I1,r1,q1⟩=>?_) hs rfl)));obtain⟨j,e,q1,q2,q⟩:=q1;subst e;cases r1 with
 |cons r rr=>
  cases rr;obtain⟨t,rfl⟩:=r;refine call_range_1 (YV ?_);have I2:Inv X pc σ H1 { s1 with heap:=s1.heap.push { cls:=.type "range",data:=.fields #[.int 0 s1.toks,.int j t,.int 1 (s1.toks+1)] },toks:=s1.toks+1+1 }:=I1.kept λb o e=>ja _ e;have hn:Nf 0 j 1=(j.toNat:Int):=by rw[rangeSize_one]; split<;>lia
  refine call_list_range (I2.ok.hd hc) (Uh ..) (small_one (by lia) (by lia) q1 (by lia)) hn (by lia) λh' tk acc c hk hnew hit=>?_
  have hv:Vals ((j7 j.toNat).map fun(k:Nat)=>V.int k) acc.toList:=by
   refine GJ (by have h1:=hit.1; simp only[j4,QC,QK]; lia) λi x u e1 e2=>?_
   rw[jf] at e1;obtain⟨k,h1,h2⟩:=Qm e1;obtain⟨tk',h3⟩:=hit.2 i u (by simpa using e2)
   obtain⟨h4,rfl⟩:=j6.mp h1;subst h2 h3;rw[ZW];exact⟨tk',by rw[NJ,Int.mul_one]⟩
  exact⟨.ref _,_,I2.laid (o:=.lst ((j7 j.toNat).map fun(k:Nat)=>V.int k)) (t':=tk) hk (jj _) ⟨by rw[j4,QC,Zi]; lia,acc.toList,c,hv,by rw[hnew]⟩,rfl,q _ (I2.hok.fresh (jj _))⟩
end
end L2
namespace Dw
open PySem PySem.Spec PyProof.Rows L2
def Sx(l:ak):Str:=⟨l.toArray⟩
def t5(l:ak):(Sx l).cps.toList=l:=by simp[Sx]
def qO(l:ak):(Sx l).length=l.length:=by simp[Sx,Str.length]
def DD{l m:ak}(h:Sx l=Sx m):l=m:=by
 have:=congrArg (λx=>x.cps.toList) h;simpa[Sx] using this
def Ly(l m:ak):Sx l++Sx m=Sx (l++m):=by
 show Str.mk _=_;simp[Sx]
def K8(l:ak){j:Int}(h0:0<=j)(h:j<=l.length):YZ (Sx l) aB (aA j)=Sx (l.take j.toNat):=by
 have:=slice_closes_to (x:=Sx l) (j:=j) ⟨h0,by rw[t5]; exact h⟩
 rw[eq_of_beq this,t5];simp[Sx]
def Oc(l:ak){j:Int}(h0:0<=j)(h:j<=l.length):YZ (Sx l) (aA j) aB=Sx (l.drop j.toNat):=by
 have:=slice_closes_from (x:=Sx l) (i:=j) ⟨h0,by rw[t5]; exact h⟩
 rw[eq_of_beq this,t5,jZ (by rw[QY]; lia)]
 rfl
def lK(x:Str):Prop:=1<=x.length/\x.length<=8/\∀ c∈x.cps.toList,97<=c/\c<=122
abbrev letters:Str:="abcdefghijklmnopqrstuvwxyz"
def UB{i:Int}(h0:0<=i)(h:i < 26):dU letters.cps.toList i=aA (97+i.toNat):=by
 have key:∀ j:Nat,j < 26->letters.cps.toList[j]?=aA (97+j):=by decide +kernel
 have ek:i=((i.toNat:Nat):Int):=by lia
 have q:=Od (key i.toNat (by lia))
 rw[<-ek] at q;exact q
def UX:letters.length<=ju:=by decide +kernel
structure Pairing (ps:ak) (n:Nat):Prop where
 len:ps.length=2*n
 lt:∀ k∈ps,k < n
 two:∀ k,k < n->ps.count k=2
structure Half (pl:af) (n i:Nat):Prop where
 len:pl.length=2*n
 lt:∀ k,aA k∈pl->k < i
 two:∀ k,k < i->pl.count (aA k)=2
 free:pl.count aB+2*i=2*n
def Half.start(n:Nat):Half (QP (2*n) aB) n 0:=by
 refine⟨Y7 ..,λk hk=>?_,λk hk=>absurd hk (Zc k),?_⟩
 ·have:=N0 hk;cases this
 ·rw[List.count_replicate_self]; lia
def Ap{α β:Type}[BEq α][LawfulBEq α][BEq β][LawfulBEq β]{f:α->β}(hf:∀ a b,f a=f b->a=b)(x:α):∀ l:List α,(l.map f).count (f x)=l.count x
 |[]=>rfl
 |a::r=>by
  rw[jp,gb,gb,Ap hf x r]
  by_cases e:a=x
  ·subst e; simp
  ·have e1:(a == x)=aD:=by simpa using e
   have e2:(f a == f x)=aD:=by simpa using λz=>e (hf _ _ z)
   rw[e1,e2]
def qU{l:aj}{k:Nat}(h:k < l.length):l.getD k jC=l[k]:=by
 simp[List.getD,j3 h]
def Half.next{pl:af}{n i f0 f1:Nat}(h:Half pl n i)(hi:i < n)(h0:pl[f0]?=aA aB)(h1:pl[f1]?=aA aB)(hne:f0≠f1):Half ((pl.set f1 (aA i)).set f0 (aA i)) n (i+1):=by
 obtain⟨l1,e1⟩:=j6.mp h1;have h0':(pl.set f1 (aA i))[f0]?=aA aB:=by rw[jq (ZE hne)]; exact h0
 obtain⟨l0,e0⟩:=j6.mp h0';have ci:pl.count (aA i)=0:=by
  refine gP.mpr λhm=>?_;exact absurd (h.lt i hm) (Q9 _)
 have cn:=h.free;have key:∀ x,((pl.set f1 (aA i)).set f0 (aA i)).count x=pl.count x - (if (aB:Option Nat) == x then 1 else 0)+(if aA i == x then 1 else 0) - (if (aB:Option Nat) == x then 1 else 0)+(if aA i == x then 1 else 0):=λx=>by
  rw[JJ l0,e0,JJ l1,e1]
 refine⟨by rw[Qi,Qi]; exact h.len,λk hk=>?_,λk hk=>?_,?_⟩
 ·obtain z |z:=YO hk
  ·obtain z |z:=YO z
   ·exact QB (h.lt k z)
   ·cases z; exact Zj _
  ·cases z; exact Zj _
 ·rw[key]
  by_cases e:k=i
  ·subst e;rw[ci];simp
  ·have:(aA i == aA k)=aD:=by simpa using λz=>e z.symm
   rw[this];simpa using h.two k (by lia)
 ·rw[key];have:(aA i == (aB:Option Nat))=aD:=rfl;rw[this];have:((aB:Option Nat) == aB)=aC:=rfl;rw[this];simp only[if_true,Zf,if_false];lia
def Half.done{pl:af}{n:Nat}(h:Half pl n n):∃ ps:ak,Pairing ps n/\pl=ps.map aA:=by
 have hz:pl.count aB=0:=by have:=h.free; lia
 have hn:aB∉pl:=gP.mp hz;obtain⟨ps,rfl⟩:∃ ps:ak,pl=ps.map aA:=by
  clear h hz
  induction pl with
  |nil=>exact⟨[],rfl⟩
  |cons o r ih=>
   obtain⟨ps,rfl⟩:=ih λz=>hn (jA _ z);cases o with
   |none=>exact absurd jV hn
   |some j=>exact⟨j::ps,rfl⟩
 refine⟨ps,⟨by have:=h.len; rwa [j4] at this,λk hk=>h.lt k (List.mem_map_of_mem hk),λk hk=>?_⟩,rfl⟩
 have:=h.two k hk
 rwa [Ap (λa b z=>jh z)] at this
def Pairing.put{ps sh:ak}{n m t:Nat}(h:Pairing ps n)(hs:Pairing sh m):Pairing (ps.take t++(sh.map λk=>n+k)++ps.drop t) (n+m):=by
 have perm:List.Perm (ps.take t++(sh.map λk=>n+k)++ps.drop t) (ps++sh.map λk=>n+k):=by
  rw[Qn];have:List.Perm (ps.take t++((sh.map λk=>n+k)++ps.drop t)) (ps.take t++(ps.drop t++(sh.map λk=>n+k))):=NK _ List.perm_append_comm;refine this.trans ?_;rw[<-Qn,Zd]
 refine⟨?_,λk hk=>?_,λk hk=>?_⟩
 ·rw[perm.length_eq,jk,j4,h.len,hs.len]; lia
 ·obtain z |z:=jn.mp (perm.mem_iff.mp hk)
  ·have:=h.lt k z; lia
  ·obtain⟨j,hj,rfl⟩:=jz.mp z;have:=hs.lt j hj; lia
 ·rw[perm.count_eq,List.count_append]
  by_cases c:k < n
  ·rw[h.two k c];have:(sh.map λk=>n+k).count k=0:=gP.mpr λhm=>by
    obtain⟨j,_,e⟩:=jz.mp hm;lia
   rw[this]
  ·have e1:ps.count k=0:=gP.mpr λhm=>c (h.lt k hm);obtain⟨j,rfl⟩:∃ j,k=n+j:=⟨k - n,by lia⟩
   rw[e1,Ap (f:=λk=>n+k) (λa b (z:n+a=n+b)=>by lia) j sh,hs.two j (by lia)]
def Pairing.nil:Pairing [] 0:=⟨rfl,(λk hk=>by cases hk),λk hk=>absurd hk (Zc k)⟩
def Pairing.of_dec{ps:ak}{n:Nat}(h1:ps.length=2*n)(h2:ps.all (λk=>aE (k < n))=aC)(h3:(j7 n).all (λk=>aE (ps.count k=2))=aC):Pairing ps n:=
 ⟨h1,λk hk=>of_decide_eq_true (jB.mp h2 k hk),λk hk=>of_decide_eq_true (jB.mp h3 k (je.mpr hk))⟩
structure GoodWord (wd:aj):Prop where
 name:∀ x∈wd,lK x
 two:∀ x∈wd,wd.count x=2
 len:wd.length<=60
def Fy{names:aj}{ps:ak}{n:Nat}(hn:n<=30)(hl:names.length=n)(hd:names.Nodup)(hN:∀ x∈names,lK x)(hp:Pairing ps n):GoodWord (ps.map λk=>names.getD k jC):=by
 have inj:∀ j k,j < n->k < n->names.getD j jC=names.getD k jC->j=k:=λj k hj hk e=>by
  rw[qU (by lia),qU (by lia)] at e
  exact(gB hd).mp e
 have memn:∀ k,k < n->names.getD k jC∈names:=λk hk=>by
  rw[qU (by lia)]
  exact jU _
 have cnt:∀(l:ak),(∀ k∈l,k < n)->∀ k,k < n->(l.map λk=>names.getD k jC).count (names.getD k jC)=l.count k:=by
  intro l
  induction l with
  |nil=>intro _ _ _; rfl
  |cons j r ih=>
   intro hl' k hk;rw[jp,gb,gb,ih (λk hk=>hl' k (jA _ hk)) k hk]
   by_cases e:j=k
   ·subst e; simp
   ·have e1:(j == k)=aD:=by simpa using e
    have e2:(names.getD j jC == names.getD k jC)=aD:=by
     simp only[beq_eq_false_iff_ne,ne_eq];exact λz=>e (inj j k (hl' j jV) hk z)
    rw[e1,e2]
 refine⟨λx hx=>?_,λx hx=>?_,?_⟩
 ·obtain⟨k,hk,rfl⟩:=jz.mp hx;exact hN _ (memn k (hp.lt k hk))
 ·obtain⟨k,hk,rfl⟩:=jz.mp hx;rw[cnt ps hp.lt k (hp.lt k hk),hp.two k (hp.lt k hk)]
 ·rw[j4,hp.len]; lia
def cJ(wd:aj)(x:Str):ak:=(j7 wd.length).filter λj=>aE (wd[j]?=aA x)
def AR(wd:aj)(x:Str):(cJ wd x).length=wd.count x:=by
 unfold cJ
 induction wd with
 |nil=>rfl
 |cons o r ih=>
  rw[jo,gV,Zt,NL,gb];have e:((j7 r.length).filter ((λj=>aE ((o::r)[j]?=aA x))∘Nat.succ))=(j7 r.length).filter λj=>aE (r[j]?=aA x):=rfl;rw[e]
  by_cases h:o=x
  ·subst h;rw[aI (by simp),jo,j4,ih]
   simp
  ·rw[aH (by simpa using h),j4,ih]
   simp[h]
def qk{wd:aj}{x:Str}{i j:Nat}(h:cJ wd x=[i,j]):i < j/\j < wd.length:=by
 have hs:(cJ wd x).Pairwise (· < ·):=NM List.filter_sublist Zr
 rw[h] at hs;have hm:j∈cJ wd x:=by rw[h]; simp
 refine⟨?_,je.mp (jQ.mp hm).1⟩;simpa using hs
def GoodWord.places{wd:aj}(g:GoodWord wd){x:Str}(hx:x∈wd):∃ i j,cJ wd x=[i,j]:=by
 have hl:=AR wd x;rw[g.two x hx] at hl
 match h:cJ wd x,hl with
 |[i,j],_=>exact⟨i,j,rfl⟩
def iY(wd:aj)(i j:Nat):aj:=(wd.drop (i+1)).take (j - (i+1))
def dE(acc:aj)(x:Str):aj:=if x∈acc then acc else acc++[x]
def aK(wd:aj):aj:=wd.foldl dE []
def UT{wd:aj}{i:Nat}{x:Str}(h:wd[i]?=aA x):aK (wd.take (i+1))=dE (aK (wd.take i)) x:=by
 unfold aK;rw[ZT,h,Option.toList_some,N1];rfl
def Fn:∀(wd acc:aj),(wd.foldl dE acc).length<=acc.length+wd.length
 |[],acc=>by simp
 |x::wd,acc=>by
  rw[QU];have:=Fn wd (dE acc x);have h:(dE acc x).length<=acc.length+1:=by unfold dE; split<;>simp
  rw[jo];lia
end Dw
namespace L3
open PySem PySem.Spec PyProof.Rows L2
class TheK where
 K:jd
variable [TheK]
inductive T where
 |non |bl (b:Bool) |int (i:Int) |str (x:Str)
 |lst (xs:List T) |tup (xs:List T) |dct (kvs:List (aL × T)) |set (S:Int->Bool) (n:Nat)
 /-- a dict that will not be changed any more: it may be walked -/
 |fd (kvs:List (aL × T))
 /-- the script -/
 |scr (ns:am)
 /-- nothing is known -/
 |any
abbrev Sg:=List (Option T)
inductive Rep (C:jv->Prop) (H:Hp):V->T->Prop
 |non:Rep C H .non .non
 |bl (b:Bool):Rep C H (.bl b) (.bl b)
 |int (i:Int):Rep C H (.int i) (.int i)
 |str (x:Str):Rep C H (.str x) (.str x)
 |lst {a:jv} {vs:List V} {ts:List T} (c:C a) (r:H a=aA (.lst vs)) (l:vs.length=ts.length) (h:∀(i:Nat) v t,vs[i]?=aA v->ts[i]?=aA t->Rep C H v t):Rep C H (.ref a) (.lst ts)
 |tup {a:jv} {vs:List V} {ts:List T} (c:C a) (r:H a=aA (.tup vs)) (l:vs.length=ts.length) (h:∀(i:Nat) v t,vs[i]?=aA v->ts[i]?=aA t->Rep C H v t):Rep C H (.ref a) (.tup ts)
 |dct {a:jv} {kvs:List (aL × V)} {ts:List (aL × T)} (c:C a) (r:H a=aA (.dK kvs)) (l:kvs.map (·.1)=ts.map (·.1)) (h:∀(i:Nat) v t,kvs[i]?=aA v->ts[i]?=aA t->Rep C H v.2 t.2):Rep C H (.ref a) (.dct ts)
 |set {a:jv} {S:Int->Bool} {n:Nat} (c:C a) (r:H a=aA (.set S n)):Rep C H (.ref a) (.set S n)
 |fd {a:jv} {o:Obj} {kvs:List (aL × V)} {ts:List (aL × T)} (c:C a) (r:H a=aA (.frz o (.dK kvs))) (l:kvs.map (·.1)=ts.map (·.1)) (h:∀(i:Nat) v t,kvs[i]?=aA v->ts[i]?=aA t->Rep C H v.2 t.2):Rep C H (.ref a) (.fd ts)
 |scr {a:jv} {ns:am} {o:Obj} (c:C a) (r:H a=aA (.frz o (.lst (ns.map V.int)))):Rep C H (.ref a) (.scr ns)
 /-- the script,as an object of the module -/
 |scrK {a:jv} {ns:am} (r:∀ H',aq TheK.K H' a (ns.map V.int)):Rep C H (.ref a) (.scr ns)
 |any {v:V}:Rep C H v .any
def Reps(C:jv->Prop)(H:Hp)(vs:List V)(ts:List T):Prop:=vs.length=ts.length/\∀(i:Nat) v t,vs[i]?=aA v->ts[i]?=aA t->Rep C H v t
def RepK(C:jv->Prop)(H:Hp)(vs:List (aL × V))(ts:List (aL × T)):Prop:=vs.map (·.1)=ts.map (·.1)/\∀(i:Nat) v t,vs[i]?=aA v->ts[i]?=aA t->Rep C H v.2 t.2
section
variable {C C':jv->Prop}{H H':Hp}{v:V}{t:T}{vs:List V}{ts:List T}
def Rep.mono(h:Rep C H v t)(hc:∀ a,C a->C' a)(hh:∀ a o,C a->H a=aA o->H' a=aA o):Rep C' H' v t:=by
 induction h with
 |non=>exact .non
 |bl b=>exact .bl b
 |int i=>exact .int i
 |str x=>exact .str x
 |lst c r l h ih=>exact .lst (hc _ c) (hh _ _ c r) l ih
 |tup c r l h ih=>exact .tup (hc _ c) (hh _ _ c r) l ih
 |dct c r l h ih=>exact .dct (hc _ c) (hh _ _ c r) l ih
 |set c r=>exact .set (hc _ c) (hh _ _ c r)
 |fd c r l h ih=>exact .fd (hc _ c) (hh _ _ c r) l ih
 |scr c r=>exact .scr (hc _ c) (hh _ _ c r)
 |scrK r=>exact .scrK r
 |any=>exact .any
def Rep.there(h:Rep C H v t):Rep (λa=>C a/\H a≠aB) H v t:=by
 induction h with
 |non=>exact .non
 |bl b=>exact .bl b
 |int i=>exact .int i
 |str x=>exact .str x
 |lst c r l h ih=>exact .lst ⟨c,by rw[r]; simp⟩ r l ih
 |tup c r l h ih=>exact .tup ⟨c,by rw[r]; simp⟩ r l ih
 |dct c r l h ih=>exact .dct ⟨c,by rw[r]; simp⟩ r l ih
 |set c r=>exact .set ⟨c,by rw[r]; simp⟩ r
 |fd c r l h ih=>exact .fd ⟨c,by rw[r]; simp⟩ r l ih
 |scr c r=>exact .scr ⟨c,by rw[r]; simp⟩ r
 |scrK r=>exact .scrK r
 |any=>exact .any
def Reps.mono(h:Reps C H vs ts)(hc:∀ a,C a->C' a)(hh:∀ a o,C a->H a=aA o->H' a=aA o):Reps C' H' vs ts:=⟨h.1,λi v t e1 e2=>(h.2 i v t e1 e2).mono hc hh⟩
def RepK.mono{ks:List (aL × V)}{kt:List (aL × T)}(h:RepK C H ks kt)(hc:∀ a,C a->C' a)(hh:∀ a o,C a->H a=aA o->H' a=aA o):RepK C' H' ks kt:=⟨h.1,λi v t e1 e2=>(h.2 i v t e1 e2).mono hc hh⟩
def Reps.there(h:Reps C H vs ts):Reps (λa=>C a/\H a≠aB) H vs ts:=⟨h.1,λi v t e1 e2=>(h.2 i v t e1 e2).there⟩
def RepK.there{ks:List (aL × V)}{kt:List (aL × T)}(h:RepK C H ks kt):RepK (λa=>C a/\H a≠aB) H ks kt:=⟨h.1,λi v t e1 e2=>(h.2 i v t e1 e2).there⟩
def Reps.nil:Reps C H [] []:=⟨rfl,λi v t e=>by simp at e⟩
def Reps.cons(h:Rep C H v t)(hs:Reps C H vs ts):Reps C H (v::vs) (t::ts):=by
 refine⟨by simp[hs.1],λi v' t' e1 e2=>?_⟩
 cases i with
 |zero=>simp at e1 e2; subst e1 e2; exact h
 |succ i=>exact hs.2 i v' t' (by simpa using e1) (by simpa using e2)
def Reps.head(hs:Reps C H (v::vs) (t::ts)):Rep C H v t:=hs.2 0 v t rfl rfl
def Reps.tail(hs:Reps C H (v::vs) (t::ts)):Reps C H vs ts:=⟨by simpa using hs.1,λi v' t' e1 e2=>hs.2 (i+1) v' t' (by simpa using e1) (by simpa using e2)⟩
def Reps.get{i:Nat}(hs:Reps C H vs ts)(e:ts[i]?=aA t):∃ v,vs[i]?=aA v/\Rep C H v t:=by
 have hi:=(j6.mp e).1;have hv:i < vs.length:=by rw[hs.1]; exact hi
 exact⟨vs[i],j3 hv,hs.2 i _ t (j3 hv) e⟩
def Reps.append{vs':List V}{ts':List T}(h:Reps C H vs ts)(h':Reps C H vs' ts'):Reps C H (vs++vs') (ts++ts'):=by
 refine⟨by simp[h.1,h'.1],λi v t e1 e2=>?_⟩
 by_cases hi:i < vs.length
 ·rw[Q8 hi] at e1;rw[Q8 (by rw[<-h.1]; exact hi)] at e2
  exact h.2 i v t e1 e2
 ·rw[Qe (by lia)] at e1
  rw[Qe (by rw[<-h.1]; lia),<-h.1] at e2
  exact h'.2 _ v t e1 e2
def Reps.drop(n:Nat)(h:Reps C H vs ts):Reps C H (vs.drop n) (ts.drop n):=⟨by simp[h.1],λi v t e1 e2=>h.2 (n+i) v t (by simpa using e1) (by simpa using e2)⟩
def Reps.take(n:Nat)(h:Reps C H vs ts):Reps C H (vs.take n) (ts.take n):=⟨by simp[h.1],λi v t e1 e2=>by
 rw[WD] at e1 e2;split at e1
 ·rename_i hi;rw[aI hi] at e2;exact h.2 i v t e1 e2
 ·cases e1⟩
def Reps.set(n:Nat)(h:Reps C H vs ts)(r:Rep C H v t):Reps C H (vs.set n v) (ts.set n t):=⟨by simp[h.1],λi v' t' e1 e2=>by
 rw[List.getElem?_set] at e1 e2
 by_cases hi:n=i
 ·rw[aI hi] at e1 e2;split at e1
  ·split at e2
   ·cases e1; cases e2; exact r
   ·cases e2
  ·cases e1
 ·rw[aH hi] at e1 e2
  exact h.2 i v' t' e1 e2⟩
inductive Live (C:jv->Prop) (H:Hp):jv->T->Prop
 |lst {a:jv} {vs:List V} {ts:List T} (r:H a=aA (.lst vs)) (h:Reps C H vs ts):Live C H a (.lst ts)
 |dct {a:jv} {kvs:List (aL × V)} {ts:List (aL × T)} (r:H a=aA (.dK kvs)) (h:RepK C H kvs ts):Live C H a (.dct ts)
 |set {a:jv} {S:Int->Bool} {n:Nat} (r:H a=aA (.set S n)):Live C H a (.set S n)
 |any {a:jv} {o:HO} (r:H a=aA o):Live C H a .any
variable {a:jv}
def Live.mono(h:Live C H a t)(hc:∀ a,C a->C' a)(hh:∀ a o,C a->H a=aA o->H' a=aA o)(ha:∀ o,H a=aA o->H' a=aA o):Live C' H' a t:=by
 cases h with
 |lst r h=>exact .lst (ha _ r) (h.mono hc hh)
 |dct r h=>exact .dct (ha _ r) (h.mono hc hh)
 |set r=>exact .set (ha _ r)
 |any r=>exact .any (ha _ r)
def Live.there(h:Live C H a t):Live (λa=>C a/\H a≠aB) H a t:=by
 cases h with
 |lst r h=>exact .lst r h.there
 |dct r h=>exact .dct r h.there
 |set r=>exact .set r
 |any r=>exact .any r
def Live.ne(h:Live C H a t):H a≠aB:=by
 cases h with
 |lst r h=>rw[r]; simp
 |dct r h=>rw[r]; simp
 |set r=>rw[r]; simp
 |any r=>rw[r]; simp
def Live.rep(h:Live C H a t)(hc:∀ b,C b->C' b)(ha:C' a):Rep C' H (.ref a) t:=by
 cases h with
 |lst r h=>exact .lst ha r h.1 λi v t e1 e2=>(h.2 i v t e1 e2).mono hc λ_ _ _ e=>e
 |dct r h=>exact .dct ha r h.1 λi v t e1 e2=>(h.2 i v t e1 e2).mono hc λ_ _ _ e=>e
 |set r=>exact .set ha r
 |any r=>exact .any
end
structure Fr where
 H0:Hp
 C0:jv->Prop
 D:jv->Prop
 adr:Nat->jv
def Free(F:Fr)(O:jv->Prop):jv->Prop:=λa=>¬ O a/\(F.C0 a∨F.H0 a=aB)
def Free.weak{F:Fr}{O O':jv->Prop}{a:jv}(h:∀ b,O' b->O b)(x:Free F O a):Free F O' a:=⟨λz=>x.1 (h _ z),x.2⟩
structure Rel (F:Fr) (O:jv->Prop) (M:ak) (s:Sg) (σ:L2.St) (H:Hp):Prop where
 len:s.length=σ.length
 val:∀(i:Nat) t,s[i]?=aA (aA t)->i∉M->∃ v,σ[i]?=aA (aA v)/\Rep (Free F O) H v t
 own:∀(i:Nat) t,s[i]?=aA (aA t)->i∈M->∃ a,σ[i]?=aA (aA (.ref a))/\Live (Free F O) H a t
 ow:∀(i:Nat) a,i∈M->σ[i]?=aA (aA (.ref a))->O a
 dis:∀(i j:Nat) a,i∈M->j∈M->σ[i]?=aA (aA (.ref a))->σ[j]?=aA (aA (.ref a))->i=j
 keep:∀ b o,¬ F.D b->F.H0 b=aA o->H b=aA o
 dom:∀ b,H b=aB->F.H0 b=aB
 fresh:∀ a,O a->F.D a∨F.H0 a=aB
 inD:∀ a,F.D a->O a
 al:∀ a,O a->H a≠aB
structure Step (σ:L2.St) (M:ak) (H H':Hp):Prop where
 keep:∀ b o,(∀(i:Nat),i∈M->σ[i]?≠aA (aA (.ref b)))->H b=aA o->H' b=aA o
 dom:∀ b,H' b=aB->H b=aB
section
variable {F:Fr}{O:jv->Prop}{M:ak}{s s':Sg}{σ:L2.St}{H H' H'':Hp}{v:V}{t:T}{a:jv}
def Step.refl:Step σ M H H:=⟨λ_ _ _ h=>h,λ_ h=>h⟩
def Step.trans(x:Step σ M H H')(y:Step σ M H' H''):Step σ M H H'':=⟨λb o n h=>y.keep b o n (x.keep b o n h),λb h=>x.dom b (y.dom b h)⟩
def Step.new(h:H a=aB)(o:HO):Step σ M H (aS H a o):=⟨λb u _ q=>by rw[au (dA q h)]; exact q,λb h'=>by
 unfold aS at h';split at h'
 ·cases h'
 ·exact h'⟩
def Rel.notOwned(R:Rel F O M s σ H)(h:¬ O a):∀(i:Nat),i∈M->σ[i]?≠aA (aA (.ref a)):=λi hi e=>h (R.ow i a hi e)
def Rel.stay(R:Rel F O M s σ H)(S:Step σ M H H')(h:Rep (Free F O) H v t):Rep (Free F O) H' v t:=
 h.mono (λ_ c=>c) λa o c e=>S.keep a o (R.notOwned c.1) e
def Rel.less{O':jv->Prop}(R:Rel F O M s σ H)(h:∀ b,O' b->O b)(hw:∀(i:Nat) a,i∈M->σ[i]?=aA (aA (.ref a))->O' a)(hD:∀ a,F.D a->O' a):Rel F O' M s σ H where
 len:=R.len
 val:=λi t e n=>by
  obtain⟨v,h1,h2⟩:=R.val i t e n;exact⟨v,h1,h2.mono (λ_ c=>c.weak h) λ_ _ _ e=>e⟩
 own:=λi t e n=>by
  obtain⟨a,h1,h2⟩:=R.own i t e n;exact⟨a,h1,h2.mono (λ_ c=>c.weak h) (λ_ _ _ e=>e) λ_ e=>e⟩
 ow:=hw
 dis:=R.dis
 keep:=R.keep
 dom:=R.dom
 fresh:=λa z=>R.fresh a (h a z)
 inD:=hD
 al:=λa z=>R.al a (h a z)
def Rel.new(R:Rel F O M s σ H)(h:H a=aB)(o:HO):Rel F (λb=>O b∨b=a) M s σ (aS H a o):=by
 have k:∀ b u,H b=aA u->aS H a o b=aA u:=λb u q=>by rw[au (dA q h)]; exact q
 have fr:∀ b,Free F O b/\H b≠aB->Free F (λb=>O b∨b=a) b:=λb c=>⟨λz=>z.elim c.1.1 λz=>c.2 (z▸h),c.1.2⟩;refine⟨R.len,λi t e n=>?_,λi t e n=>?_,λi b hi e=>.inl (R.ow i b hi e),R.dis,λb u n e=>k _ _ (R.keep b u n e),λb e=>?_,λb z=>?_,λb z=>.inl (R.inD b z),λb z=>?_⟩
 ·obtain⟨v,h1,h2⟩:=R.val i t e n;exact⟨v,h1,h2.there.mono fr λb u _ e=>k b u e⟩
 ·obtain⟨b,h1,h2⟩:=R.own i t e n;exact⟨b,h1,h2.there.mono fr (λb u _ e=>k b u e) λu e=>k b u e⟩
 ·refine R.dom b ?_;unfold aS at e;split at e
  ·cases e
  ·exact e
 ·obtain z |z:=z
  ·exact R.fresh b z
  ·subst z; exact .inr (R.dom _ h)
 ·obtain z |z:=z
  ·intro e;refine R.al b z ?_;unfold aS at e;split at e
   ·cases e
   ·exact e
  ·subst z; rw[cD]; simp
end
end L3
namespace L3
open PySem PySem.Spec PyProof.Rows L2
variable [TheK]
variable {M:ak}{H:Hp}{X:Cx}
inductive Kd where
 |e |b |n
def BRep(C:jv->Prop)(H:Hp)(v:V)(t:T):Prop:=Rep C H v t∨∃ a,v=.ref a/\Live C H a t
def Post(k:Kd)(F:Fr)(O:jv->Prop)(M:ak)(σ:L2.St)(H:Hp)(s':Sg)(t:T)(v:V)(H':Hp):Prop:=match k with
 |.e=>Rel F O M s' σ H'/\Rep (Free F O) H' v t
 |.b=>Rel F O M s' σ H'/\(Rep (Free F O) H' v t∨∃ i:Nat,i∈M/\σ[i]?=aA (aA v)/\s'[i]?=aA (aA t))
 |.n=>∃ a,v=.ref a/\H a=aB/\Rel F (λb=>O b∨b=a) M s' σ H'/\Live (Free F (λb=>O b∨b=a)) H' a t
abbrev DE:=Sg->Option (T × Sg)
abbrev DT:=Sg->Option (Bool × Sg)
abbrev DA:=Sg->Option (List T × Sg)
def cE(k:Kd)(M:ak)(f:DE):TE:=fun σ H Q=>∃ F O s t s',Rel F O M s σ H/\f s=aA (t,s')/\∀ v H',Step σ M H H'->Post k F O M σ H s' t v H'->Q v H'
def bz{k:Kd}{M:ak}{f:DE}{σ:L2.St}{H:Hp}{Q:VK}(h:cE k M f σ H Q){G:Prop}(g:∀ F O s t s',Rel F O M s σ H->f s=aA (t,s')->(∀ v H',Step σ M H H'->Post k F O M σ H s' t v H'->Q v H')->G):G:=by
 obtain⟨F,O,s,t,s',R,hf,q⟩:=h;exact g F O s t s' R hf q
def cT(M:ak)(f:DT):TT:=fun σ H Q=>∃ F O s b s',Rel F O M s σ H/\f s=aA (b,s')/\∀ H',Step σ M H H'->Rel F O M s' σ H'->Q b H'
def qv{M:ak}{f:DT}{σ:L2.St}{H:Hp}{Q:Bool->Hp->Prop}(h:cT M f σ H Q){G:Prop}(g:∀ F O s b s',Rel F O M s σ H->f s=aA (b,s')->(∀ H',Step σ M H H'->Rel F O M s' σ H'->Q b H')->G):G:=by
 obtain⟨F,O,s,b,s',R,hf,q⟩:=h;exact g F O s b s' R hf q
def cA(M:ak)(f:DA):TA:=fun σ H Q=>∃ F O s ts s',Rel F O M s σ H/\f s=aA (ts,s')/\∀ vs H',Step σ M H H'->Rel F O M s' σ H'->Reps (Free F O) H' vs ts->Q vs H'
def weak{X:Cx}{e:Q5}{t t':TE}(h:PE X e t)(hw:∀ σ H Q,t' σ H Q->t σ H Q):PE X e t':=λpc s σ H Q I q=>h pc s σ H Q I (hw _ _ _ q)
def iB{X:Cx}{e:Q5}{t t':TT}(h:PT X e t)(hw:∀ σ H Q,t' σ H Q->t σ H Q):PT X e t':=λpc s σ H Q I q=>h pc s σ H Q I (hw _ _ _ q)
def Cz{X:Cx}{e:Q5}{t t':TT}(h:PW X e t)(hw:∀ σ H Q,t' σ H Q->t σ H Q):PW X e t':=λwh pc s σ H Q I q=>h wh pc s σ H Q I (hw _ _ _ q)
def Cw{X:Cx}{es:List Q5}{t t':TA}(h:PA X es t)(hw:∀ σ H Q,t' σ H Q->t σ H Q):PA X es t':=λpos pc s σ H Q I q=>h pos pc s σ H Q I (hw _ _ _ q)
def fP{X:Cx}{e:QX}{t t':TS}(h:PS X e t)(hw:∀ D σ H,t' D σ H->t D σ H):PS X e t':=λpc s σ H D I q=>h pc s σ H D I (hw _ _ _ q)
def vF{X:Cx}{e:List QX}{t t':TS}(h:cV X e t)(hw:∀ D σ H,t' D σ H->t D σ H):cV X e t':=λpc s σ H D I q=>h pc s σ H D I (hw _ _ _ q)
section
variable {F:Fr}{O:jv->Prop}{s s':Sg}{σ:L2.St}{H':Hp}{v:V}{t:T}{a:jv}
def Post.ne(R:Rel F O M s σ H)(h:Post .n F O M σ H s' t v H'):Post .e F O M σ H s' t v H':=by
 obtain⟨a,rfl,h0,R',L⟩:=h;have w:∀ b,O b->(O b∨b=a):=λb z=>.inl z;refine⟨R'.less w R.ow R.inD,L.rep (λb c=>c.weak w) ⟨λz=>R.al a z h0,.inr (R.dom a h0)⟩⟩
def Post.eb(h:Post .e F O M σ H s' t v H'):Post .b F O M σ H s' t v H':=⟨h.1,.inl h.2⟩
def Post.view(h:Post .b F O M σ H s' t v H'):BRep (Free F O) H' v t:=by
 obtain h2 |⟨i,hi,e1,e2⟩:=h.2
 ·exact .inl h2
 ·obtain⟨a,e3,L⟩:=h.1.own i t e2 hi;rw[e1] at e3;exact .inr ⟨a,by injection e3 with e3; injection e3,L⟩
def Post.mkN(R:Rel F O M s σ H)(R1:Rel F O M s' σ H')(S:Step σ M H H'){p:jv}{o:HO}(hp:H' p=aB)(L:∀ C:jv->Prop,(∀ b,Free F O b/\H' b≠aB->C b)->Live C (aS H' p o) p t):Post .n F O M σ H s' t (.ref p) (aS H' p o):=
 ⟨p,rfl,S.dom p hp,R1.new hp o,L _ λb c=>⟨λz=>z.elim c.1.1 λz=>c.2 (z▸hp),c.1.2⟩⟩
def Post.mkE(R1:Rel F O M s' σ H'){p:jv}{o:HO}(hp:H' p=aB)(L:∀ C:jv->Prop,(∀ b,Free F O b/\H' b≠aB->C b)->C p->Rep C (aS H' p o) (.ref p) t):Post .e F O M σ H s' t (.ref p) (aS H' p o):=by
 have w:∀ b,O b->(O b∨b=p):=λb z=>.inl z;exact⟨(R1.new hp o).less w R1.ow R1.inD,L _ (λb c=>c.1) ⟨λz=>R1.al p z hp,.inr (R1.dom p hp)⟩⟩
end
section
variable {e a b:Q5}{fa fb:DE}
def ne(h:PE X e (cE .n M fa)):PE X e (cE .e M fa):=weak h fun σ H Q h_=>bz h_ λF O s t s' R hf q=>⟨F,O,s,t,s',R,hf,λv H' S p=>q v H' S (p.ne R)⟩
def eb(h:PE X e (cE .e M fa)):PE X e (cE .b M fa):=weak h fun σ H Q h_=>bz h_ λF O s t s' R hf q=>⟨F,O,s,t,s',R,hf,λv H' S p=>q v H' S p.eb⟩
def nb(h:PE X e (cE .n M fa)):PE X e (cE .b M fa):=eb (ne h)
def dV(i:Nat):DE:=λs=>(s[i]?).join.map λt=>(t,s)
def dC(t:T):DE:=λs=>aA (t,s)
def cv{α:Type}{o:Option (Option α)}{x:α}(h:o.join=aA x):o=aA (aA x):=by
 cases o with
 |none=>cases h
 |some o=>cases o with
  |none=>cases h
  |some y=>injection h with h; rw[h]
def yy{i:Nat}{s s':Sg}{t:T}(h:dV i s=aA (t,s')):s[i]?=aA (aA t)/\s'=s:=by
 unfold dV at h;cases e:(s[i]?).join with
 |none=>rw[e] at h; cases h
 |some x=>
  rw[e] at h;cases h;exact⟨cv e,rfl⟩
def uk{v:V}{t:T}(hr:∀ C H,Rep C H v t)(h:PE X e (tC v)):PE X e (cE .e M (dC t)):=weak h fun σ H Q h_=>bz h_ λF O s t' s' R hf q=>by
 cases hf;exact q v H .refl ⟨R,hr _ _⟩
def d2(g:T->T->Option T)(fa fb:DE):DE:=λs=>(fa s).bind λp=>(fb p.2).bind λq=>(g p.1 q.1).map λt=>(t,q.2)
def cC(g:T->T->Option T)(i:Nat)(fb:DE):DE:=λs=>(s[i]?).join.bind λ_=>(fb s).bind λq=>(q.2[i]?).join.bind λx=>(g x q.1).map λt=>(t,q.2)
def vM{g:T->T->Option T}{s s':Sg}{t:T}(h:d2 g fa fb s=aA (t,s')):∃ x s1 y,fa s=aA (x,s1)/\fb s1=aA (y,s')/\g x y=aA t:=by
 unfold d2 at h;cases e:fa s with
 |none=>rw[e] at h; cases h
 |some p=>
  rw[e] at h;cases e2:fb p.2 with
  |none=>simp[e2] at h
  |some q=>
   simp only[jb,e2] at h;cases e3:g p.1 q.1 with
   |none=>rw[e3] at h; cases h
   |some u=>
    rw[e3] at h;cases h;exact⟨p.1,p.2,q.1,rfl,by rw[e2],e3⟩
def zR{g:T->T->Option T}{i:Nat}{s s':Sg}{t:T}(h:cC g i fb s=aA (t,s')):∃ x0 x y,s[i]?=aA (aA x0)/\fb s=aA (y,s')/\s'[i]?=aA (aA x)/\g x y=aA t:=by
 unfold cC at h;cases e0:(s[i]?).join with
 |none=>rw[e0] at h; cases h
 |some x0=>
 rw[e0] at h;simp only[jb] at h;cases e:fb s with
 |none=>rw[e] at h; cases h
 |some q=>
  simp only[e,jb] at h;cases e2:(q.2[i]?).join with
  |none=>rw[e2] at h; cases h
  |some x=>
   simp only[e2,jb] at h;cases e3:g x q.1 with
   |none=>rw[e3] at h; cases h
   |some u=>
    rw[e3] at h;cases h;exact⟨x0,x,q.1,cv e0,rfl,cv e2,e3⟩
def iH(r:R2)(g:T->T->Option T):Prop:=∀(C:jv->Prop) (H:Hp) x y tx ty t (Q:VK),BRep C H x tx->BRep C H y ty->g tx ty=aA t->(∀ v,Rep C H v t->Q v H)->r x y H Q
def Bg(r:R2)(g:T->T->Option T):Prop:=∀(C:jv->Prop) (H:Hp) x y tx ty t (Q:VK),BRep C H x tx->BRep C H y ty->g tx ty=aA t->
 (∀ p o,H p=aB->(∀ C':jv->Prop,(∀ b,C b/\H b≠aB->C' b)->Live C' (aS H p o) p t)->Q (.ref p) (aS H p o))->r x y H Q
def dY{r:R2}{g:T->T->Option T}(h:iH r g):∀ σ H Q,cE .e M (d2 g fa fb) σ H Q->oi r (cE .e M fa) (cE .b M fb) σ H Q:=by
 intro σ H Q h_;refine bz h_ λF O s t s' R hf q=>?_;obtain⟨x,s1,y,h1,h2,h3⟩:=vM hf;refine⟨F,O,s,x,s1,R,h1,λv H1 S1 p1=>?_⟩;refine⟨F,O,s1,y,s',p1.1,h2,λu H2 S2 p2=>?_⟩;exact h (Free F O) H2 v u x y t Q (.inl (p1.1.stay S2 p1.2)) p2.view h3 λw rw=>q w H2 (S1.trans S2) ⟨p2.1,rw⟩
def LP{r:R2}{g:T->T->Option T}(h:Bg r g):∀ σ H Q,cE .n M (d2 g fa fb) σ H Q->oi r (cE .e M fa) (cE .b M fb) σ H Q:=by
 intro σ H Q h_;refine bz h_ λF O s t s' R hf q=>?_;obtain⟨x,s1,y,h1,h2,h3⟩:=vM hf;refine⟨F,O,s,x,s1,R,h1,λv H1 S1 p1=>?_⟩;refine⟨F,O,s1,y,s',p1.1,h2,λu H2 S2 p2=>?_⟩;exact h (Free F O) H2 v u x y t Q (.inl (p1.1.stay S2 p1.2)) p2.view h3 λp o hp L=>q _ _ ((S1.trans S2).trans (.new hp o)) (.mkN R p2.1 (S1.trans S2) hp L)
def zh{F:Fr}{O:jv->Prop}{s s':Sg}{σ:L2.St}{H H':Hp}{i:Nat}{t0 t:T}(hi:i∈M)(R:Rel F O M s σ H)(R':Rel F O M s' σ H')(e0:s[i]?=aA (aA t0))(e:s'[i]?=aA (aA t)):∃ v,σ[i]?=aA (aA v)/\BRep (Free F O) H' v t:=by
 obtain⟨a,h1,_⟩:=R.own i t0 e0 hi;obtain⟨b,h2,L⟩:=R'.own i t e hi;rw[h1] at h2;injection h2 with h2;cases h2;exact⟨_,h1,.inr ⟨a,rfl,L⟩⟩
def Db{r:R2}{g:T->T->Option T}{i:Nat}(hi:M.contains i=aC)(h:iH r g):∀ σ H Q,cE .e M (cC g i fb) σ H Q->oi r (d7 i) (cE .b M fb) σ H Q:=by
 intro σ H Q h_;refine bz h_ λF O s t s' R hf q=>?_;obtain⟨x0,x,y,h0,h1,h2,h3⟩:=zR hf;have hi':i∈M:=by simpa using hi
 obtain⟨a,e1,_⟩:=R.own i x0 h0 hi';refine⟨_,e1,F,O,s,y,s',R,h1,λu H2 S2 p2=>?_⟩;obtain⟨v,e2,B⟩:=zh hi' R p2.1 h0 h2;rw[e1] at e2;cases e2;exact h (Free F O) H2 _ u x y t Q B p2.view h3 λw rw=>q w H2 S2 ⟨p2.1,rw⟩
def OU{r:R2}{g:T->T->Option T}{i:Nat}(hi:M.contains i=aC)(h:Bg r g):∀ σ H Q,cE .n M (cC g i fb) σ H Q->oi r (d7 i) (cE .b M fb) σ H Q:=by
 intro σ H Q h_;refine bz h_ λF O s t s' R hf q=>?_;obtain⟨x0,x,y,h0,h1,h2,h3⟩:=zR hf;have hi':i∈M:=by simpa using hi
 obtain⟨a,e1,_⟩:=R.own i x0 h0 hi';refine⟨_,e1,F,O,s,y,s',R,h1,λu H2 S2 p2=>?_⟩;obtain⟨v,e2,B⟩:=zh hi' R p2.1 h0 h2;rw[e1] at e2;cases e2;exact h (Free F O) H2 _ u x y t Q B p2.view h3 λp o hp L=>q _ _ (S2.trans (.new hp o)) (.mkN R p2.1 S2 hp L)
end
section
variable {C:jv->Prop}{v:V}
def BRep.non(h:BRep C H v .non):v=.non:=by
 obtain h |⟨a,rfl,h⟩:=h<;>cases h
 rfl
def BRep.bl{b:Bool}(h:BRep C H v (.bl b)):v=.bl b:=by
 obtain h |⟨a,rfl,h⟩:=h<;>cases h
 rfl
def BRep.int{i:Int}(h:BRep C H v (.int i)):v=.int i:=by
 obtain h |⟨a,rfl,h⟩:=h<;>cases h
 rfl
def BRep.str{x:Str}(h:BRep C H v (.str x)):v=.str x:=by
 obtain h |⟨a,rfl,h⟩:=h<;>cases h
 rfl
def BRep.lst{ts:List T}(h:BRep C H v (.lst ts)):∃ a vs,v=.ref a/\H a=aA (.lst vs)/\Reps C H vs ts:=by
 obtain h |⟨a,rfl,h⟩:=h
 ·cases h with |lst c r l h=>exact⟨_,_,rfl,r,l,h⟩
 ·cases h with |lst r h=>exact⟨_,_,rfl,r,h⟩
def BRep.tup{ts:List T}(h:BRep C H v (.tup ts)):∃ a vs,v=.ref a/\H a=aA (.tup vs)/\Reps C H vs ts:=by
 obtain h |⟨a,rfl,h⟩:=h
 ·cases h with |tup c r l h=>exact⟨_,_,rfl,r,l,h⟩
 ·cases h
def BRep.dct{ts:List (aL × T)}(h:BRep C H v (.dct ts)):∃ a kvs,v=.ref a/\H a=aA (.dK kvs)/\RepK C H kvs ts:=by
 obtain h |⟨a,rfl,h⟩:=h
 ·cases h with |dct c r l h=>exact⟨_,_,rfl,r,l,h⟩
 ·cases h with |dct r h=>exact⟨_,_,rfl,r,h⟩
def BRep.fd{ts:List (aL × T)}(h:BRep C H v (.fd ts)):∃ a o kvs,v=.ref a/\H a=aA (.frz o (.dK kvs))/\RepK C H kvs ts/\C a:=by
 obtain h |⟨a,rfl,h⟩:=h
 ·cases h with |fd c r l h=>exact⟨_,_,_,rfl,r,⟨l,h⟩,c⟩
 ·cases h
def BRep.scr{ns:am}(h:BRep C H v (.scr ns)):∃ a,v=.ref a/\aq TheK.K H a (ns.map V.int):=by
 obtain h |⟨a,rfl,h⟩:=h
 ·cases h with
  |scr c r=>exact⟨_,rfl,.inl (.inr ⟨_,r⟩)⟩
  |scrK r=>exact⟨_,rfl,r H⟩
 ·cases h
end
def q5:T->T->Option T
 |.int i,.int j=>aA (.int (i+j))
 |.str x,.str y=>if x.length+y.length<=ju then aA (.str (x++y)) else aB
 |_,_=>aB
def nC:T->T->Option T
 |.lst a,.lst b=>if a.length+b.length<=ju then aA (.lst (a++b)) else aB
 |_,_=>aB
def gI(C:Int->Int->Bool)(g:Int->Int->Int):T->T->Option T
 |.int i,.int j=>if C i j=aC then aA (.int (g i j)) else aB
 |_,_=>aB
def o3(i j:Int):Bool:=aE (-(2 ^ 64) < i/\i < 2 ^ 64)||aE (-(2 ^ 64) < j/\j < 2 ^ 64)
def uT(i j:Int):Bool:=aE (0 < j/\j < 1073741824)
def uU(i j:Int):Bool:=aE (0 < j)
def HN(i j:Int):Bool:=aE (0<=j/\j<=1000000/\i.natAbs < 2 ^ 64)
def ij:=gI (λ_ _=>aC) λi j=>i - j
def dN:=gI o3 λi j=>i*j
def dM:=gI uT λi j=>i / j
def bv:=gI uU λi j=>i%j
def r8:=gI HN λi j=>i ^ j.toNat
def sP(p:Int->Int->Bool)(ps:ag):T->T->Option T
 |.int i,.int j=>aA (.bl (p i j))
 |.str i,.str j=>aA (.bl (ps i j))
 |_,_=>aB
section
def L8:iH (λx y H Q=>lU (λi j=>.int (i+j)) x y H Q∨∃ i j,x=.str i/\y=.str j/\i.length+j.length<=ju/\Q (.str (i++j)) H) q5:=by
 intro C H x y tx ty t Q bx by' hg q;unfold q5 at hg;split at hg
 ·injection hg with hg; subst hg;exact .inl ⟨_,_,bx.int,by'.int,q _ (.int _)⟩
 ·split at hg
  ·rename_i h;injection hg with hg; subst hg;exact .inr ⟨_,_,bx.str,by'.str,h,q _ (.str _)⟩
  ·cases hg
 ·cases hg
def Cr:Bg C7 nC:=by
 intro C H x y tx ty t Q bx by' hg q;unfold nC at hg;split at hg
 ·split at hg
  ·rename_i h;injection hg with hg; subst hg;obtain⟨a,vs,rfl,ha,ra⟩:=bx.lst;obtain⟨b,us,rfl,hb,rb⟩:=by'.lst;refine⟨a,b,vs,us,rfl,rfl,ha,hb,by rw[ra.1,rb.1]; exact h,λp hp=>q p _ hp λC' hC=>?_⟩
   exact .lst cD ((ra.append rb).there.mono hC λc o hc e=>by rw[au (dA e hp)]; exact e)
  ·cases hg
 ·cases hg
def u9{P:Int->Int->Prop}{C:Int->Int->Bool}{g:Int->Int->Int}(hC:∀ i j,C i j=aC->P i j):iH (rI P λi j=>.int (g i j)) (gI C g):=by
 intro C' H x y tx ty t Q bx by' hg q;unfold gI at hg;split at hg
 ·split at hg
  ·rename_i h;injection hg with hg; subst hg;exact⟨_,_,bx.int,by'.int,hC _ _ h,q _ (.int _)⟩
  ·cases hg
 ·cases hg
def Hd{g:Int->Int->Int}:iH (lU λi j=>.int (g i j)) (gI (λ_ _=>aC) g):=by
 intro C' H x y tx ty t Q bx by' hg q;unfold gI at hg;split at hg
 ·split at hg
  ·injection hg with hg; subst hg;exact⟨_,_,bx.int,by'.int,q _ (.int _)⟩
  ·cases hg
 ·cases hg
def L9{p:Int->Int->Bool}{ps:ag}:iH (λx y H Q=>lU (λi j=>.bl (p i j)) x y H Q∨∃ i j,x=.str i/\y=.str j/\Q (.bl (ps i j)) H) (sP p ps):=by
 intro C H x y tx ty t Q bx by' hg q;unfold sP at hg;split at hg
 ·injection hg with hg; subst hg;exact .inl ⟨_,_,bx.int,by'.int,q _ (.bl _)⟩
 ·injection hg with hg; subst hg;exact .inr ⟨_,_,bx.str,by'.str,q _ (.bl _)⟩
 ·cases hg
variable {a b:Q5}{fa fb:DE}{pos:Pos}
def KF(ha:PE X a (cE .e M fa))(hb:PE X b (cE .b M fb)):PE X (.BinOp a .Add b pos) (cE .e M (d2 q5 fa fb)):=weak (lb (op_add.or UI) ha hb) (dY L8)
def KG(ha:PE X a (cE .e M fa))(hb:PE X b (cE .b M fb)):PE X (.BinOp a .Add b pos) (cE .n M (d2 nC fa fb)):=weak (lb Dj ha hb) (LP Cr)
end
def cz:T->T->Option Bool
 |.non,.non=>aA aC |.non,.bl _=>aA aD |.non,.int _=>aA aD |.non,.str _=>aA aD
 |.bl a,.bl b=>aA (a == b) |.bl _,.non=>aA aD |.bl a,.int b=>aA ((if a then 1 else 0) == b) |.bl _,.str _=>aA aD
 |.int a,.int b=>aA (a == b) |.int _,.non=>aA aD |.int a,.bl b=>aA (a == (if b then 1 else 0)) |.int _,.str _=>aA aD
 |.str a,.str b=>aA (a == b) |.str _,.non=>aA aD |.str _,.bl _=>aA aD |.str _,.int _=>aA aD
 |_,_=>aB
def fM(f:T->T->Option Bool):List T->List T->Option Bool
 |x::xs,y::ys=>(f x y).bind λb=>(fM f xs ys).map λc=>b&&c
 |_,_=>aA aC
def bP:Nat->T->T->Option Bool
 |n+1,.lst xs,.lst ys=>if xs.length=ys.length then fM (bP n) xs ys else aA aD
 |n+1,.tup xs,.tup ys=>(fM (bP n) xs ys).map λb=>b&&xs.length == ys.length
 |_+1,.lst _,.tup _=>aA aD
 |_+1,.tup _,.lst _=>aA aD
 |_,x,y=>cz x y
def uG(n:Nat)(x y:T):Option Bool:=match x,y with
 |.lst xs,.lst ys=>if xs.length=ys.length then fM (bP n) xs ys else aA aD
 |.tup xs,.tup ys=>(fM (bP n) xs ys).map λb=>b&&xs.length == ys.length
 |.lst _,.tup _=>aA aD
 |.tup _,.lst _=>aA aD
 |x,y=>cz x y
def RY(n:Nat)(x y:T):bP (n+1) x y=uG n x y:=by cases x<;>cases y<;>rfl
def vj{f:T->T->Option Bool}:∀ {xs ys:List T} {b:Bool},fM f xs ys=aA b->∃ e:Nat->Bool,(∀ j x y,xs[j]?=aA x->ys[j]?=aA y->f x y=aA (e j))/\b=(j7 (min xs.length ys.length)).all e
 |[],_,b,h=>⟨λ_=>aC,λj x y e=>by simp at e,by unfold fM at h; simp at h; simp[h]⟩
 |x::xs,[],b,h=>⟨λ_=>aC,λj x y _ e=>by simp at e,by unfold fM at h; simp at h; simp[h]⟩
 |x::xs,y::ys,b,h=>by
  unfold fM at h;cases h1:f x y with
  |none=>rw[h1] at h; cases h
  |some c=>
   rw[h1,jb] at h;cases h2:fM f xs ys with
   |none=>rw[h2] at h; cases h
   |some d=>
    rw[h2] at h;injection h with h;obtain⟨e,he,hd⟩:=vj h2;refine⟨λj=>match j with |0=>c |j+1=>e j,λj x' y' e1 e2=>?_,?_⟩
    ·cases j with
     |zero=>simp at e1 e2; subst e1 e2; exact h1
     |succ j=>exact he j x' y' (by simpa using e1) (by simpa using e2)
    ·rw[<-h,hd,jo,jo,Nat.succ_min_succ,gV,Yp,Uc];rfl
def SU{C:jv->Prop}{H:Hp}:∀(n:Nat) {v:V} {t t':T} {b:Bool},Rep C H v t->Rep C H v t'->bP n t t'=aA b->b=aC:=by
 have sc:∀ {v:V} {t t':T} {b:Bool},Rep C H v t->Rep C H v t'->cz t t'=aA b->b=aC:=by
  intro v t t' b h h' e;cases h<;>cases h'<;>simp[cz] at e<;>(try subst e)<;>simp
 intro n
 induction n with
 |zero=>intro v t t' b h h' e; unfold bP at e; exact sc h h' e
 |succ n ih=>
  intro v t t' b h h' e;have lists:∀ {vs:List V} {xs ys:List T} {b:Bool},Reps C H vs xs->Reps C H vs ys->fM (bP n) xs ys=aA b->b=aC:=by
   intro vs xs ys b hx hy h;obtain⟨e,he,rfl⟩:=vj h;refine jB.mpr λj hj=>?_;have hj':=je.mp hj;have h1:j < xs.length:=by lia
   have h2:j < ys.length:=by lia
   have h3:j < vs.length:=by rw[hx.1]; exact h1
   have q1:=hx.2 j _ _ (j3 h3) (j3 h1);have q2:=hy.2 j _ _ (j3 h3) (j3 h2);exact ih q1 q2 (he j _ _ (j3 h1) (j3 h2))
  cases h with
  |lst c r l hc=>
   cases h' with
   |lst c' r' l' hc'=>
    rw[r] at r'; cases r';unfold bP at e;split at e
    ·exact lists ⟨l,hc⟩ ⟨l',hc'⟩ e
    ·lia
   |tup c' r' l' hc'=>rw[r] at r'; cases r'
   |dct c' r' l' hc'=>simp[bP,cz] at e
   |set c' r'=>simp[bP,cz] at e
   |fd c' r' l' hc'=>simp[bP,cz] at e
   |scr c' r'=>simp[bP,cz] at e
   |scrK r'=>simp[bP,cz] at e
   |any=>simp[bP,cz] at e
  |tup c r l hc=>
   cases h' with
   |tup c' r' l' hc'=>
    rw[r] at r'; cases r';unfold bP at e;cases h2:fM (bP n) _ _ with
    |none=>rw[h2] at e; cases e
    |some d=>
     rw[h2] at e;cases e;rw[lists ⟨l,hc⟩ ⟨l',hc'⟩ h2,<-l,<-l'];simp
   |lst c' r' l' hc'=>rw[r] at r'; cases r'
   |dct c' r' l' hc'=>simp[bP,cz] at e
   |set c' r'=>simp[bP,cz] at e
   |fd c' r' l' hc'=>simp[bP,cz] at e
   |scr c' r'=>simp[bP,cz] at e
   |scrK r'=>simp[bP,cz] at e
   |any=>simp[bP,cz] at e
  |non=>exact sc .non h' (by cases h'<;>simpa[bP] using e)
  |bl x=>exact sc (.bl x) h' (by cases h'<;>simpa[bP] using e)
  |int x=>exact sc (.int x) h' (by cases h'<;>simpa[bP] using e)
  |str x=>exact sc (.str x) h' (by cases h'<;>simpa[bP] using e)
  |dct c r l hc=>cases h'<;>simp[bP,cz] at e
  |set c r=>cases h'<;>simp[bP,cz] at e
  |fd c r l hc=>cases h'<;>simp[bP,cz] at e
  |scr c r=>cases h'<;>simp[bP,cz] at e
  |scrK r=>cases h'<;>simp[bP,cz] at e
  |any=>cases t'<;>simp[bP,cz] at e
open PySem.SeqAt
section
variable {pc:List (jv × Obj)}{σ:L2.St}{s:jc}{C:jv->Prop}
def D4{A:Qg}{x y:V}{tx ty:T}{b:Bool}{u w:j8}(hx:Rep C H x tx)(hy:Rep C H y ty)(rx:RelV x u)(ry:RelV y w)(h:cz tx ty=aA b):EqAt A s u w b/\RcAt A s u w b/\RcNeAt A s u w (!b):=by
 cases hx with
 |non=>
  cases rx;cases hy with
  |non=>cases ry; injection h with h; subst h; exact⟨.same _,.none_none,.none_none⟩
  |bl y=>cases ry; injection h with h; subst h; exact⟨.none_bool _,.none_bool _,.none_bool _⟩
  |int y=>obtain⟨t,rfl⟩:=ry; injection h with h; subst h; exact⟨.none_int _ _,.none_int _ _,.none_int _ _⟩
  |str y=>obtain⟨t,rfl⟩:=ry; injection h with h; subst h; exact⟨.none_str _ _,.none_str _ _,.none_str _ _⟩
  |_=>cases h
 |bl x=>
  cases rx;cases hy with
  |non=>cases ry; injection h with h; subst h; exact⟨.bool_none _,.bool_none _,.bool_none _⟩
  |bl y=>cases ry; injection h with h; subst h; exact⟨.bool_bool _ _,.bool_bool _ _,.bool_bool _ _⟩
  |int y=>obtain⟨t,rfl⟩:=ry; injection h with h; subst h; exact⟨.bool_int _ _ _,.bool_int _ _ _,.bool_int _ _ _⟩
  |str y=>obtain⟨t,rfl⟩:=ry; injection h with h; subst h; exact⟨.bool_str _ _ _,.bool_str _ _ _,.bool_str _ _ _⟩
  |_=>cases h
 |int x=>
  obtain⟨t0,rfl⟩:=rx;cases hy with
  |non=>cases ry; injection h with h; subst h; exact⟨.int_none _ _,.int_none _ _,.int_none _ _⟩
  |bl y=>cases ry; injection h with h; subst h; exact⟨.int_bool _ _ _,.int_bool _ _ _,.int_bool _ _ _⟩
  |int y=>obtain⟨t,rfl⟩:=ry; injection h with h; subst h; exact⟨.int_int _ _ _ _,.int_int _ _ _ _,.int_int _ _ _ _⟩
  |str y=>obtain⟨t,rfl⟩:=ry; injection h with h; subst h; exact⟨.int_str _ _ _ _,.int_str _ _ _ _,.int_str _ _ _ _⟩
  |_=>cases h
 |str x=>
  obtain⟨t0,rfl⟩:=rx;cases hy with
  |non=>cases ry; injection h with h; subst h; exact⟨.str_none _ _,.str_none _ _,.str_none _ _⟩
  |bl y=>cases ry; injection h with h; subst h; exact⟨.str_bool _ _ _,.str_bool _ _ _,.str_bool _ _ _⟩
  |int y=>obtain⟨t,rfl⟩:=ry; injection h with h; subst h; exact⟨.str_int _ _ _ _,.str_int _ _ _ _,.str_int _ _ _ _⟩
  |str y=>obtain⟨t,rfl⟩:=ry; injection h with h; subst h; exact⟨.str_str _ _ _ _,.str_str _ _ _ _,.str_str _ _ _ _⟩
  |_=>cases h
 |_=>cases ty<;>simp[cz] at h
def CQ(I:Inv X pc σ H s):∀(n:Nat) (A:Qg) {x y:V} {tx ty:T} {b:Bool} {u w:j8},A.units+n < gg->Rep C H x tx->Rep C H y ty->RelV x u->RelV y w->bP n tx ty=aA b->EqAt A s u w b/\RcAt A s u w b/\RcNeAt A s u w (!b):=by
 intro n
 induction n with
 |zero=>intro A x y tx ty b u w hu hx hy rx ry h; unfold bP at h; exact D4 hx hy rx ry h
 |succ n ih=>
  intro A x y tx ty b u w hu hx hy rx ry h;have hu':A.units < gg:=by lia
  have hin:A.in1.units+n < gg:=by
   have:A.in1.units=A.units+1:=rfl;lia
  have parts:∀ {vs us:List V} {xs ys:List T} {its its2:List j8} {e:Nat->Bool},Reps C H vs xs->Reps C H us ys->Vals vs its->Vals us its2->(∀ j x y,xs[j]?=aA x->ys[j]?=aA y->bP n x y=aA (e j))->
    ∀ j (h1:j < its.toArray.size) (h2:j < its2.toArray.size),EqAt A.in1 s its.toArray[j] its2.toArray[j] (e j):=by
   intro vs us xs ys its its2 e hvs hus r r2 he j h1 h2;rw[jt] at h1 h2;have v1:j < vs.length:=by rw[r.length]; exact h1
   have v2:j < us.length:=by rw[r2.length]; exact h2
   have x1:j < xs.length:=by rw[<-hvs.1]; exact v1
   have y1:j < ys.length:=by rw[<-hus.1]; exact v2
   obtain⟨w1,e1,q1⟩:=r.get (j3 v1);obtain⟨w2,e2,q2⟩:=r2.get (j3 v2);rw[j3 h1] at e1;rw[j3 h2] at e2;injection e1 with e1;injection e2 with e2;simp only[Yi,e1,e2];exact(ih A.in1 hin (hvs.2 j _ _ (j3 v1) (j3 x1)) (hus.2 j _ _ (j3 v2) (j3 y1)) q1 q2 (he j _ _ (j3 x1) (j3 y1))).1
  have refs:∀ {p q:jv},x=.ref p->y=.ref q->RcAt A s (.ref p) (.ref q) b->EqAt A s (.ref p) (.ref q) b:=by
   intro p q ep eq hr
   by_cases hpq:p=q
   ·subst hpq;have:b=aC:=SU (n+1) (v:=.ref p) (ep▸hx) (eq▸hy) h;rw[this];exact .same _
   ·exact .of_refs hpq hr
  have scs:cz tx ty=aA b->EqAt A s u w b/\RcAt A s u w b/\RcNeAt A s u w (!b):=D4 hx hy rx ry;rw[RY] at h;unfold uG at h;split at h
  ·rename_i xs ys;obtain⟨p,vs,rfl,hp,rp⟩:=BRep.lst (.inl hx);obtain⟨q,us,rfl,hq,rq⟩:=BRep.lst (.inl hy);cases rx; cases ry;obtain⟨its,r,pl,_⟩:=I.list (aq.of hp);obtain⟨its2,r2,bJ,_⟩:=I.list (aq.of hq);have l1:=r.length;have l2:=r2.length;have l3:=rp.1;have l4:=rq.1;split at h
   ·rename_i hl;obtain⟨e,he,hb⟩:=vj h;have sz:its.toArray.size=its2.toArray.size:=by rw[jt,jt]; lia
    have rc:=RcAt.lists pl.isList bJ.isList sz hu' (parts rp rq r r2 he);have rn:=RcNeAt.lists pl.isList bJ.isList sz hu' (parts rp rq r r2 he);have hb':b=(j7 its.toArray.size).all e:=by rw[hb,jt,hl,Nat.min_self,show its.length=ys.length by lia]
    rw[<-hb'] at rc rn;exact⟨refs rfl rfl rc,rc,rn⟩
   ·rename_i hl;cases h;have sz:(its.toArray.size != its2.toArray.size)=aC:=by simp; lia
    have rc:=RcAt.lists_lengths pl.isList bJ.isList sz hu';exact⟨refs rfl rfl rc,rc,RcNeAt.lists_lengths pl.isList bJ.isList sz hu'⟩
  ·rename_i xs ys;obtain⟨p,vs,rfl,hp,rp⟩:=BRep.tup (.inl hx);obtain⟨q,us,rfl,hq,rq⟩:=BRep.tup (.inl hy);cases rx; cases ry;obtain⟨its,r,pl,_⟩:=I.tuple (cL.of hp);obtain⟨its2,r2,bJ,_⟩:=I.tuple (cL.of hq);have l1:=r.length;have l2:=r2.length;have l3:=rp.1;have l4:=rq.1;cases h2:fM (bP n) xs ys with
   |none=>rw[h2] at h; cases h
   |some d=>
    rw[h2] at h;injection h with h;obtain⟨e,he,hb⟩:=vj h2;have rc:=RcAt.tuples pl bJ hu' (parts rp rq r r2 he);have rn:=RcNeAt.tuples pl bJ hu' (parts rp rq r r2 he);have hb':b=((j7 (min its.toArray.size its2.toArray.size)).all e&&its.toArray.size == its2.toArray.size):=by
     rw[<-h,hb,jt,jt,show its.length=xs.length by lia,show its2.length=ys.length by lia]
    rw[<-hb'] at rc rn;exact⟨refs rfl rfl rc,rc,rn⟩
  ·obtain⟨p,vs,rfl,hp,rp⟩:=BRep.lst (.inl hx);obtain⟨q,us,rfl,hq,rq⟩:=BRep.tup (.inl hy);cases rx; cases ry;obtain⟨its,r,pl,_⟩:=I.list (aq.of hp);obtain⟨its2,r2,bJ,_⟩:=I.tuple (cL.of hq);cases h;exact⟨.list_tuple pl.isList bJ hu',.list_tuple pl.isList bJ hu',.list_tuple pl.isList bJ hu'⟩
  ·obtain⟨p,vs,rfl,hp,rp⟩:=BRep.tup (.inl hx);obtain⟨q,us,rfl,hq,rq⟩:=BRep.lst (.inl hy);cases rx; cases ry;obtain⟨its,r,pl,_⟩:=I.tuple (cL.of hp);obtain⟨its2,r2,bJ,_⟩:=I.list (aq.of hq);cases h;exact⟨.tuple_list pl bJ.isList hu',.tuple_list pl bJ.isList hu',.tuple_list pl bJ.isList hu'⟩
  ·exact scs h
end
end L3
namespace L3
open PySem PySem.Spec PyProof.Rows L2
variable [TheK]
variable {X:Cx}{M M' Mb io:ak}{pos:Pos}{e:Q5}{fe:DE}{fa:DA}{rk:Kd}
def BRep.all{C:jv->Prop}{H:Hp}{v:V}{t:T}(h:BRep C H v t):Rep (λ_=>True) H v t:=by
 obtain h |⟨a,rfl,h⟩:=h
 ·exact h.mono (λ_ _=>trivial) λ_ _ _ e=>e
 ·exact h.rep (λ_ _=>trivial) trivial
def cK(x y:T):Option T:=(bP 8 x y).map .bl
def dF(x y:T):Option T:=(bP 8 x y).map λb=>.bl (!b)
def uY(neg:Bool):R2:=λx y H Q=>∃ tx ty b,Rep (λ_=>True) H x tx/\Rep (λ_=>True) H y ty/\bP 8 tx ty=aA b/\Q (.bl (if neg then !b else b)) H
def Dk{X:Cx}(hu:X.A.units+8 < gg):cZ X (Z9 .Eq) (uY aD):=by
 intro pc s sg H x y v u Q I rx ry h;obtain⟨tx,ty,b,hx,hy,e,q⟩:=h;exact(CQ I 8 X.A hu hx hy rx ry e).2.1 _ _ _ _ ⟨.bl b,H,I,rfl,q⟩
def Dl{X:Cx}(hu:X.A.units+8 < gg):cZ X (Z9 .NotEq) (uY aC):=by
 intro pc s sg H x y v u Q I rx ry h;obtain⟨tx,ty,b,hx,hy,e,q⟩:=h;exact(CQ I 8 X.A hu hx hy rx ry e).2.2 _ _ _ _ ⟨.bl (!b),H,I,rfl,q⟩
def CD:iH (uY aD) cK:=by
 intro C H x y tx ty t Q bx by' hg q;unfold cK at hg;cases e:bP 8 tx ty with
 |none=>rw[e] at hg; cases hg
 |some b=>
  rw[e] at hg;injection hg with hg; subst hg;exact⟨tx,ty,b,bx.all,by'.all,e,q _ (.bl b)⟩
def CG:iH (uY aC) dF:=by
 intro C H x y tx ty t Q bx by' hg q;unfold dF at hg;cases e:bP 8 tx ty with
 |none=>rw[e] at hg; cases hg
 |some b=>
  rw[e] at hg;injection hg with hg; subst hg;exact⟨tx,ty,b,bx.all,by'.all,e,q _ (.bl (!b))⟩
def sI:=sP (λi j=>aE (i < j)) λi j=>aE (i.cps.toList < j.cps.toList)
def qr(p:Int->Int->Bool):T->T->Option T
 |.int i,.int j=>aA (.bl (p i j))
 |_,_=>aB
def Xu:=qr λi j=>aE (i<=j)
def iF:=qr λi j=>aE (j < i)
def BY:=qr λi j=>aE (j<=i)
def CC{p:Int->Int->Bool}:iH (lU (λi j=>.bl (p i j))) (qr p):=by
 intro C H x y tx ty t Q bx by' hg q;unfold qr at hg;split at hg
 ·injection hg with hg; subst hg;exact⟨_,_,bx.int,by'.int,q _ (.bl _)⟩
 ·cases hg
def fo:T->Option Bool
 |.non=>aA aC |.bl _=>aA aD |.int _=>aA aD |.str _=>aA aD |.lst _=>aA aD |.tup _=>aA aD |.dct _=>aA aD |.set _ _=>aA aD |.scr _=>aA aD
 |.fd _=>aA aD
 |.any=>aB
def oo(x y:T):Option T:=match x,y with
 |.bl a,.bl b=>aA (.bl (a == b))
 |x,.non=>(fo x).map .bl
 |_,_=>aB
def fF(x y:T):Option T:=match x,y with
 |.bl a,.bl b=>aA (.bl (a != b))
 |x,.non=>(fo x).map λb=>.bl (!b)
 |_,_=>aB
def DW{C:jv->Prop}{H:Hp}{v:V}{t:T}{b:Bool}(h:BRep C H v t)(e:fo t=aA b):b=aE (v=.non):=by
 obtain h |⟨a,rfl,h⟩:=h
 ·cases h<;>simp[fo] at e<;>simp[<-e]
 ·cases h<;>simp[fo] at e<;>simp[<-e]
def He:iH (λx y H Q=>(∃ c d,x=.bl c/\y=.bl d/\Q (.bl (c == d)) H)∨(y=.non/\Q (.bl (aE (x=.non))) H)) oo:=by
 intro C H x y tx ty t Q bx by' hg q;unfold oo at hg;split at hg
 ·injection hg with hg; subst hg;exact .inl ⟨_,_,bx.bl,by'.bl,q _ (.bl _)⟩
 ·obtain⟨b,e,rfl⟩:=Qm hg;have z:=DW bx e;refine .inr ⟨by'.non,?_⟩;rw[<-z];exact q _ (.bl _)
 ·cases hg
def RA:iH (λx y H Q=>(∃ c d,x=.bl c/\y=.bl d/\Q (.bl (c != d)) H)∨(y=.non/\Q (.bl (!aE (x=.non))) H)) fF:=by
 intro C H x y tx ty t Q bx by' hg q;unfold fF at hg;split at hg
 ·injection hg with hg; subst hg;exact .inl ⟨_,_,bx.bl,by'.bl,q _ (.bl _)⟩
 ·obtain⟨b,e,rfl⟩:=Qm hg;have z:=DW bx e;refine .inr ⟨by'.non,?_⟩;rw[<-z];exact q _ (.bl _)
 ·cases hg
def ii:T->Option V
 |.non=>aA .non |.bl b=>aA (.bl b) |.int i=>aA (.int i) |.str x=>aA (.str x) |_=>aB
def ib:List T->Option (List V)
 |[]=>aA []
 |t::ts=>(ii t).bind λv=>(ib ts).map λvs=>v::vs
def vE{C:jv->Prop}{H:Hp}{v u:V}{t:T}(h:BRep C H v t)(e:ii t=aA u):u=v/\iM v=aC:=by
 cases t<;>simp[ii] at e
 ·exact⟨by rw[h.non,<-e],by rw[h.non]; rfl⟩
 ·exact⟨by rw[h.bl,<-e],by rw[h.bl]; rfl⟩
 ·exact⟨by rw[h.int,<-e],by rw[h.int]; rfl⟩
 ·exact⟨by rw[h.str,<-e],by rw[h.str]; rfl⟩
def vV{C:jv->Prop}{H:Hp}:∀ {vs us:List V} {ts:List T},Reps C H vs ts->ib ts=aA us->us=vs/\vs.all iM=aC
 |[],us,[],_,e=>by unfold ib at e; injection e with e; exact⟨e.symm,rfl⟩
 |v::vs,us,[],h,_=>by have:=h.1; simp at this
 |[],us,t::ts,h,_=>by have:=h.1; simp at this
 |v::vs,us,t::ts,h,e=>by
  unfold ib at e;cases e1:ii t with
  |none=>rw[e1] at e; cases e
  |some a=>
   rw[e1,jb] at e;cases e2:ib ts with
   |none=>rw[e2] at e; cases e
   |some as=>
    rw[e2] at e;injection e with e;obtain⟨q1,q2⟩:=vE (.inl h.head) e1;obtain⟨q3,q4⟩:=vV h.tail e2;exact⟨by rw[<-e,q1,q3],by rw[Yp,q2,q4]; rfl⟩
def bh(kvs:List (aL × T))(k:aL):Option T:=(kvs.find? λkv=>aE (kv.1=k)).map (·.2)
def UC(p:aL × T)(r:List (aL × T))(k:aL):bh (p::r) k=if p.1=k then aA p.2 else bh r k:=by
 unfold bh;rw[Za]
 by_cases h:p.1=k
 ·rw[aI h,bB h]; rfl
 ·rw[aH h,bL h]
def RepK.tail{C:jv->Prop}{H:Hp}{p:aL × V}{q:aL × T}{vs:List (aL × V)}{ts:List (aL × T)}(h:RepK C H (p::vs) (q::ts)):p.1=q.1/\Rep C H p.2 q.2/\RepK C H vs ts:=by
 have h1:=h.1;rw[jp,jp] at h1;injection h1 with a b;exact⟨a,h.2 0 p q rfl rfl,b,λi v t e1 e2=>h.2 (i+1) v t (by simpa using e1) (by simpa using e2)⟩
def RepK.cons{C:jv->Prop}{H:Hp}{p:aL × V}{q:aL × T}{vs:List (aL × V)}{ts:List (aL × T)}(e:p.1=q.1)(r:Rep C H p.2 q.2)(h:RepK C H vs ts):RepK C H (p::vs) (q::ts):=by
 refine⟨by rw[jp,jp,e,h.1],λi v t e1 e2=>?_⟩
 cases i with
 |zero=>simp at e1 e2; subst e1 e2; exact r
 |succ i=>exact h.2 i v t (by simpa using e1) (by simpa using e2)
def RepK.look{C:jv->Prop}{H:Hp}(k:aL):∀ {vs:List (aL × V)} {ts:List (aL × T)},RepK C H vs ts->(iL vs k=aB/\bh ts k=aB)∨∃ v t,iL vs k=aA v/\bh ts k=aA t/\Rep C H v t
 |[],[],_=>.inl ⟨rfl,rfl⟩
 |p::vs,[],h=>by have:=h.1; simp at this
 |[],q::ts,h=>by have:=h.1; simp at this
 |p::vs,q::ts,h=>by
  obtain⟨e,r,h'⟩:=h.tail;rw[UC]
  by_cases hk:q.1=k
  ·rw[aI hk,vi (e.trans hk)];exact .inr ⟨_,_,rfl,rfl,r⟩
  ·rw[aH hk,vh (λz=>hk (e.symm.trans z))];exact RepK.look k h'
def d6:T->Option aL
 |.int i=>aA (.inl i)
 |.str x=>aA (.inr x)
 |_=>aB
def oR{C:jv->Prop}{H:Hp}{v:V}{t:T}{k:aL}(h:BRep C H v t)(e:d6 t=aA k):v=kV k:=by
 cases t<;>simp[d6] at e
 ·rw[h.int,<-e]; rfl
 ·rw[h.str,<-e]; rfl
def qB(x y:T):Option Bool:=match y with
 |.lst ys=>(ii x).bind λv=>(ib ys).map λvs=>nk v vs
 |.tup ys=>(ii x).bind λv=>(ib ys).map λvs=>nk v vs
 |_=>aB
def xL(x y:T):Option T:=(qB x y).map .bl
def t3(x y:T):Option T:=(qB x y).map λb=>.bl (!b)
def y9(x y:T):Option Bool:=match y with
 |.dct kvs=>(d6 x).map λk=>(bh kvs k).isSome
 |.fd kvs=>(d6 x).map λk=>(bh kvs k).isSome
 |_=>aB
def By(x y:T):Option T:=(y9 x y).map .bl
def yj(x y:T):Option T:=(y9 x y).map λb=>.bl (!b)
def yJ{K:jd}{neg:Bool}:iH (xJ K neg) λx y=>(qB x y).map λb=>.bl (if neg then !b else b):=by
 intro C H x y tx ty t Q bx by' hg q;obtain⟨b,e,rfl⟩:=Qm hg;have fin:∀ {p vs ys},y=.ref p->(aq K H p vs∨cL K H p vs)->Reps C H vs ys->((ii tx).bind λv=>(ib ys).map λvs=>nk v vs)=aA b->xJ K neg x y H Q:=by
  intro p vs ys e1 e2 r e5;obtain⟨v,e3,e5⟩:=Qb e5;obtain⟨us,e4,rfl⟩:=Qm e5;obtain⟨q1,q2⟩:=vE bx e3;obtain⟨q3,q4⟩:=vV r e4;subst q1 q3;exact⟨p,_,e1,e2,q2,q4,q _ (.bl _)⟩
 cases ty with
 |lst ys=>
  obtain⟨p,vs,e1,e2,r⟩:=by'.lst;exact fin e1 (.inl (aq.of e2)) r e
 |tup ys=>
  obtain⟨p,vs,e1,e2,r⟩:=by'.tup;exact fin e1 (.inr (cL.of e2)) r e
 |_=>cases e
def yI{neg:Bool}:iH (λy x H Q=>∃ a o,x=.ref a/\DGet H a y o/\Q (.bl (if neg then !o.isSome else o.isSome)) H) λx y=>(y9 x y).map λb=>.bl (if neg then !b else b):=by
 intro C H x y tx ty t Q bx by' hg q;obtain⟨b,e,rfl⟩:=Qm hg;cases ty with
 |dct kts=>
  obtain⟨p,kvs,rfl,e2,r⟩:=by'.dct;obtain⟨k,e3,rfl⟩:=Qm e;cases oR bx e3;refine⟨p,_,rfl,DGet.k e2,?_⟩;have:(bh kts k).isSome=(iL kvs k).isSome:=by
   obtain ⟨h1,h2⟩ |⟨_,_,h1,h2,_⟩:=r.look k<;>rw[h1,h2]<;>rfl
  rw[<-this];exact q _ (.bl _)
 |fd kts=>
  obtain⟨p,ob,kvs,rfl,e2,r,_⟩:=by'.fd;obtain⟨k,e3,rfl⟩:=Qm e;cases oR bx e3;refine⟨p,_,rfl,.inl ⟨kvs,k,.inr ⟨ob,e2⟩,rfl,rfl⟩,?_⟩;have:(bh kts k).isSome=(iL kvs k).isSome:=by
   obtain ⟨h1,h2⟩ |⟨_,_,h1,h2,_⟩:=r.look k<;>rw[h1,h2]<;>rfl
  rw[<-this];exact q _ (.bl _)
 |_=>cases e
def iE:T->T->Option T
 |.lst xs,.int i=>dU xs i
 |.tup xs,.int i=>dU xs i
 |.str x,.int i=>if x.length<=ju then (dU x.cps.toList i).map λc=>.str ⟨#[c]⟩ else aB
 |.scr ns,.int i=>(dU ns i).map .int
 |_,_=>aB
def qA(x y:T):Option T:=match x with
 |.dct kvs=>(d6 y).bind λk=>bh kvs k
 |.fd kvs=>(d6 y).bind λk=>bh kvs k
 |_=>aB
def Reps.at{C:jv->Prop}{H:Hp}{vs:List V}{ts:List T}{i:Int}{t:T}(h:Reps C H vs ts)(e:dU ts i=aA t):∃ v,dU vs i=aA v/\Rep C H v t:=by
 unfold dU at e ⊢;rw[h.1];cases e1:fS ts.length i with
 |none=>rw[e1] at e; cases e
 |some j=>
  rw[e1] at e;exact h.get e
def CF:iH (Gv TheK.K) iE:=by
 intro C H x y tx ty t Q bx by' hg q;unfold iE at hg;split at hg
 ·obtain⟨p,vs,rfl,e2,r⟩:=bx.lst;obtain⟨v,h1,h2⟩:=r.at hg;exact .inl ⟨p,vs,_,v,rfl,by'.int,aq.of e2,h1,q v h2⟩
 ·obtain⟨p,vs,rfl,e2,r⟩:=bx.tup;obtain⟨v,h1,h2⟩:=r.at hg;exact .inr (.inl ⟨p,vs,_,v,rfl,by'.int,cL.of e2,h1,q v h2⟩)
 ·split at hg
  ·rename_i hl;obtain⟨c,h1,h2⟩:=Qm hg;subst h2;exact .inr (.inr ⟨_,_,c,bx.str,by'.int,hl,h1,q _ (.str _)⟩)
  ·cases hg
 ·obtain⟨p,rfl,e2⟩:=bx.scr;obtain⟨c,h1,h2⟩:=Qm hg;subst h2;refine .inl ⟨p,_,_,.int c,rfl,by'.int,e2,?_,q _ (.int c)⟩;unfold dU at h1 ⊢;rw[j4];cases e1:fS _ _ with
  |none=>rw[e1] at h1; cases h1
  |some j=>
   rw[e1,jb] at h1;rw[jb,jf,h1];rfl
 ·cases hg
def Ct:iH (λx y H Q=>∃ a v,x=.ref a/\DGet H a y (aA v)/\Q v H) qA:=by
 intro C H x y tx ty t Q bx by' hg q;unfold qA at hg;split at hg
 ·obtain⟨p,kvs,rfl,e2,r⟩:=bx.dct;cases e3:d6 ty with
  |none=>rw[e3] at hg; cases hg
  |some k=>
   rw[e3,jb] at hg;cases oR by' e3;obtain ⟨h1,h2⟩ |⟨v,t',h1,h2,h3⟩:=r.look k
   ·rw[h2] at hg; cases hg
   ·rw[h2] at hg;injection hg with hg; subst hg;exact⟨p,v,rfl,h1▸DGet.k e2,q v h3⟩
 ·obtain⟨p,ob,kvs,rfl,e2,r,_⟩:=bx.fd;cases e3:d6 ty with
  |none=>rw[e3] at hg; cases hg
  |some k=>
   rw[e3,jb] at hg;cases oR by' e3;obtain ⟨h1,h2⟩ |⟨v,t',h1,h2,h3⟩:=r.look k
   ·rw[h2] at hg; cases hg
   ·rw[h2] at hg;injection hg with hg; subst hg;exact⟨p,v,rfl,.inl ⟨kvs,k,.inr ⟨ob,e2⟩,rfl,h1.symm⟩,q v h3⟩
 ·cases hg
section
variable {a b:Q5}{fa fb:DE}
def PL(ha:PE X a (cE .e M fa))(hb:PE X b (cE .b M fb))(hm:Qp .NotIn b=aD):PE X (.Compare a [.NotIn] [b] pos) (cE .e M (d2 t3 fa fb)):=weak (yq G8 ha hb hm) (dY (yJ (neg:=aC)))
def RV(hu:X.A.units+1 < gg)(ha:PE X a (cE .e M fa))(hb:PE X b (cE .b M fb))(hm:Qp .NotIn b=aD):PE X (.Compare a [.NotIn] [b] pos) (cE .e M (d2 yj fa fb)):=weak (Mu (FY hu ha hb) hm) fun σ H Q h=>dY (yI (neg:=aC)) σ H Q h
def HR(hK:X.K=TheK.K)(ha:PE X a (cE .e M fa))(hb:PE X b (cE .b M fb))(hs:tJ b):PE X (.Subscript a b pos) (cE .e M (d2 iE fa fb)):=weak (Cm (hK▸Dh) ha hb hs) (dY CF)
def KI{i:Nat}(hK:X.K=TheK.K)(hi:M.contains i=aC)(ha:PE X a (d7 i))(hb:PE X b (cE .b M fb))(hs:tJ b):PE X (.Subscript a b pos) (cE .e M (cC iE i fb)):=weak (Cm (hK▸Dh) ha hb hs) (Db hi CF)
def KH(hu:X.A.units+1 < gg)(ha:PE X a (cE .e M fa))(hb:PE X b (cE .b M fb))(hs:uQ b):PE X (.Subscript a b pos) (cE .e M (d2 qA fa fb)):=weak (EK hu ha hb hs) fun σ H Q h=>dY Ct σ H Q h
def Lo{i:Nat}(hi:M.contains i=aC)(hu:X.A.units+1 < gg)(ha:PE X a (d7 i))(hb:PE X b (cE .b M fb))(hs:uQ b):PE X (.Subscript a b pos) (cE .e M (cC qA i fb)):=weak (EK hu ha hb hs) fun σ H Q h=>Db hi Ct σ H Q h
end
def dB(f:DE):DT:=λs=>(f s).bind λp=>match p.1 with
 |.bl b=>aA (b,p.2)
 |_=>aB
def yw{f:DE}{s s':Sg}{b:Bool}(h:dB f s=aA (b,s')):f s=aA (.bl b,s'):=by
 obtain⟨p,h1,h2⟩:=Qb h;obtain⟨t,s1⟩:=p;cases t<;>simp at h2
 rw[h1,h2.1,h2.2]
def iU{M:ak}{f:DE}{t:TE}(h:∀ σ H Q,cE .e M f σ H Q->t σ H Q):∀ σ H Q,cT M (dB f) σ H Q->D8 t σ H Q:=by
 intro σ H Q h_;refine qv h_ λF O s b s' R hf q=>?_;exact h σ H _ ⟨F,O,s,.bl b,s',R,yw hf,λv H' S p=>⟨b,BRep.bl (.inl p.2),q H' S p.1⟩⟩
def sH:T->Option Bool
 |.non=>aA aD |.bl b=>aA b |.int i=>aA (i != 0)
 |.str x=>if x.length<=ju then aA ((x.length:Int) != 0) else aB
 |.lst xs=>aA (!xs.isEmpty) |.tup xs=>aA (!xs.isEmpty) |.dct xs=>aA (!xs.isEmpty)
 |_=>aB
def zl{α β:Type}{xs:List α}{ys:List β}(h:xs.length=ys.length):(!ys.isEmpty)=!xs.isEmpty:=by
 cases xs<;>cases ys<;>simp at h<;>rfl
def Pj{K:jd}{C:jv->Prop}{H:Hp}{v:V}{t:T}{b:Bool}(h:BRep C H v t)(e:sH t=aA b):xa K v H b:=by
 cases t with
 |non=>rw[h.non]; injection e with e; exact e.symm
 |bl x=>rw[h.bl]; injection e with e; exact e.symm
 |int x=>rw[h.int]; injection e with e; exact e.symm
 |str x=>
  rw[h.str]
  by_cases hl:x.length<=ju
  ·have e':(if x.length<=ju then aA ((x.length:Int) != 0) else aB)=aA b:=e
   rw[aI hl] at e';injection e' with e';exact⟨hl,e'.symm⟩
  ·have e':(if x.length<=ju then aA ((x.length:Int) != 0) else aB)=aA b:=e
   rw[aH hl] at e';cases e'
 |lst xs=>
  obtain⟨p,vs,rfl,e2,r⟩:=h.lst;injection e with e;exact .inl ⟨vs,aq.of e2,by rw[<-e]; exact zl r.1⟩
 |tup xs=>
  obtain⟨p,vs,rfl,e2,r⟩:=h.tup;injection e with e;exact .inr (.inl ⟨vs,cL.of e2,by rw[<-e]; exact zl r.1⟩)
 |dct xs=>
  obtain⟨p,vs,rfl,e2,r⟩:=h.dct;injection e with e;have l:vs.length=xs.length:=by simpa using congrArg Yw r.1
  exact .inr (.inr ⟨vs,e2,by rw[<-e]; exact zl l⟩)
 |_=>cases e
def iJ(f:DE):DT:=λs=>(f s).bind λp=>(sH p.1).map λb=>(b,p.2)
def o5(f g:DT):DT:=λs=>(f s).bind λp=>if p.1 then g p.2 else aA (aD,p.2)
def sK(f g:DT):DT:=λs=>(f s).bind λp=>if p.1 then aA (aC,p.2) else g p.2
def sO(f:DT):DT:=λs=>(f s).map λp=>(!p.1,p.2)
def uf(f g:DE):DE:=λs=>(dB f s).bind λp=>if p.1 then g p.2 else aA (.bl aD,p.2)
def qt(c:DT)(f g:DE):DE:=λs=>(c s).bind λp=>if p.1 then f p.2 else g p.2
section
variable {a b c:Q5}{fa fb:DE}{ft fu:DT}{k:Kd}
def Hs(ha:PE X a (cE .e M fa))(hb:PE X b (cE .b M fb))(hm:Qp .In b=aD):PT X (.Compare a [.In] [b] pos) (cT M (dB (d2 xL fa fb))):=iB (lv Sw ha hb hm) (iU (dY (yJ (neg:=aD))))
def Pi(ha:PE X a (cE .e M fa))(hb:PE X b (cE .b M fb))(hm:Qp .NotIn b=aD):PT X (.Compare a [.NotIn] [b] pos) (cT M (dB (d2 t3 fa fb))):=iB (lv G8 ha hb hm) (iU (dY (yJ (neg:=aC))))
def LK(hu:X.A.units+1 < gg)(ha:PE X a (cE .e M fa))(hb:PE X b (cE .b M fb))(hm:Qp .In b=aD):PT X (.Compare a [.In] [b] pos) (cT M (dB (d2 By fa fb))):=iB (Dq (Mr hu ha hb) hm) fun σ H Q h=>iU (dY (yI (neg:=aD))) σ H Q h
def Rq(hu:X.A.units+1 < gg)(ha:PE X a (cE .e M fa))(hb:PE X b (cE .b M fb))(hm:Qp .NotIn b=aD):PT X (.Compare a [.NotIn] [b] pos) (cT M (dB (d2 yj fa fb))):=iB (Dq (FY hu ha hb) hm) fun σ H Q h=>iU (dY (yI (neg:=aC))) σ H Q h
end
def aJ:DA:=λs=>aA ([],s)
def aF(f:DE)(g:DA):DA:=λs=>(f s).bind λp=>(g p.2).map λq=>(p.1::q.1,q.2)
def cf(f:DA):DE:=λs=>(f s).bind λp=>if p.1.length<=ju then aA (.lst p.1,p.2) else aB
def eZ(f:DA):DE:=λs=>(f s).bind λp=>if p.1.length<=ju then aA (.tup p.1,p.2) else aB
section
variable {es:List Q5}
def oA:DE:=λs=>aA (.dct [],s)
end
abbrev DO:=Sg->Option (Option Int × Sg)
def cO(M:ak)(f:DO):TO:=fun σ H Q=>∃ F O s t s',Rel F O M s σ H/\f s=aA (t,s')/\∀ H',Step σ M H H'->Rel F O M s' σ H'->Q t H'
def i4:DO:=λs=>aA (aB,s)
def f9(f:DE):DO:=λs=>(f s).bind λp=>match p.1 with
 |.int i=>aA (aA i,p.2)
 |_=>aB
def dW{α:Type}(xs:List α)(lo hi:Option Int):List α:=(xs.drop (HT.sIx xs.length 0 lo)).take (HT.sIx xs.length xs.length hi - HT.sIx xs.length 0 lo)
def iw(t:T)(lo hi:Option Int):Option T:=match t with
 |.lst xs=>aA (.lst (dW xs lo hi))
 |.scr ns=>aA (.lst ((dW ns lo hi).map .int))
 |_=>aB
def o7(t:T)(lo hi:Option Int):Option T:=match t with
 |.str x=>if x.length<=ju then aA (.str (YZ x lo hi)) else aB
 |_=>aB
def dS(g:T->Option Int->Option Int->Option T)(f:DE)(l h:DO):DE:=λs=>(f s).bind λp=>(l p.2).bind λq=>(h q.2).bind λr=>(g p.1 q.1 r.1).map λt=>(t,r.2)
def uV(g:T->Option Int->Option Int->Option T)(i:Nat)(l h:DO):DE:=λs=>(s[i]?).join.bind λ_=>(l s).bind λq=>(h q.2).bind λr=>(r.2[i]?).join.bind λx=>(g x q.1 r.1).map λt=>(t,r.2)
def Reps.cut{C:jv->Prop}{H:Hp}{vs:List V}{ts:List T}(h:Reps C H vs ts)(lo hi:Option Int):Reps C H (o4 vs lo hi) (dW ts lo hi):=by
 unfold o4 dW;rw[h.1];exact(h.drop _).take _
def rZ{C:jv->Prop}{H:Hp}:∀(ns:am),Reps C H (ns.map V.int) (ns.map T.int)
 |[]=>.nil
 |n::ns=>.cons (.int n) (rZ ns)
def Bf(r:V->Option Int->Option Int->Hp->VK->Prop)(g:T->Option Int->Option Int->Option T):Prop:=∀(C:jv->Prop) (H:Hp) x lo hi tx t (Q:VK),BRep C H x tx->g tx lo hi=aA t->
 (∀ p o,H p=aB->(∀ C':jv->Prop,(∀ b,C b/\H b≠aB->C' b)->Live C' (aS H p o) p t)->Q (.ref p) (aS H p o))->r x lo hi H Q
def CH:Bf (CB TheK.K) iw:=by
 intro C H x lo hi tx t Q bx hg q;cases tx<;>simp[iw] at hg
 ·subst hg;obtain⟨a,vs,rfl,ha,ra⟩:=bx.lst;refine⟨a,vs,rfl,aq.of ha,λp hp=>q p _ hp λC' hC=>?_⟩;exact .lst cD ((ra.cut lo hi).there.mono hC λc o _ e=>by rw[au (dA e hp)]; exact e)
 ·rename_i ns;subst hg;obtain⟨a,rfl,ha⟩:=bx.scr;refine⟨a,_,rfl,ha,λp hp=>q p _ hp λC' hC=>.lst cD ?_⟩;have:o4 (ns.map V.int) lo hi=(dW ns lo hi).map V.int:=by
   unfold o4 dW;rw[j4,<-WE,<-WF]
  rw[this];exact rZ _
section
variable {lo hi:Option Q5}{fl fh:DO}{p2:Pos}
def Hf{g:T->Option Int->Option Int->Option T}{r:V->Option Int->Option Int->Hp->VK->Prop}(hs:Bf r g):∀ σ H Q,cE .n M (dS g fe fl fh) σ H Q->BU r (cE .e M fe) (cO M fl) (cO M fh) σ H Q:=by
 intro σ H Q h_;refine bz h_ λF O s t s' R hf q=>?_;obtain⟨p,h1,h2⟩:=Qb hf;obtain⟨l,h3,h4⟩:=Qb h2;obtain⟨u,h5,h6⟩:=Qb h4;obtain⟨t',h7,h8⟩:=Qm h6;injection h8 with h8 h9;subst h8 h9;refine⟨F,O,s,p.1,p.2,R,h1,λv H1 S1 p1=>⟨F,O,p.2,l.1,l.2,p1.1,h3,λH2 S2 R2=>⟨F,O,l.2,u.1,u.2,R2,h5,λH3 S3 R3=>?_⟩⟩⟩;have S:=(S1.trans S2).trans S3;exact hs (Free F O) H3 v l.1 u.1 p.1 t' Q (.inl (R2.stay S3 (p1.1.stay S2 p1.2))) h7 λa o ha L=>q _ _ (S.trans (.new ha o)) (.mkN R R3 S ha L)
def LD{g:T->Option Int->Option Int->Option T}{r:V->Option Int->Option Int->Hp->VK->Prop}{i:Nat}(hi:M.contains i=aC)(hs:Bf r g):∀ σ H Q,cE .n M (uV g i fl fh) σ H Q->BU r (d7 i) (cO M fl) (cO M fh) σ H Q:=by
 intro σ H Q h_;refine bz h_ λF O s t s' R hf q=>?_;obtain⟨x0,h0,hf⟩:=Qb hf;obtain⟨l,h3,h4⟩:=Qb hf;obtain⟨u,h5,h6⟩:=Qb h4;obtain⟨x,h6',h6⟩:=Qb h6;obtain⟨t',h7,h8⟩:=Qm h6;injection h8 with h8 h9;subst h8 h9;have hi':i∈M:=by simpa using hi
 obtain⟨a,e1,_⟩:=R.own i x0 (cv h0) hi';refine⟨_,e1,F,O,s,l.1,l.2,R,h3,λH2 S2 R2=>⟨F,O,l.2,u.1,u.2,R2,h5,λH3 S3 R3=>?_⟩⟩;have S:=S2.trans S3;obtain⟨v,e2,B⟩:=zh hi' R R3 (cv h0) (cv h6');rw[e1] at e2;cases e2;exact hs (Free F O) H3 _ l.1 u.1 x t' Q B h7 λa o ha L=>q _ _ (S.trans (.new ha o)) (.mkN R R3 S ha L)
def Bu(hK:X.K=TheK.K)(he:PE X e (cE .e M fe))(hl:PO X lo (cO M fl))(hu:PO X hi (cO M fh)):PE X (.Subscript e (.Slice lo hi aB p2) pos) (cE .n M (dS iw fe fl fh)):=weak (zc (hK▸EL) he hl hu) (Hf CH)
def KJ(he:PE X e (cE .e M fe))(hl:PO X lo (cO M fl))(hu:PO X hi (cO M fh)):PE X (.Subscript e (.Slice lo hi aB p2) pos) (cE .e M (dS o7 fe fl fh)):=weak (zc OL he hl hu) (by
 intro σ H Q h_;refine bz h_ λF O s t s' R hf q=>?_;obtain⟨p,h1,h2⟩:=Qb hf;obtain⟨l,h3,h4⟩:=Qb h2;obtain⟨u,h5,h6⟩:=Qb h4;obtain⟨t',h7,h8⟩:=Qm h6;cases h8;refine⟨F,O,s,p.1,p.2,R,h1,λv H1 S1 p1=>⟨F,O,p.2,l.1,l.2,p1.1,h3,λH2 S2 R2=>⟨F,O,l.2,u.1,u.2,R2,h5,λH3 S3 R3=>?_⟩⟩⟩;have S:=(S1.trans S2).trans S3;obtain⟨pt,ps⟩:=p;cases pt<;>simp[o7] at h7
 rename_i x;obtain⟨h7,h8⟩:=h7
 exact⟨x,BRep.str (.inl p1.2),h7,q _ _ S ⟨R3,by rw[<-h8]; exact .str _⟩⟩)
end
inductive Fl where
 |nx (s:Sg) |rt (t:T) (s:Sg) |bk (s:Sg) |ct (s:Sg)
abbrev DS:=Sg->Option Fl
structure Ios (F:Fr) (io M:ak) (σ:L2.St):Prop where
 at_:∀(i:Nat),i∈io->i∈M/\σ[i]?=aA (aA (.ref (F.adr i)))
 D:∀ a,F.D a->∃ j,j∈io/\a=F.adr j
def KeepO(O:jv->Prop)(H:Hp)(O':jv->Prop)(H':Hp):Prop:=(∀ b o,¬ O b->H b=aA o->H' b=aA o/\¬ O' b)/\∀ b,H' b=aB->H b=aB
def C1(F:Fr):jv->Prop:=λb=>¬ F.D b/\(F.C0 b∨F.H0 b=aB)
structure RetOk (F:Fr) (rk:Kd) (io:ak) (s':Sg) (t:T) (v:V) (H':Hp):Prop where
 keep:∀ b o,¬ F.D b->F.H0 b=aA o->H' b=aA o
 dom:∀ b,H' b=aB->F.H0 b=aB
 res:match rk with
  |.n=>∃ r,v=.ref r/\F.H0 r=aB/\¬ F.D r/\Live (λb=>C1 F b/\b≠r) H' r t/\∀(i:Nat),i∈io->∃ t',s'[i]?=aA (aA t')/\Live (λb=>C1 F b/\b≠r) H' (F.adr i) t'
  |.b=>Rep (λb=>F.H0 b=aB) H' v t
  |.e=>Rep (C1 F) H' v t/\∀(i:Nat),i∈io->∃ t',s'[i]?=aA (aA t')/\Live (C1 F) H' (F.adr i) t'
def EndOk(F:Fr)(rk:Kd)(io M' Mb:ak)(O:jv->Prop)(H:Hp)(D:Ends):Fl->Prop
 |.nx s'=>∀ O' σ' H',KeepO O H O' H'->Rel F O' M' s' σ' H'->Ios F io M' σ'->D.nx σ' H'
 |.bk s'=>∀ O' σ' H',KeepO O H O' H'->Rel F O' Mb s' σ' H'->Ios F io Mb σ'->D.bk σ' H'
 |.ct s'=>∀ O' σ' H',KeepO O H O' H'->Rel F O' Mb s' σ' H'->Ios F io Mb σ'->D.ct σ' H'
 |.rt t s'=>∀ v H',RetOk F rk io s' t v H'->D.rt v H'
def cS(rk:Kd)(io M M' Mb:ak)(d:DS):TS:=λD σ H=>∃ F O s r,Rel F O M s σ H/\Ios F io M σ/\d s=aA r/\EndOk F rk io M' Mb O H D r
def i5{rk:Kd}{io M M' Mb:ak}{d:DS}{D:_}{σ:L2.St}{H:Hp}(h:cS rk io M M' Mb d D σ H){G:Prop}(g:∀ F O s r,Rel F O M s σ H->Ios F io M σ->d s=aA r->EndOk F rk io M' Mb O H D r->G):G:=by
 obtain⟨F,O,s,r,R,I,hd,q⟩:=h;exact g F O s r R I hd q
section
variable {F:Fr}{O O' O'':jv->Prop}{s s':Sg}{σ:L2.St}{H H' H'':Hp}{v:V}{t:T}{a:jv}
def KeepO.refl:KeepO O H O H:=⟨λ_ _ n h=>⟨h,n⟩,λ_ h=>h⟩
def KeepO.trans(x:KeepO O H O' H')(y:KeepO O' H' O'' H''):KeepO O H O'' H'':=⟨λb o n h=>by
 obtain⟨h1,n1⟩:=x.1 b o n h
 exact y.1 b o n1 h1,λb h=>x.2 b (y.2 b h)⟩
def Step.keepO(S:Step σ M H H')(R:Rel F O M s σ H):KeepO O H O H':=⟨λb o n h=>⟨S.keep b o (R.notOwned n) h,n⟩,S.dom⟩
def EndOk.more{D:Ends}{r:Fl}(h:EndOk F rk io M' Mb O H D r)(k:KeepO O H O' H'):EndOk F rk io M' Mb O' H' D r:=by
 cases r with
 |nx s'=>exact λO2 σ2 H2 k2=>h O2 σ2 H2 (k.trans k2)
 |bk s'=>exact λO2 σ2 H2 k2=>h O2 σ2 H2 (k.trans k2)
 |ct s'=>exact λO2 σ2 H2 k2=>h O2 σ2 H2 (k.trans k2)
 |rt t s'=>exact h
def Rel.freeze(R:Rel F O M s σ H)(I:Ios F io M σ)(hM:∀ i,i∈M'->i∈M)(hio:∀ i,i∈io->i∈M'):∃ O',(∀ b,O' b->O b)/\Rel F O' M' s σ H/\Ios F io M' σ:=by
 refine⟨λb=>O b/\¬ ∃ j:Nat,j∈M/\j∉M'/\σ[j]?=aA (aA (.ref b)),λb z=>z.1,?_,⟨λi hi=>⟨hio i hi,(I.at_ i hi).2⟩,I.D⟩⟩;have w:∀ b,(O b/\¬ ∃ j:Nat,j∈M/\j∉M'/\σ[j]?=aA (aA (.ref b)))->O b:=λb z=>z.1;have notD:∀(i:Nat) b,i∈M->i∉M'->σ[i]?=aA (aA (.ref b))->¬ F.D b:=λi b hi hi' e z=>by
  obtain⟨j,hj,rfl⟩:=I.D b z;obtain⟨h1,h2⟩:=I.at_ j hj;have:=R.dis i j _ hi h1 e h2;subst this;exact hi' (hio i hj)
 refine⟨R.len,λi t e n=>?_,λi t e n=>?_,λi b hi e=>⟨R.ow i b (hM i hi) e,fun⟨j,h1,h2,h3⟩=>?_⟩,λi j b hi hj=>R.dis i j b (hM i hi) (hM j hj),R.keep,R.dom,λb z=>R.fresh b z.1,λb z=>⟨R.inD b z,fun⟨j,h1,h2,h3⟩=>notD j b h1 h2 h3 z⟩,λb z=>R.al b z.1⟩
 ·by_cases hi:i∈M
  ·obtain⟨b,h1,L⟩:=R.own i t e hi;refine⟨_,h1,L.rep (λc z=>z.weak w) ⟨λz=>z.2 ⟨i,hi,n,h1⟩,?_⟩⟩;obtain z |z:=R.fresh b (R.ow i b hi h1)
   ·exact absurd z (notD i b hi n h1)
   ·exact .inr z
  ·obtain⟨v,h1,h2⟩:=R.val i t e hi;exact⟨v,h1,h2.mono (λ_ c=>c.weak w) λ_ _ _ e=>e⟩
 ·obtain⟨b,h1,h2⟩:=R.own i t e (hM i n);exact⟨b,h1,h2.mono (λ_ c=>c.weak w) (λ_ _ _ e=>e) λ_ e=>e⟩
 ·have:=R.dis j i b h1 (hM i hi) h3 e;subst this;exact h2 hi
def lN{A B:ak}(h:A.all (B.contains ·)=aC):∀ i,i∈A->i∈B:=λi hi=>by simpa using jB.mp h i hi
def RW{D:Ends}{r:Fl}{Mx:ak}(hM:∀ i,i∈Mx->i∈M')(hio:∀ i,i∈io->i∈Mx)(h:EndOk F rk io Mx Mb O H D r):EndOk F rk io M' Mb O H D r:=by
 cases r with
 |nx s'=>
  intro O' σ' H' k R I;obtain⟨O2,w,R',I'⟩:=R.freeze I hM hio;exact h O2 σ' H' (k.trans ⟨λb o n h=>⟨h,λz=>n (w b z)⟩,λ_ h=>h⟩) R' I'
 |bk s'=>exact h
 |ct s'=>exact h
 |rt t s'=>exact h
def Rel.write{i:Nat}{t0 t':T}{o:HO}(R:Rel F O M s σ H)(hi:i∈M)(e:σ[i]?=aA (aA (.ref a)))(hs:s[i]?=aA (aA t0))(L:∀ H1,(∀ b u,Free F O b->H b=aA u->H1 b=aA u)->H1 a=aA o->Live (Free F O) H1 a t'):Rel F O M (s.set i (aA t')) σ (aS H a o):=by
 have oa:=R.ow i a hi e;have k:∀ b u,Free F O b->H b=aA u->aS H a o b=aA u:=λb u c q=>(au (λz:b=a=>c.1 (z▸oa))).trans q;have hl:=(j6.mp hs).1;refine⟨by rw[Qi]; exact R.len,λj t e' n=>?_,λj t e' n=>?_,R.ow,R.dis,λb u n q=>?_,λb q=>?_,R.fresh,R.inD,λb z=>?_⟩
 ·have hij:i≠j:=λz=>n (z▸hi);rw[jq hij] at e';obtain⟨v,h1,h2⟩:=R.val j t e' n;exact⟨v,h1,h2.mono (λ_ c=>c) k⟩
 ·by_cases hij:i=j
  ·subst hij;rw[jW hl] at e';cases e';exact⟨a,e,L _ k cD⟩
  ·rw[jq hij] at e';obtain⟨b,h1,h2⟩:=R.own j t e' n;have hne:b≠a:=λz=>hij (R.dis i j a hi n e (z▸h1));exact⟨b,h1,h2.mono (λ_ c=>c) k λu q=>by rw[au hne]; exact q⟩
 ·refine(au (λz=>?_)).trans (R.keep b u n q);subst z;obtain z |z:=R.fresh b oa
  ·exact n z
  ·rw[z] at q; cases q
 ·refine R.dom b ?_;unfold aS at q;split at q
  ·cases q
  ·exact q
 ·intro q;refine R.al b z ?_;unfold aS at q;split at q
  ·cases q
  ·exact q
def Step.write{i:Nat}{o:HO}(hi:i∈M)(e:σ[i]?=aA (aA (.ref a)))(_:H a≠aB):Step σ M H (aS H a o):=⟨λb u n q=>by
 exact(au (λz:b=a=>n i hi (z▸e))).trans q,λb q=>by
 unfold aS at q;split at q
 ·cases q
 ·exact q⟩
def Rel.setE{i:Nat}(R:Rel F O M s σ H)(hM:∀ j,j∈M'->j∈M/\j≠i)(hk:∀ j,j∈M->j∈M'∨j=i)(hi:i < s.length)(r:Rep (Free F O) H v t):Rel F O M' (s.set i (aA t)) (σ.set i (aA v)) H:=by
 have hi2:i < σ.length:=by rw[<-R.len]; exact hi
 refine⟨by rw[Qi,Qi]; exact R.len,λj t' e n=>?_,λj t' e n=>?_,λj b hj e=>?_,λj k b hj hk e1 e2=>?_,R.keep,R.dom,R.fresh,R.inD,R.al⟩
 ·by_cases hij:i=j
  ·subst hij;rw[jW hi] at e;cases e;exact⟨v,jW hi2,r⟩
  ·rw[jq hij] at e;rw[jq hij];exact R.val j t' e λz=>(hk j z).elim n λz=>hij z.symm
 ·obtain⟨h1,h2⟩:=hM j n;rw[jq (ZE h2)] at e;rw[jq (ZE h2)];exact R.own j t' e h1
 ·obtain⟨h1,h2⟩:=hM j hj;rw[jq (ZE h2)] at e;exact R.ow j b h1 e
 ·obtain⟨h1,h2⟩:=hM j hj;obtain⟨h3,h4⟩:=hM k hk;rw[jq (ZE h2)] at e1;rw[jq (ZE h4)] at e2;exact R.dis j k b h1 h3 e1 e2
def Rel.setN{i:Nat}(R:Rel F O M s σ H)(hM:∀ j,j∈M'->j=i∨j∈M)(hk:∀ j,j∈M->j∈M')(hi:i < s.length)(him:i∈M')(oa:O a)(nw:∀ j,j∈M->j≠i->σ[j]?≠aA (aA (.ref a)))(L:Live (Free F O) H a t):Rel F O M' (s.set i (aA t)) (σ.set i (aA (.ref a))) H:=by
 have hi2:i < σ.length:=by rw[<-R.len]; exact hi
 refine⟨by rw[Qi,Qi]; exact R.len,λj t' e n=>?_,λj t' e n=>?_,λj b hj e=>?_,λj k b hj hk' e1 e2=>?_,R.keep,R.dom,R.fresh,R.inD,R.al⟩
 ·have hij:i≠j:=λz=>n (z▸him);rw[jq hij] at e;rw[jq hij];exact R.val j t' e λz=>n (hk j z)
 ·by_cases hij:i=j
  ·subst hij;rw[jW hi] at e;cases e;exact⟨a,jW hi2,L⟩
  ·rw[jq hij] at e;rw[jq hij];exact R.own j t' e ((hM j n).resolve_left λz=>hij z.symm)
 ·by_cases hij:i=j
  ·subst hij;rw[jW hi2] at e;injection e with e;injection e with e;injection e with e;exact e▸oa
  ·rw[jq hij] at e;exact R.ow j b ((hM j hj).resolve_left λz=>hij z.symm) e
 ·by_cases hij:i=j
  ·by_cases hik:i=k
   ·exact hij.symm.trans hik
   ·subst hij;rw[jW hi2] at e1;rw[jq hik] at e2;injection e1 with e1;cases e1;exact absurd e2 (nw k ((hM k hk').resolve_left λz=>hik z.symm) (ZE hik))
  ·rw[jq hij] at e1
   by_cases hik:i=k
   ·subst hik;rw[jW hi2] at e2;injection e2 with e2;cases e2;exact absurd e1 (nw j ((hM j hj).resolve_left λz=>hij z.symm) (ZE hij))
   ·rw[jq hik] at e2;exact R.dis j k b ((hM j hj).resolve_left λz=>hij z.symm) ((hM k hk').resolve_left λz=>hik z.symm) e1 e2
def Ios.set{i:Nat}{x:Option V}(I:Ios F io M σ)(hio:i∉io)(hM:∀ j,j∈io->j∈M'):Ios F io M' (σ.set i x):=⟨λj hj=>by
 refine⟨hM j hj,?_⟩;rw[jq (λz:i=j=>hio (z▸hj))]
 exact(I.at_ j hj).2,I.D⟩
end
def aN(f g:DS):DS:=λs=>(f s).bind λr=>match r with
 |.nx s'=>g s'
 |r=>aA r
def bq:DS:=λs=>aA (.nx s)
def aZ(i:Nat)(f:DE):DS:=λs=>(f s).bind λp=>if i < p.2.length then aA (.nx (p.2.set i (aA p.1))) else aB
def bj(c:DT)(f g:DS):DS:=λs=>(c s).bind λp=>if p.1 then f p.2 else g p.2
def iX(f:DE):DS:=λs=>(f s).map λp=>.nx p.2
section
variable {M'':ak}{st:QX}{sts:List QX}{c:Q5}{a b:List QX}{d d':DS}{ft:DT}{pos':Pos}
def D5(M M' io:ak)(i:Nat):Bool:=M'.all (λj=>M.contains j&&j != i)&&M.all (λj=>M'.contains j||j == i)&&!io.contains i&&io.all (M'.contains ·)
def D6(M M' io:ak)(i:Nat):Bool:=M'.all (λj=>j == i||M.contains j)&&M.all (M'.contains ·)&&M'.contains i&&!io.contains i&&io.all (M'.contains ·)
def Free.c1{F:Fr}{O:jv->Prop}{M:ak}{s:Sg}{σ:L2.St}{H:Hp}(R:Rel F O M s σ H){b:jv}(c:Free F O b):C1 F b:=⟨λz=>c.1 (R.inD b z),c.2⟩
def Co{F:Fr}{O:jv->Prop}{s:Sg}{σ:L2.St}{H:Hp}{v:V}{t:T}(R:Rel F O M s σ H)(I:Ios F io M σ)(hio:∀ i,i∈io->∃ t,s[i]?=aA (aA t))(r:Rep (Free F O) H v t):RetOk F .e io s t v H:=by
 refine⟨R.keep,R.dom,r.mono (λ_ c=>c.c1 R) (λ_ _ _ e=>e),λi hi=>?_⟩;obtain⟨t',ht⟩:=hio i hi;obtain⟨h1,h2⟩:=I.at_ i hi;obtain⟨a,h3,L⟩:=R.own i t' ht h1;rw[h2] at h3;injection h3 with h3;cases h3;exact⟨t',ht,L.mono (λ_ c=>c.c1 R) (λ_ _ _ e=>e) λ_ e=>e⟩
def Cp{F:Fr}{O:jv->Prop}{s:Sg}{σ:L2.St}{H:Hp}{t:T}{a:jv}(R:Rel F O M s σ H)(I:Ios F io M σ)(hio:∀ i,i∈io->∃ t,s[i]?=aA (aA t))(oa:O a)(h0:F.H0 a=aB)(nd:¬ F.D a)(L:Live (Free F O) H a t):RetOk F .n io s t (.ref a) H:=by
 have w:∀ b,Free F O b->C1 F b/\b≠a:=λb c=>⟨c.c1 R,λz=>c.1 (z▸oa)⟩;refine⟨R.keep,R.dom,a,rfl,h0,nd,L.mono w (λ_ _ _ e=>e) λ_ e=>e,λi hi=>?_⟩;obtain⟨t',ht⟩:=hio i hi;obtain⟨h1,h2⟩:=I.at_ i hi;obtain⟨b,h3,L⟩:=R.own i t' ht h1;rw[h2] at h3;injection h3 with h3;cases h3;exact⟨t',ht,L.mono w (λ_ _ _ e=>e) λ_ e=>e⟩
def hasAll(io:ak)(s:Sg):Bool:=io.all λi=>(s[i]?).join.isSome
def hasAll.get{io:ak}{s:Sg}(h:hasAll io s=aC):∀ i,i∈io->∃ t,s[i]?=aA (aA t):=λi hi=>by
 have:=jB.mp h i hi;cases e:(s[i]?).join with
 |none=>rw[e] at this; cases this
 |some t=>exact⟨t,cv e⟩
def bC(io:ak)(f:DE):DS:=λs=>(f s).bind λp=>if hasAll io p.2 then aA (.rt p.1 p.2) else aB
end
def sY:T->Bool
 |.lst _=>aC
 |_=>aD
def SM(r:V->List V->Hp->VK->Prop)(g:T->List T->Option (T × T)):Prop:=∀(C:jv->Prop) (H:Hp) a tx vs ts t' tr (Q:VK),¬ C a->Live C H a tx->Reps C H vs ts->g tx ts=aA (t',tr)->
 (∀ o v,(∀ H1,(∀ b u,C b->H b=aA u->H1 b=aA u)->H1 a=aA o->Live C H1 a t')->Rep C H v tr->Q v (aS H a o))->r (.ref a) vs H Q
def eR(g:T->List T->Option (T × T))(i:Nat)(fa:DA):DE:=λs=>(s[i]?).join.bind λt0=>if sY t0 then (fa s).bind λp=>(p.2[i]?).join.bind λt=>(g t p.1).map λq=>(q.2,p.2.set i (aA q.1)) else aB
def i9:T->List T->Option (T × T)
 |.lst xs,[t]=>if xs.length < ju then aA (.lst (xs++[t]),.non) else aB
 |_,_=>aB
def o9:T->List T->Option (T × T)
 |.lst xs,[.lst ys]=>if xs.length+ys.length<=ju then aA (.lst (xs++ys),.non) else aB
 |_,_=>aB
def lY:T->List T->Option (T × T)
 |.lst xs,[]=>(xs[xs.length - 1]?).map λy=>(.lst xs.dropLast,y)
 |_,_=>aB
def Live.lst'{C:jv->Prop}{H:Hp}{a:jv}{ts:List T}(h:Live C H a (.lst ts)):∃ vs,H a=aA (.lst vs)/\Reps C H vs ts:=by
 cases h with |lst r h=>exact⟨_,r,h⟩
def Reps.one{C:jv->Prop}{H:Hp}{vs:List V}{t:T}(h:Reps C H vs [t]):∃ v,vs=[v]/\Rep C H v t:=by
 obtain⟨v,rfl⟩:=gX.mp h.1;exact⟨v,rfl,h.head⟩
def Reps.none{C:jv->Prop}{H:Hp}{vs:List V}(h:Reps C H vs []):vs=[]:=List.length_eq_zero_iff.mp h.1
def Reps.snoc{C:jv->Prop}{H:Hp}{vs:List V}{ts:List T}{v:V}{t:T}(h:Reps C H vs ts)(r:Rep C H v t):Reps C H (vs++[v]) (ts++[t]):=h.append (.cons r .nil)
def Ip:SM zF i9:=by
 intro C H a tx vs ts t' tr Q hn L R hg q;unfold i9 at hg;split at hg
 ·split at hg
  ·rename_i hl;cases hg;obtain⟨us,h1,h2⟩:=L.lst';obtain⟨v,rfl,rv⟩:=R.one;refine⟨a,us,v,rfl,rfl,h1,by rw[h2.1]; exact hl,q _ _ (λH1 k e=>.lst e ?_) .non⟩
   exact(h2.snoc rv).mono (λ_ c=>c) k
  ·cases hg
 ·cases hg
def Iq:SM zH o9:=by
 intro C H a tx vs ts t' tr Q hn L R hg q;unfold o9 at hg;split at hg
 ·split at hg
  ·rename_i hl;cases hg;obtain⟨us,h1,h2⟩:=L.lst';obtain⟨v,rfl,rv⟩:=R.one;obtain⟨b,ws,rfl,h3,h4⟩:=BRep.lst (.inl rv);refine⟨a,b,us,ws,rfl,rfl,h1,h3,by rw[h2.1,h4.1]; exact hl,q _ _ (λH1 k e=>.lst e ?_) .non⟩
   exact(h2.append h4).mono (λ_ c=>c) k
  ·cases hg
 ·cases hg
def Reps.dropLast{C:jv->Prop}{H:Hp}{vs:List V}{ts:List T}(h:Reps C H vs ts):Reps C H vs.dropLast ts.dropLast:=by
 rw[NN,NN,h.1];exact h.take _
def Reps.rev{C:jv->Prop}{H:Hp}:∀ {vs:List V} {ts:List T},Reps C H vs ts->Reps C H vs.reverse ts.reverse
 |[],[],_=>.nil
 |v::vs,[],h=>by have:=h.1; simp at this
 |[],t::ts,h=>by have:=h.1; simp at this
 |v::vs,t::ts,h=>by
  rw[Z1,Z1];exact(Reps.rev h.tail).snoc h.head
def Ir:SM xj lY:=by
 intro C H a tx vs ts t' tr Q hn L R hg q;unfold lY at hg;split at hg
 ·obtain⟨y,hy,h0⟩:=Qm hg;cases h0;obtain⟨us,h1,h2⟩:=L.lst';cases R.none;obtain⟨v,hv,rv⟩:=h2.get hy;exact⟨a,us,v,rfl,rfl,h1,by rw[h2.1]; exact hv,q _ _ (λH1 k e=>.lst e (h2.dropLast.mono (λ_ c=>c) k)) rv⟩
 ·cases hg
section
def xv{r:V->List V->Hp->VK->Prop}{g:T->List T->Option (T × T)}{i:Nat}(hi:M.contains i=aC)(hs:SM r g):∀ σ H Q,cE .e M (eR g i fa) σ H Q->ng X.K "list" r (d7 i) (cA M fa) σ H Q:=by
 intro σ H Q h_;refine bz h_ λF O s t s' R hf q=>?_;have hi':i∈M:=by simpa using hi
 obtain⟨t0,h0,hf⟩:=Qb hf;split at hf
 ·rename_i hl;obtain⟨p,h1,hf⟩:=Qb hf;obtain⟨t1,h2,hf⟩:=Qb hf;obtain⟨w,h3,h4⟩:=Qm hf;cases h4;obtain⟨a,e1,L0⟩:=R.own i t0 (cv h0) hi';refine⟨_,e1,?_,F,O,s,p.1,p.2,R,h1,λvs H1 S1 R1 rs=>?_⟩
  ·cases L0 with
   |lst r h=>exact .inl ⟨rfl,_,aq.of r⟩
   |_=>cases hl
  obtain⟨b,e2,L⟩:=R1.own i t1 (cv h2) hi';rw[e1] at e2;injection e2 with e2;cases e2;refine hs (Free F O) H1 a t1 vs p.1 w.1 w.2 Q (λz=>z.1 (R1.ow i a hi' e1)) L rs h3 λo v hL rv=>?_;have R2:=R1.write (o:=o) hi' e1 (cv h2) hL;refine q v _ (S1.trans (.write hi' e1 L.ne)) ⟨R2,?_⟩;exact R1.stay (.write hi' e1 L.ne) rv
 ·cases hf
def Ml{r:V->List V->Hp->VK->Prop}{g:T->List T->Option (T × T)}{i:Nat}(hi:M.contains i=aC)(hs:SM r g):∀ σ H Q,cE .e M (eR g i aJ) σ H Q->uZ X.K "list" r (d7 i) σ H Q:=by
 rintro σ H Q h;obtain⟨v,e,ty,F,O,s,ts,s',R,hf,q⟩:=xv (X:=X) hi hs σ H Q h;cases hf;exact⟨v,e,ty,q [] H .refl R .nil⟩
end
def dI(kvs:List (aL × T))(k:aL)(v:T):List (aL × T):=
 if kvs.any λkv=>aE (kv.1=k) then kvs.map λkv=>if kv.1=k then (kv.1,v) else kv else kvs++[(k,v)]
def RepK.any{C:jv->Prop}{H:Hp}(k:aL):∀ {vs:List (aL × V)} {ts:List (aL × T)},RepK C H vs ts->(vs.any λkv=>aE (kv.1=k))=ts.any λkv=>aE (kv.1=k)
 |[],[],_=>rfl
 |p::vs,[],h=>by have:=h.1; simp at this
 |[],q::ts,h=>by have:=h.1; simp at this
 |p::vs,q::ts,h=>by
  obtain⟨e,r,h'⟩:=h.tail;rw[Zm,Zm,RepK.any k h',e]
def RepK.mapPut{C:jv->Prop}{H:Hp}{k:aL}{v:V}{t:T}(r:Rep C H v t):∀ {vs:List (aL × V)} {ts:List (aL × T)},RepK C H vs ts->RepK C H (vs.map λkv=>if kv.1=k then (kv.1,v) else kv) (ts.map λkv=>if kv.1=k then (kv.1,t) else kv)
 |[],[],h=>h
 |p::vs,[],h=>by have:=h.1; simp at this
 |[],q::ts,h=>by have:=h.1; simp at this
 |p::vs,q::ts,h=>by
  obtain⟨e,r',h'⟩:=h.tail;rw[jp,jp]
  by_cases hk:q.1=k
  ·rw[aI hk,aI (e.trans hk)];exact .cons e r (RepK.mapPut r h')
  ·rw[aH hk,aH (λz=>hk (e.symm.trans z))];exact .cons e r' (RepK.mapPut r h')
def RepK.append{C:jv->Prop}{H:Hp}:∀ {vs ws:List (aL × V)} {ts us:List (aL × T)},RepK C H vs ts->RepK C H ws us->RepK C H (vs++ws) (ts++us)
 |[],_,[],_,_,h=>h
 |p::vs,_,[],_,h,_=>by have:=h.1; simp at this
 |[],_,q::ts,_,h,_=>by have:=h.1; simp at this
 |p::vs,_,q::ts,_,h,h2=>by
  obtain⟨e,r',h'⟩:=h.tail;exact .cons e r' (RepK.append h' h2)
def RepK.put{C:jv->Prop}{H:Hp}{k:aL}{v:V}{t:T}{vs:List (aL × V)}{ts:List (aL × T)}(h:RepK C H vs ts)(r:Rep C H v t):RepK C H (dv vs k v) (dI ts k t):=by
 unfold dv dI;rw[h.any k];split
 ·exact RepK.mapPut r h
 ·exact RepK.append h (.cons rfl r ⟨rfl,λi v t e=>by simp at e⟩)
def RepK.len{C:jv->Prop}{H:Hp}{vs:List (aL × V)}{ts:List (aL × T)}(h:RepK C H vs ts):vs.length=ts.length:=by simpa using congrArg Yw h.1
def im(i:Nat)(fk fv:DE):DS:=λs=>(fv s).bind λp=>(p.2[i]?).join.bind λ_=>(fk p.2).bind λq=>(q.2[i]?).join.bind λt=>match t with
 |.dct kvs=>(d6 q.1).bind λk=>if kvs.length < ju then aA (.nx (q.2.set i (aA (.dct (dI kvs k p.1))))) else aB
 |_=>aB
def oB(i:Nat)(fk fv:DE):DS:=λs=>(fv s).bind λp=>(p.2[i]?).join.bind λ_=>(fk p.2).bind λq=>(q.2[i]?).join.bind λt=>match t,q.1 with
 |.lst xs,.int k=>(fS xs.length k).map λj=>.nx (q.2.set i (aA (.lst (xs.set j p.1))))
 |_,_=>aB
section
variable {st:QX}{fk fv:DE}
def lG:ak->fA
 |[]=>qC
 |i::r=>oC (eS i) (lG r)
def iC:ak->List T->Sg->Option Sg
 |[],[],s=>aA s
 |i::is,t::ts,s=>if i < s.length then iC is ts (s.set i (aA t)) else aB
 |_,_,_=>aB
def vU{F:Fr}{O:jv->Prop}{H:Hp}{Q:L2.St->Hp->Prop}:∀ {is:ak} {ts:List T} {vs:List V} {s s':Sg} {σ:L2.St},Rel F O M s σ H->Ios F io M σ->(∀ i,i∈is->i∉M)->(∀ i,i∈io->i∈M)->Reps (Free F O) H vs ts->iC is ts s=aA s'->
  (∀ σ',Rel F O M s' σ' H->Ios F io M σ'->Q σ' H)->lG is vs σ H Q
 |[],[],vs,s,s',σ,R,I,_,_,h,e,q=>by
  cases e;exact⟨h.none,q σ R I⟩
 |[],t::ts,vs,s,s',σ,R,I,_,_,h,e,q=>by cases e
 |i::is,[],vs,s,s',σ,R,I,_,_,h,e,q=>by cases e
 |i::is,t::ts,[],s,s',σ,R,I,_,_,h,e,q=>by have:=h.1; simp at this
 |i::is,t::ts,v::vs,s,s',σ,R,I,hm,hio,h,e,q=>by
  unfold iC at e;split at e
  ·rename_i hl;have hi:=hm i jV;exact⟨v,vs,rfl,vU (R.setE (λj hj=>⟨hj,λz=>hi (z▸hj)⟩) (λj hj=>.inl hj) hl h.head) (I.set (λz=>hi (hio i z)) hio) (λj hj=>hm j (jA _ hj)) hio h.tail e q⟩
  ·cases e
def v7:T->Option (List T)
 |.lst xs=>aA xs
 |.tup xs=>aA xs
 |_=>aB
def uH(is:ak)(f:DE):DS:=λs=>(f s).bind λp=>(v7 p.1).bind λts=>(iC is ts p.2).map .nx
end
def qy(F:Fr)(O:jv->Prop)(its:List T)(J:It)(H1:Hp):Prop:=∀ H2,(∀ b o,Free F O b->H1 b=aA o->H2 b=aA o)->
 ∀ i:Nat,(∀ t,its[i]?=aA t->J.go i H2/\∀ x H3,J.yld i H2 x H3->(H3=H2∨∃ p o,H2 p=aB/\H3=aS H2 p o)/\Rep (λb=>(Free F O b/\H1 b≠aB)∨H2 b=aB) H3 x t)/\(its.length<=i->J.stop i H2)
abbrev DI:=Sg->Option (List T × Sg)
def cI(M:ak)(f:DI):TI:=fun σ H R=>∃ F O s its s',Rel F O M s σ H/\f s=aA (its,s')/\∀ J H',Step σ M H H'->Rel F O M s' σ H'->qy F O its J H'->R J H'
def nt{M:ak}{f:DI}{σ:L2.St}{H:Hp}{R:_}(h:cI M f σ H R){G:Prop}(g:∀ F O s its s',Rel F O M s σ H->f s=aA (its,s')->(∀ J H',Step σ M H H'->Rel F O M s' σ H'->qy F O its J H'->R J H')->G):G:=by
 obtain⟨F,O,s,its,s',Rl,hf,q⟩:=h;exact g F O s its s' Rl hf q
def nM{X:Cx}{tg e:Q5}{t t':TI}(h:PI X tg e t)(hw:∀ σ H R,t' σ H R->t σ H R):PI X tg e t':=λpc s σ H R I q=>h pc s σ H R I (hw _ _ _ q)
def Ba(f:DE):DI:=λs=>(f s).bind λp=>match p.1 with
 |.lst xs=>aA (xs,p.2)
 |.scr ns=>aA (ns.map .int,p.2)
 |_=>aB
def Bt(f:DE):DI:=λs=>(f s).bind λp=>match p.1 with
 |.tup xs=>aA (xs,p.2)
 |_=>aB
def eO(lo:Int)(n:Nat):List T:=(j7 n).map fun(i:Nat)=>T.int (lo+i)
def eN(j:Int):Bool:=(j+2000).natAbs.ble 4000
def vz{j:Int}(h:eN j=aC):-(2 ^ 62)<=j/\j < 2 ^ 62:=by
 unfold eN at h;have:=gc h;lia
def i7(f:DA):DI:=λs=>(f s).bind λp=>match p.1 with
 |[.int j]=>if eN j=aC then aA (eO 0 j.toNat,p.2) else aB
 |_=>aB
def r6(f:DA):DI:=λs=>(f s).bind λp=>match p.1 with
 |[.int i,.int j]=>if eN i=aC/\eN j=aC then aA (eO i (j - i).toNat,p.2) else aB
 |_=>aB
def l7(xs:List T):List T:=(j7 xs.length).map fun(i:Nat)=>T.tup [.int i,xs.getD i .non]
def sL(f:DA):DI:=λs=>(f s).bind λp=>match p.1 with
 |[.lst xs]=>aA (l7 xs,p.2)
 |_=>aB
section
variable {tg:Q5}
def PV{F:Fr}{O:jv->Prop}{H1:Hp}{a:jv}{vs:List V}{ts:List T}{K:jd}(fr:Free F O a)(ha:H1 a=aA (.lst vs))(r:Reps (Free F O) H1 vs ts):qy F O ts (xT K a) H1:=by
 intro H2 k i;have h2:=k a _ fr ha;refine⟨λt ht=>?_,λhl=>⟨vs,aq.of h2,by rw[r.1]; exact hl⟩⟩
 obtain⟨v,hv,rv⟩:=r.get ht;refine⟨⟨vs,v,aq.of h2,hv⟩,λx H3 ⟨e1,e2⟩=>⟨.inl e1,?_⟩⟩;have:=e2 vs (aq.of h2);rw[hv] at this;obtain rfl:v=x:=jh this;subst e1;exact rv.there.mono (λb c=>.inl c) λb o c e=>k b o c.1 e
def De{F:Fr}{O:jv->Prop}{H1:Hp}{a:jv}{ns:am}{K:jd}(h:∀ H2,(∀ b o,Free F O b->H1 b=aA o->H2 b=aA o)->aq K H2 a (ns.map V.int)):qy F O (ns.map T.int) (xT K a) H1:=by
 intro H2 k i;have h2:=h H2 k;refine⟨λt ht=>?_,λhl=>⟨_,h2,by simpa using hl⟩⟩
 obtain⟨v,hv,rv⟩:=(rZ (C:=λb=>(Free F O b/\H1 b≠aB)∨H2 b=aB) (H:=H2) ns).get ht;refine⟨⟨_,v,h2,hv⟩,λx H3 ⟨e1,e2⟩=>⟨.inl e1,?_⟩⟩;have:=e2 _ h2;rw[hv] at this;obtain rfl:v=x:=jh this;subst e1;exact rv
def M8(hK:X.K=TheK.K)(h:PE X e (cE .e M fe)):PI X tg e (cI M (Ba fe)):=nM (t:=CZ TheK.K (cE .e M fe)) (hK▸P5 h) (by
 intro σ H R h_;refine nt h_ λF O s its s' Rl hf q=>?_;obtain⟨⟨p1,p2⟩,h1,h2⟩:=Qb hf;refine⟨F,O,s,p1,p2,Rl,h1,λv H1 S1 po=>?_⟩;cases p1<;>simp at h2
 ·obtain⟨h3,h4⟩:=h2;subst h3 h4;have po2:=po.2;cases po2 with
  |lst c r l h=>
   exact⟨_,rfl,⟨_,aq.of r⟩,q _ H1 S1 po.1 (PV c r ⟨l,h⟩)⟩
 ·obtain⟨h3,h4⟩:=h2;subst h3 h4;have po2:=po.2;cases po2 with
  |@scr a ns o c r=>
   refine⟨a,rfl,⟨_,.inl (.inr ⟨o,r⟩)⟩,q _ H1 S1 po.1 ?_⟩;exact De λH2 k=>.inl (.inr ⟨o,k a _ c r⟩)
  |@scrK a ns r=>
   refine⟨a,rfl,⟨_,r H1⟩,q _ H1 S1 po.1 ?_⟩
   exact De λH2 k=>r H2)
def Ih(h:PE X e (cE .e M fe)):PI X tg e (cI M (Bt fe)):=nM (ML h) (by
 intro σ H R h_;refine nt h_ λF O s its s' Rl hf q=>?_;obtain⟨⟨p1,p2⟩,h1,h2⟩:=Qb hf;refine⟨F,O,s,p1,p2,Rl,h1,λv H1 S1 po=>?_⟩;cases p1<;>simp at h2
 obtain⟨h3,h4⟩:=h2;subst h3 h4;have po2:=po.2;cases po2 with
 |tup c r l h=>
  rename_i a vs;refine⟨a,rfl,⟨vs,cL.of r⟩,q _ H1 S1 po.1 ?_⟩;intro H2 k i;have h2:=k a _ c r;refine⟨λt ht=>?_,λhl=>⟨vs,cL.of h2,by rw[l]; exact hl⟩⟩
  obtain⟨v,hv,rv⟩:=Reps.get (⟨l,h⟩:Reps (Free F O) H1 vs _) ht;refine⟨⟨vs,v,cL.of h2,hv⟩,λx H3 ⟨e1,e2⟩=>⟨.inl e1,?_⟩⟩;have:=e2 vs (cL.of h2);rw[hv] at this;obtain rfl:v=x:=jh this;subst e1
  exact rv.there.mono (λb c=>.inl c) λb o c e=>k b o c.1 e)
def Ep{F:Fr}{O:jv->Prop}{H1:Hp}{lo:Int}{n:Nat}:qy F O (eO lo n) (uM lo n) H1:=by
 intro H2 k i;unfold eO;refine⟨λt ht=>?_,λhl=>by show n<=i; simpa using hl⟩
 rw[jf] at ht;obtain⟨j,hj,e⟩:=Qm ht;have hi:i < n:=by simpa using (j6.mp hj).1
 rw[QL hi] at hj;obtain rfl:i=j:=jh hj;refine⟨hi,λx H3 ⟨e1,e2⟩=>⟨.inl e1,?_⟩⟩;subst e1 e2 e;exact .int _
end
abbrev DG:=T->Sg->Option Sg
def cG(io M:ak)(g:DG):TG:=λv σ H Q=>∃ F O s t s',Rel F O M s σ H/\Ios F io M σ/\Rep (Free F O) H v t/\g t s=aA s'/\∀ σ',Rel F O M s' σ' H->Ios F io M σ'->Q σ' H
def bK(i:Nat):DG:=λt s=>if i < s.length then aA (s.set i (aA t)) else aB
def fK(is:ak):DG:=λt s=>match t with
 |.tup ts=>iC is ts s
 |_=>aB
def Cy{X:Cx}{e:Q5}{t t':TG}(h:PG X e t)(hw:∀ v σ H Q,t' v σ H Q->t v σ H Q):PG X e t':=λpc s σ H v u Q I r q=>h pc s σ H v u Q I r (hw _ _ _ _ q)
section
variable {tg iter:Q5}{body:List QX}{fi:DI}{g:DG}{db:DS}
def gn{i:Nat}(hi:M.contains i=aD)(hio:io.all (M.contains ·)=aC):∀ v σ H Q,cG io M (bK i) v σ H Q->eS i v σ H Q:=by
 rintro v σ H Q ⟨F,O,s,t,s',R,I,r,hg,q⟩;have hi':i∉M:=by simpa using hi
 unfold bK at hg;split at hg
 ·rename_i hl;cases hg;exact q _ (R.setE (λj hj=>⟨hj,λz=>hi' (z▸hj)⟩) (λj hj=>.inl hj) hl r) (I.set (λz=>hi' (lN hio i z)) (lN hio))
 ·cases hg
def gt{is:ak}{n:Nat}{K:jd}(hn:is.length=n)(hm:is.all (λi=>!M.contains i)=aC)(hio:io.all (M.contains ·)=aC):∀ v σ H Q,cG io M (fK is) v σ H Q->ia K n (lG is) v σ H Q:=by
 rintro v σ H Q ⟨F,O,s,t,s',R,I,r,hg,q⟩;obtain⟨ts,rfl⟩:∃ ts,t=.tup ts:=by cases t<;>first |exact⟨_,rfl⟩ |cases hg
 have hg:=hg;have hl:∀ {is:ak} {ts:List T} {s s':Sg},iC is ts s=aA s'->ts.length=is.length:=by
  intro is
  induction is with
  |nil=>intro ts s s' e; cases ts with
   |nil=>rfl
   |cons=>cases e
  |cons i is ih=>intro ts s s' e; cases ts with
   |nil=>cases e
   |cons t ts=>
    unfold iC at e;split at e
    ·rw[jo,jo,ih e]
    ·cases e
 obtain⟨a,vs,rfl,ha,ra⟩:=BRep.tup (.inl r);exact⟨a,vs,rfl,cL.of ha,by rw[ra.1,hl hg,hn],vU R I (λi hi=>by simpa using jB.mp hm i hi) (lN hio) ra hg q⟩
def fO(g:DG)(db:DS):List T->Sg->Option Fl
 |[],s=>aA (.nx s)
 |x::xs,s=>(g x s).bind λs1=>(db s1).bind λr=>match r with
  |.nx s2=>fO g db xs s2
  |.ct s2=>fO g db xs s2
  |.bk s2=>aA (.nx s2)
  |.rt t s2=>aA (.rt t s2)
def cM(fi:DI)(g:DG)(db:DS):DS:=λs=>(fi s).bind λp=>fO g db p.1 p.2
def Th{F:Fr}{O O1:jv->Prop}{s:Sg}{σ:L2.St}{H1 H2 H3:Hp}{x:V}{t:T}(k:KeepO O H1 O1 H2)(R:Rel F O1 M s σ H2)(hy:H3=H2∨∃ p o,H2 p=aB/\H3=aS H2 p o)(r:Rep (λb=>(Free F O b/\H1 b≠aB)∨H2 b=aB) H3 x t) :
  Rel F O1 M s σ H3/\KeepO O1 H2 O1 H3/\Rep (Free F O1) H3 x t:=by
 have fr:∀ b,((Free F O b/\H1 b≠aB)∨H2 b=aB)->Free F O1 b:=λb c=>by
  obtain ⟨c,n⟩ |n:=c
  ·cases e:H1 b with
   |none=>exact absurd e n
   |some o=>exact⟨(k.1 b o c.1 e).2,c.2⟩
  ·exact⟨λz=>R.al b z n,.inr (R.dom b n)⟩
 refine⟨?_,?_,r.mono fr λ_ _ _ e=>e⟩
 ·obtain rfl |⟨p,o,hp,rfl⟩:=hy
  ·exact R
  ·exact(R.new hp o).less (λb z=>.inl z) R.ow R.inD
 ·obtain rfl |⟨p,o,hp,rfl⟩:=hy
  ·exact .refl
  ·exact⟨λb u n e=>⟨by rw[au (dA e hp)]; exact e,n⟩,λb e=>by
    unfold aS at e;split at e
    ·cases e
    ·exact e⟩
def Lu:∀ D σ H,cS rk io M M Mb (cM fi g db) D σ H->ua (cI M fi) (cG io M g) (cS rk io M M M db) D σ H:=by
 intro D σ H h_;refine i5 h_ λF O s r R I hd q=>?_;obtain⟨⟨its,s1⟩,h1,h2⟩:=Qb hd;refine⟨F,O,s,its,s1,R,h1,λJ H1 S1 R1 IT=>?_⟩;have k1:=S1.keepO R;refine⟨λi m σ' H'=>m=its.length - i/\i<=its.length/\∃ O' s',KeepO O H1 O' H'/\Rel F O' M s' σ' H'/\Ios F io M σ'/\fO g db (its.drop i) s'=aA r,⟨its.length,by simp,QQ _,O,s1,.refl,R1,I,h2⟩,?_⟩
 rintro i m σ2 H2 ⟨rfl,hi,O2,s2,k2,R2,I2,hl⟩;have it:=IT H2 (λb o c e=>(k2.1 b o c.1 e).1) i
 by_cases hlt:i < its.length
 ·refine .inr ?_;obtain⟨go,yl⟩:=it.1 its[i] (j3 hlt);rw[ZB hlt] at hl;unfold fO at hl;obtain⟨s3,hg,hl⟩:=Qb hl;obtain⟨r1,hb,hl⟩:=Qb hl;refine⟨go,fun σ' H'=>∃ O' s',KeepO O H1 O' H'/\Rel F O' M s' σ' H'/\Ios F io M σ'/\fO g db (its.drop (i+1)) s'=aA r,fun σ' H' ⟨O',s',h⟩=>⟨its.length - (i+1),by lia,rfl,hlt,O',s',h⟩,λx H3 hy=>?_⟩
  obtain⟨y1,y2⟩:=yl x H3 hy;obtain⟨R3,k3,rx⟩:=Th k2 R2 y1 y2;have k13:=k2.trans k3;refine⟨F,O2,s2,its[i],s3,R3,I2,rx,hg,fun σ4 R4 I4=>⟨F,O2,s3,r1,R4,I4,hb,?_⟩⟩;cases r1 with
  |nx s5=>exact λO5 σ5 H5 k5 R5 I5=>⟨O5,s5,k13.trans k5,R5,I5,hl⟩
  |ct s5=>exact λO5 σ5 H5 k5 R5 I5=>⟨O5,s5,k13.trans k5,R5,I5,hl⟩
  |bk s5=>
   cases hl;exact λO5 σ5 H5 k5 R5 I5=>q O5 σ5 H5 (k1.trans (k13.trans k5)) R5 I5
  |rt t s5=>
   cases hl;exact q
 ·have e:i=its.length:=by lia
  subst e;rw[Nq] at hl;cases hl;exact .inl ⟨it.2 (jj _),q O2 σ2 H2 (k1.trans k2) R2 I2⟩
def fE(ft:DT)(db:DS):Nat->Sg->Option Fl
 |0,_=>aB
 |n+1,s=>(ft s).bind λp=>if p.1 then (db p.2).bind λr=>match r with
  |.nx s2=>fE ft db n s2
  |.ct s2=>fE ft db n s2
  |.bk s2=>aA (.nx s2)
  |.rt t s2=>aA (.rt t s2)
  else aA (.nx p.2)
def Rt{ft:DT}{n:Nat}:∀ D σ H,cS rk io M M Mb (fE ft db n) D σ H->DX (cT M ft) (cS rk io M M M db) D σ H:=by
 intro D σ H h_;refine i5 h_ λF O s r R I hd q=>?_;refine⟨λm σ' H'=>∃ O' s',KeepO O H O' H'/\Rel F O' M s' σ' H'/\Ios F io M σ'/\fE ft db m s'=aA r,⟨n,O,s,.refl,R,I,hd⟩,?_⟩;rintro m σ2 H2 ⟨O2,s2,k2,R2,I2,hl⟩;cases m with
 |zero=>cases hl
 |succ m=>
  unfold fE at hl;obtain⟨⟨b,s3⟩,h1,h2⟩:=Qb hl;refine⟨F,O2,s2,b,s3,R2,h1,λH3 S3 R3=>?_⟩;have k3:=k2.trans (S3.keepO R2);cases b with
  |true=>
   obtain⟨r1,hb,hl⟩:=Qb h2;refine⟨fun σ' H'=>∃ O' s',KeepO O H O' H'/\Rel F O' M s' σ' H'/\Ios F io M σ'/\fE ft db m s'=aA r,fun σ' H' z=>⟨m,Zj m,z⟩,F,O2,s3,r1,R3,I2,hb,?_⟩;cases r1 with
   |nx s5=>exact λO5 σ5 H5 k5 R5 I5=>⟨O5,s5,k3.trans k5,R5,I5,hl⟩
   |ct s5=>exact λO5 σ5 H5 k5 R5 I5=>⟨O5,s5,k3.trans k5,R5,I5,hl⟩
   |bk s5=>
    cases hl;exact λO5 σ5 H5 k5 R5 I5=>q O5 σ5 H5 (k3.trans k5) R5 I5
   |rt t s5=>
    cases hl;exact q
  |false=>
   cases h2;exact q O2 σ2 H3 k3 R3 I2
end
structure CallP (rk:Kd) (C:jv->Prop) (H:Hp) (t:T) (v:V) (H':Hp):Prop where
 keep:∀ b o,H b=aA o->H' b=aA o
 dom:∀ b,H' b=aB->H b=aB
 res:match rk with
  |.n=>∃ r,v=.ref r/\H r=aB/\Live (λb=>(C b∨H b=aB)/\b≠r) H' r t
  |_=>Rep (λb=>C b∨H b=aB) H' v t
def bW(rk:Kd)(np:Nat)(fn:List T->Option T):Sp:=λvs H Q _=>∃ C ts t,ts.length=np/\Reps C H vs ts/\fn ts=aA t/\∀ v H',CallP rk C H t v H'->Q v H'
structure CallI (rk:Kd) (C:jv->Prop) (a:jv) (H:Hp) (t t0:T) (v:V) (H':Hp):Prop where
 keep:∀ b o,b≠a->H b=aA o->H' b=aA o
 dom:∀ b,H' b=aB->H b=aB
 res:match rk with
  |.n=>∃ r,v=.ref r/\H r=aB/\Live (λb=>(b≠a/\(C b∨H b=aB))/\b≠r) H' r t/\Live (λb=>(b≠a/\(C b∨H b=aB))/\b≠r) H' a t0
  |_=>Rep (λb=>b≠a/\(C b∨H b=aB)) H' v t/\Live (λb=>b≠a/\(C b∨H b=aB)) H' a t0
def fj(rk:Kd)(np:Nat)(fn:List T->Option (T × T)):Sp:=λvs H Q _=>∃ C a us t0 ts t t1,(t0::ts).length=np/\vs=.ref a::us/\¬ C a/\Live C H a t0/\Reps C H us ts/\fn (t0::ts)=aA (t,t1)/\∀ v H',CallI rk C a H t t1 v H'->Q v H'
def dZ(n:Nat)(ts:List T):Sg:=ts.map aA++QP (n - ts.length) aB
def bZ(n:Nat)(d:DS):List T->Option T:=λts=>match d (dZ n ts) with
 |some (.rt t _)=>aA t
 |some (.nx _)=>aA .non
 |_=>aB
def nB(n:Nat)(d:DS):List T->Option T:=λts=>match d (dZ n ts) with
 |some (.rt t _)=>aA t
 |_=>aB
def iG(n:Nat)(d:DS):List T->Option (T × T):=λts=>match d (dZ n ts) with
 |some (.rt t s)=>(s[0]?).join.map λu=>(t,u)
 |_=>aB
def zv{N:aj}{vs:List V}{ts:List T}{C:jv->Prop}{H:Hp}(r:Reps C H vs ts)(hl:ts.length<=N.length):(dZ N.length ts).length=(L2.start N vs).length/\∀(i:Nat) t,(dZ N.length ts)[i]?=aA (aA t)->∃ v,(L2.start N vs)[i]?=aA (aA v)/\ts[i]?=aA t/\vs[i]?=aA v/\Rep C H v t:=by
 have rl:=r.1;unfold dZ L2.start;refine⟨by simp[rl],λi t e=>?_⟩
 by_cases hi:i < ts.length
 ·rw[Q8 (by rw[j4]; exact hi),jf] at e
  obtain⟨t',h1,h2⟩:=Qm e;cases h2;obtain⟨v,hv,rv⟩:=r.get h1;refine⟨v,?_,h1,hv,rv⟩;rw[Q8 (by rw[j4,rl]; exact hi),jf,hv]
  rfl
 ·rw[Qe (by rw[j4]; lia)] at e
  have:=jy e;have:=N0 this;cases this
section
variable {d:DS}{N:aj}{np:Nat}
def yG{fn:List T->Option T}(hfn:∀ ts t,fn ts=aA t->(∃ s',d (dZ N.length ts)=aA (.rt t s'))∨(rk=.e/\t=.non/\∃ s',d (dZ N.length ts)=aA (.nx s')))(hrk:rk=.e∨rk=.n)(hN:np<=N.length){vs:List V}{H:Hp}{Q:VK}{E:XK}(h:bW rk np fn vs H Q E) :
  cS rk [] [] M' Mb d { nx:=λ_ H'=>Q .non H',rt:=Q } (L2.start N vs) H:=by
 obtain⟨C,ts,t,hl,r,hf,q⟩:=h;obtain⟨l1,l2⟩:=zv (N:=N) r (by lia)
 have w:∀ b,C b->Free ⟨H,C,λ_=>False,λ_=>0⟩ (λ_=>False) b:=λb c=>⟨λz=>z,.inl c⟩;have R:Rel ⟨H,C,λ_=>False,λ_=>0⟩ (λ_=>False) [] (dZ N.length ts) (L2.start N vs) H:=by
  refine⟨l1,λi t e _=>?_,λi t e n=>by simp at n,λi a n=>by simp at n,λi j a n=>by simp at n,λb o _ e=>e,λb e=>e,λa z=>z.elim,λa z=>z,λa z=>z.elim⟩
  obtain⟨v,h1,_,_,rv⟩:=l2 i t e;exact⟨v,h1,rv.mono w λ_ _ _ e=>e⟩
 have I:Ios ⟨H,C,λ_=>False,λ_=>0⟩ [] [] (L2.start N vs):=⟨λi hi=>by simp at hi,λa z=>z.elim⟩
 obtain ⟨s',hd⟩ |⟨e1,e2,s',hd⟩:=hfn ts t hf
 ·refine⟨_,_,_,_,R,I,hd,λv H' ro=>q v H' ⟨λb o e=>ro.keep b o (λz=>z) e,ro.dom,?_⟩⟩;obtain rfl |rfl:=hrk
  ·exact ro.res.1.mono (λb c=>c.2) λ_ _ _ e=>e
  ·obtain⟨r,h1,h2,_,h3,_⟩:=ro.res;exact⟨r,h1,h2,h3.mono (λb c=>⟨c.1.2,c.2⟩) (λ_ _ _ e=>e) λ_ e=>e⟩
 ·subst e1 e2;refine⟨_,_,_,_,R,I,hd,λO' σ' H' k R' I'=>q .non H' ⟨λb o e=>R'.keep b o (λz=>z) e,R'.dom,.non⟩⟩
def Cq(hrk:rk=.e∨rk=.n)(hN:np<=N.length){vs:List V}{H:Hp}{Q:VK}{E:XK}(h:fj rk np (iG N.length d) vs H Q E) :
  cS rk [0] [0] M' Mb d { nx:=λ_ H'=>Q .non H',rt:=Q } (L2.start N vs) H:=by
 obtain⟨C,a,us,t0,ts,t,t1,hl,rfl,na,L,r,hf,q⟩:=h;have hlu:us.length+1<=N.length:=by rw[r.1]; simpa using Qc (Nat.le_of_eq hl) hN
 have r':Reps (λb=>C b∨b=a) H (.ref a::us) (t0::ts):=.cons (L.rep (λb c=>.inl c) (.inr rfl)) (r.mono (λb c=>.inl c) λ_ _ _ e=>e);obtain⟨l1,l2⟩:=zv (N:=N) r' (by rw[hl]; exact hN)
 have w:∀ b,C b->Free ⟨H,C,λb=>b=a,λ_=>a⟩ (λb=>b=a) b:=λb c=>⟨λz=>na (z▸c),.inl c⟩;have e0:(L2.start N (.ref a::us))[0]?=aA (aA (.ref a)):=rfl;have R:Rel ⟨H,C,λb=>b=a,λ_=>a⟩ (λb=>b=a) [0] (dZ N.length (t0::ts)) (L2.start N (.ref a::us)) H:=by
  refine⟨l1,λi t e n=>?_,λi t e n=>?_,λi b n e=>?_,λi j b n m _ _=>?_,λb o _ e=>e,λb e=>e,λb z=>.inl z,λb z=>z,λb z=>z▸L.ne⟩
  ·obtain⟨v,h1,h2,h3,_⟩:=l2 i t e;cases i with
   |zero=>simp at n
   |succ i=>
    have rv:=r.2 i v t (by simpa using h3) (by simpa using h2)
    exact⟨v,h1,rv.mono w λ_ _ _ e=>e⟩
  ·obtain rfl:i=0:=by simpa using n
   obtain⟨v,h1,h2,h3,_⟩:=l2 0 t e;have:t0=t:=by simpa using h2
   subst this;exact⟨a,e0,L.mono w (λ_ _ _ e=>e) λ_ e=>e⟩
  ·obtain rfl:i=0:=by simpa using n
   rw[e0] at e;injection e with e;injection e with e;injection e with e;exact e.symm
  ·have h1:i=0:=by simpa using n
   have h2:j=0:=by simpa using m
   rw[h1,h2]
 have I:Ios ⟨H,C,λb=>b=a,λ_=>a⟩ [0] [0] (L2.start N (.ref a::us)):=⟨λi hi=>by
  obtain rfl:i=0:=by simpa using hi
  exact⟨by simp,e0⟩,λb z=>⟨0,by simp,z⟩⟩
 unfold iG at hf;cases hd:d (dZ N.length (t0::ts)) with
 |none=>rw[hd] at hf; cases hf
 |some r1=>
  rw[hd] at hf;cases r1 with
  |rt t' s'=>
   obtain⟨u,h1,h2⟩:=Qm hf;cases h2;refine⟨_,_,_,_,R,I,hd,λv H' ro=>q v H' ⟨λb o n e=>ro.keep b o n e,ro.dom,?_⟩⟩;obtain rfl |rfl:=hrk
   ·obtain⟨h2,h3⟩:=ro.res;obtain⟨t2,h4,h5⟩:=h3 0 (by simp)
    rw[cv h1] at h4;cases h4;exact⟨h2,h5⟩
   ·obtain⟨r,h2,h3,_,h4,h5⟩:=ro.res;obtain⟨t2,h6,h7⟩:=h5 0 (by simp)
    rw[cv h1] at h6;cases h6;exact⟨r,h2,h3,h4,h7⟩
  |nx s'=>cases hf
  |bk s'=>cases hf
  |ct s'=>cases hf
end
section
variable {F:Fr}{O:jv->Prop}{s:Sg}{σ:L2.St}{H H':Hp}
def Rel.ext(R:Rel F O M s σ H)(k:∀ b o,H b=aA o->H' b=aA o)(dm:∀ b,H' b=aB->H b=aB):Rel F O M s σ H' where
 len:=R.len
 val:=λi t e n=>by
  obtain⟨v,h1,h2⟩:=R.val i t e n;exact⟨v,h1,h2.mono (λ_ c=>c) λb o _ e=>k b o e⟩
 own:=λi t e n=>by
  obtain⟨a,h1,h2⟩:=R.own i t e n;exact⟨a,h1,h2.mono (λ_ c=>c) (λb o _ e=>k b o e) λo e=>k a o e⟩
 ow:=R.ow
 dis:=R.dis
 keep:=λb o n e=>k b o (R.keep b o n e)
 dom:=λb e=>R.dom b (dm b e)
 fresh:=R.fresh
 inD:=R.inD
 al:=λa z e=>R.al a z (dm a e)
def Rel.extN{r:jv}(R:Rel F O M s σ H)(k:∀ b o,H b=aA o->H' b=aA o)(dm:∀ b,H' b=aB->H b=aB)(hr:H r=aB)(hr':H' r≠aB):Rel F (λb=>O b∨b=r) M s σ H':=by
 have R':=R.ext k dm;have fr:∀ b,Free F O b/\H b≠aB->Free F (λb=>O b∨b=r) b:=λb c=>⟨λz=>z.elim c.1.1 λz=>c.2 (z▸hr),c.1.2⟩;refine⟨R.len,λi t e n=>?_,λi t e n=>?_,λi b hi e=>.inl (R.ow i b hi e),R.dis,R'.keep,R'.dom,λb z=>?_,λb z=>.inl (R.inD b z),λb z=>?_⟩
 ·obtain⟨v,h1,h2⟩:=R.val i t e n;exact⟨v,h1,h2.there.mono fr λb o _ e=>k b o e⟩
 ·obtain⟨b,h1,h2⟩:=R.own i t e n;exact⟨b,h1,h2.there.mono fr (λb o _ e=>k b o e) λo e=>k b o e⟩
 ·obtain z |z:=z
  ·exact R.fresh b z
  ·subst z; exact .inr (R.dom _ hr)
 ·obtain z |z:=z
  ·exact R'.al b z
  ·subst z; exact hr'
def Rel.freeNew(R:Rel F O M s σ H){b:jv}(h:Free F O b∨H b=aB):Free F O b:=h.elim id λz=>⟨λw=>R.al b w z,.inr (R.dom b z)⟩
end
def Ar(fa:DA)(n:Nat):Prop:=∀ s ts s',fa s=aA (ts,s')->ts.length=n
def M3:Ar aJ 0:=λs ts s' h=>by
 injection h with h;injection h with h1 _;rw[<-h1]; rfl
def xO{f:DE}{fa:DA}{n:Nat}(h:Ar fa n):Ar (aF f fa) (n+1):=λs ts s' e=>by
 obtain⟨p,h1,h2⟩:=Qb e;obtain⟨q,h3,h4⟩:=Qm h2;injection h4 with h4 _;rw[<-h4,jo,h _ _ _ h3]
def av(fn:List T->Option T)(fa:DA):DE:=λs=>(fa s).bind λp=>(fn p.1).map λt=>(t,p.2)
def nO(fn:List T->Option (T × T))(i:Nat)(fa:DA):DE:=λs=>(s[i]?).join.bind λ_=>(fa s).bind λp=>(p.2[i]?).join.bind λt0=>(fn (t0::p.1)).map λq=>(q.1,p.2.set i (aA q.2))
def qQ(fn:List T->Option (T × T))(f0:DE)(fa:DA):DE:=λs=>(f0 s).bind λp=>(fa p.2).bind λq=>(fn (p.1::q.1)).map λr=>(r.1,q.2)
section
variable {f0:DE}{np:Nat}
def Lg{fn:List T->Option T}(hn:Ar fa np):∀ σ H Q,cE .e M (av fn fa) σ H Q->rG (bW .e np fn) [] E0 (cA M fa) σ H Q:=by
 intro σ H Q h_;refine bz h_ λF O s t s' R hf q=>?_;obtain⟨p,h1,h2⟩:=Qb hf;obtain⟨t',h3,h4⟩:=Qm h2;injection h4 with h4 h5;subst h4 h5;refine⟨F,O,s,p.1,p.2,R,h1,λvs H1 S1 R1 rs=>?_⟩
 try dsimp only
 rw[QH];refine⟨Free F O,p.1,t',hn _ _ _ h1,rs,h3,λv H2 c=>q v H2 (S1.trans ⟨λb o _ e=>c.keep b o e,c.dom⟩) ⟨R1.ext c.keep c.dom,?_⟩⟩;exact c.res.mono (λb z=>R1.freeNew z) λ_ _ _ e=>e
def Lh{fn:List T->Option T}(hn:Ar fa np):∀ σ H Q,cE .n M (av fn fa) σ H Q->rG (bW .n np fn) [] E0 (cA M fa) σ H Q:=by
 intro σ H Q h_;refine bz h_ λF O s t s' R hf q=>?_;obtain⟨p,h1,h2⟩:=Qb hf;obtain⟨t',h3,h4⟩:=Qm h2;injection h4 with h4 h5;subst h4 h5;refine⟨F,O,s,p.1,p.2,R,h1,λvs H1 S1 R1 rs=>?_⟩
 try dsimp only
 rw[QH];refine⟨Free F O,p.1,t',hn _ _ _ h1,rs,h3,λv H2 c=>?_⟩;obtain⟨r,rfl,hr,L⟩:=c.res;refine q _ H2 (S1.trans ⟨λb o _ e=>c.keep b o e,c.dom⟩) ⟨r,rfl,S1.dom r hr,R1.extN c.keep c.dom hr L.ne,L.mono (λb z=>?_) (λ_ _ _ e=>e) λ_ e=>e⟩;have:=R1.freeNew z.1;exact⟨λy=>y.elim this.1 z.2,this.2⟩
def Oj{fn:List T->Option (T × T)}{i:Nat}(hn:Ar fa np)(hi:M.contains i=aC):∀ σ H Q,cE .e M (nO fn i fa) σ H Q->rG (fj .e (np+1) fn) [] E0 (lA (d7 i) (cA M fa)) σ H Q:=by
 intro σ H Q h_;refine bz h_ λF O s t s' R hf q=>?_;have hi':i∈M:=by simpa using hi
 obtain⟨x0,h0,hf⟩:=Qb hf;obtain⟨p,h1,hf⟩:=Qb hf;obtain⟨t0,h2,hf⟩:=Qb hf;obtain⟨w,h3,h4⟩:=Qm hf;cases h4;obtain⟨a,e1,_⟩:=R.own i x0 (cv h0) hi';refine⟨_,e1,F,O,s,p.1,p.2,R,h1,λvs H1 S1 R1 rs=>?_⟩;obtain⟨b,e2,L⟩:=R1.own i t0 (cv h2) hi';rw[e1] at e2;injection e2 with e2;cases e2;have oa:=R1.ow i a hi' e1
 try dsimp only
 rw[QH];refine⟨Free F O,a,vs,t0,p.1,w.1,w.2,by rw[jo,hn _ _ _ h1],rfl,λz=>z.1 oa,L,rs,h3,λv H2 c=>?_⟩
 obtain⟨c1,c2⟩:=c.res;have S2:Step σ M H1 H2:=⟨λb o n e=>c.keep b o (λz=>n i hi' (z▸e1)) e,c.dom⟩;have fr:∀ b,(b≠a/\(Free F O b∨H1 b=aB))->Free F O b:=λb z=>R1.freeNew z.2;have kf:∀ b u,Free F O b->H1 b=aA u->H2 b=aA u:=λb u z e=>c.keep b u (λy=>z.1 (y▸oa)) e;have hl:=(j6.mp (cv h2)).1;refine q v H2 (S1.trans S2) ⟨?_,c1.mono fr λ_ _ _ e=>e⟩;refine⟨by rw[Qi]; exact R1.len,λj t e' n=>?_,λj t e' n=>?_,R1.ow,R1.dis,λb u n e=>?_,λb e=>R1.dom b (c.dom b e),R1.fresh,R1.inD,λb z e=>R1.al b z (c.dom b e)⟩
 ·have hij:i≠j:=λz=>n (z▸hi');rw[jq hij] at e';obtain⟨v,h1,h2⟩:=R1.val j t e' n;exact⟨v,h1,h2.mono (λ_ c=>c) kf⟩
 ·by_cases hij:i=j
  ·subst hij;rw[jW hl] at e';cases e';exact⟨a,e1,c2.mono fr (λ_ _ _ e=>e) λ_ e=>e⟩
  ·rw[jq hij] at e';obtain⟨b,h1,h2⟩:=R1.own j t e' n;have hne:b≠a:=λz=>hij (R1.dis i j a hi' n e1 (z▸h1));exact⟨b,h1,h2.mono (λ_ c=>c) kf λu e=>c.keep b u hne e⟩
 ·refine c.keep b u (λz=>?_) (R1.keep b u n e);subst z;obtain z |z:=R1.fresh b oa
  ·exact n z
  ·rw[z] at e; cases e
def PB{fn:List T->Option (T × T)}(hrk:rk=.e∨rk=.n)(hn:Ar fa np):∀ σ H Q,cE rk M (qQ fn f0 fa) σ H Q->rG (fj rk (np+1) fn) [] E0 (lA (cE .n M f0) (cA M fa)) σ H Q:=by
 intro σ H Q h_;refine bz h_ λF O s t s' R hf q=>?_;obtain⟨p,h1,hf⟩:=Qb hf;obtain⟨w,h2,hf⟩:=Qb hf;obtain⟨u,h3,h4⟩:=Qm hf;cases h4;refine⟨F,O,s,p.1,p.2,R,h1,λv0 H1 S1 p1=>?_⟩;obtain⟨a,rfl,ha,R1,L⟩:=p1;refine⟨F,_,p.2,w.1,w.2,R1,h2,λvs H2 S2 R2 rs=>?_⟩;have na:∀(j:Nat),j∈M->σ[j]?≠aA (aA (.ref a)):=λj hj e=>R.al a (R.ow j a hj e) ha;have L2:=L.mono (λ_ c=>c) (λb o c e=>S2.keep b o (R1.notOwned c.1) e) λo e=>S2.keep a o na e
 try dsimp only
 rw[QH];refine⟨Free F (λb=>O b∨b=a),a,vs,p.1,w.1,u.1,u.2,by rw[jo,hn _ _ _ h2],rfl,λz=>z.1 (.inr rfl),L2,rs,h3,λv H3 c=>?_⟩
 have S:Step σ M H H3:=⟨λb o n e=>c.keep b o (dA e ha) ((S1.trans S2).keep b o n e),λb e=>(S1.trans S2).dom b (c.dom b e)⟩;have RO:=R2.less (λb z=>.inl z) R.ow R.inD
 -- all but a is kept; a is nobody's
 have k3:∀ b o,b≠a->H2 b=aA o->H3 b=aA o:=λb o n e=>c.keep b o n e;have fa':∀ b,Free F (λb=>O b∨b=a) b->Free F O b:=λb z=>z.weak λb y=>.inl y;have R3:Rel F (λb=>O b∨b=a) M w.2 σ H3:=by
  refine⟨R2.len,λi t e n=>?_,λi t e n=>?_,R2.ow,R2.dis,λb o n e=>?_,λb e=>R2.dom b (c.dom b e),R2.fresh,R2.inD,λb z e=>R2.al b z (c.dom b e)⟩
  ·obtain⟨v,h1,h2⟩:=R2.val i t e n;exact⟨v,h1,h2.mono (λ_ c=>c) λb o z e=>k3 b o (λy=>z.1 (.inr y)) e⟩
  ·obtain⟨b,h1,h2⟩:=R2.own i t e n;exact⟨b,h1,h2.mono (λ_ c=>c) (λb o z e=>k3 b o (λy=>z.1 (.inr y)) e) λo e=>k3 b o (λz=>na i n (z▸h1)) e⟩
  ·refine k3 b o (λz=>?_) (R2.keep b o n e);subst z;have:=R.dom b ha;rw[this] at e; cases e
 have R3O:=R3.less (λb z=>.inl z) R.ow R.inD;have frn:∀ b,(b≠a/\(Free F (λb=>O b∨b=a) b∨H2 b=aB))->Free F O b:=λb z=>z.2.elim (fa' b) λy=>⟨λx=>RO.al b x y,.inr (RO.dom b y)⟩;obtain rfl |rfl:=hrk
 ·exact q v H3 S ⟨R3O,c.res.1.mono frn λ_ _ _ e=>e⟩
 ·obtain⟨r,rfl,hr,c1,_⟩:=c.res;have nr:∀ b,Free F O b/\H2 b≠aB->Free F (λb=>O b∨b=r) b:=λb z=>⟨λy=>y.elim z.1.1 λy=>z.2 (y▸hr),z.1.2⟩;refine q _ H3 S ⟨r,rfl,S1.dom r (S2.dom r hr),?_,c1.mono (λb z=>?_) (λ_ _ _ e=>e) λ_ e=>e⟩
  ·refine⟨R2.len,λi t e n=>?_,λi t e n=>?_,λi b hi e=>.inl (R.ow i b hi e),R2.dis,R3.keep,R3.dom,λb z=>?_,λb z=>.inl (R.inD b z),λb z=>?_⟩
   ·obtain⟨v,h1,h2⟩:=R2.val i t e n;exact⟨v,h1,h2.there.mono (λb z=>nr b ⟨fa' b z.1,z.2⟩) λb o z e=>k3 b o (λy=>z.1.1 (.inr y)) e⟩
   ·obtain⟨b,h1,h2⟩:=R2.own i t e n;exact⟨b,h1,h2.there.mono (λb z=>nr b ⟨fa' b z.1,z.2⟩) (λb o z e=>k3 b o (λy=>z.1.1 (.inr y)) e) λo e=>k3 b o (λz=>na i n (z▸h1)) e⟩
   ·obtain z |z:=z
    ·exact RO.fresh b z
    ·subst z; exact .inr (RO.dom _ hr)
   ·obtain z |z:=z
    ·exact R3O.al b z
    ·subst z; exact c1.ne
  ·have:=frn b z.1;exact⟨λy=>y.elim this.1 z.2,this.2⟩
end
def Bi(r:List V->Hp->VK->Prop)(g:T->Option T):Prop:=∀(C:jv->Prop) (H:Hp) x tx t (Q:VK),BRep C H x tx->g tx=aA t->(∀ v,Rep C H v t->Q v H)->r [x] H Q
def xP(r:List V->Hp->VK->Prop)(g:T->Option T):Prop:=∀(C:jv->Prop) (H:Hp) x tx t (Q:VK),BRep C H x tx->g tx=aA t->
 (∀ p o,H p=aB->(∀ C':jv->Prop,(∀ b,C b/\H b≠aB->C' b)->Live C' (aS H p o) p t)->Q (.ref p) (aS H p o))->r [x] H Q
def d1(g:T->Option T)(f:DE):DE:=λs=>(f s).bind λp=>(g p.1).map λt=>(t,p.2)
section
variable {f:DE}
def xw{r:List V->Hp->VK->Prop}{g:T->Option T}(h:Bi r g):∀ σ H Q,cE .e M (d1 g f) σ H Q->u8 r (lA (cE .b M f) nI) σ H Q:=by
 intro σ H Q h_;refine bz h_ λF O s t s' R hf q=>?_;obtain⟨p,h1,h2⟩:=Qb hf;obtain⟨t',h3,h4⟩:=Qm h2;injection h4 with h4 h5;subst h4 h5;exact⟨F,O,s,p.1,p.2,R,h1,λv H1 S1 p1=>h (Free F O) H1 v p.1 t' Q p1.view h3 λw rw=>q w H1 S1 ⟨p1.1,rw⟩⟩
def Ck{r:List V->Hp->VK->Prop}{g:T->Option T}(h:xP r g):∀ σ H Q,cE .n M (d1 g f) σ H Q->u8 r (lA (cE .b M f) nI) σ H Q:=by
 intro σ H Q h_;refine bz h_ λF O s t s' R hf q=>?_;obtain⟨p,h1,h2⟩:=Qb hf;obtain⟨t',h3,h4⟩:=Qm h2;injection h4 with h4 h5;subst h4 h5;exact⟨F,O,s,p.1,p.2,R,h1,λv H1 S1 p1=>h (Free F O) H1 v p.1 t' Q p1.view h3 λa o ha L=>q _ _ (S1.trans (.new ha o)) (.mkN R p1.1 S1 ha L)⟩
end
def CallR.or{X:Cx}{f:j8}{r r':List V->Hp->VK->Prop}(h:CallR X f r)(h':CallR X f r'):CallR X f (λxs H Q=>r xs H Q∨r' xs H Q):=by
 intro pc s σ H xs us Q I rv q;obtain q |q:=q
 ·exact h pc s σ H xs us Q I rv q
 ·exact h' pc s σ H xs us Q I rv q
def SZ{X:Cx}:CallR X (.builtin "len") (λxs H Q=>∃ a kvs,xs=[V.ref a]/\Rd H a (.dK kvs)/\Q (.int kvs.length) H):=by
 intro pc s σ H xs us Q I r h;obtain⟨a,kvs,rfl,ha,q⟩:=h;obtain⟨u,rfl,ru⟩:=sk r;cases ru;exact KC I ha λt s' I'=>⟨.int kvs.length,H,I',⟨t,rfl⟩,q⟩
def bn:T->Option T
 |.lst xs=>aA (.int xs.length) |.tup xs=>aA (.int xs.length) |.scr xs=>aA (.int xs.length) |.dct xs=>aA (.int xs.length) |.fd xs=>aA (.int xs.length)
 |.str x=>if x.length<=ju then aA (.int x.length) else aB
 |_=>aB
def LA:Bi (λxs H Q=>((∃ p ys,xs=[.ref p]/\(aq TheK.K H p ys∨cL TheK.K H p ys)/\Q (.int ys.length) H)∨(∃ z,xs=[.str z]/\z.length<=ju/\Q (.int z.length) H))∨∃ a kvs,xs=[V.ref a]/\Rd H a (.dK kvs)/\Q (.int kvs.length) H) bn:=by
 intro C H x tx t Q bx hg q;cases tx with
 |lst ts=>
  injection hg with hg; subst hg;obtain⟨a,vs,rfl,ha,ra⟩:=bx.lst;exact .inl (.inl ⟨a,vs,rfl,.inl (aq.of ha),by rw[ra.1]; exact q _ (.int _)⟩)
 |tup ts=>
  injection hg with hg; subst hg;obtain⟨a,vs,rfl,ha,ra⟩:=bx.tup;exact .inl (.inl ⟨a,vs,rfl,.inr (cL.of ha),by rw[ra.1]; exact q _ (.int _)⟩)
 |scr ns=>
  injection hg with hg; subst hg;obtain⟨a,rfl,ha⟩:=bx.scr;exact .inl (.inl ⟨a,_,rfl,.inl ha,by rw[j4]; exact q _ (.int _)⟩)
 |dct ks=>
  injection hg with hg; subst hg;obtain⟨a,kvs,rfl,ha,ra⟩:=bx.dct;exact .inr ⟨a,kvs,rfl,.inl ha,by rw[ra.len]; exact q _ (.int _)⟩
 |fd ks=>
  injection hg with hg; subst hg;obtain⟨a,ob,kvs,rfl,ha,ra,_⟩:=bx.fd;exact .inr ⟨a,kvs,rfl,.inr ⟨ob,ha⟩,by rw[ra.len]; exact q _ (.int _)⟩
 |str z=>
  have hg:(if z.length<=ju then aA (T.int z.length) else aB)=aA t:=hg
  split at hg
  ·rename_i hl;injection hg with hg; subst hg;exact .inl (.inr ⟨z,by rw[bx.str],hl,q _ (.int _)⟩)
  ·cases hg
 |_=>cases hg
def KL:T->Option T
 |.lst xs=>aA (.lst xs) |.tup xs=>aA (.lst xs) |.scr ns=>aA (.lst (ns.map .int))
 |_=>aB
def yf:xP (λxs H Q=>∃ p ys,xs=[.ref p]/\(aq TheK.K H p ys∨cL TheK.K H p ys)/\∀ l,H l=aB->Q (.ref l) (aS H l (.lst ys))) KL:=by
 intro C H x tx t Q bx hg q;cases tx with
 |lst ts=>
  injection hg with hg; subst hg;obtain⟨a,vs,rfl,ha,ra⟩:=bx.lst;exact⟨a,vs,rfl,.inl (aq.of ha),λp hp=>q p _ hp λC' hC=>.lst cD (ra.there.mono hC λc o _ e=>by rw[au (dA e hp)]; exact e)⟩
 |tup ts=>
  injection hg with hg; subst hg;obtain⟨a,vs,rfl,ha,ra⟩:=bx.tup;exact⟨a,vs,rfl,.inr (cL.of ha),λp hp=>q p _ hp λC' hC=>.lst cD (ra.there.mono hC λc o _ e=>by rw[au (dA e hp)]; exact e)⟩
 |scr ns=>
  injection hg with hg; subst hg;obtain⟨a,rfl,ha⟩:=bx.scr;exact⟨a,_,rfl,.inl ha,λp hp=>q p _ hp λC' hC=>.lst cD (rZ _)⟩
 |_=>cases hg
def lF(c:String):T->Option Bool
 |.non=>aA (c == "NoneType") |.bl _=>aA (c == "bool"||c == "int") |.int _=>aA (c == "int") |.str _=>aA (c == "str")
 |.lst _=>aA (c == "list") |.tup _=>aA (c == "tuple") |.dct _=>aA (c == "dict")
 |_=>aB
def nL:List T->Option (aj)
 |[]=>aA []
 |.str x::ts=>(nL ts).map λr=>x::r
 |_=>aB
def vf{C:jv->Prop}{H:Hp}:∀ {vs:List V} {ts:List T} {ys:aj},Reps C H vs ts->nL ts=aA ys->vs=ys.map V.str
 |[],[],ys,_,e=>by injection e with e; subst e; rfl
 |v::vs,[],ys,h,_=>by have:=h.1; simp at this
 |[],t::ts,ys,h,_=>by have:=h.1; simp at this
 |v::vs,t::ts,ys,h,e=>by
  cases t with
  |str x=>
   obtain⟨r,h1,h2⟩:=Qm e;subst h2;rw[jp,vf h.tail h1,BRep.str (.inl h.head)]
  |_=>cases e
def DK{x:V}:∀ {ys:List V} {us:List j8},Vals ys us->ys.all iM=aC->us.countP (fJ x)=ys.countP λy=>dt y x
 |[],_,.nil,_=>rfl
 |y::ys,u::us,.cons r t,h=>by
  rw[Yp,jJ] at h;rw[Jl,Jl,DK t h.2,uz r h.1]
def zG:V->List V->Hp->VK->Prop:=λx vs H Q=>∃(l:jv) (ys:List V) (z:V),x=.ref l/\vs=[z]/\iM z=aC/\ys.all iM=aC/\H l=aA (.lst ys)/\Q (.int (ys.countP (λy=>dt y z):Nat)) H
def Sn{X:Cx}:qx X "list.count" zG:=by
 intro pc s sg H x vs v us Q I rx rv h;obtain⟨l,ys,z,rfl,rfl,fz,fy,hH,q⟩:=h;cases rx;obtain⟨u,rfl,ru⟩:=rv.one;obtain⟨its,n,r,e,hz⟩:=I.lst hH;refine W5 F.slot_list_count ⟨_,e,rfl⟩ F.entry_list_count (F.args_list_count_2 _ _) (SeqAt.list_countAt l its.toArray n aB #[] u (fJ z)) ⟨e,λw hw=>qa ru fz r fy w (by simpa using hw),?_⟩
 refine⟨.int (ys.countP (λy=>dt y z):Nat),H,I.tok _,⟨s.toks,?_⟩,q⟩;rw[List.toList_toArray,DK r fy]
def rJ(x y:T):Option T:=match x with
 |.lst ts=>(ib ts).bind λvs=>(ii y).map λv=>.int (vs.countP (λu=>dt u v):Nat)
 |_=>aB
def Bh(r:V->List V->Hp->VK->Prop)(g:T->T->Option T):Prop:=∀(C:jv->Prop) (H:Hp) x y tx ty t (Q:VK),BRep C H x tx->BRep C H y ty->g tx ty=aA t->(∀ v,Rep C H v t->Q v H)->r x [y] H Q
def qu(g:T->T->Option T)(fa fb:DE):DE:=λs=>(fa s).bind λp=>if sY p.1 then (fb p.2).bind λq=>(g p.1 q.1).map λt=>(t,q.2) else aB
def C4{M:ak}{fa fb:DE}{K:jd}{r:V->List V->Hp->VK->Prop}{g:T->T->Option T}(h:Bh r g):∀ σ H Q,cE .e M (qu g fa fb) σ H Q->ng K "list" r (cE .e M fa) (lA (cE .b M fb) nI) σ H Q:=by
 intro σ H Q h_;refine bz h_ λF O s t s' R hf q=>?_;obtain⟨p,h1,h2⟩:=Qb hf;split at h2
 ·rename_i hl;obtain⟨w,h3,h4⟩:=Qb h2;obtain⟨t',h5,h6⟩:=Qm h4;injection h6 with h6 h7;subst h6 h7;refine⟨F,O,s,p.1,p.2,R,h1,λv H1 S1 pa=>?_⟩;have ty:xH K "list" v H1:=by
   obtain⟨ts,e⟩:∃ ts,p.1=.lst ts:=by cases e:p.1<;>first |exact⟨_,rfl⟩ |(rw[e] at hl; cases hl)
   have pr:=pa.2;rw[e] at pr;obtain⟨a,vs,rfl,ha,ra⟩:=BRep.lst (.inl pr);exact .inl ⟨rfl,_,aq.of ha⟩
  refine⟨ty,F,O,p.2,w.1,w.2,pa.1,h3,λu H2 S2 pb=>?_⟩;exact h (Free F O) H2 v u p.1 w.1 t' Q (.inl (pa.1.stay S2 pa.2)) pb.view h5 λx rx=>q x H2 (S1.trans S2) ⟨pb.1,rx⟩
 ·cases h2
def R8:Bh zG rJ:=by
 intro C H x y tx ty t Q bx by' hg q;obtain⟨ts,rfl⟩:∃ ts,tx=.lst ts:=by cases tx<;>first |exact⟨_,rfl⟩ |cases hg
 obtain⟨vs,h1,h2⟩:=Qb hg;obtain⟨v,h3,rfl⟩:=Qm h2;obtain⟨a,us,rfl,ha,ra⟩:=bx.lst;obtain⟨e1,e2⟩:=vV ra h1;obtain⟨e3,e4⟩:=vE by' h3;subst e1 e3;exact⟨a,_,_,rfl,rfl,e4,e2,ha,q _ (.int _)⟩
end L3
namespace L3
open PySem PySem.Spec PyProof.Rows L2
def zI:V->List V->Hp->VK->Prop:=λx vs H Q=>∃(l:jv) (ys:List V) (z:V) (j:Nat),x=.ref l/\vs=[z]/\iM z=aC/\ys.all iM=aC/\H l=aA (.lst ys)/\ys.findIdx? (λy=>dt y z)=aA j/\Q (.int (j:Nat)) H
def So{X:Cx}:qx X "list.index" zI:=by
 intro pc s sg H x vs v us Q I rx rv h;obtain⟨l,ys,z,j,rfl,rfl,fz,fy,hH,hj,q⟩:=h;cases rx;obtain⟨u,rfl,ru⟩:=rv.one;obtain⟨its,n,r,e,hz⟩:=I.lst hH;have hlen:=r.length;obtain⟨hjl,hit,hno⟩:=List.findIdx?_eq_some_iff_getElem.mp hj;have key:∀(m:Nat) (h1:m < ys.length) (h2:m < its.length),fJ z its[m]=dt ys[m] z:=λm h1 h2=>by
  obtain⟨w,e1,e2⟩:=r.get (j3 h1);rw[j3 h2] at e1;cases e1;exact uz e2 (jB.mp fy _ (jU h1))
 refine W5 F.slot_list_index ⟨_,e,rfl⟩ F.entry_list_index (F.args_list_index_2 _ _) (SeqAt.list_indexAt l its.toArray n aB #[] u (fJ z) j (by simp; lia) (by have hz':=hz; rw[Zi] at hz'; lia) (by
   rw[Yi,key j hjl (by lia)]; exact hit) (λm hm hmj=>by
   have hm':m < its.length:=by simpa using hm
   rw[Yi,key m (by lia) hm']
   have:=hno m hmj
   simpa using this)) ⟨e,λw hw=>qa ru fz r fy w (by simpa using hw),?_⟩
 exact⟨.int (j:Nat),H,I.tok _,⟨s.toks,rfl⟩,q⟩
end L3
namespace L2
open PySem PySem.Spec PyProof.Rows
variable {X:Cx}{s:jc}{P:jI}{w:Qf}{A:Qg}{E:j8->jc->Prop}
section
variable {pc:List (jv × Obj)}{σ:St}{H:Hp}{a:jv}{kvs:List (aL × V)}
def Inv.known(I:Inv X pc σ H s)(e:H a=aA (.dK kvs)):∃ o,Inv X pc σ (aS H a (.frz o (.dK kvs))) s:=by
 obtain⟨z,hd,vs,rel,o,es,ep,ho,r⟩:=uh I.hok e;refine⟨o,?_⟩;have ne:∀ {b:jv},H b=aB->b≠a:=λ{b} hb z=>by rw[z,e] at hb; cases hb
 refine⟨I.ok,I.os,I.bare,⟨λb ob hb n1 n2 n3=>I.base.keep b ob hb n1 n2 n3,λb ob hb n1 n2 n3=>I.base.slot b ob hb n1 n2 n3,λb ob hb n1 n2=>?_,λb ob hb n1=>I.base.there b ob hb n1,λb xs hb=>?_,λb ob u hb=>?_,λb ps hb=>?_⟩,I.loc,I.cell,?_,λx c hc=>?_,λp hp=>?_,λb u hb=>?_,I.len⟩
 ·have:=I.base.free b ob hb n1 n2;rw[au (ne this)]; exact this
 ·have:=I.base.tups b xs hb;have hne:b≠a:=λz=>by rw[z,e] at this; cases this
  rw[au hne]; exact this
 ·have:=I.base.frzs b ob u hb;have hne:b≠a:=λz=>by rw[z,e] at this; cases this
  rw[au hne]; exact this
 ·obtain⟨more,this⟩:=I.base.tbls b ps hb;have hne:b≠a:=λz=>by rw[z,e] at this; cases this
  exact⟨more,by rw[au hne]; exact this⟩
 ·rw[au (ne I.free)]; exact I.free
 ·have:=I.freeC x c hc;rw[au (ne this)]; exact this
 ·obtain⟨p1,p2,p3⟩:=I.pin p hp;exact⟨p1,by rw[au (ne p2)]; exact p2,p3⟩
 ·by_cases hba:b=a
  ·subst hba;rw[cD] at hb;cases hb;exact⟨ho,z,hd,vs,rel,o,es,ep,ho,r⟩
  ·rw[au hba] at hb;refine(I.hok b u hb).stay (λc v _ q=>q) (λc q=>?_) λc xs q=>?_
   ·have hne:c≠a:=λz=>by rw[z,e] at q; cases q
    rw[au hne]; exact q
   ·have hne:c≠a:=λz=>by rw[z,e] at q; cases q
    rw[au hne]; exact q
end
def Bk(f:aL × V->V)(a:jv)(o:Obj):It:=
 ⟨λi H=>∃ kvs x,H a=aA (.frz o (.dK kvs))/\kvs[i]?=aA x,λi H x H'=>H'=H/\∀ kvs,H a=aA (.frz o (.dK kvs))->(kvs[i]?).map f=aA x,λi H=>∃ kvs,H a=aA (.frz o (.dK kvs))/\kvs.length<=i⟩
def za{X:Cx}{pc:List (jv × Obj)}{σ:St}{H:Hp}{s:jc}{a:jv}{o:Obj}{kvs:List (aL × V)}(I:Inv X pc σ H s)(e:H a=aA (.frz o (.dK kvs))) :
  ∃ vs es ep,KV kvs vs/\s.heap.DictAt (f7 X.prog X.w) a vs ep/\o.data=.dict es ep/\es.size=vs.length/\(a == ZD)=aD:=by
 obtain⟨ho,z,hd,vs,rel,o',es,ep,ho',c,d,k,p,n⟩:=(I.hok a _ e);rw[ho] at ho';cases ho';exact⟨vs,es,ep,rel,⟨o,es,ho,c,d,k,p,n⟩,d,by rw[<-p.length]; simp,hd⟩
def TK{P:jI}{w:Qf}{K:jd}{tg:Q5}(a it:jv)(o:Obj):Turn P w K tg (Bk (λkv=>kV kv.1) a o) [it] it (λi h=>∃ n ep es,h.IsKeyIter it a i n ep/\o.data=.dict es ep/\es.size=n) where
 mem:=by simp
 obj:=λi h st b hb=>by
  have e:b=it:=by simpa using hb
  subst e;obtain⟨n,ep,es,⟨o',e,c,d⟩,_⟩:=st;exact⟨o',e,λv z=>by rw[d] at z; cases z⟩
 keep:=λi h h' ⟨n,ep,es,st,r⟩ k=>⟨n,ep,es,st.at λo e=>k it (by simp) o e,r⟩
 item:=by
  intro X hP hw hK hc i pc s σ H E I hf st hg;subst hP hw hK;obtain⟨kvs,x,hq,hx⟩:=hg;obtain⟨n,ep,es,st,d1,d2⟩:=st;obtain⟨vs,es',ep',rel,da,d3,d4,hd⟩:=za I hq;rw[d1] at d3;cases d3;obtain⟨y,hy,y1,y2⟩:=Di rel hx;obtain⟨f0,f1,f2,f3,f4,f5⟩:=hf it (by simp)
  rw[<-d2,d4] at st;refine wpAny_pyNext_dict_item st da (k:=y.1) (v:=y.2) hy λkey h' hkey st' sb=>?_;have I1:Inv X pc σ H { s with heap:=h' }:=I.turned (t':=s.toks) (λb o hb e=>(sb.2 b hb).trans e) f0 f1 f3 f4 f5;obtain⟨o',e,c,d⟩:=id st';refine⟨key,rfl,sX (s:={ s with heap:=h' }) e c d (by decide) ⟨kV x.1,H,I1,y1▸ET hkey,⟨rfl,λkvs' h'=>?_⟩,⟨_,ep,es,st',d1,d4⟩,λb hb=>(hf b hb).1⟩⟩
  rw[hq] at h';cases h';rw[hx]; rfl
 done:=by
  intro X hP hw hK hc i pc s σ H E I hf st hg;subst hP hw hK;obtain⟨kvs,hq,hx⟩:=hg;obtain⟨n,ep,es,st,d1,d2⟩:=st;obtain⟨vs,es',ep',rel,da,d3,d4,hd⟩:=za I hq;rw[d1] at d3;cases d3;obtain⟨f0,f1,f2,f3,f4,f5⟩:=hf it (by simp)
  have hl:=rel.length;rw[<-d2,d4] at st;exact wpAny_pyNext_dict_end (I.ok.hd hc) st da (by rw[YQ]; lia) λh' eb=>⟨rfl,I.turned (t':=s.toks) (λb o hb e=>eb b o hb e) f0 f1 f3 f4 f5⟩
 self:=λ_ _ _ _ _ ⟨_,_,_,st,_⟩ h=>wpAny_pyIter_keyiter st h
def Ia(tl:TE):TI:=fun σ H R=>tl σ H λx H1=>∃ a o kvs,x=.ref a/\H1 a=aA (.frz o (.dK kvs))/\R (Bk (λkv=>kV kv.1) a o) H1
def P3{X:Cx}{tg l:Q5}{tl:TE}(hl:PE X l tl):PI X tg l (Ia tl):=by
 intro pc s σ H R I h;refine aW (hl pc s σ H _ I h) λv s1 h_=>?_; obtain⟨x,H1,I1,r1,q1⟩:=h_;obtain⟨a,o,kvs,e,hq,q⟩:=q1;subst e;cases r1;obtain⟨vs,es,ep,rel,da,d3,d4,hd⟩:=za I1 hq;refine wpAny_pyIter_dict hd da ?_;refine⟨s1.heap.objs.size,[s1.heap.objs.size],_,_,H1,rfl,I1.kept (t':=s1.toks) λb o e=>ja _ e,TK a _ o,⟨_,ep,es,⟨_,jL _ rfl,rfl,rfl⟩,d3,d4⟩,λb hb=>?_,q⟩;have e:b=s1.heap.objs.size:=by simpa using hb
 subst e;exact I1.fpOk (jj _) (I1.hok.fresh (jj _))
def xS(x:Str):It:=⟨λi _=>i < x.cps.size,λi H v H'=>H'=H/\∃ c,x.cps[i]?=aA c/\v=.str ⟨#[c]⟩,λi _=>x.cps.size<=i⟩
def FV{P:jI}{w:Qf}{K:jd}{tg:Q5}(it:jv)(x:Str)(t:Tok)(n:String)(hn:n="str_ascii_iterator"∨n="str_iterator"):Turn P w K tg (xS x) [it] it (λi h=>h.IsStrIter it n x t i) where
 mem:=by simp
 obj:=λi h st b hb=>by
  have e:b=it:=by simpa using hb
  subst e;obtain⟨o,e,c,d⟩:=st;exact⟨o,e,λv z=>by rw[d] at z; cases z⟩
 keep:=λi h h' st k=>let ⟨o,ho,r⟩:=st; ⟨o,k it (by simp) o ho,r⟩
 item:=by
  intro X hP hw hK hc i pc s σ H E I hf st hg;subst hP hw hK;obtain⟨f0,f1,f2,f3,f4,f5⟩:=hf it (by simp)
  have hg:i < x.cps.size:=hg;have fin:∀ h',h'.IsStrIter it n x t (i+1)->Qo it s.heap h'->∀ u,u=gy ⟨#[x.cps[i]]⟩ s.toks->∃ u',aA u=aA u'/\jT (jR X.prog X.w) X.A (ga tg (.ref it) u') (λ_ s2=>∃ y H',Inv X pc σ H' s2/\RelV y u'/\(xS x).yld i H y H'/\s2.heap.IsStrIter it n x t (i+1)/\∀ b∈[it],H' b=aB) E { s with heap:=h',toks:=s.toks+1 }:=by
   intro h' st' sb u hu;have I1:Inv X pc σ H { s with heap:=h',toks:=s.toks+1 }:=I.turned (λb o hb e=>(sb.2 b hb).trans e) f0 f1 f3 f4 f5;obtain⟨o',e,c,d⟩:=id st';refine⟨u,rfl,sX (s:={ s with heap:=h',toks:=s.toks+1 }) e c d (by obtain rfl |rfl:=hn<;>decide) ⟨.str ⟨#[x.cps[i]]⟩,H,I1,⟨_,hu⟩,⟨rfl,_,by simp[hg],rfl⟩,st',λb hb=>(hf b hb).1⟩⟩
  obtain rfl |rfl:=hn
  ·exact wpAny_pyNext_ascii_item st (c:=x.cps[i]) (by simp[hg]) λh' st' sb=>fin h' st' sb _ rfl
  ·exact wpAny_pyNext_wide_item st (c:=x.cps[i]) (by simp[hg]) λh' st' sb=>fin h' st' sb _ rfl
 done:=by
  intro X hP hw hK hc i pc s σ H E I hf st hg;subst hP hw hK;obtain⟨f0,f1,f2,f3,f4,f5⟩:=hf it (by simp)
  have hg:x.cps.size<=i:=hg;obtain rfl |rfl:=hn
  ·exact wpAny_pyNext_ascii_end (I.ok.hd hc) st (by simp[hg]) λh' eb=>⟨rfl,I.turned (t':=s.toks) (λb o hb e=>eb b o hb e) f0 f1 f3 f4 f5⟩
  ·exact wpAny_pyNext_wide_end (I.ok.hd hc) st (by simp[hg]) λh' eb=>⟨rfl,I.turned (t':=s.toks) (λb o hb e=>eb b o hb e) f0 f1 f3 f4 f5⟩
 self:=λ_ _ _ _ _ st h=>by
  obtain rfl |rfl:=hn
  ·exact wpAny_pyIter_striter_ascii st h
  ·exact wpAny_pyIter_striter_wide st h
def Ie(tl:TE):TI:=fun σ H R=>tl σ H λv H1=>∃ x,v=.str x/\R (xS x) H1
def P6{X:Cx}{tg l:Q5}{tl:TE}(hl:PE X l tl):PI X tg l (Ie tl):=by
 intro pc s σ H R I h;refine aW (hl pc s σ H _ I h) λv s1 h_=>?_; obtain⟨y,H1,I1,r1,q1⟩:=h_;obtain⟨x,e,q⟩:=q1;subst e;obtain⟨t,rfl⟩:=r1;have fp:∀ b∈[s1.heap.objs.size],fT X pc H1 b:=λb hb=>by
  have e:b=s1.heap.objs.size:=by simpa using hb
  subst e;exact I1.fpOk (jj _) (I1.hok.fresh (jj _))
 cases ha:x.cps.all (· < 128)
 ·exact wpAny_pyIter_wide ha ⟨s1.heap.objs.size,[s1.heap.objs.size],_,_,H1,rfl,I1.kept (t':=s1.toks) λb o e=>ja _ e,FV _ x t "str_iterator" (.inr rfl),⟨_,jL _ rfl,rfl,rfl⟩,fp,q⟩
 ·exact wpAny_pyIter_ascii ha ⟨s1.heap.objs.size,[s1.heap.objs.size],_,_,H1,rfl,I1.kept (t':=s1.toks) λb o e=>ja _ e,FV _ x t "str_ascii_iterator" (.inl rfl),⟨_,jL _ rfl,rfl,rfl⟩,fp,q⟩
def iW(a b:Str):Bool:=!aE (b.cps.toList < a.cps.toList)
def leS_iff{a b:Str}:iW a b=aC↔a.cps.toList<=b.cps.toList:=by
 unfold iW;rw[Bool.not_eq_true',decide_eq_false_iff_not,List.not_lt]
def FO(a b c:Str)(h:iW a b=aC)(h':iW b c=aC):iW a c=aC:=leS_iff.mpr (List.le_trans (leS_iff.mp h) (leS_iff.mp h'))
def Sl(a b:Str):(iW a b||iW b a)=aC:=by
 rw[QR,leS_iff,leS_iff];exact List.le_total _ _
def VI{a b:Str}(h:iW a b=aC)(h':iW b a=aC):a=b:=by
 have:=List.le_antisymm (leS_iff.mp h) (leS_iff.mp h');cases a; cases b;simp at this;rw[this]
def oK(l:aj):aj:=l.mergeSort iW
def G3(l:aj):(oK l).Perm l:=Wq l iW
def Rn(l:aj):(oK l).Pairwise λa b=>iW a b=aC:=Nk FO Sl l
def VL{l m:aj}(hp:m.Perm l)(hm:m.Pairwise λa b=>iW a b=aC):m=oK l:=
 N2 (λa b _ _ h h'=>VI h h') hm (Rn l) (hp.trans (G3 l).symm)
def Ff:∀(l:aj) (p:Str),risingS p l=aC->(p::l).Pairwise λa b=>iW a b=aC
 |[],p,_=>by simp
 |x::r,p,h=>by
  have h:(!ltCps x.cps.toList p.cps.toList&&risingS x r)=aC:=h;rw[jJ,ltCps_eq] at h;have ih:=Ff r x h.2;rw[YH];refine⟨λy hy=>?_,ih⟩;obtain e |e:=jx.mp hy
  ·rw[e]; exact h.1
  ·exact FO _ _ _ h.1 ((YH.mp ih).1 y e)
def UP{l:aj}(h:sortedS l=aC):l.Pairwise λa b=>iW a b=aC:=by
 cases l with
 |nil=>exact .nil
 |cons x r=>exact Ff r x h
def GI:∀ {ss:aj} {us:List j8},Vals (ss.map V.str) us->StrsAre us ss
 |[],_,.nil=>.nil
 |s::ss,_,.cons r t=>by obtain⟨t',rfl⟩:=r; exact .cons s t' (GI t)
def GQ:∀ {us:List j8} {ss:aj},StrsAre us ss->Vals (ss.map V.str) us
 |_,_,.nil=>.nil
 |_,_,.cons y t h=>.cons ⟨t,rfl⟩ (GQ h)
def GH:∀ {us:List j8} {ss:aj},StrsAre us ss->us.length=ss.length
 |_,_,.nil=>rfl
 |_,_,.cons y t h=>by simp[GH h]
def wH:∀ {ss:am} {us:List j8},Vals (ss.map V.int) us->WU us ss
 |[],_,.nil=>.nil
 |s::ss,_,.cons r t=>by obtain⟨t',rfl⟩:=r; exact .cons s t' (wH t)
def GP:∀ {us:List j8} {ss:am},WU us ss->Vals (ss.map V.int) us
 |_,_,.nil=>.nil
 |_,_,.cons y t h=>.cons ⟨t,rfl⟩ (GP h)
def qp(a b:Int):Bool:=aE (a<=b)
def nK(l:am):am:=l.mergeSort qp
def G2(l:am):(nK l).Perm l:=Wq l qp
def Rm(l:am):(nK l).Pairwise λa b=>qp a b=aC:=Nk (λa b c h h'=>by unfold qp at *; rw[decide_eq_true_iff] at *; lia) (λa b=>by unfold qp; rw[QR,decide_eq_true_iff,decide_eq_true_iff]; lia) l
def GN{l m:am}(hp:m.Perm l)(hm:m.Pairwise (·<=·)):m=nK l:=
 N2 (le:=λa b=>qp a b=aC) (λa b _ _ h h'=>by unfold qp at h h'; rw[decide_eq_true_iff] at h h'; lia) (hm.imp λh=>bB h) (Rm l) (hp.trans (G2 l).symm)
section
def V7:CallR X (.builtin "sorted") (λxs H Q=>∃(a:jv) (ss:aj),xs=[V.ref a]/\aq X.K H a (ss.map V.str)/\ss.length < 64/\∀ l,H l=aB->Q (.ref l) (aS H l (.lst ((oK ss).map V.str)))):=by
 intro pc s σ H xs us Q I rv h;obtain⟨a,ss,rfl,hq,hl,q⟩:=h;obtain⟨u,rfl,ru⟩:=rv.one;cases ru;obtain⟨its,r,p,hz⟩:=I.list hq;have sa:=GI r;have hlen:=GH sa;refine sorted_strs p.isList sa (by lia) λout ss' h1 h2 h3=>?_
 obtain⟨e,he⟩:=sortedAll_at s.heap its out;have hs:=VL h2 (UP h3);subst hs;exact⟨.ref (s.heap.objs.size+1),_,I.laid (a:=s.heap.objs.size+1) (o:=.lst ((oK ss).map V.str)) (t':=s.toks) (λb o e=>sortedAll_old e) (Z2 _) ⟨by rw[j4,(G3 ss).length_eq,Zi]; lia,out.toList,e,GQ h1,by rw[he]⟩,rfl,q _ (I.hok.fresh (Z2 _))⟩
def V6:CallR X (.builtin "sorted") (λxs H Q=>∃(a:jv) (ss:am),xs=[V.ref a]/\aq X.K H a (ss.map V.int)/\ss.length < 64/\∀ l,H l=aB->Q (.ref l) (aS H l (.lst ((nK ss).map V.int)))):=by
 intro pc s σ H xs us Q I rv h;obtain⟨a,ss,rfl,hq,hl,q⟩:=h;obtain⟨u,rfl,ru⟩:=rv.one;cases ru;obtain⟨its,r,p,hz⟩:=I.list hq;have sa:=wH r;have hlen:=r.length;rw[j4] at hlen;refine sorted_ints p.isList sa (by lia) λout ss' h1 h2 h3=>?_
 obtain⟨e,he⟩:=sortedAll_at s.heap its out;have hs:=GN h2 h3;subst hs;exact⟨.ref (s.heap.objs.size+1),_,I.laid (a:=s.heap.objs.size+1) (o:=.lst ((nK ss).map V.int)) (t':=s.toks) (λb o e=>sortedAll_old e) (Z2 _) ⟨by rw[j4,(G2 ss).length_eq,Zi]; lia,out.toList,e,GP h1,by rw[he]⟩,rfl,q _ (I.hok.fresh (Z2 _))⟩
end
section
variable {R:Jx->jc->Prop}{I:jv}{fp wr:List jv}{G:Array gJ->Array gJ->Prop}{n:Nat}{Pv:Nat->j8->Prop}{St:Nat->jc->Prop}
def IsSetS(P:jI)(w:Qf)(S:jv)(l:aj)(h:QN):Prop:=h.SetOf (strKind P w) S (λq=>aE (q∈l)) l.length
def IsSetS.at{S:jv}{l:aj}{h h':QN}(x:IsSetS P w S l h)(k:∀ o,h.get? S=aA o->h'.get? S=aA o):IsSetS P w S l h':=by
 obtain⟨o,es,ep,t,e,r⟩:=x;exact⟨o,es,ep,t,k _ e,r⟩
def IsSetS.next{S:jv}{l:aj}{x:Str}{h:QN}(y:h.SetOf (strKind P w) S (λq=>aE (q∈l)||aE (q=x)) (if aE (x∈l)=aC then l.length else l.length+1)):IsSetS P w S (Dw.dE l x) h:=by
 have e1:(λq=>aE (q∈l)||aE (q=x))=λq=>aE (q∈Dw.dE l x):=by
  funext q
  unfold Dw.dE
  by_cases hx:x∈l
  ·rw[aI hx]
   by_cases hq:q=x
   ·subst hq; simp[hx]
   ·simp[hq]
  ·rw[aH hx,Ze]; simp
 have e2:(if aE (x∈l)=aC then l.length else l.length+1)=(Dw.dE l x).length:=by
  unfold Dw.dE
  by_cases hx:x∈l
  ·rw[aI hx,aI (by simpa using hx)]
  ·rw[aH hx,aH (by simpa using hx),jk]; rfl
 rwa [e1,e2] at y
def zY:∀(l acc:aj),(l.foldl Dw.dE acc).length<=acc.length+l.length
 |[],acc=>jj _
 |x::l,acc=>by
  rw[QU];have:=zY l (Dw.dE acc x);have h2:(Dw.dE acc x).length<=acc.length+1:=by
   unfold Dw.dE;split
   ·lia
   ·rw[jk]; exact jj _
  rw[jo];lia
def T7(W:WalksS P w A.in1 I fp wr G n Pv St)(S:jv)(hS:S∉fp)(ss:aj)(hn:ss.length=n)(hv:∀ i v x,Pv i v->ss[i]?=aA x->∃ t,v=.str x t)(hb:n+1 < Zv) :
  ∀(k i:Nat) (s:jc),n - i=k->i<=n->St i s->IsSetS P w S (Dw.aK (ss.take i)) s.heap->(∀ s',Moved (S::wr) G s s'->IsSetS P w S (Dw.aK ss) s'.heap->R (.ok (.ret .none)) s')->
   Yu (jR P w) A (.builtin "set.update.loop" ⟨[.ref S,.ref I],[]⟩) R s:=by
 have nw:S∉wr:=λz=>hS (W.sub _ z);have up:∀ b∈wr,b∈S::wr:=λb z=>.tail _ z;intro k
 induction k with
 |zero=>
  intro i s hk hi st hs q;obtain rfl:i=n:=by lia
  refine gd ZQ ?_;rw[gv QV _];refine j5 (m:=NE (.ref I)) (W.done s _ _ st λs' mv=>jm (q s' (mv.mono up) ?_));rw[jZ (by lia)] at hs
  exact hs.at λo e=>mv.heap S o nw e
 |succ k ih=>
  intro i s hk hi st hs q;have lt:i < n:=by lia
  obtain⟨x,hx⟩:∃ x,ss[i]?=aA x:=⟨_,j3 (by lia)⟩
  refine gd ZQ ?_;rw[gv QV _];refine j5 (m:=NE (.ref I)) (W.item i s _ _ lt st λv s1 pv st1 mv=>?_);obtain⟨t,rfl⟩:=hv i v x pv hx;have hs1:=hs.at λo e=>mv.heap S o nw e;have ky:(strKind P w).is x (.str x t)=aC:=by show Z5 x (.str x t)=aC; simp[Z5]
  refine j5 (m:=Yt [gy x t] (setAdd S (.str x t))) (Qa ?_);unfold setAdd;refine Qa (j5 ((strKind P w).pyHash (k:=x) ky ?_));have fl:(Dw.aK (ss.take i)).length<=i:=by
   have:=zY (ss.take i) [];rw[Q2,Zp] at this;unfold Dw.aK;lia
  refine Ya (knd:=strKind P w) (s:={ s1 with toks:=s1.toks+1 }) ky rfl hs1 (by lia) λh2 sb hs2=>?_
  have hs3:=IsSetS.next hs2
  rw[<-Dw.UT hx] at hs3;refine jm ⟨plainId_quiet QV _,ih (i+1) _ (by lia) lt (W.frame _ s1 _ _ st1 (Z2 _) λb z o e=>(sb.2 b (λy=>hS (y▸z))).trans e) hs3 λs2 mv2=>q s2 (Ul W.gtrans ((mv.mono up).then_heap (Z2 _) λb o z e=>(sb.2 b (λy=>z (y▸.head _))).trans e) mv2)⟩
end
section
def fU(led:Bool):Obj:={ cls:=.type "set",dict:=aB,data:=.set #[] 0 (.fresh 0 0 led) }
set_option maxHeartbeats 3200000 in
def VD{l:jv}{its:Array j8}{ss:aj}{Q:j8->jc->Prop}(hh:A.handled=aB)(hl:s.heap.IsList l its)(hn:ss.length=its.size)(hv:∀(i:Nat) v x,its[i]?=aA v->ss[i]?=aA x->∃ t,v=.str x t)(hb:its.size+1 < Zv)
  (q:∀(h':QN) (tk:Nat),IsSetS P w s.heap.objs.size (Dw.aK ss) h'->(∀ b o,b < s.heap.objs.size->s.heap.get? b=aA o->h'.get? b=aA o)->Q (.ref s.heap.objs.size) { s with heap:=h',toks:=tk }) :
  jT (jR P w) A (call (.type "set") [.ref l]) Q E s:=by
 have a0:=Qv.mro;obtain⟨mc,mt,a0⟩:=a0;have a1:=Qv.made;have a2:=Qv.sub;refine W3 (NO (jm ⟨gQ _ (by decide +kernel),gd WZ ?_⟩))
 rw[WG (NP "set" [QF l] []) rfl];have a3:=Qv.notType;have a4:=Qv.canCreate;have a5:=Jm (.ref l)
 repeat (any_goals (first |wp_step |assumption))
 refine gG (code_set_new_1 (.ref l) (E:=E) (Q₁:=λv s1=>∃ led:Bool,v=.ref s.heap.objs.size/\s1={ s with heap:=s.heap.push (fU led) }) λled=>⟨led,rfl,rfl⟩) λr s1 hr=>?_;cases r with
 |error e=>exact hr
 |ok fl=>
  cases fl with
  |ret v=>
   obtain⟨led,rfl,rfl⟩:=hr;have g0:(s.heap.push (fU led)).get? s.heap.objs.size=aA (fU led):=jL _ rfl;have ty:WH { s with heap:=s.heap.push (fU led) } (.ref s.heap.objs.size) "set":=⟨_,g0,rfl⟩;have b1:=Qv.init.lookup;have b2:=Qv.init.bind (.ref s.heap.objs.size)
   repeat (any_goals (first |wp_step |assumption))
   refine gG (Yj (R:=wants (λr s2=>r=.none/\∃ h' tk,s2={ s with heap:=h',toks:=tk }/\IsSetS P w s.heap.objs.size (Dw.aK ss) h'/\(∀ b o,b < s.heap.objs.size->s.heap.get? b=aA o->h'.get? b=aA o)) E) Qv.init.plain Jn (check_set_init_1 ty ?_)) λr2 s2 hr2=>?_
   ·obtain⟨⟨c1,c2,c3,c4⟩,ho,hc,nl,hd⟩:=hl;dsimp only at hc hd;subst hc hd;have g1:(s.heap.push (fU led)).get? l=aA { cls:=.type "list",dict:=c2,data:=.seq its nl,slots:=c4 }:=ja _ ho;have d1:=F.sub_list_set;have d2:=Wb;have d3:(W1 "list" == W1 "dict")=aD:=by decide
    have il:(s.heap.push (fU led)).IsList l its:=⟨_,g1,rfl,nl,rfl⟩;unfold Wr.«set.__init__»;unfold noKeywords Yr;generalize hPI:pyIter=PI
    wp_walk
    subst hPI;refine Y3 il (j5 (wpAny_runValue ?_));have lS:=jr ho;have ne:l≠(s.heap.push (fU led)).objs.size:=by rw[Zn]; exact jH (QB lS)
    have nS:s.heap.objs.size∉[(s.heap.push (fU led)).objs.size,l]:=by
     rw[Zn];intro z;obtain z |z:=jx.mp z
     ·exact absurd z (jH (Zj _))
     ·exact absurd (j9.mp z) (g9 lS)
    refine T7 ((Walks.list (show A.in1.in1.in1.handled=aB by simp[hh]) _ l ne its).toS) s.heap.objs.size nS ss hn (λi v x hv' hx=>hv i v x hv' hx) hb (its.size - 0) 0 _ (by lia) (QQ _) ⟨⟨_,jL _ rfl,rfl,rfl⟩,il.push _⟩ ?st ?fin
    case st=>exact(Wj (knd:=strKind P w) led).setOf (ja _ g0) (by unfold Zv; lia)
    case fin=>
     intro s' mv hs';obtain⟨h',g',d',tk',os'⟩:=s';obtain rfl:g'=s.gens:=mv.gens;obtain rfl:d'=s.drawn:=mv.drawn;obtain rfl:os'=s.os:=mv.os;refine jm (jm ⟨rfl,h',tk',rfl,hs',λb o z e=>mv.heap b o (λy=>?_) (ja _ (ja _ e))⟩);rw[Zn] at y;obtain y |y:=jx.mp y
     ·exact absurd y (jH z)
     ·exact absurd (j9.mp y) (jH (QB z))
   ·cases r2 with
    |error e=>exact hr2
    |ok f2=>
     cases f2 with
     |ret r=>
      obtain⟨rfl,h',tk,rfl,y1,y2⟩:=hr2
      repeat (any_goals (first |wp_step |assumption))
      exact q _ _ y1 y2
     |_=>exact hr2.elim
  |_=>exact hr.elim
end
section
def lZ(X:Cx)(a:jv)(l:aj):HO:=.ext (IsSetS X.prog X.w a l)
def F7(hc:X.calm=aC):CallR X (.type "set") (λxs H Q=>∃(a:jv) (ss:aj),xs=[V.ref a]/\aq X.K H a (ss.map V.str)/\ss.length < 1000/\∀ l,H l=aB->Q (.ref l) (aS H l (lZ X l (Dw.aK ss)))):=by
 intro pc s σ H xs us Q I rv h;obtain⟨a,ss,rfl,hq,hl,q⟩:=h;obtain⟨u,rfl,ru⟩:=rv.one;cases ru;obtain⟨its,r,p,hz⟩:=I.list hq;have hlen:=r.length;rw[j4] at hlen;refine VD (ss:=ss) (I.ok.hd hc) p.isList (by rw[jt]; exact hlen) (λi v x hv hx=>?_) (by rw[jt]; unfold Zv; lia) λh' tk hs k=>?_
 ·obtain⟨u,hu,ru⟩:=r.get (i:=i) (x:=V.str x) (by rw[jf,hx]; rfl)
  have e:v=u:=by
   rw[NQ,hu] at hv;exact(jh hv).symm
  rw[e];exact ru
 ·have new:ObjOk X.prog X.w (aS H s.heap.objs.size (lZ X s.heap.objs.size (Dw.aK ss))) h' s.heap.objs.size (lZ X s.heap.objs.size (Dw.aK ss)):=⟨hs,by obtain⟨o,_,_,_,e,_⟩:=hs; exact⟨o,e⟩,λh1 h2 x k=>x.at k⟩
  exact⟨.ref s.heap.objs.size,_,I.laid (a:=s.heap.objs.size) (t':=tk) (λb o e=>k b o (jr e) e) (jj _) new,rfl,q _ (I.hok.fresh (jj _))⟩
def Sa:CallR X (.builtin "len") (λxs H Q=>∃(a:jv) (l:aj),xs=[V.ref a]/\H a=aA (lZ X a l)/\Q (.int l.length) H):=by
 intro pc s σ H xs us Q I rv h;obtain⟨a,l,rfl,ha,q⟩:=h;obtain⟨u,rfl,ru⟩:=rv.one;cases ru;obtain⟨hs,_,_⟩:=(I.hok a _ ha);obtain⟨o,es,ep,t,e,ex,d,_,_,b,f,n⟩:=hs;refine call_len_set e ex d f (by unfold Zv at b; lia) ?_
 rw[n];exact⟨.int l.length,H,I.tok _,⟨_,rfl⟩,q⟩
end
section
def Fp{P:jI}{w:Qf}(k:Int)(t:Tok):(intKind P w).is k (.int k t)=aC:=by show Ys k (.int k t)=aC; simp[Ys]
def T0:CallR X (.type "set") (λxs H Q=>xs=[]/\∀ l,H l=aB->Q (.ref l) (aS H l (.set (λ_=>aD) 0))):=by
 intro pc s σ H xs us Q I rv h;obtain⟨rfl,q⟩:=h;cases rv;refine call_set_0 λled=>?_;have new:ObjOk X.prog X.w (aS H s.heap.objs.size (.set (λ_=>aD) 0)) (s.heap.push (fU led)) s.heap.objs.size (.set (λ_=>aD) 0):=(Wj (knd:=intKind X.prog X.w) led).setOf (jL _ rfl) (by unfold Zv; lia)
 exact⟨.ref s.heap.objs.size,_,I.laid (a:=s.heap.objs.size) (t':=s.toks) (λb o e=>ja _ e) (jj _) new,rfl,q _ (I.hok.fresh (jj _))⟩
def Ch:V->List V->Hp->VK->Prop:=λx vs H Q=>∃ a S n k,x=.ref a/\vs=[.int k]/\H a=aA (.set S n)/\n < 1000/\Q .non (aS H a (.set (λj=>S j||aE (j=k)) (if S k then n else n+1)))
def Oo:qx X "set.add" Ch:=by
 intro pc s σ H x vs v us Q I rx rv h;obtain⟨a,S,n,k,rfl,rfl,ha,hn,q⟩:=h;cases rx;obtain⟨u,rfl,ru⟩:=rv.one;obtain⟨t,rfl⟩:=ru;have hS:=(I.hok a _ ha);refine call_set_add (Fp k t) rfl hS (by unfold Zv; lia) λh' hs hS'=>?_
 have hx:∃ q,h'.get? a=aA q:=by obtain⟨o,_,_,_,e,_⟩:=hS'; exact⟨o,e⟩
 exact⟨.non,_,t8 (t':=s.toks+1) (ob:=.set (λj=>S j||aE (j=k)) (if S k then n else n+1)) I (by rw[ha]; exact Y5) hs hx hS',rfl,q⟩
def Ov:cZ X (Z9 .NotIn) (λx y H Q=>∃ k a S n,x=.int k/\y=.ref a/\H a=aA (.set S n)/\Q (.bl (!S k)) H):=by
 intro pc s σ H x y v u Q I rx ry h;obtain⟨k,a,S,n,rfl,rfl,ha,q⟩:=h;obtain⟨t,rfl⟩:=rx;cases ry;have hS:=(I.hok a _ ha);exact wpAny_notInSet_of (Fp k t) rfl hS ⟨.bl (!S k),H,I.tok _,rfl,q⟩
end
def Vg:entryFor table "set.__and__"=aA Wr.«frozenset.__and__»:=
 entryFor_alias (id':="frozenset.__and__") (by kernel_rfl) rfl (by decide +kernel) (by kernel_rfl)
def VM:isSubtype (.type "set") (.type "set")=pure aC:=by rw[isSubtype_type]; kernel_rfl
def wJ{α:Type}[DecidableEq α]:∀(l m:List α),l.Nodup->(∀ x,x∈l->x∈m)->m.length<=l.length->m.Perm l
 |[],m,_,_,h=>by
  have:m=[]:=Yd (by simpa using h)
  rw[this]
 |x::l,m,nd,hs,h=>by
  have hx:=hs x (.head _);obtain⟨n1,n2⟩:=Qh.mp nd;have p1:=List.perm_cons_erase hx;refine p1.trans (.cons x (wJ l (m.erase x) n2 (λy hy=>?_) ?_))
  ·have:y≠x:=λe=>n1 (e▸hy);exact(gx this).mpr (hs y (.tail _ hy))
  ·have:=p1.length_eq;rw[jo] at this;rw[jo] at h;lia
def Vw{α:Type}[DecidableEq α](l m:List α)(h1:l.Nodup)(h2:m.Nodup):(l.filter (λx=>aE (x∈m))).length=(m.filter (λx=>aE (x∈l))).length:=by
 have n1:=h1.filter (λx=>aE (x∈m));have n2:=h2.filter (λx=>aE (x∈l));refine NR ?_ ?_
 ·by_cases h:(m.filter (λx=>aE (x∈l))).length<=(l.filter (λx=>aE (x∈m))).length
  ·have:=(wJ (l.filter (λx=>aE (x∈m))) (m.filter (λx=>aE (x∈l))) n1 (λx hx=>by
    have:=jQ.mp hx
    exact jQ.mpr ⟨by simpa using this.2,by simpa using this.1⟩) h).length_eq
   lia
  ·lia
 ·by_cases h:(l.filter (λx=>aE (x∈m))).length<=(m.filter (λx=>aE (x∈l))).length
  ·have:=(wJ (m.filter (λx=>aE (x∈l))) (l.filter (λx=>aE (x∈m))) n2 (λx hx=>by
    have:=jQ.mp hx
    exact jQ.mpr ⟨by simpa using this.2,by simpa using this.1⟩) h).length_eq
   lia
  ·lia
def Gn{α:Type}:∀(l:List α) (i:Nat) (h:i < l.length),(l[i]::l.eraseIdx i).Perm l
 |x::l,0,_=>by simp
 |x::l,i+1,h=>by
  rw[Nh,List.getElem_cons_succ];exact(List.Perm.swap _ _ _).trans (.cons x (Gn l i (by simpa using h)))
def X6{α:Type}(next:ai)(xs:Array α):(pickOrder next xs).toList.Perm xs.toList:=by
 have key:∀(n k:Nat) (left:List α) (out:Array α),left.length=n->(Je next n k left out).toList.Perm (out.toList++left):=by
  intro n
  induction n with
  |zero=>
   intro k left out h;have:left=[]:=Yd h;subst this;unfold Je;simp
  |succ n ih=>
   intro k left out h;unfold Je;have hlt:next k%left.length < left.length:=Nat.mod_lt _ (by lia)
   rw[j3 hlt];dsimp only;refine(ih _ _ _ (by rw[List.length_eraseIdx,aI hlt]; lia)).trans ?_
   rw[Array.toList_push,Qn];refine NK _ ?_;exact Gn left _ hlt
 exact(key _ _ _ _ (by simp)).trans (by simp)
section
def dX:j8->Str
 |.str x _=>x
 |_=>""
def Tz{k:Str}:∀ {v:j8},Z5 k v=aC->∃ tk,v=gy k tk
 |.str x tk,h=>⟨tk,congrArg (λz=>gy z tk) (show x=k by simpa[Z5] using h)⟩
def UW(q x:Str)(tk:Tok):Z5 q (.str x tk)=aC↔dX (.str x tk)=q:=by
 unfold Z5 dX;simp
def IsSetS.ents{S:jv}{l:aj}{h:QN}(x:IsSetS P w S l h):∃(o:Obj) (es:Array (Int × j8)) (ep:Nat) (t:Ju),h.get? S=aA o/\o.ExactSet/\o.data=.set es ep t/\t.fits es.size=aC/\es.size=l.length/\es.size < Zv/\(∀ e∈es.toList,(∃ tk,e.2=gy (dX e.2) tk)/\e.1=(strKind P w).hash (dX e.2))/\∀ q,q∈es.toList.map (λe=>dX e.2)↔q∈l:=by
 obtain⟨o,es,ep,t,e1,e2,e3,e4,e5,e6,e7,e8⟩:=x;have get:∀ e∈es.toList,(∃ tk,e.2=gy (dX e.2) tk)/\e.1=(strKind P w).hash (dX e.2):=λe he=>by
  obtain⟨⟨k,hk,hh⟩,_⟩:=e4 e he;obtain⟨tk,h3⟩:=Tz hk;have h4:dX e.2=k:=by rw[h3]; rfl
  rw[h4];exact⟨⟨tk,h3⟩,hh⟩
 refine⟨o,es,ep,t,e1,e2,e3,e7,e8,e6,get,λq=>?_⟩;have e5:=e5 q;rw[decide_eq_true_iff] at e5;rw[e5,jz];refine exists_congr λe=>and_congr_right λhe=>?_;obtain⟨⟨tk,h3⟩,_⟩:=get e he;rw[show (strKind P w).is q e.2=Z5 q e.2 from rfl,h3];exact(UW _ _ _).symm
def VP{sets:List jv}{Q:Bool->jc->Prop}(hs:∀ a∈sets,∃ l:aj,IsSetS P w a l s.heap)(h:Q aC s):jT (jR P w) A (setsQuiet sets) Q E s:=by
 unfold setsQuiet;refine j5 ?_;refine wpAny_forIn_list _ (λrest b s'=>b=⟨aB,()⟩/\s'=s/\∀ a∈rest,a∈sets) _ ?_ ?_ sets _ ⟨rfl,rfl,λa h=>h⟩
 ·rintro a rest b s' ⟨rfl,rfl,hr⟩;obtain⟨l,hl⟩:=hs a (hr a (.head _));obtain⟨o,es,ep,t,e1,e2,e3,e4,e5,e6,e8,_⟩:=IsSetS.ents hl;refine j5 (YA e1 e3 e4 ?_);refine j5 ?_;refine WI _ (λrest b s''=>b=⟨aB,()⟩/\s''=s'/\∀ e∈rest,e∈es.toList) _ ?_ ?_ es _ ⟨rfl,rfl,λa h=>h⟩
  ·rintro e rest2 b s'' ⟨rfl,rfl,hr2⟩;obtain⟨⟨tk,h3⟩,_⟩:=e8 e (hr2 e (.head _));obtain⟨e0,ev⟩:=e;generalize dX ev=ky at h3;dsimp only at h3 ⊢;subst h3;exact jm ⟨rfl,rfl,λe he=>hr2 e (.tail _ he)⟩
  ·rintro b s'' ⟨rfl,rfl,_⟩;exact jm ⟨rfl,rfl,λa ha=>hr a (.tail _ ha)⟩
 ·rintro b s' ⟨rfl,rfl,_⟩;exact jm h
end
section
def IsSetS.same{S:jv}{l l':aj}{h:QN}(x:IsSetS P w S l h)(e:∀ q,q∈l↔q∈l')(hl:l.length=l'.length):IsSetS P w S l' h:=by
 unfold IsSetS at x ⊢;rw[<-hl,show (λq=>aE (q∈l'))=λq=>aE (q∈l) from funext λq=>decide_eq_decide.mpr (e q).symm];exact x
def US{a:jv}{o:Obj}{es:Array (Int × j8)}{ep:Nat}{t:Ju}{Q:Array (Int × j8)->jc->Prop}(ho:s.heap.get? a=aA o)(hd:o.data=.set es ep t)(hf:t.fits es.size=aC)
  (hc:w.params.followText "set-order"=aC∨(t.led&&t.plain)=aC∨es.size<=1) (q:∀ es':Array (Int × j8),es'.toList.Perm es.toList->Q es' s):jT (jR P w) A (setWalk a) Q E s:=by
 unfold setWalk setsByText;refine j5 (N3 ho hd hf ?_);refine j5 (j5 (Nr (jm ?_)));dsimp only;show jT _ _ (if w.params.followText "set-order"=aC then _ else _) _ _ _
 by_cases hx:w.params.followText "set-order"=aC
 ·rw[aI hx];exact j5 (Nr (jm (q _ (X6 _ _))))
 ·rw[aH hx];have hd':(!t.plain&&aE (es.size > 1))=aD:=by
   obtain hc |hc |hc:=hc
   ·exact absurd hc hx
   ·rw[jJ] at hc; rw[hc.2]; rfl
   ·rw[bL (by lia),YN]
  have hd2:(!t.led&&aE (es.size > 1))=aD:=by
   obtain hc |hc |hc:=hc
   ·exact absurd hc hx
   ·rw[jJ] at hc; rw[hc.1]; rfl
   ·rw[bL (by lia),YN]
  show jT _ _ (if (!t.plain&&aE (es.size > 1))=aC then _ else _) _ _ _
  rw[aH (by rw[hd']; exact jO)]
  refine j5 ?_;show jT _ _ (if (!t.led&&aE (es.size > 1))=aC then _ else pure ()) _ _ _
  rw[aH (by rw[hd2]; exact jO)]
  exact jm (jm (q _ (.refl _)))
def Vk{a r:jv}{o:Obj}{es:Array (Int × j8)}{ep:Nat}{t:Ju}{Q:Array (Int × j8)->jc->Prop}{others:List jv}{lr:aj}(ho:s.heap.get? a=aA o)(hd:o.data=.set es ep t)(hf:t.fits es.size=aC)
  (hs:∀ b∈a::others,∃ l:aj,IsSetS P w b l s.heap) (hr:IsSetS P w r lr s.heap) (q:∀(es':Array (Int × j8)) (h':QN),es'.toList.Perm es.toList->Qo r s.heap h'->IsSetS P w r lr h'->Q es' { s with heap:=h' }):jT (jR P w) A (WJ a others (aA r)) Q E s:=by
 unfold WJ setsByText;refine j5 (N3 ho hd hf ?_);refine j5 (j5 (Nr (jm ?_)));dsimp only;show jT _ _ (if (w.params.followText "set-order"||(t.led&&t.plain)||aE (es.size<=1))=aC then _ else _) _ _ _
 have e0:s={ s with heap:=s.heap }:=by cases s; rfl
 by_cases hx:(w.params.followText "set-order"||(t.led&&t.plain)||aE (es.size<=1))=aC
 ·rw[aI hx];refine US ho hd hf ?_ λes' p=>e0▸q es' s.heap p (.refl _ _) hr;simpa[QR,or_assoc] using hx
 ·rw[aH hx];refine j5 (VP hs ?_);simp only[U1,Zf,↓reduceIte];refine j5 (JU ?_);obtain⟨o2,es2,ep2,t2,g1,g2,g3,g4,g5,g6,g7,g8⟩:=hr;refine j5 (N3 g1 g3 g7 ?_);dsimp only;split
  ·refine j5 (wpAny_storeSet_of g1 g3 (jm ?_) (fits_of_scanBound g6));refine q es _ (.refl _) (Heap.SameBut.update _ _ _) ?_;have:=(SetOf_store (knd:=strKind P w) (t':={ t2 with led:=t2.led&&t.led,plain:=t2.plain&&t.plain }) g1 g2 g3 g4 g5 g6 (by cases t2; exact g7)).2
   rwa [g8] at this
  ·exact j5 (jm (jm (e0▸q es s.heap (.refl _) (.refl _ _) ⟨o2,es2,ep2,t2,g1,g2,g3,g4,g5,g6,g7,g8⟩)))
def VO{a b r:jv}{la:aj}{es:Array (Int × j8)}{ob:Obj}{esb:Array (Int × j8)}{was:Nat}{t:Ju}{id:String}{Q:PUnit->jc->Prop}(har:a≠r)(hbr:b≠r)
  (ha:IsSetS P w a la s.heap) (hb:s.heap.get? b=aA ob) (hbd:ob.data=.set esb was t) (hbf:t.fits esb.size=aC) (hr:IsSetS P w r [] s.heap) (hn:(es.toList.map λe=>dX e.2).Nodup) (hz:es.size+1 < Zv)
  (he:∀ e∈es.toList,(∃ tk,e.2=gy (dX e.2) tk)/\e.1=(strKind P w).hash (dX e.2))
  (q:∀ h',Qo r s.heap h'->IsSetS P w r ((es.toList.map λe=>dX e.2).filter λx=>aE (x∈la)) h'->Q ⟨⟩ { s with heap:=h' }) :
  jT (jR P w) A (forIn es W6 fun(x:Int × j8) (_:PUnit)=>do
   Yt [x.2] (do if (<-setFind a x.2 x.1).isSome=aC then let _ <-setAddHashed r x.2 x.1)
   Zq id b was
   pure (Ql W6)) Q E s:=by
 refine WI _ (λrest _ s'=>∃ pre h',pre++rest=es.toList/\s'={ s with heap:=h' }/\Qo r s.heap h'/\IsSetS P w r ((pre.map λe=>dX e.2).filter λx=>aE (x∈la)) h') _ ?_ ?_ es _ ⟨[],s.heap,rfl,by cases s; rfl,.refl _ _,hr⟩
 ·rintro⟨e0,ev⟩ rest b' s' ⟨pre,h',hp,rfl,sb,hr'⟩;have hmem:(e0,ev)∈es.toList:=by rw[<-hp]; simp
  obtain⟨⟨tk,h3⟩,h4⟩:=he _ hmem;dsimp only at h3 h4;generalize hk:dX ev=k at h3 h4;subst h3 h4;have ky:(strKind P w).is k (.str k tk)=aC:=by show Z5 k (.str k tk)=aC; simp[Z5]
  have ha':=ha.at λo e=>(sb.2 a har).trans e;have hb':=(sb.2 b hbr).trans hb;have hnk:k∉pre.map λe=>dX e.2:=by
   rw[<-hp,jF,jp] at hn;have:=(jK.mp hn).2.2;intro hc;exact this k hc k (by dsimp only; rw[hk]; exact .head _) rfl
  have hlen:pre.length < es.size:=by rw[<-QK,<-hp]; simp
  have fl:((pre.map λe=>dX e.2).filter λx=>aE (x∈la)).length<=pre.length:=by
   refine Qc (Zw _ _) ?_;rw[j4]; exact jj _
  have fin:∀ h2 (Qx:ForInStep PUnit->jc->Prop),Qo r h' h2->Qx (.yield ⟨⟩) { s with heap:=h2 }->jT (jR P w) A (do
    Zq id b was
    pure (Ql W6)) Qx E { s with heap:=h2 }:=λh2 Qx sb2 hq=>by
   unfold Zq;refine j5 (j5 (J0 (s:={ s with heap:=h2 }) ((sb2.2 b hbr).trans hb') hbd hbf ?_));simp only[bne_self_eq_false,Zf,↓reduceIte];exact jm (jm hq)
  have pq:(pre++[((strKind P w).hash k,gy k tk)])++rest=es.toList:=by rw[Qn]; exact hp
  refine j5 (Qa (j5 (wpAny_setFind_of (knd:=strKind P w) (s:={ s with heap:=h' }) ky rfl ha' λf hf=>?_)));rw[hf]
  by_cases hin:k∈la
  ·rw[aI (by simpa using hin)]
   refine j5 (Ya (knd:=strKind P w) (s:={ s with heap:=h' }) ky rfl hr' (by lia) λh2 sb2 hs2=>jm (fin h2 _ sb2 ⟨_,h2,pq,rfl,sb.trans sb2,?_⟩))
   have hs3:=IsSetS.next hs2
   refine hs3.same (λx=>?_) ?_
   ·unfold Dw.dE;rw[aH (by simp[hnk]),jF,Zx]
    simp[dX,hin]
   ·unfold Dw.dE;rw[aH (by simp[hnk]),jF,Zx]
    simp[dX,hin]
  ·rw[aH (by simpa using hin)]
   refine jm (fin h' _ (.refl _ _) ⟨_,h',pq,rfl,sb,hr'.same (λx=>?_) ?_⟩)
   ·rw[jF,Zx]; simp[dX,hin]
   ·rw[jF,Zx]; simp[dX,hin]
 ·rintro b' s' ⟨pre,h',hp,rfl,sb,hr'⟩;rw[QH] at hp;subst hp;exact q h' sb hr'
end
section
def RM{a b:jv}{l m:aj}{Q:j8->jc->Prop}(hab:a≠b)(ha:IsSetS P w a l s.heap)(hb:IsSetS P w b m s.heap)(hl:l.Nodup)(hm:m.Nodup)(hz:l.length+m.length < 2000)
  (q:∀ h':QN,IsSetS P w s.heap.objs.size (l.filter λx=>aE (x∈m)) h'->(∀ x o,s.heap.get? x=aA o->h'.get? x=aA o)->Q (.ref s.heap.objs.size) { s with heap:=h' }):jT (jR P w) A (gK .BitAnd (.ref a) (.ref b)) Q E s:=by
 have ta:=N4 ha;have tb:=N4 hb;refine wpAny_binaryOp_same ta tb F.fills_set_and F.slot_set_and (Nt F.slot_set_and ta Vg ?_ (F.args_set_and_2 _ _));unfold Wr.«frozenset.__and__»;have st:=VM
 show jT _ _ (do
  let (self,other) <-Nl "__and__" ⟨[.ref a,.ref b],[]⟩
  let (l,r):=if aD=aC then (other,self) else (self,other)
  if !(<-gs l <&&> gs r) then rule s!"frozenset.{"__and__"}.declined"; return <-ret .notImplemented
  ret (<-Jf s!"frozenset.{"__and__"}" (<-N5 l) r)) _ _ _
 unfold Nl slotArgs;simp only[List.isEmpty_nil,U1,Zf,↓reduceIte,bind_assoc,Zp,bne_self_eq_false,pure_bind]
 repeat (any_goals (first |wp_step |assumption))
 rw[aH (by dsimp only; simpa using λe:b=a=>hab e.symm)]
 unfold JV;refine j5 (j5 (Nu ta st ?_));refine jm ?_;simp only[↓reduceIte];refine j5 (wpAny_newSet_of (knd:=strKind P w) λled hr=>?_);unfold N5;refine j5 (jm ?_);dsimp only;generalize hs1:s.heap.push { cls:=.type "set",dict:=aB,data:=.set #[] 0 (.fresh 0 0 led) }=h1 at hr ⊢;have k1:∀ x o,s.heap.get? x=aA o->h1.get? x=aA o:=λx o e=>by rw[<-hs1]; exact ja _ e
 have ha1:=ha.at (k1 a);have hb1:=hb.at (k1 b);have hr1:IsSetS P w s.heap.objs.size [] h1:=by
  unfold IsSetS;simpa using hr
 have tb1:WH { s with heap:=h1 } (.ref b) "set":=N4 hb1;have nea:∀ x l',IsSetS P w x l' s.heap->x≠s.heap.objs.size:=λx l' hx e=>by
  obtain⟨o,_,_,_,e1,_⟩:=hx;exact jH (jr e1) e
 have na:=nea a l ha;have nb:=nea b m hb;unfold gs;refine j5 (Qa (j5 ?_));have orr:jT (jR P w) A.in1 (J1 (.ref b) (.type "set") <||> J1 (.ref b) (.type "frozenset")) (λr s2=>r=aC/\s2={ s with heap:=h1 }) E { s with heap:=h1 }:=by
  refine j5 (Nu tb1 st ?_);exact jm ⟨rfl,rfl⟩
 refine jY orr ?_ λ_ _ h=>h;rintro r s2 ⟨rfl,rfl⟩;rw[aI rfl];refine j5 (jm ?_);obtain⟨oa,esa,epa,sta,a1,a2,a3,a4,a5,a6,a7,a8⟩:=ha1.ents;obtain⟨ob,esb,epb,stb,b1,b2,b3,b4,b5,b6,b7,b8⟩:=hb1.ents;unfold JW;refine j5 (j5 (YA (s:={ s with heap:=h1 }) b1 b3 b4 (jm ?_)));refine j5 (j5 (YA (s:={ s with heap:=h1 }) a1 a3 a4 (jm ?_)));have done:∀ h2,Qo s.heap.objs.size h1 h2->IsSetS P w s.heap.objs.size (l.filter λx=>aE (x∈m)) h2->jT (jR P w) A.in1 (pure (QF s.heap.objs.size)) (λa s'=>jT (jR P w) A.in1 (ret a) (λfin s'=>∃ v,fin=Fin.done (Flow.ret v)/\v≠Wc/\Q v s') E s') E { s with heap:=h2 }:=λh2 sb hs=>by
  refine jm ?_;refine jm ⟨_,rfl,by simp,q h2 hs λx o e=>(sb.2 x ?_).trans (k1 x o e)⟩
  exact jH (jr e)
 have half:∀(x y:jv) (lx ly:aj) (oy:Obj) (ey:Array (Int × j8)) (py:Nat) (ty:Ju),x≠s.heap.objs.size->y≠s.heap.objs.size->IsSetS P w x lx h1->ly.Nodup->ly.length < 2000->h1.get? y=aA oy->oy.data=.set ey py ty->ty.fits ey.size=aC->IsSetS P w y ly h1->ey.size=ly.length->
   (∀ e∈ey.toList,(∃ tk,e.2=gy (dX e.2) tk)/\e.1=(strKind P w).hash (dX e.2))->(∀ q,q∈ey.toList.map (λe=>dX e.2)↔q∈ly)->(ly.filter λq=>aE (q∈lx)).length=(l.filter λq=>aE (q∈m)).length->(∀ q,q∈(ly.filter λq=>aE (q∈lx))↔q∈(l.filter λq=>aE (q∈m)))->
   jT (jR P w) A.in1 (do
         let was <-setEpoch y
         let __do_lift <-WJ y [x,s.heap.objs.size] (aA s.heap.objs.size)
         forIn __do_lift W6 fun(x_1:Int × j8) __s=>do
            Yt [x_1.2] do
              let __do_lift <-setFind x x_1.2 x_1.1
              if __do_lift.isSome=aC then do
                let _ <-setAddHashed s.heap.objs.size x_1.2 x_1.1
                pure ()
               else pure ()
            Zq (toString "frozenset."++toString "__and__") y was
            pure (Ql W6)
         pure ()) (λ_ s'=>jT (jR P w) A.in1 (pure (QF s.heap.objs.size)) (λa s'=>jT (jR P w) A.in1 (ret a) (λfin s'=>∃ v,fin=Fin.done (Flow.ret v)/\v≠Wc/\Q v s') E s') E s') E { s with heap:=h1 }:=by
  intro x y lx ly oy ey py ty hx hy sx nd hz' y1 y2 y3 sy y4 y5 y6 y7 y8;refine j5 (J0 (s:={ s with heap:=h1 }) y1 y2 y3 ?_);refine j5 (Vk (s:={ s with heap:=h1 }) y1 y2 y3 (λz hz=>?_) hr1 λes' h2 p sb hr2=>?_)
  ·simp only[jx,QZ,or_false] at hz;obtain rfl |rfl |rfl:=hz
   ·exact⟨_,sy⟩
   ·exact⟨_,sx⟩
   ·exact⟨_,hr1⟩
  ·have pm:(es'.toList.map λe=>dX e.2).Perm ly:=by
    refine(p.map _).trans (wJ ly _ nd (λq hq=>(y6 q).mpr hq) ?_);rw[j4,QK,y4]; exact jj _
   refine j5 (VO (s:={ s with heap:=h2 }) hx hy (sx.at λo e=>(sb.2 x hx).trans e) ((sb.2 y hy).trans y1) y2 y3 hr2 (pm.nodup_iff.mpr nd) ?_ (λe he=>y5 e (p.mem_iff.mp he)) λh3 sb3 hs3=>?_)
   ·rw[<-QK,p.length_eq,QK,y4];unfold Zv;lia
   ·refine jm (done h3 (sb.trans sb3) (hs3.same (λq=>?_) ?_))
    ·rw[<-y8 q,jQ,jQ,pm.mem_iff]
    ·rw[<-y7]; exact(pm.filter _).length_eq
 by_cases hlt:esb.size > esa.size
 ·rw[aI hlt];exact half b a m l oa esa epa sta nb na hb1 hl (by lia) a1 a3 a4 ha1 a5 a7 a8 rfl λq=>Iff.rfl
 ·rw[aH hlt];exact half a b l m ob esb epb stb na nb ha1 hm (by lia) b1 b3 b4 hb1 b5 b7 b8 (Vw m l hm hl) λq=>by simp[jQ,and_comm]
end
section
def Os:cZ X (gK .BitAnd) (λx y H Q=>∃ a b l m,x=.ref a/\y=.ref b/\a≠b/\H a=aA (lZ X a l)/\H b=aA (lZ X b m)/\l.Nodup/\m.Nodup/\l.length+m.length < 2000/\∀ c,H c=aB->Q (.ref c) (aS H c (lZ X c (l.filter λx=>aE (x∈m))))):=by
 intro pc s σ H x y v u Q I rx ry h;obtain⟨a,b,l,m,rfl,rfl,hab,ha,hb,hl,hm,hz,q⟩:=h;cases rx;cases ry;obtain⟨sa,_,_⟩:=(I.hok a _ ha);obtain⟨sb,_,_⟩:=(I.hok b _ hb);refine RM hab sa sb hl hm hz λh' hs k=>?_;have new:ObjOk X.prog X.w (aS H s.heap.objs.size (lZ X s.heap.objs.size (l.filter λx=>aE (x∈m)))) h' s.heap.objs.size (lZ X s.heap.objs.size (l.filter λx=>aE (x∈m))):=⟨hs,by obtain⟨o,_,_,_,e,_⟩:=hs; exact⟨o,e⟩,λh1 h2 x k=>x.at k⟩
 exact⟨.ref s.heap.objs.size,_,I.laid (a:=s.heap.objs.size) (t':=s.toks) (λb o e=>k b o e) (jj _) new,rfl,q _ (I.hok.fresh (jj _))⟩
end
section
variable {R:Jx->jc->Prop}{I:jv}{fp wr:List jv}{G:Array gJ->Array gJ->Prop}{n:Nat}{Pv:Nat->j8->Prop}{St:Nat->jc->Prop}
def two(v:j8)(c:Nat):Obj:={ cls:=.type "list",dict:=aB,data:=.seq #[v,v] c,slots:=#[] }
end
section
variable {prog:jI}
def r9(prog:jI)(w:Qf)(A:Qg)(it:jv)(S:QN->Prop):Prop:=∀(s:jc) (Q:j8->jc->Prop) (E:j8->jc->Prop),S s.heap->
 (∀ h' e,Nj it s.heap h'->(∃ o,h'.get? e=aA o/\o.cls=.type "StopIteration")->E (.ref e) { s with heap:=h' })->jT (jR prog w) A (JK (.ref it)) Q E s
structure ZAp (z TI TO i1 i2:jv) (f1 f2:List jv):Prop where
 TIz:TI≠z
 TOz:TO≠z
 i1z:i1≠z
 i2z:i2≠z
 TITO:TI≠TO
 TIi1:TI≠i1
 TIi2:TI≠i2
 TOi1:TO≠i1
 TOi2:TO≠i2
 z1:z∉f1
 z2:z∉f2
 o1:TO∉f1
 o2:TO∉f2
 a1:i1∉f2
 a2:i2∉f1
def TQ{z TI TO i1 i2:jv}{f1 f2:List jv}{n1 n2 k:Nat}{P1 P2:Nat->j8->Prop}{S1 S2:Nat->QN->Prop}{a b:j8}{Q:j8->jc->Prop}(D:ZAp z TI TO i1 i2 f1 f2)
  (D1:Um prog w A i1 f1 n1 P1 S1) (D2:Um prog w A i2 f2 n2 P2 S2) (hz:JC s.heap z TI TO .none) (hTI:Yk s.heap TI (.ref i1) (.ref i2)) (hTO:Yk s.heap TO a b)
  (h1:S1 k s.heap) (h2:S2 k s.heap) (k1:k < n1) (k2:k < n2)
  (hQ:∀ x y h' tk,P1 k x->P2 k y->JC h' z TI TO (rawInt s.heap.objs.size)->Yk h' TO x y->S1 (k+1) h'->S2 (k+1) h'->Yk h' s.heap.objs.size x y->h'.objs.size=s.heap.objs.size+1->
   (∀ c o,c≠z->c≠TO->c≠i1->c≠i2->s.heap.get? c=aA o->h'.get? c=aA o)->Q (.ref s.heap.objs.size) { s with heap:=h',toks:=tk }) :
  jT (jR prog w) A (Wr.«zip.__next__» ⟨[.ref z],[]⟩) (λfin s'=>∃ v,fin=.done (.ret v)/\Q v s') E s:=by
 show jT _ _ (field (.ref z) 2 >>= _) _ _ _;refine j5 (gD hz rfl (x:=.bool aD) rfl ?_);refine j5 (gD hz rfl (x:=.ref TI) rfl ?_);refine j5 (gz hTI rfl ?_);refine j5 ?_;unfold gE;refine j5 (gD hz rfl (x:=.none) rfl (jm ?_));simp only[if_true];refine j5 (JU ?_);refine j5 (gD hz rfl (x:=.ref TO) rfl ?_);refine j5 (Zy hz (by simp) λg1 hz₁ hs₁=>?_)
 replace hz₁:JC g1 z TI TO .ellipsis:=hz₁
 refine j5 ?_;simp only[Nv,JD,Yy,JL];have fr:∀ {f:List jv} {b:jv} {h h':QN},Qo b h h'->b∉f->∀ c∈f,∀ o,h.get? c=aA o->h'.get? c=aA o:=λhs hb c hc o e=>hs.extBut _ _ (λz=>hb (z▸hc)) e;refine j5 (j5 (Nm ?_));refine j5 (D1.item k _ _ _ k1 (D1.frame _ _ _ h1 (fr hs₁ D.z1)) λx g2 t2 hx st1 hs₂=>jm ?_)
 replace hs₂:Qo i1 g1 g2:=hs₂
 have hTO₂:=hs₂.extBut _ _ D.TOi1 (hs₁.extBut _ _ D.TOz hTO);refine j5 (gz hTO₂ rfl ?_);refine j5 (Yl hTO₂ λg3 hTO₃ hs₃=>?_)
 replace hTO₃:Yk g3 TO x b:=hTO₃
 replace hs₃:Qo TO g2 g3:=hs₃
 refine j5 (JE (jm ?_));refine j5 (j5 (Nm ?_));refine j5 (D2.item k _ _ _ k2 (D2.frame _ _ _ (D2.frame _ _ _ (D2.frame _ _ _ h2 (fr hs₁ D.z2)) (fr hs₂ D.a1)) (fr hs₃ D.o2)) λy g4 t4 hy st2 hs₄=>jm ?_)
 replace hs₄:Qo i2 g3 g4:=hs₄
 have hTO₄:=hs₄.extBut _ _ D.TOi2 hTO₃;refine j5 (gz hTO₄ rfl ?_);refine j5 (Yl hTO₄ λg5 hTO₅ hs₅=>?_)
 replace hTO₅:Yk g5 TO x y:=hTO₅
 replace hs₅:Qo TO g4 g5:=hs₅
 refine j5 (JE (jm (jm ?_)));refine j5 (gz hTO₅ rfl ?_);refine j5 (wpAny_newTuple ?_);have hsz:g5.objs.size=s.heap.objs.size:=by rw[hs₅.1,hs₄.1,hs₃.1,hs₂.1,hs₁.1]
 have hz₅:=hs₅.extBut _ _ D.TOz.symm (hs₄.extBut _ _ D.i2z.symm (hs₃.extBut _ _ D.TOz.symm (hs₂.extBut _ _ D.i1z.symm hz₁)));have hk₅:∀ c o,c≠z->c≠TO->c≠i1->c≠i2->s.heap.get? c=aA o->g5.get? c=aA o:=λc o c1 c2 c3 c4 e=>
  hs₅.extBut _ _ c2 (hs₄.extBut _ _ c4 (hs₃.extBut _ _ c2 (hs₂.extBut _ _ c3 (hs₁.extBut _ _ c1 e))))
 have st1':=D1.frame _ _ _ (D1.frame _ _ _ (D1.frame _ _ _ st1 (fr hs₃ D.o1)) (fr hs₄ D.a2)) (fr hs₅ D.o1);have st2':=D2.frame _ _ _ st2 (fr hs₅ D.o2);have hzlt:=jr hz₅;refine j5 ?_;unfold Wk;have hz₆:JC (g5.push { cls:=.type "tuple",data:=.seq #[x,y] }) z TI TO .ellipsis:=ja _ hz₅;refine j5 (Zy hz₆ (by simp) λg7 hz₇ hs₇=>?_)
 replace hz₇:JC g7 z TI TO (rawInt g5.objs.size):=hz₇
 refine Zy hz₇ (by simp) λg8 hz₈ hs₈=>?_
 replace hz₈:JC g8 z TI TO (rawInt g5.objs.size):=hz₈
 have up:∀ c o,c≠z->g5.get? c=aA o->g8.get? c=aA o:=λc o c1 e=>hs₈.extBut _ _ c1 (hs₇.extBut _ _ c1 (ja _ e));have hT₈:=hs₈.extBut _ _ (g9 hzlt) (hs₇.extBut _ _ (g9 hzlt) (jL _ rfl));have hz8:g8.objs.size=g5.objs.size+1:=by rw[hs₈.1,hs₇.1,Zn]
 rw[hsz] at hz₈ hT₈ hz8;refine jm ⟨_,rfl,?_⟩;rw[hsz];exact hQ x y g8 _ hx hy hz₈ (up _ _ D.TOz hTO₅) (D1.frame _ _ _ st1' λc hc o e=>up c o (λq=>D.z1 (q▸hc)) e) (D2.frame _ _ _ st2' λc hc o e=>up c o (λq=>D.z2 (q▸hc)) e) hT₈ hz8 λc o c1 c2 c3 c4 e=>up c o c1 (hk₅ c o c1 c2 c3 c4 e)
def Rw{z TI TO i1 i2:jv}{f1 f2:List jv}{n1 n2 k:Nat}{P1 P2:Nat->j8->Prop}{S1 S2:Nat->QN->Prop}{a b:j8}{Q:Fin->jc->Prop}(D:ZAp z TI TO i1 i2 f1 f2)
  (D1:Um prog w A i1 f1 n1 P1 S1) (D2:Um prog w A i2 f2 n2 P2 S2) (hz:JC s.heap z TI TO .none) (hTI:Yk s.heap TI (.ref i1) (.ref i2)) (hTO:Yk s.heap TO a b)
  (h1:S1 k s.heap) (h2:S2 k s.heap) (he:r9 prog w A i1 (S1 k)∨(k < n1/\r9 prog w A i2 (S2 k)))
  (hE:∀ h' e tk,(∀ c o,c≠z->c≠TO->c≠i1->c≠i2->s.heap.get? c=aA o->h'.get? c=aA o)->(∃ o,h'.get? e=aA o/\o.cls=.type "StopIteration")->E (.ref e) { s with heap:=h',toks:=tk }) :
  jT (jR prog w) A (Wr.«zip.__next__» ⟨[.ref z],[]⟩) Q E s:=by
 show jT _ _ (field (.ref z) 2 >>= _) _ _ _;refine j5 (gD hz rfl (x:=.bool aD) rfl ?_);refine j5 (gD hz rfl (x:=.ref TI) rfl ?_);refine j5 (gz hTI rfl ?_);refine j5 ?_;unfold gE;refine j5 (gD hz rfl (x:=.none) rfl (jm ?_));simp only[if_true];refine j5 (JU ?_);refine j5 (gD hz rfl (x:=.ref TO) rfl ?_);refine j5 (Zy hz (by simp) λg1 hz₁ hs₁=>?_)
 replace hz₁:JC g1 z TI TO .ellipsis:=hz₁
 refine j5 ?_;simp only[Nv,JD,Yy,JL];have fr:∀ {f:List jv} {b:jv} {h h':QN},Qo b h h'->b∉f->∀ c∈f,∀ o,h.get? c=aA o->h'.get? c=aA o:=λhs hb c hc o e=>hs.extBut _ _ (λz=>hb (z▸hc)) e;refine j5 (j5 (Nm ?_));obtain e1 |⟨k1,e2⟩:=he
 ·refine j5 (e1 _ _ _ (D1.frame _ _ _ h1 (fr hs₁ D.z1)) λg2 e hs₂ he=>?_);obtain⟨oe,hoe,hce⟩:=he
  replace hs₂:Nj i1 g1 g2:=hs₂
  have hz₂:=hs₂ _ _ D.i1z.symm hz₁;have hez:e≠z:=λx=>by subst x; rw[hz₂] at hoe; cases hoe; simp at hce
  exact Zy hz₂ (by simp) λg3 _ hs₃=>hE g3 e _ (λc o c1 _ c3 _ x=>hs₃.extBut _ _ c1 (hs₂ _ _ c3 (hs₁.extBut _ _ c1 x))) ⟨oe,hs₃.extBut _ _ hez hoe,hce⟩
 ·refine j5 (D1.item k _ _ _ k1 (D1.frame _ _ _ h1 (fr hs₁ D.z1)) λx g2 t2 hx st1 hs₂=>jm ?_)
  replace hs₂:Qo i1 g1 g2:=hs₂
  have hTO₂:=hs₂.extBut _ _ D.TOi1 (hs₁.extBut _ _ D.TOz hTO);refine j5 (gz hTO₂ rfl ?_);refine j5 (Yl hTO₂ λg3 hTO₃ hs₃=>?_)
  replace hs₃:Qo TO g2 g3:=hs₃
  refine j5 (JE (jm ?_));refine j5 (j5 (Nm ?_));refine j5 (e2 _ _ _ (D2.frame _ _ _ (D2.frame _ _ _ (D2.frame _ _ _ h2 (fr hs₁ D.z2)) (fr hs₂ D.a1)) (fr hs₃ D.o2)) λg4 e hs₄ he=>?_);obtain⟨oe,hoe,hce⟩:=he
  replace hs₄:Nj i2 g3 g4:=hs₄
  have hz₄:=hs₄ _ _ D.i2z.symm (hs₃.extBut _ _ D.TOz.symm (hs₂.extBut _ _ D.i1z.symm hz₁));have hez:e≠z:=λx=>by subst x; rw[hz₄] at hoe; cases hoe; simp at hce
  exact Zy hz₄ (by simp) λg5 _ hs₅=>hE g5 e _ (λc o c1 c2 c3 c4 x=>hs₅.extBut _ _ c1 (hs₄ _ _ c4 (hs₃.extBut _ _ c2 (hs₂.extBut _ _ c3 (hs₁.extBut _ _ c1 x))))) ⟨oe,hs₅.extBut _ _ hez hoe,hce⟩
def X3{z TI TO i1 i2:jv}{f1 f2:List jv}{n1 n2 k:Nat}{P1 P2:Nat->j8->Prop}{S1 S2:Nat->QN->Prop}{a b:j8}{Q:Option j8->jc->Prop}(D:ZAp z TI TO i1 i2 f1 f2)
  (D1:Um prog w A.in1 i1 f1 n1 P1 S1) (D2:Um prog w A.in1 i2 f2 n2 P2 S2) (hz:JC s.heap z TI TO .none) (hTI:Yk s.heap TI (.ref i1) (.ref i2)) (hTO:Yk s.heap TO a b)
  (h1:S1 k s.heap) (h2:S2 k s.heap) (k1:k < n1) (k2:k < n2)
  (hQ:∀ x y h' tk,P1 k x->P2 k y->JC h' z TI TO (rawInt s.heap.objs.size)->Yk h' TO x y->S1 (k+1) h'->S2 (k+1) h'->Yk h' s.heap.objs.size x y->h'.objs.size=s.heap.objs.size+1->
   (∀ c o,c≠z->c≠TO->c≠i1->c≠i2->s.heap.get? c=aA o->h'.get? c=aA o)->Q (aA (.ref s.heap.objs.size)) { s with heap:=h',toks:=tk }) :
  jT (jR prog w) A (NE (.ref z)) Q E s:=by
 have hT:s.TypeIs (.ref z) "zip":=⟨_,hz,rfl⟩;unfold NE
 exact j5 (wpAny_attempt (Nn (name:=NS "__next__") hT YB
  (Nt YB hT Jo
   (TQ D D1 D2 hz hTI hTO h1 h2 k1 k2 λx y h' tk a1 a2 a3 a4 a5 a6 a7 a8 a9=>jm (hQ x y h' tk a1 a2 a3 a4 a5 a6 a7 a8 a9)) (J2 _))))
def Vn{z TI TO i1 i2:jv}{f1 f2:List jv}{n1 n2 k:Nat}{P1 P2:Nat->j8->Prop}{S1 S2:Nat->QN->Prop}{a b:j8}{Q:Option j8->jc->Prop}(D:ZAp z TI TO i1 i2 f1 f2)
  (D1:Um prog w A.in1 i1 f1 n1 P1 S1) (D2:Um prog w A.in1 i2 f2 n2 P2 S2) (hz:JC s.heap z TI TO .none) (hTI:Yk s.heap TI (.ref i1) (.ref i2)) (hTO:Yk s.heap TO a b)
  (h1:S1 k s.heap) (h2:S2 k s.heap) (he:r9 prog w A.in1 i1 (S1 k)∨(k < n1/\r9 prog w A.in1 i2 (S2 k)))
  (hQ:∀ h' tk,(∀ c o,c≠z->c≠TO->c≠i1->c≠i2->s.heap.get? c=aA o->h'.get? c=aA o)->Q aB { s with heap:=h',toks:=tk }):jT (jR prog w) A (NE (.ref z)) Q E s:=by
 have hT:s.TypeIs (.ref z) "zip":=⟨_,hz,rfl⟩;unfold NE
 refine j5 (wpAny_attempt (Nn (name:=NS "__next__") hT YB
  (Nt YB hT Jo (Rw D D1 D2 hz hTI hTO h1 h2 he λh' e tk hk he=>?_) (J2 _))))
 obtain⟨o,ho,hc⟩:=he;refine j5 (Nu (T:="StopIteration") (b:=aC) ⟨o,ho,hc⟩ isSubtype_stop ?_);exact jm (hQ _ _ hk)
end
def Inv.pair{X:Cx}{pc:List (jv × Obj)}{sg:St}{H:Hp}{s:jc}{h2:QN}{tk:Nat}{ch:List jv}{x y:V}{u v:j8}(I:Inv X pc sg H s)(hf:∀ b∈ch,fT X pc H b)
  (keep2:∀ b o,b∉ch->s.heap.get? b=aA o->h2.get? b=aA o) (tup2:Yk h2 s.heap.objs.size u v) (ru:RelV x u) (rv:RelV y v) :
  Inv X pc sg (aS H s.heap.objs.size (.tup [x,y])) { s with heap:=h2,toks:=tk }:=by
 have hn:=I.hok.fresh (jj _);have nH:∀ b v,H b=aA v->b∉ch/\b≠s.heap.objs.size:=λb v q=>⟨(λz=>by rw[(hf b z).1] at q; cases q),dA q hn⟩
 refine I.step (g':=s.gens) (d':=s.drawn) (ch:=ch) (λb hb=>?_) (λb o _ _ hc q _=>keep2 b o hc q)
  (λb o _ _ hc q _=>⟨o.slots,keep2 b o hc q⟩) (λb o hc q n=>by rw[au (jH (jr q))]; exact n)
  (λb o hc q=>⟨o,keep2 b o hc q⟩) (λb ys q=>by rw[au (nH b _ q).2]; exact q) (λb o v q=>by rw[au (nH b _ q).2]; exact q)
  (λb ps q=>⟨#[],by rw[au (nH b _ q).2,q]; simp⟩) (λm hm=>?_) (λb v' q=>?_) I.bare
 ·obtain⟨f0,f1,f2,f3,f4,f5⟩:=hf b hb;exact⟨f3,f1,f4,f5⟩
 ·obtain⟨o,es,ep,ho,r⟩:=hm;exact⟨o,es,ep,keep2 _ o (λz=>(hf _ z).2.1 rfl) ho,r⟩
 ·by_cases hb:b=s.heap.objs.size
  ·subst hb;rw[cD] at q;cases q;exact⟨by show 2<=ju; decide,[u,v],.cons ru (.cons rv .nil),_,tup2,rfl,_,rfl⟩
  ·rw[au hb] at q;refine(I.hok b v' q).stay (λc v'' hc q'=>?_) (λc q'=>by rw[au (nH c _ q').2]; exact q') λc ys q'=>by rw[au (nH c _ q').2]; exact q'
   obtain z |z:=hc
   ·exact keep2 c v'' (by rw[z]; exact(nH b v' q).1) q'
   ·exact keep2 c v'' (nH c _ z).1 q'
def Inv.turnedS{X:Cx}{pc:List (jv × Obj)}{sg:St}{H:Hp}{s:jc}{h':QN}{t':Nat}{ch:List jv}(I:Inv X pc sg H s)(hf:∀ b∈ch,fT X pc H b)
  (k:∀ b o,b∉ch->s.heap.get? b=aA o->h'.get? b=aA o):Inv X pc sg H { s with heap:=h',toks:=t' }:=by
 have nH:∀ b v,H b=aA v->b∉ch:=λb v q z=>by rw[(hf b z).1] at q; cases q
 refine I.step (g':=s.gens) (d':=s.drawn) (ch:=ch) (λb hb=>?_) (λb o _ _ hc e _=>k b o hc e) (λb o _ _ hc e _=>⟨o.slots,k b o hc e⟩) (λ_ _ _ _ n=>n)
  (λb o hc e=>⟨o,k b o hc e⟩) (λ_ _ e=>e) (λ_ _ _ e=>e) (λb ps e=>⟨#[],by rw[e]; simp⟩) (λm hm=>?_) (λb u e=>?_) I.bare
 ·obtain⟨f0,f1,f2,f3,f4,f5⟩:=hf b hb;exact⟨f3,f1,f4,f5⟩
 ·obtain⟨o,es,ep,ho,r⟩:=hm;exact⟨o,es,ep,k _ o (λz=>(hf _ z).2.1 rfl) ho,r⟩
 ·refine(I.hok b u e).stay (λc v hc q=>?_) (λc q=>q) λc xs q=>q;obtain z |z:=hc
  ·exact k c v (by rw[z]; exact nH b u e) q
  ·exact k c v (nH c _ z) q
section
def Ry(n l d:Nat)(h1:l < n)(h2:d < n):ZAp (n+4) (n+2) (n+3) n (n+1) [n,l] [n+1,d]:=by
 constructor<;>first |(show @Ne Nat _ _; lia) |(intro h; simp only[jx,gC,or_false] at h; obtain h |h:=h<;>(replace h:@Eq Nat _ _:=h; lia))
end
def Bn(K:jd)(a b:jv):It:=
  ⟨λi H=>∃ xs x ys y,aq K H a xs/\xs[i]?=aA x/\aq K H b ys/\ys[i]?=aA y,
   λi H v H'=>∃ p x y,v=.ref p/\H p=aB/\H'=aS H p (.tup [x,y])/\(∀ xs,aq K H a xs->xs[i]?=aA x)/\∀ ys,aq K H b ys->ys[i]?=aA y,
   λi H=>∃ xs ys,aq K H a xs/\aq K H b ys/\(xs.length<=i∨ys.length<=i)⟩
def TN{P:jI}{w:Qf}{K:jd}{elts:List Q5}{x1:Nat}{tp:Pos}(a d z TI TO i1 i2:jv)(D:ZAp z TI TO i1 i2 [i1,a] [i2,d])(hai:a≠i1)(hdi:d≠i2) :
  Turn P w K (.Tuple elts x1 tp) (Bn K a d) [z,TI,TO,i1,i2] z
   (λi h=>JC h z TI TO .none/\Yk h TI (.ref i1) (.ref i2)/\(∃ u v,Yk h TO u v)/\h.IsListIter i1 a i/\h.IsListIter i2 d i) where
 mem:=by simp
 obj:=λi h st b hb=>by
  obtain⟨hz,hTI,⟨u,v,hTO⟩,⟨o1,e1,c1,d1⟩,⟨o2,e2,c2,d2⟩⟩:=st;simp only[jx,gC,or_false] at hb;obtain q |q |q |q |q:=hb
  ·rw[q]; exact⟨_,hz,λv z=>by have z':Data.fields _=Jw v:=z; cases z'⟩
  ·rw[q]; exact⟨_,hTI,λv z=>by have z':Data.seq _ _=Jw v:=z; cases z'⟩
  ·rw[q]; exact⟨_,hTO,λv z=>by have z':Data.seq _ _=Jw v:=z; cases z'⟩
  ·rw[q]; exact⟨_,e1,λv z=>by rw[d1] at z; cases z⟩
  ·rw[q]; exact⟨_,e2,λv z=>by rw[d2] at z; cases z⟩
 keep:=λi h h' st k=>by
  obtain⟨hz,hTI,⟨u,v,hTO⟩,h1,h2⟩:=st;exact⟨k z (by simp) _ hz,k TI (by simp) _ hTI,⟨u,v,k TO (by simp) _ hTO⟩,h1.at λo e=>k i1 (by simp) o e,h2.at λo e=>k i2 (by simp) o e⟩
 item:=by
  intro X hP hw hK hc i pc s sg H E I hf st hg;subst hP hw hK;obtain⟨hz,hTI,⟨u,v,hTO⟩,h1,hit⟩:=st;obtain⟨xs,x,ys,y,hqx,hx,hqy,hy⟩:=hg;obtain⟨its,rv,p,hz'⟩:=I.list hqx;obtain⟨w1,hw1,rw1⟩:=rv.get hx;obtain⟨its2,rv2,p2,hz2⟩:=I.list hqy;obtain⟨w2,hw2,rw2⟩:=rv2.get hy;have hlt1:i < its.toArray.size:=by simpa using (j6.mp hw1).1
  have hlt2:i < its2.toArray.size:=by simpa using (j6.mp hw2).1
  have D1:=J3 (prog:=X.prog) (w:=X.w) (A:=X.A.in1) (I.ok.hd hc) i1 a hai its.toArray;have D2:=J3 (prog:=X.prog) (w:=X.w) (A:=X.A.in1) (I.ok.hd hc) i2 d hdi its2.toArray;refine X3 D D1 D2 hz hTI hTO ⟨h1,p.isList⟩ ⟨hit,p2.isList⟩ hlt1 hlt2 λux uy h1' tk hux huy zo to st1 st2 htup hsz keep1=>?_;have hux':its[i]?=aA ux:=by simpa using hux
  rw[hw1] at hux';cases jh hux';have huy':its2[i]?=aA uy:=by simpa using huy
  rw[hw2] at huy';cases jh huy';refine⟨_,rfl,wpAny_letOwnedTupleGo_zip zo λh2 zn sb=>?_⟩;have keep2:∀ b o,b∉[z,TI,TO,i1,i2]->s.heap.get? b=aA o->h2.get? b=aA o:=λb o nn q=>(sb.2 b (λe=>nn (by simp[e]))).trans (keep1 b o (λe=>nn (by simp[e])) (λe=>nn (by simp[e])) (λe=>nn (by simp[e])) (λe=>nn (by simp[e])) q)
  have zlt:=jr hz;have I2:=I.pair (tk:=tk) (x:=x) (y:=y) hf keep2 ((sb.2 _ (g9 zlt)).trans htup) rw1 rw2;refine⟨.ref s.heap.objs.size,_,I2,rfl,⟨s.heap.objs.size,x,y,rfl,I.hok.fresh (jj _),rfl,λys h'=>by rw[I.list_inj h' hqx]; exact hx,λys h'=>by rw[I.list_inj h' hqy]; exact hy⟩,⟨zn,(sb.2 _ D.TIz).trans (keep1 _ _ D.TIz D.TITO D.TIi1 D.TIi2 hTI),⟨_,_,(sb.2 _ D.TOz).trans to⟩,st1.1.at λo q=>(sb.2 _ D.i1z).trans q,st2.1.at λo q=>(sb.2 _ D.i2z).trans q⟩,λb hb=>?_⟩
  rw[au (jH ?_)]
  ·exact(hf b hb).1
  ·simp only[jx,gC,or_false] at hb;obtain q |q |q |q |q:=hb
   ·rw[q]; exact zlt
   ·rw[q]; exact jr hTI
   ·rw[q]; exact jr hTO
   ·rw[q]; obtain⟨o,ho,_⟩:=h1; exact jr ho
   ·rw[q]; obtain⟨o,ho,_⟩:=hit; exact jr ho
 done:=by
  intro X hP hw hK hc i pc s sg H E I hf st hg;subst hP hw hK;obtain⟨hz,hTI,⟨u,v,hTO⟩,h1,hit⟩:=st;obtain⟨xs,ys,hqx,hqy,hx⟩:=hg;obtain⟨its,rv,p,hz'⟩:=I.list hqx;obtain⟨its2,rv2,p2,hz2⟩:=I.list hqy;have hl:=rv2.length;have hl2:=rv.length;have D1:=J3 (prog:=X.prog) (w:=X.w) (A:=X.A.in1) (I.ok.hd hc) i1 a hai its.toArray;have D2:=J3 (prog:=X.prog) (w:=X.w) (A:=X.A.in1) (I.ok.hd hc) i2 d hdi its2.toArray;have he:r9 X.prog X.w X.A.in1 i1 (λh=>h.IsListIter i1 a i/\h.IsList a its.toArray)∨(i < its.toArray.size/\r9 X.prog X.w X.A.in1 i2 (λh=>h.IsListIter i2 d i/\h.IsList d its2.toArray)):=by
   obtain hi |hi:=NT i its.toArray.size
   ·have hi2:i < its.length:=by simpa using hi
    exact .inr ⟨hi,λs Q E st hE=>NU (I.ok.hd hc) st.1 st.2 (NB (by simp; lia)) hE⟩
   ·exact .inl λs Q E st hE=>NU (I.ok.hd hc) st.1 st.2 (NB hi) hE
  refine Vn D D1 D2 hz hTI hTO ⟨h1,p.isList⟩ ⟨hit,p2.isList⟩ he λh' tk kp=>⟨rfl,?_⟩;exact I.turnedS (t':=tk) (ch:=[z,TO,i1,i2]) (λb hb=>hf b (by simp only[jx,gC,or_false] at hb ⊢; obtain q |q |q |q:=hb<;>simp[q])) (λb o hb q=>kp b o (λe=>hb (by simp[e])) (λe=>hb (by simp[e])) (λe=>hb (by simp[e])) (λe=>hb (by simp[e])) q)
 self:=λ_ _ _ _ _ st h=>wpAny_pyIter_zip st.1 h
section
def Ig(K:jd)(ta:TA):TI:=λsg H R=>ta sg H λvs H1=>∃ a b xs ys,vs=[.ref a,.ref b]/\aq K H1 a xs/\aq K H1 b ys/\R (Bn K a b) H1
def P7{elts:List Q5}{x1:Nat}{tp:Pos}{a b:Q5}{ta:TA}{p pos:Pos}(hg:Gl X "zip")(hm:X.mg "zip"=aB)(ha:PA X [a,b] ta)(hs:ac X a [b]:=by rfl)(hs2:ad X pos [b]:=by rfl) :
  PI X (.Tuple elts x1 tp) (.Call (.Name "zip" p) [a,b] [] pos) (Ig X.K ta):=by
 intro pc s sg H R I h;refine Call_ (nR I hg hm PyProof.Rows.boot_zip (Qk (aW (ha pos pc s sg H _ I h) λus s1 ⟨vs,H1,I1,r1,q1⟩=>?_) hs hs2));obtain⟨a1,a2,xs,ys,e,hqx,hqy,q⟩:=q1;subst e;cases r1 with
 |cons r rr=>
  cases rr with
  |cons r' rr=>
   cases rr;cases r;cases r';obtain⟨its,rv,pl,hz⟩:=I1.list hqx;obtain⟨its2,rv2,bJ,hz2⟩:=I1.list hqy;have lt1:a1 < s1.heap.objs.size:=by obtain⟨o,ho,_⟩:=pl.isList; exact jr ho
   have lt2:a2 < s1.heap.objs.size:=by obtain⟨o,ho,_⟩:=bJ.isList; exact jr ho
   refine call_zip_2 pl.isList bJ.isList λh' hz hTI hTO hi1 hi2 hsz kp=>wpAny_pyIter_zip hz ?_;refine⟨s1.heap.objs.size+4,[s1.heap.objs.size+4,s1.heap.objs.size+2,s1.heap.objs.size+3,s1.heap.objs.size,s1.heap.objs.size+1],_,_,H1,rfl,I1.kept (t':=s1.toks) kp,TN a1 a2 _ _ _ _ _ (Ry _ a1 a2 lt1 lt2) (jH lt1) (jH (QB lt2)),⟨hz,hTI,⟨_,_,hTO⟩,hi1,hi2⟩,λb hb=>?_,q⟩;have le:s1.heap.objs.size<=b:=by
    simp only[jx,gC,or_false] at hb;obtain h |h |h |h |h:=hb<;>rw[h]<;>first |exact jj _ |exact Nat.le_add_right _ _
   exact I1.fpOk le (I1.hok.fresh le)
end
def ot:am->Int
 |[]=>0
 |x::xs=>xs.foldl (λa b=>if b < a then b else a) x
def qD:am->Int
 |[]=>0
 |x::xs=>xs.foldl (λa b=>if a < b then b else a) x
def ym{ns:am}{m:Int}(hm:m∈ns)(h:∀ x∈ns,m<=x):ot ns=m:=by
 cases ns with
 |nil=>cases hm
 |cons x xs=>
  show xs.foldl (λa b=>if b < a then b else a) x=m
  have h1:=fold_min xs x;have:xs.foldl (λa b=>if b < a then b else a) x<=m:=by
   obtain e |e:=jx.mp hm
   ·rw[e]; exact h1.2.1
   ·exact h1.2.2 m e
  have:m<=xs.foldl (λa b=>if b < a then b else a) x:=by
   obtain e |e:=h1.1
   ·rw[e]; exact h x (jV ..)
   ·exact h _ (jA _ e)
  lia
def zN{ns:am}{m:Int}(hm:m∈ns)(h:∀ x∈ns,x<=m):qD ns=m:=by
 cases ns with
 |nil=>cases hm
 |cons x xs=>
  show xs.foldl (λa b=>if a < b then b else a) x=m
  have h1:=fold_max xs x;have:m<=xs.foldl (λa b=>if a < b then b else a) x:=by
   obtain e |e:=jx.mp hm
   ·rw[e]; exact h1.2.1
   ·exact h1.2.2 m e
  have:xs.foldl (λa b=>if a < b then b else a) x<=m:=by
   obtain e |e:=h1.1
   ·rw[e]; exact h x (jV ..)
   ·exact h _ (jA _ e)
  lia
def vt{zs:Array (Int × Tok)}{ns:am}(e:ns=zs.toList.map (·.1))(i:Nat):U2 zs i=ns[i]?.getD 0:=by
 subst e;unfold U2;rw[jf,NH]
section
def Sz(hc:X.calm=aC):CallR X (.builtin "min") (λxs H Q=>∃(a:jv) (ns:am),xs=[V.ref a]/\aq X.K H a (ns.map V.int)/\0 < ns.length/\Q (.int (ot ns)) H):=by
 intro pc s σ H xs us Q I rv h;obtain⟨a,ns,rfl,hq,hn,q⟩:=h;obtain⟨u,rfl,ru⟩:=rv.one;cases ru;obtain⟨its,r,p,hz⟩:=I.list hq;have hi:=wH r;obtain⟨zs,hx⟩:=hi.allInts.items;have e1:ns=zs.toList.map (·.1):=by
  rw[<-nums_intItems,<-hx];exact hi.numsOf.symm
 have el:zs.size=ns.length:=by rw[e1]; simp
 refine min_intList (xs:=zs) (I.ok.hd hc) (hx▸p.isList) (by lia) λv h' tk hv k=>?_
 obtain⟨t,rfl⟩:=intItems_at hv;have b:=argBest_lt (U2 zs) (zs.size - 1);have e2:ot ns=U2 zs (argBest (λi j=>aE (U2 zs i < U2 zs j)) (zs.size - 1)):=by
  refine ym ?_ λx hx=>?_
  ·rw[vt e1,j3 (by lia)]
   exact jU _
  ·obtain⟨j,hj,rfl⟩:=Qw hx;have:=b.2 j (by lia)
   rwa [vt e1 j,j3 hj] at this
 rw[<-e2];exact⟨.int (ot ns),H,I.kept k,⟨_,rfl⟩,q⟩
def Sb(hc:X.calm=aC):CallR X (.builtin "max") (λxs H Q=>∃(a:jv) (ns:am),xs=[V.ref a]/\aq X.K H a (ns.map V.int)/\0 < ns.length/\Q (.int (qD ns)) H):=by
 intro pc s σ H xs us Q I rv h;obtain⟨a,ns,rfl,hq,hn,q⟩:=h;obtain⟨u,rfl,ru⟩:=rv.one;cases ru;obtain⟨its,r,p,hz⟩:=I.list hq;have hi:=wH r;obtain⟨zs,hx⟩:=hi.allInts.items;have e1:ns=zs.toList.map (·.1):=by
  rw[<-nums_intItems,<-hx];exact hi.numsOf.symm
 have el:zs.size=ns.length:=by rw[e1]; simp
 refine max_intList (xs:=zs) (I.ok.hd hc) (hx▸p.isList) (by lia) λv h' tk hv k=>?_
 obtain⟨t,rfl⟩:=intItems_at hv;have b:=argBest_gt (U2 zs) (zs.size - 1);have e2:qD ns=U2 zs (argBest (λi j=>aE (U2 zs i > U2 zs j)) (zs.size - 1)):=by
  refine zN ?_ λx hx=>?_
  ·rw[vt e1,j3 (by lia)]
   exact jU _
  ·obtain⟨j,hj,rfl⟩:=Qw hx;have:=b.2 j (by lia)
   rwa [vt e1 j,j3 hj] at this
 rw[<-e2];exact⟨.int (qD ns),H,I.kept k,⟨_,rfl⟩,q⟩
end
end L2
namespace L2
open PySem PySem.Spec PyProof.Rows
open PySem.W (hideAll hideAll_get of_hideAll hideAll_none funFrames_hide)
structure Fly (P:jI) (w:Qf) (outer:List Env) (H:Hp) (s:jc) (x C:jv) (a0:j8) (B:QN) (H':Hp) (s':jc):Prop where
 os:s'.os=s.os
 bare:Nc s'.gens
 fly:Ud B outer x (.ref C) a0 s'.heap
 hok:cc P w H' B
 un:Un (dH outer) [] H H' s.heap s'.heap
 keep:∀ b o,s.heap.get? b=aA o->H b=aB->b∉dH outer->B.get? b=aA o
 has:∀ b o,s.heap.get? b=aA o->b∉dH outer->∃ o',B.get? b=aA o'
 fr:∀ b∈dH outer,H' b=aB
def ny(P:jI)(w:Qf):iI:=λouter H s E e s'=>∃ x C a0 B H',e=.ref x/\Fly P w outer H s x C a0 B H' s'/\E (.ref C) aB H'
def Fly.on{P:jI}{w:Qf}{outer:List Env}{H H':Hp}{s s':jc}{x C:jv}{a0:j8}{B h'':QN}(F:Fly P w outer H s x C a0 B H' s')(st:B.StaysIn h'')(up:s'.heap.UpToSlots h'')(funs:s.heap.FunFrames base outer) :
  Un (dH outer) [] H H' s.heap h'':=by
 have sl:∀ b o,s.heap.get? b=aA o->H b=aB->b∈dH outer->∃ sl,h''.get? b=aA { o with slots:=sl }:=λb o e n hb=>by
  obtain⟨sl,e1⟩:=F.un.slot b o e n hb (by simp)
  obtain⟨_,o',ho',hd'⟩:=funs.mem hb;rw[e] at ho';cases jh ho';obtain⟨sl2,e2⟩:=up b _ e1 hd';exact⟨sl2,e2⟩
 refine⟨λb o e n hb _=>st b o (F.keep b o e n hb),λb o e n hb _=>sl b o e n hb,F.un.free,λb o e _=>?_,F.un.tups,F.un.frzs,F.un.tbls⟩
 by_cases hb:b∈dH outer
 ·obtain⟨o1,e1⟩:=F.un.there b o e (by simp)
  obtain⟨_,o',ho',hd'⟩:=funs.mem hb
  by_cases n:H b=aB
  ·obtain⟨sl,e2⟩:=sl b o e n hb;exact⟨_,e2⟩
  ·obtain⟨_,_,ho2,hd2⟩:=F.fly.2.2.1.mem hb;obtain⟨sl,e2⟩:=up b _ ho2 hd2;exact⟨_,e2⟩
 ·obtain⟨o',e1⟩:=F.has b o e hb;exact⟨o',st b o' e1⟩
end L2
namespace L2
open PySem PySem.Spec PyProof.Rows
def oO(X:Cx):St:=QP X.N.length aB
abbrev Cx.held(X:Cx)(x:jv):Cx:={ X with A:=X.A.mark (aA (.ref x)),calm:=aD,xe:=λ_ _=>False }
section
variable {X:Cx}{pc:List (jv × Obj)}{σ:St}{H H':Hp}{s:jc}{x:jv}
def Inv.held(I:Inv X pc σ H s)(x:jv):Inv (X.held x) pc σ H s:=
 ⟨⟨I.ok.mod,I.ok.kind,I.ok.glob,I.ok.blt,I.ok.above,I.ok.inj,I.ok.has,I.ok.cab,(λz=>by cases z),I.ok.frames,I.ok.stk,I.ok.exf,I.ok.bs,I.ok.bsz,I.ok.noex,I.ok.exfs,I.ok.funs,I.ok.frf⟩,I.os,I.bare,I.base,I.loc,I.cell,I.free,I.freeC,I.pin,I.hok,I.len⟩
def Inv.unheld(ok:X.Ok)(I:Inv (X.held x) pc σ H s):Inv X pc σ H s:=
 ⟨ok,I.os,I.bare,I.base,I.loc,I.cell,I.free,I.freeC,I.pin,I.hok,I.len⟩
def Inv.nopins(I:Inv X pc σ H s):Inv X [] σ H s:=Inv.unpinned (pc:=[]) (pl:=pc) (by simpa using I)
def Rz{i:Nat}{v:V}:(oO X)[i]?≠aA (aA v):=λe=>by
 unfold oO at e;rw[gN] at e;split at e<;>cases e
def Inv.noNames(I:Inv X pc σ H s):Inv X pc (oO X) H s:=I.forget (by unfold oO; rw[Y7]; exact I.len.symm) λi v e=>absurd e Rz
end
def uK(X:Cx)(st:QX)(t:TS):Prop:=∀(s:jc) (σ:St) (H:Hp) (D:Ends),Inv X [] σ H s->t D σ H->jT (jR X.prog X.w) X.A (exec st X.env) (SP X [] D) X.xe s
def nz(X:Cx)(st:List QX)(t:TS):Prop:=∀(s:jc) (σ:St) (H:Hp) (D:Ends),Inv X [] σ H s->t D σ H->jT (jR X.prog X.w) X.A (execs st X.env) (SP X [] D) X.xe s
section
variable {X:Cx}
def Fly.inv{pc:List (jv × Obj)}{σ:St}{H1 H':Hp}{s1 s':jc}{x C:jv}{a0:j8}{B h'':QN}{tk:Nat}(I1:Inv X pc σ H1 s1)(F:Fly X.prog X.w X.stack H1 s1 x C a0 B H' s')(st:B.StaysIn h'')(up:s'.heap.UpToSlots h''):Inv X [] (oO X) H' { s' with heap:=h'',toks:=tk }:=
 (I1.nopins.noNames).call' (ch:=[]) (s':={ s' with heap:=h'',toks:=tk }) F.os (F.on st up I1.stack) (F.hok.kept st) F.bare (λb hb=>by simp at hb)
end
end L2
namespace L2
open PySem PySem.Spec PySem.Calls PyProof.Rows PySem.W Builtin Builtin.ObjectAttr Builtin.Getset_descriptor
def K7(x C:jv)(h:QN):Prop:=∃ o,h.get? x=aA o/\o.cls=.ref C
section
variable {prog:jI}{w:Qf}{A:Qg}{E:j8->jc->Prop}{K:Frag}{x C:jv}{h:QN}{g:Array gJ}{d:Drawn}{t:Nat}{os:OsState}
def Ej(M:Ug)(h:QN)(p:K7 x C h):Looks M h (typeOf (.ref x)) (.ref C):=by
 obtain⟨o,h1,h2⟩:=p;exact h2▸(Looks.ld h1).andThen .now
end
end L2
namespace L2
open PySem PySem.Spec PyProof.Rows
def Ls{CX:iI}{P:jI}{w:Qf}{K:jd}{mg:Str->Option j8}{base:QN}{k:Nat}{f:jv}{name qual:Str}{params:Wz}{body:List QX}{scope:Y1}{dV kV doc pm cdv ct oc:j8}{an od:Option jv}
  {osl:Array (Option j8)} {N ps:aj} {sp:Sp} (lk:K.lookup f=aA ⟨oc,od,.func (Q1 name qual params body scope dV kV doc pm an cdv ct),osl⟩) (hcd:Z6 K cdv qual=aC) (S:FnScope N ps scope)
  (len:∀ vs H Q E,sp vs H Q E->vs.length=ps.length)
  (hbody:∀(A:Qg) (outer:List Env) (s:jc) (H:Hp) (vs:List V) (Q:VK) (E:XK),Room k (A.deeper (ZK qual scope s.heap.objs.size f cdv))->A.frames=aA outer->sp vs H Q E->
   ∃ t,nz (eY CX P w K mg base N qual scope f cdv A outer s H E) body t/\t { nx:=λ_ H'=>Q .non H',rt:=Q } (start N vs) H) :
  FnOk P w K mg base CX (k+1) f (Q1 name qual params body scope dV kV doc pm an cdv ct) ps sp:=by
 refine⟨len,λA outer s H args us vs Q E hr e0 hb r hsp=>?_⟩;have hl:=len _ _ _ _ hsp;have KX:=e0.mod.kin.keeps λb o e=>(e0.bs b o e).1;have lim:=e0.mod.nolimit.keeps λb o e=>(e0.bs b o e).1;have hkind:∀ y∈ps.zip us,scope.names.lookup y.1=aA .local∨(scope.names.lookup y.1=aA .cell/\((Wy (s.heap.objs.size+1) scope.names []).lookup y.1).isSome=aC):=fun⟨n,v⟩ hy=>by
  obtain q |q:=S.par n (Yv hy).1
  ·exact .inl q
  ·exact .inr ⟨q,gT _ _ _ (.inl q)⟩
 refine Y8 hr.depth (KX _ _ lk) rfl S.co S.gen rfl (YG KX hcd) (hb _ _ _ _ ?_);refine gr S.kind hkind λenv he s1 x=>?_;subst he;refine⟨lim.keeps x.toInCall.keep,Ja ?_⟩;obtain⟨t,ht,hq⟩:=hbody A outer s H vs Q E (hr.deeper _) e0.frames hsp;have I:Inv (eY CX P w K mg base N qual scope f cdv A outer s H E) [] (start N vs) H s1:=FM S hr.hd e0 hl r x;refine jY (ht s1 (start N vs) H _ I hq) (λfl s' hs=>?_) λe s' hs=>hs;have fin:∀ {σ':St} {H':Hp} {v:V} {u:j8},Inv (eY CX P w K mg base N qual scope f cdv A outer s H E) [] σ' H' s'->RelV v u->Q v H'->CE outer P w H s Q u s':=
  λ{σ' H' v u} J rv q=>⟨v,H',J.os,J.bare,J.base,J.hok,rv,q⟩
 cases fl with
 |ret u=>
  obtain⟨v,σ',H',J,rv,q⟩:=hs;exact fin J rv q
 |next=>
  obtain⟨σ',H',J,q⟩:=hs;exact fin (v:=V.non) (u:=W0) J rfl q
 |brk=>
  obtain⟨_,_,_,q⟩:=hs;exact Zs q
 |cont=>
  obtain⟨_,_,_,q⟩:=hs;exact Zs q
def cV.zero{X:Cx}{st:List QX}{t:TS}(h:cV X st t):nz X st t:=λs σ H D I q=>h [] s σ H D I q
def lB(h:QN)(C:jv)(rest:List j8):QN:=(h.push { cls:=.type "tuple",data:=.seq rest.toArray }).push { cls:=.ref C,data:=.fields #[.ref h.objs.size,.none,.none,.none,.bool aD,.none] }
section
variable {prog:jI}{w:Qf}{A:Qg}{E:j8->jc->Prop}{h:QN}{g:Array gJ}{d:Drawn}{t:Nat}{os:OsState}
variable {nm q:Str}{C N:jv}{bs bm bmB:List j8}{hdct:Bool}{sn:aj}{sub:List j8}{ab:Bool}{col:Option Bool}{dd:Option jv}{k0 k1 k2 k3 k5:Option j8}{B newId initId:String}
def X9(F:ExcBaseFacts B newId initId bmB)(T:OwnTail h bmB bm){mN:Str->Option j8}{rest:List j8}{f:jv}{of:Obj}{Q:Fin->jc->Prop}
  (hC:h.get? C=aA (YC nm q C N bs bm hdct sn sub ab col dd k0 k1 k2 k3 k5 newId)) (hn:h.Ns N mN) (hi:mN "__init__"=aA (.ref f)) (hfo:h.get? f=aA of) (hfc:of.cls=.type "function")
  (hq:jT (jR prog w) A (call (.ref f) (.ref (h.objs.size+1)::rest)) (λv s'=>v=.none/\Q (.done (.ret (.ref (h.objs.size+1)))) s') E ⟨lB h C rest,g,d,t,os⟩) (hrest:rest.length<=ju:=by size_fits) :
  jT (jR prog w) A (Wr.«type.__call__» ⟨.ref C::rest,[]⟩) Q E ⟨h,g,d,t,os⟩:=by
 repeat (first |with_reducible refine Z3 hC ?_ |with_reducible refine wpAny_madeBy_exc hC ?_ |wp_step)
 refine codeAny_call_builtin_code (gQ _ F.quiet) (wpAny_check_new_subT F T hC ?_);refine codeAny_exc_new_subT F T hC ?_ hrest;have keep:∀ b o,h.get? b=aA o->(lB h C rest).get? b=aA o:=λb o e=>ja _ (ja _ e);have hC₁:=keep _ _ hC;have hn₁:(lB h C rest).Ns N mN:=let ⟨o,es,ep,e,r⟩:=hn; ⟨o,es,ep,keep _ _ e,r⟩
 have hget:(lB h C rest).get? (h.objs.size+1)=aA { cls:=.ref C,data:=.fields #[.ref h.objs.size,.none,.none,.none,.bool aD,.none] }:=by
  unfold lB
  heap_get
 have hcC:(QF C::bm).contains (.ref C)=aC:=by simp
 have T₁:=T.keeps keep;have hfo₁:=keep _ _ hfo;unfold lB at hC₁ hn₁ hget T₁ hfo₁ hq;unfold J1
 repeat (first |with_reducible refine Z3 hget ?_ |(with_reducible refine gF hC₁ ?_; rw[hcC]) |wp_step)
 refine wpAny_typeLookup_tail hC₁ hn₁ T₁ F.mroIs F.init.lookup ?_;rw[hi];refine Qa (j5 (wpAny_bindSpecial_def hfo₁ hfc ?_));refine j5 (jY hq (λv s' z=>?_) λ_ _ z=>z);obtain⟨rfl,z⟩:=z;refine jm ?_;show jT _ _ (if (W0 != W0)=aC then _ else _) _ _ _
 rw[aH (by decide)]
 exact jm z
def SY(F:ExcBaseFacts B newId initId bmB)(T:OwnTail h bmB bm){mN:Str->Option j8}{rest:List j8}{f:jv}{of:Obj}{Q:j8->jc->Prop}
  (hC:h.get? C=aA (YC nm q C N bs bm hdct sn sub ab col dd k0 k1 k2 k3 k5 newId)) (hn:h.Ns N mN) (hi:mN "__init__"=aA (.ref f)) (hfo:h.get? f=aA of) (hfc:of.cls=.type "function")
  (hq:jT (jR prog w) (A.under (.builtin "type.__call__" ⟨.ref C::rest,[]⟩)) (call (.ref f) (.ref (h.objs.size+1)::rest)) (λv s'=>v=.none/\Q (.ref (h.objs.size+1)) s') E ⟨lB h C rest,g,d,t,os⟩) (hrest:rest.length<=ju:=by size_fits) :
  jT (jR prog w) A (call (.ref C) rest) Q E ⟨h,g,d,t,os⟩:=by
 have f1:=tc_lookup;have f2:=tc_bind (.ref C);have hT:(⟨h,g,d,t,os⟩:jc).TypeIs (.ref C) "type":=⟨_,hC,rfl⟩;refine W3 (NO ?_)
 repeat (any_goals (first |assumption |with_reducible refine Z3 hC ?_ |wp_step))
 refine⟨rfl,?_⟩;refine codeAny_call_builtin_at (gQ _ (by decide +kernel)) entry_typeCall (wpAny_check_type_call_sub hC (X9 (hrest:=hrest) F T hC hn hi hfo hfc ?_))
 exact jY hq (λv s' z=>z) λe s' z=>z
end
end L2
namespace L2
open PySem PySem.Spec PySem.Calls PyProof.Rows PySem.W Builtin Builtin.ObjectAttr
section
variable {prog:jI}{w:Qf}{A:Qg}{E:j8->jc->Prop}{h:QN}{g:Array gJ}{d:Drawn}{t:Nat}{os:OsState}{K:Frag}{x C D:jv}{cd:JF}{name:Str}{v:j8}
structure XStore (K:Frag) (C D:jv) (cd:JF) (name:Str):Prop where
 cl:clsIn K C=aA cd
 mro:cd.mro=[.ref C,.ref D,.type "ValueError",.type "Exception",.type "BaseException",.type "object"]
 hd:cd.hasDict=aC
 sa:findIn K (.ref C) "__setattr__"=aA (aA (.builtin "object.__setattr__"))
 no:findIn K (.ref C) name=aA aB
def VQ{tk:Tok}{Q:Fin->jc->Prop}{o:Obj}(X:K.In h)(c:XStore K C D cd name)(hx:h.get? x=aA o)(hc:o.cls=.ref C)(hnc:∀ c,o.data≠.cls c)(hdn:o.dict=aB)
  (hq:∀ h' tk',h'.Ns1 h.objs.size (λy=>if y=name then aA v else aB)->(∀ b o,b≠x->h.get? b=aA o->h'.get? b=aA o)->h'.get? x=aA { o with dict:=aA h.objs.size }->Q (.done (.ret .none)) ⟨h',g,d,tk',os⟩) :
  jT (jR prog w) A (Wr.«object.__setattr__» ⟨[.ref x,.str name tk,v],[]⟩) Q E ⟨h,g,d,t,os⟩:=by
 have hpass:=WK.passes (.ref x);have L0:=Ej (jR prog w) h ⟨o,hx,hc⟩;have LC:=looks_clsIn (M:=jR prog w) X c.cl;have LM:Looks (jR prog w) h (mroOf (.ref C)) cd.mro:=LC.andThen .now;have LN:=looks_findIn (M:=jR prog w) X c.no;rw[osa_eq,refuse_eq];refine j5 (j5 (L0.at (j5 (LM.at ?_))));rw[c.mro,refuseLoop_ref,refuseLoop_ref,hpass];refine jm (j5 (L0.at (j5 (LN.at (j5 (jm ?_))))));dsimp only
 repeat (first |(with_reducible refine Z3 hx ?_; rw[hc]) |with_reducible refine LC.at ?_ |wp_step)
 rw[c.hd,aH (by decide)]
 dsimp only;rw[hdn,aH (by simp[typeHasDict])]
 split
 ·rename_i hcd;cases hcd
 split
 ·rename_i c' hcd;exact absurd hcd (hnc c')
 ·have hx₁:(h.push { cls:=.type "dict",data:=.dict #[] }).get? x=aA o:=ja _ hx;have hxs:=jH (jr hx);refine j5 (wpAny_alloc' ?_);refine j5 (wpAny_update' hx₁ ?_);refine jm ?_;have hgd:((h.push { cls:=.type "dict",data:=.dict #[] }).update x λo=>{ cls:=o.cls,dict:=aA h.objs.size,data:=o.data,slots:=o.slots }).get? h.objs.size
    = aA { cls:=.type "dict",data:=.dict #[] }:=
   (Ws _ _ _ _ hxs.symm).trans (Heap.get?_push_at rfl rfl)
  have hnd:((h.push { cls:=.type "dict",data:=.dict #[] }).update x λo=>{ cls:=o.cls,dict:=aA h.objs.size,data:=o.data,slots:=o.slots }).Ns h.objs.size (λ_=>aB):=
   ⟨_,#[],_,hgd,rfl,λe he=>absurd he (by simp),λ_=>rfl⟩
  unfold storeInDict newKeyGuard;refine j5 (jm (j5 (wpAny_nsSet1 (Heap.Ns1.of_empty hnd) λh' hn' hs=>?_)));obtain⟨oD,esD,epD,hoD,hdD,hcD⟩:=hn'.count (Within.cons name v Within.nil);refine j5 (wpAny_lookBehind hoD (by rw[hdD]; exact pastItsLine_dict (Qc hcD (by rw[jo,Zp,Zi]; lia))) ?_)
  wp_walk
  refine hq h' _ hn' (λb ob hbx hb=>?_) ?_
  ·exact(hs.2 b (jH (jr hb))).trans ((Ws _ _ _ _ hbx).trans (ja _ hb))
  ·refine(hs.2 x hxs).trans (NG _ hx₁ ?_);have hfr:=(Heap.get?_some_iff.mp hx).2;obtain⟨oc,od,odt,osl⟩:=o;cases odt<;>first |rfl |exact hfr
def VE{Q:Unit->jc->Prop}{o:Obj}(X:K.In h)(c:XStore K C D cd name)(hx:h.get? x=aA o)(hc:o.cls=.ref C)(hnc:∀ c,o.data≠.cls c)(hdn:o.dict=aB)
  (hq:∀ h' tk',h'.Ns1 h.objs.size (λy=>if y=name then aA v else aB)->(∀ b o,b≠x->h.get? b=aA o->h'.get? b=aA o)->h'.get? x=aA { o with dict:=aA h.objs.size }->Q () ⟨h',g,d,tk',os⟩) :
  jT (jR prog w) A (setAttr (.ref x) name v) Q E ⟨h,g,d,t,os⟩:=by
 have L0:=Ej (jR prog w) h ⟨o,hx,hc⟩;have LS:=looks_findIn (M:=jR prog w) X c.sa;have LC:=looks_clsIn (M:=jR prog w) X c.cl;have LO:Looks (jR prog w) h (J1 (.ref x) (.type "object")) aC:=L0.andThen (looks_mroIn X (by unfold mroIn; rw[c.cl,jb,c.mro]; rfl))
 have f3:=WK.slot.bind (.ref x);have SF:=F.store_object;unfold setAttr callSpecial? specialOf
 repeat (any_goals (first |assumption |with_reducible refine L0.at ?_ |with_reducible refine LS.at ?_ |wp_step))
 refine Yj SF.slot.plain SF.entry (@check_slot (jR prog w) _ _ _ "object.__setattr__" "object" "__setattr__" (.ref x) [.str name t,v] [] _ SF.kind SF.split LO (SF.args (.ref x) (.str name t) v) ?_);refine VQ X c hx hc hnc hdn λh' tk' a1 a2 a3=>?_
 repeat (any_goals (first |assumption |wp_step))
 exact hq h' tk' a1 a2 a3
end
end L2
namespace L2
open PySem PySem.Spec PyProof.Rows
variable {A:Qg}
section
variable {M:Ug}{E:j8->jc->Prop}{env:Env}
variable {nm q:Str}{C N:jv}{bs bm:List j8}{hdct:Bool}{sn:aj}{sub:List j8}{ab:Bool}{col:Option Bool}{dd:Option jv}{k0 k1 k2 k3 k5:Option j8}{newId:String}
def VA{s:jc}{x:Sem j8}{Q:Flow->jc->Prop}(hbase:bm.contains (.type "BaseException")=aC)(hh:A.handled=aB)
  (h:jT M A x (λv s₁=>∃ e t dx sl,v=.ref e/\s₁.heap.get? C=aA (YC nm q C N bs bm hdct sn sub ab col dd k0 k1 k2 k3 k5 newId) /\
   s₁.heap.get? e=aA { cls:=.ref C,dict:=dx,data:=.fields #[.ref t,.none,.none,.none,.bool aD,.none],slots:=sl }/\E (.ref e) s₁) E s) :
  jT M A (raiseStmt env (aA x) aB) Q E s:=by
 have hcB:(QF C::bm).contains (.type "BaseException")=aC:=by rw[YI,hbase,Ue]
 unfold raiseStmt;refine j5 (jY h (λv s₁ h₁=>?_) λ_ _ x=>x);obtain⟨e,t,dx,sl,rfl,hC,he,hE⟩:=h₁;obtain⟨hp,g,d,tk,os⟩:=s₁
 repeat (first |with_reducible refine Z3 he ?_ |with_reducible refine Z3 hC ?_ |(with_reducible refine gF hC ?_; rw[hcB]) |wp_step)
 exact wpAny_raiseNew_none hh hE
end
structure MadeD (h h':QN) (e C:jv):Prop where
 keeps:∀ b o,h.get? b=aA o->h'.get? b=aA o
 new:h.get? e=aB
 there:∃ t dx sl,h'.get? e=aA { cls:=.ref C,dict:=dx,data:=.fields #[.ref t,.none,.none,.none,.bool aD,.none],slots:=sl }
section
variable {M:Ug}{E:j8->jc->Prop}{s:jc}
def VJ{base h:QN}{env:Env}{outer:List Env}{L e C:jv}{Q:Unit->jc->Prop}
  (hfr:A.frames=aA (env::outer)) (hf:env.frame=aA L) (hkb:base.StaysIn h) (hl:h.FunFrames base (env::outer)) (hx:MadeD h s.heap e C)
  (hQ:∀ h' t,Ud base outer e (.ref C) (.ref t) h'->s.heap.UpToSlots h'->Q () { s with heap:=h' }):jT M A (leaving env (.ref e)) Q E s:=by
 obtain⟨t,dx,sl,he⟩:=hx.there;have fresh:∀ b,h.get? b=aB->base.get? b=aB:=λb hb=>by
  cases hq:base.get? b with
  |none=>rfl
  |some o'=>have:=hkb b o' hq; rw[hb] at this; cases this
 refine wpAny_leaving_firstW (a0:=.ref t) hfr (hl.of_keeps λb o hb _=>⟨o,hx.keeps b o hb,rfl⟩) hf he (λb o hb=>hx.keeps b o (hkb b o hb)) (fresh e hx.new) rfl rfl rfl λh' hL=>?_;obtain⟨k1,⟨_,_,k2⟩,k3,k4⟩:=hL;exact hQ h' t ⟨k1,fresh e hx.new,k2,k3⟩ k4
end
open PySem.W (hideAll hideAll_get of_hideAll hideAll_none funFrames_hide)
section
variable {P:jI}{w:Qf}{K:jd}{mg:Str->Option j8}{base:QN}{N:aj}{qual:Str}{scope:Y1}{f:jv}{cd:j8}{outer:List Env}{s:jc}{H:Hp}{E:XK}
def VB{pc:List (jv × Obj)}{σ:St}{Hc:Hp}{s2:jc}{h':QN}{e C:jv}{tk:Nat}
  (I:Inv (eY (ny P w) P w K mg base N qual scope f cd A outer s H E) pc σ Hc s2) (hA:A.frames=aA outer) (hx:MadeD s2.heap h' e C) (hE:E (.ref C) aB Hc) :
  (eY (ny P w) P w K mg base N qual scope f cd A outer s H E).xe (.ref e) { s2 with heap:=h',toks:=tk }:=by
 have stk:=I.stack;have fsub:∀ env∈(ZK qual scope s.heap.objs.size f cd::outer),∀ b,env.frame=aA b->b∈dH (ZK qual scope s.heap.objs.size f cd::outer):=λenv he b hb=>YF.mpr ⟨env,he,hb⟩;refine VJ (base:=hideAll s2.heap (dH (ZK qual scope s.heap.objs.size f cd::outer))) (W9 hA) rfl (λb o q=>of_hideAll _ q) (funFrames_hide stk fsub) hx λh'' t x1 x4=>?_;have own:∀ b o,s.heap.get? b=aA o->b∉dH outer->b∉dH (ZK qual scope s.heap.objs.size f cd::outer):=λb o q hb hm=>by
  unfold dH at hm;rw[ZN] at hm;obtain z |z:=jx.mp hm
  ·exact absurd (jr q) (by rw[z]; exact Q9 _)
  ·exact hb z
 have un:Un (dH outer) [] H Hc s.heap s2.heap:=I.base;have up:=(U3 hx.keeps).trans x4;refine⟨e,C,_,hideAll s2.heap (dH (ZK qual scope s.heap.objs.size f cd::outer)),Hc,rfl,⟨I.os,I.bare,x1,λa o q=>?_,⟨λb o q n hb _=>?_,λb o q n hb _=>?_,un.free,λb o q _=>?_,un.tups,un.frzs,un.tbls⟩,λb o q n hb=>?_,λb o q hb=>?_,λb hb=>?_⟩,hE⟩
 ·have nf:∀ b u,Hc b=aA u->b∉dH (ZK qual scope s.heap.objs.size f cd::outer):=λb u hu hm=>by
   rw[I.stkFree b hm] at hu;cases hu
  exact(I.hok a o q).stay (λb u hb r=>No _ r (by
   obtain rfl |hb:=hb
   ·exact nf _ _ q
   ·exact nf _ _ hb)) (λ_ r=>r) λ_ _ r=>r
 ·exact x1.1 b o (No _ (un.keep b o q n hb (by simp)) (own b o q hb))
 ·obtain⟨sl,e1⟩:=un.slot b o q n hb (by simp)
  obtain⟨_,o',ho',hd'⟩:=I.funs.mem hb;rw[e1] at ho';cases jh ho';obtain⟨sl2,e2⟩:=up b _ e1 hd';exact⟨sl2,e2⟩
 ·obtain⟨o1,e1⟩:=un.there b o q (by simp)
  by_cases hb:b∈dH outer
  ·obtain⟨_,o',ho',hd'⟩:=I.funs.mem hb;obtain⟨sl2,e2⟩:=up b _ ho' hd';exact⟨_,e2⟩
  ·exact⟨o1,x1.1 b o1 (No _ e1 (own b o q hb))⟩
 ·exact No _ (un.keep b o q n hb (by simp)) (own b o q hb)
 ·obtain⟨o1,e1⟩:=un.there b o q (by simp)
  exact⟨o1,No _ e1 (own b o q hb)⟩
 ·refine I.stkFree b ?_;show b∈dH (ZK qual scope s.heap.objs.size f cd::outer);unfold dH;rw[ZN];exact jA _ hb
end
end L2
namespace L2
open PySem PySem.Spec PyProof.Rows
variable {X:Cx}{A:Qg}
def Rf{P:jI}{w:Qf}{K:jd}{A:Qg}{E:j8->jc->Prop}{s:jc}{f e C D:jv}{cdt:JF}{u:j8}{o:Obj}{n1 n2:Str}{p1 p2 p3 p4:Pos}
  {name qual:Str} {params:Wz} {scope:Y1} {dV kV doc pm cdv ct oc:j8} {an od:Option jv} {osl:Array (Option j8)} {Q:j8->jc->Prop}
  (KX:K.In s.heap) (lim:s.heap.NoLimit) (lk:K.lookup f=aA ⟨oc,od,.func (Q1 name qual params [.Assign [.Attribute (.Name n1 p1) n2 p2] (.Name n2 p3) p4] scope dV kV doc pm an cdv ct),osl⟩) (hcd:Z6 K cdv qual=aC)
  (S:FnScope [n1,n2] [n1,n2] scope) (l1:scope.names.lookup n1=aA .local) (l2:scope.names.lookup n2=aA .local) (hd1:(n1 == ("__debug__":Str))=aD) (hd2:(n2 == ("__debug__":Str))=aD)
  (hb:Wn s (Q1 name qual params [.Assign [.Attribute (.Name n1 p1) n2 p2] (.Name n2 p3) p4] scope dV kV doc pm an cdv ct) ⟨[.ref e,u],[]⟩ ([n1,n2].zip [.ref e,u])) (hdp:A.depth < Wg)
  (c:XStore K C D cdt n2) (he:s.heap.get? e=aA o) (hc:o.cls=.ref C) (hnc:∀ c,o.data≠.cls c) (hdn:o.dict=aB)
  (hq:∀ h' tk dx,(∀ b ob,b≠e->s.heap.get? b=aA ob->h'.get? b=aA ob)->h'.get? e=aA { o with dict:=aA dx }->Q .none { s with heap:=h',toks:=tk }) :
  jT (jR P w) A (call (.ref f) [.ref e,u]) Q E s:=by
 have hkind:∀ y∈[n1,n2].zip [QF e,u],scope.names.lookup y.1=aA .local∨(scope.names.lookup y.1=aA .cell/\((Wy (s.heap.objs.size+1) scope.names []).lookup y.1).isSome=aC):=fun⟨n,v⟩ hy=>by
  obtain z |z:=jx.mp hy
  ·cases z; exact .inl l1
  ·obtain z |z:=jx.mp z
   ·cases z; exact .inl l2
   ·cases z
 refine W3 (Y8 hdp (KX _ _ lk) rfl S.co S.gen rfl (YG KX hcd) (hb _ _ _ _ ?_));refine gr S.kind hkind λenv henv s1 x=>?_;subst henv;refine⟨lim.keeps x.toInCall.keep,Ja ?_⟩;have hns:=x.toInCall.ns;obtain⟨h1,tk,rfl,hk⟩:=x.done;have nd:=S.nd;have g1:=w6 (kindOf:=(ZK qual scope s.heap.objs.size f cdv).kindOf) (m:=λ_=>aB) (i:=0) (vs:=[QF e,u]) nd rfl rfl l1;have g2:=w6 (kindOf:=(ZK qual scope s.heap.objs.size f cdv).kindOf) (m:=λ_=>aB) (i:=1) (vs:=[QF e,u]) nd rfl rfl l2;refine Yc (plainObj_wpAny_Assign_Attribute (W2 (Yg S.kind l2 hns g2 (W2 (Yg S.kind l1 hns g1 ?_) hd1)) hd2) rfl);refine VE (KX.keeps hk) c (hk _ _ he) hc hnc hdn λh' tk' a1 a2 a3=>ZY ?_;exact hq h' tk' h1.objs.size (λb ob hb q=>a2 b ob hb (hk b ob q)) a3
structure XClsI (K:jd) (h:QN) (C D:jv) (bm:List j8):Prop where
 obj:∃ N nm q bs hdct sn sub ab col dd k0 k1 k2 k3 k5 mN f,h.get? C=aA (YC nm q C N bs bm hdct sn sub ab col dd k0 k1 k2 k3 k5 "ValueError.__new__")/\h.Ns N mN/\mN "__init__"=aA (.ref f)/\OwnTail h [.type "ValueError",.type "Exception",.type "BaseException",.type "object"] bm /\
  ∃ n1 n2 p1 p2 p3 p4 name qual params scope dV kV doc pm cdv ct od an osl cdt,K.lookup f=aA ⟨.type "function",od,.func (Q1 name qual params [.Assign [.Attribute (.Name n1 p1) n2 p2] (.Name n2 p3) p4] scope dV kV doc pm an cdv ct),osl⟩/\Z6 K cdv qual=aC /\
   FnScope [n1,n2] [n1,n2] scope/\scope.names.lookup n1=aA .local/\scope.names.lookup n2=aA .local/\(n1 == ("__debug__":Str))=aD/\(n2 == ("__debug__":Str))=aD /\
   Binds K (Q1 name qual params [.Assign [.Attribute (.Name n1 p1) n2 p2] (.Name n2 p3) p4] scope dV kV doc pm an cdv ct) [n1,n2] []/\XStore K C D cdt n2
def vH(X:Cx)(E:XK):Prop:=∀(pc:List (jv × Obj)) (σ:St) (H:Hp) (s:jc) (h':QN) (tk:Nat) (e C:jv),Inv X pc σ H s->MadeD s.heap h' e C->E (.ref C) aB H->X.xe (.ref e) { s with heap:=h',toks:=tk }
def UM{P:jI}{w:Qf}{K:jd}{mg:Str->Option j8}{base:QN}{N:aj}{qual:Str}{scope:Y1}{f:jv}{cd:j8}{A:Qg}{outer:List Env}{s:jc}{H:Hp}{E:XK}(hA:A.frames=aA outer) :
  vH (eY (ny P w) P w K mg base N qual scope f cd A outer s H E) E:=λpc σ Hc s2 h' tk e C I hx hE=>VB (tk:=tk) I hA hx hE
section
variable {E:XK}{C D:jv}{bm:List j8}{x:Str}{np cpos pos:Pos}{e0:Q5}{t:TA}
def TF{k:Nat}(hR:vH X E)(hc:X.calm=aC)(hr:Room (k+1) X.A)(xc:XClsI X.K X.base C D bm)(hg:Gl X x)(hm:X.mg x=aA (.ref C))(ha:PA X [e0] t)
  (he:ac X e0 []:=by rfl) (hpl:ad X cpos []:=by rfl) (hd:ae x:=by decide) :
  PS X (.Raise (aA (.Call (.Name x np) [e0] [] cpos)) aB pos) (λD σ H=>t σ H λvs H1=>vs.length=1/\E (.ref C) aB H1):=by
 intro pc s σ H D' I h;obtain⟨N,nm,q,bs,hdct,sn,sub,ab,col,dd,k0,k1,k2,k3,k5,mN,f,e1,e2,e3,e4,n1,n2,p1,p2,p3,p4,name,qual,params,scope,dV,kV,doc,pm,cdv,ct,od,an,osl,cdt,lk,hcd,S,l1,l2,d1,d2,hbi,xs⟩:=xc.obj;have hbase:=e4.hasType Ym.hasBase;have hplain:(QM cpos (jg [e0] X.env)).any (·.1)=aD:=by rw[he]; show (aD||(QM cpos (jg [] X.env)).any (·.1))=aD; rw[hpl]; rfl
 have start:jT (jR X.prog X.w) X.A (eval (.Name x np) X.env) (λfv s₁=>fv=.ref C/\jT (jR X.prog X.w) X.A (evalArgs (.ref C) aC (QM cpos (jg [e0] X.env)) []) (λa s₂=>∃ u vs H1,a=⟨[u],[]⟩/\Inv X pc σ H1 s₂/\Vals vs [u]/\E (.ref C) aB H1) X.xe s₁) X.xe s:=by
  refine yk I hg hm ⟨rfl,?_⟩ hd;have a:=ha cpos pc s σ H _ I h;rw[he] at a ⊢;refine Yh (jY a (λus s2 h2=>?_) λ_ _ y=>y);obtain⟨vs,H1,I1,r,hl,hE⟩:=h2;have hlu:us.length=1:=by rw[<-r.length]; exact hl
  obtain⟨u,rfl⟩:=gX.mp hlu;exact⟨u,vs,H1,rfl,I1,r,hE⟩
 rw[arm_exec_Raise];simp only[evalOpt,Option.map];refine j5 (Zk (VA (C:=C) (nm:=nm) (q:=q) (N:=N) (bs:=bs) (bm:=bm) (hdct:=hdct) (sn:=sn) (sub:=sub) (ab:=ab) (col:=col) (dd:=dd) (k0:=k0) (k1:=k1) (k2:=k2) (k3:=k3) (k5:=k5) (newId:="ValueError.__new__") hbase (I.ok.hd hc) ?_));refine j5 (jY (wpAny_Call_ofName (jY start (λfv s₁ h₁=>?_) λ_ _ y=>y)) (λv s₃ h₃=>j5 (Zk (jm h₃))) λ_ _ y=>y);obtain⟨rfl,h₁⟩:=h₁;unfold callWith;refine j5 (Qa (jY h₁ (λa s₂ h₂=>j5 (Zk ?_)) λ_ _ y=>y));obtain⟨u,vs,H1,rfl,I1,r,hE⟩:=h₂;have bk:=I1.bk;have hC2:=bk _ _ e1;have KX2:=I1.kIn;have lim2:=I1.mod.nolimit.keeps bk;obtain⟨hp,g,d,tk,os⟩:=s₂;simp only[hplain];refine j5 (PySem.wpAny_keeperOf_exc hC2 ?_);have kp:∀ b o,hp.get? b=aA o->(lB hp C [u]).get? b=aA o:=λb o q=>ja _ (ja _ q);refine j5 (SY (rest:=[u]) (f:=f) Ym (e4.keeps bk) hC2 (e2.keeps bk) e3 (KX2 _ _ lk) rfl ?_ (by show 1<=ju; decide))
 have hget:(lB hp C [u]).get? (hp.objs.size+1)=aA { cls:=.ref C,data:=.fields #[.ref hp.objs.size,.none,.none,.none,.bool aD,.none] }:=by
  unfold lB
  heap_get
 refine Rf (s:=⟨lB hp C [u],g,d,tk,os⟩) (K:=X.K) (D:=D) (KX2.keeps kp) (lim2.keeps kp) lk hcd S l1 l2 d1 d2 (hbi ⟨lB hp C [u],g,d,tk,os⟩ [.ref (hp.objs.size+1),u] (KX2.keeps kp) rfl) (by rw[UD]; have:=hr.dp; lia) xs hget rfl (λc z=>by cases z) rfl λh' tk' dx a1 a2=>⟨rfl,?_⟩
 have ne:∀ b o,hp.get? b=aA o->b≠hp.objs.size+1:=λb o q z=>absurd (jr q) (by rw[z]; exact Nat.not_lt.mpr (Z2 _))
 have md:MadeD hp h' (hp.objs.size+1) C:=⟨λb o q=>a1 b o (ne b o q) (kp b o q),W8 (Z2 _),_,_,_,a2⟩;refine j5 (Qa (wpAny_point (jm ?_)));exact⟨_,_,_,_,rfl,md.keeps _ _ hC2,a2,hR pc σ H1 ⟨hp,g,d,tk,os⟩ h' tk' _ C I1 md hE⟩
end
structure XObj (h:QN) (C:jv) (bm:List j8):Prop where
 obj:∃ N nm q bs hdct sn sub ab col dd k0 k1 k2 k3 k5,h.get? C=aA (YC nm q C N bs bm hdct sn sub ab col dd k0 k1 k2 k3 k5 "ValueError.__new__")/\OwnTail h [.type "ValueError",.type "Exception",.type "BaseException",.type "object"] bm
def XObj.keeps{h h':QN}{C:jv}{bm:List j8}(x:XObj h C bm)(k:∀ b o,h.get? b=aA o->h'.get? b=aA o):XObj h' C bm:=by
 obtain⟨N,nm,q,bs,hdct,sn,sub,ab,col,dd,k0,k1,k2,k3,k5,e1,e4⟩:=x.obj;exact⟨N,nm,q,bs,hdct,sn,sub,ab,col,dd,k0,k1,k2,k3,k5,k _ _ e1,e4.keeps k⟩
def XClsI.o{K:jd}{h:QN}{C D:jv}{bm:List j8}(x:XClsI K h C D bm):XObj h C bm:=by
 obtain⟨N,nm,q,bs,hdct,sn,sub,ab,col,dd,k0,k1,k2,k3,k5,mN,f,e1,e2,e3,e4,_⟩:=x.obj;exact⟨N,nm,q,bs,hdct,sn,sub,ab,col,dd,k0,k1,k2,k3,k5,e1,e4⟩
section
variable {M:Ug}{E:j8->jc->Prop}
def V9{h:QN}{g:Array gJ}{d:Drawn}{t:Nat}{os:OsState}{e C D:jv}{oe:Obj}{bm bmD:List j8}{Q:Bool->jc->Prop}(xc:XObj h C bm)(xd:XObj h D bmD)(he:h.get? e=aA oe)(hcls:oe.cls=.ref C)(hm:(QF C::bm).contains (.ref D)=aC)
  (hq:Q aC ⟨h,g,d,t,os⟩):jT M A (excMatches (.ref e) (.ref D)) Q E ⟨h,g,d,t,os⟩:=by
 obtain⟨N,nm,q,bs,hdct,sn,sub,ab,col,dd,k0,k1,k2,k3,k5,hC,_⟩:=xc.obj;obtain⟨N',nm',q',bs',hdct',sn',sub',ab',col',dd',k0',k1',k2',k3',k5',hD,T⟩:=xd.obj;have hcB:(QF D::bmD).contains (.type "BaseException")=aC:=by rw[YI,T.hasType (X:="BaseException") (b:=aC) Ym.hasBase,Ue]
 have f:=tc_notTuple;unfold excMatches
 repeat (first |(with_reducible refine Z3 he ?_; rw[hcls]) |with_reducible refine Z3 hD ?_ |(with_reducible refine gF hD ?_; rw[hcB]) |(with_reducible refine gF hC ?_; rw[hm]) |wp_step)
 exact hq
end
section
def Eb(X:Cx)(D:jv)(ts:TS)(En:Ends):XK:=λcls _ H'=>∃ C bm,cls=.ref C/\XObj X.base C bm/\(QF C::bm).contains (.ref D)=aC/\ts { nx:=λ_ _=>False,rt:=En.rt } (oO X) H'
def TH{body suite:List QX}{b0:QX}{d:Str}{np hpos pos:Pos}{tb:XK->TS}{ts:TS}{D:jv}{bmD:List j8}
  (hb:∀ W E,oN (ny X.prog X.w) (X.wish W) E->cV (X.wish W) body (tb E)) (hst:X.stack=X.env::X.outer) (hfr:X.env.frame=aA X.env.locals) (hex:X.ex=[])
  (hgd:Gl X d) (hmd:X.mg d=aA (.ref D)) (xd:XObj X.base D bmD) (hs:∀ x,cV (X.held x) (b0::suite) ts)
  (hdb:ae d:=by decide) :
  uK X (.Try body [.ExceptHandler (aA (.Name d np)) aB (b0::suite) hpos] [] [] pos) (λEn σ H=>tb (Eb X D ts En) En σ H):=by
 intro s σ H En I h;refine wpAny_Try_except ?_;have pass:oN (ny X.prog X.w) (X.wish (λe s1=>jT (jR X.prog X.w) X.A (noteFrame e X.env) (λ_ s2=>jT (jR X.prog X.w) X.A (setFlight e aB) (λ_ s3=>jT (jR X.prog X.w) X.A (handleBy e X.env [.ExceptHandler (aA (.Name d np)) aB (b0::suite) hpos]) (SP X [] En) X.xe s3) X.xe s2) X.xe s1)) (Eb X D ts En):=by
  intro pc σ' H1 s1 ev s' I1 hq;obtain⟨x,C,a0,B,H',rfl,F,C',bm,eC,xc,hm,hsuite⟩:=hq;obtain rfl:C=C':=by injection eC
  have I1:=I1.unwish;have F:=F;have fl:=F.fly;rw[hst] at fl;have hA:X.A.frames=aA (X.env::X.outer):=by rw[<-hst]; exact I.ok.frames
  refine wpAny_looks_onW hA hfr fl λh4 held4 up4=>?_;refine wpAny_landsW held4 λh5 fly5 up5=>?_;have J5:Inv X [] (oO X) H' { s' with heap:=h5 }:=F.inv (tk:=s'.toks) I1 fly5.1 (up4.trans up5);obtain⟨oe,he,hcls⟩:=fly5.there;refine wpAny_handleBy_cons (codeAny_handlers_test ?_) (by intro q; cases q)
  refine yk (J5.held x) hgd hmd ?_ hdb;refine V9 (xc.keeps J5.bk) (xd.keeps J5.bk) he hcls hm ?_;refine codeAny_handlers_suite ?_;refine lands_againW fly5 λh6 fly6 up6=>?_;have J6:Inv X [] (oO X) H' { s' with heap:=h6 }:=F.inv (tk:=s'.toks) I1 fly6.1 ((up4.trans up5).trans up6);refine jY (hs x [] _ _ _ _ (J6.held x) hsuite) (λf s9 q=>?_) λ_ _ z=>Zs z;cases f with
  |next=>obtain⟨_,_,_,q⟩:=q; exact q.elim
  |brk=>obtain⟨_,_,_,q⟩:=q; exact q.elim
  |cont=>obtain⟨_,_,_,q⟩:=q; exact q.elim
  |ret u=>
   obtain⟨v,σ9,H9,I9,r,q⟩:=q;exact⟨v,σ9,H9,I9.unheld I.ok,r,q⟩
 refine jY (hb _ _ pass [] s σ H En (I.wish _) h) (λf s1 q=>?_) λ_ _ z=>z;have q:=q.unwish;cases f with
 |next=>exact ZY q
 |brk=>exact q
 |cont=>exact q
 |ret u=>exact q
end
def ip(acc:am)(x:Int):am:=if x∈acc then acc else acc++[x]
def i8(ns:am):am:=ns.foldl ip []
def T8{ns:am}{i:Nat}{x:Int}(h:ns[i]?=aA x):i8 (ns.take (i+1))=ip (i8 (ns.take i)) x:=by
 unfold i8;rw[ZT,h,N1]; rfl
section
variable {P:jI}{w:Qf}{R:Jx->jc->Prop}{I:jv}{fp wr:List jv}{G:Array gJ->Array gJ->Prop}{n:Nat}{Pv:Nat->j8->Prop}{St:Nat->jc->Prop}
def IsSetI(P:jI)(w:Qf)(S:jv)(l:am)(h:QN):Prop:=h.SetOf (gR P w) S (λq=>aE (q∈l)) l.length
def IsSetI.at{S:jv}{l:am}{h h':QN}(x:IsSetI P w S l h)(k:∀ o,h.get? S=aA o->h'.get? S=aA o):IsSetI P w S l h':=by
 obtain⟨o,es,ep,t,e,r⟩:=x;exact⟨o,es,ep,t,k _ e,r⟩
def IsSetI.next{S:jv}{l:am}{x:Int}{h:QN}(y:h.SetOf (gR P w) S (λq=>aE (q∈l)||aE (q=x)) (if aE (x∈l)=aC then l.length else l.length+1)):IsSetI P w S (ip l x) h:=by
 have e1:(λq=>aE (q∈l)||aE (q=x))=λq=>aE (q∈ip l x):=by
  funext q
  unfold ip
  by_cases hx:x∈l
  ·rw[aI hx]
   by_cases hq:q=x
   ·subst hq; simp[hx]
   ·simp[hq]
  ·rw[aH hx,Ze]; simp
 have e2:(if aE (x∈l)=aC then l.length else l.length+1)=(ip l x).length:=by
  unfold ip
  by_cases hx:x∈l
  ·rw[aI hx,aI (by simpa using hx)]
  ·rw[aH hx,aH (by simpa using hx),jk]; rfl
 rwa [e1,e2] at y
def FS:∀(l acc:am),(l.foldl ip acc).length<=acc.length+l.length
 |[],acc=>jj _
 |x::l,acc=>by
  rw[QU];have:=FS l (ip acc x);have h2:(ip acc x).length<=acc.length+1:=by
   unfold ip;split
   ·lia
   ·rw[jk]; exact jj _
  rw[jo];lia
def Tu(W:WalksS P w A.in1 I fp wr G n Pv St)(S:jv)(hS:S∉fp)(ss:am)(hn:ss.length=n)(hv:∀ i v x,Pv i v->ss[i]?=aA x->∃ t,v=.int x t)(hb:n+1 < Zv) :
  ∀(k i:Nat) (s:jc),n - i=k->i<=n->St i s->IsSetI P w S (i8 (ss.take i)) s.heap->(∀ s',Moved (S::wr) G s s'->IsSetI P w S (i8 ss) s'.heap->R (.ok (.ret .none)) s')->
   Yu (jR P w) A (.builtin "set.update.loop" ⟨[.ref S,.ref I],[]⟩) R s:=by
 have nw:S∉wr:=λz=>hS (W.sub _ z);have up:∀ b∈wr,b∈S::wr:=λb z=>.tail _ z;intro k
 induction k with
 |zero=>
  intro i s hk hi st hs q;obtain rfl:i=n:=by lia
  refine gd ZQ ?_;rw[gv QV _];refine j5 (m:=NE (.ref I)) (W.done s _ _ st λs' mv=>jm (q s' (mv.mono up) ?_));rw[jZ (by lia)] at hs
  exact hs.at λo e=>mv.heap S o nw e
 |succ k ih=>
  intro i s hk hi st hs q;have lt:i < n:=by lia
  obtain⟨x,hx⟩:∃ x,ss[i]?=aA x:=⟨_,j3 (by lia)⟩
  refine gd ZQ ?_;rw[gv QV _];refine j5 (m:=NE (.ref I)) (W.item i s _ _ lt st λv s1 pv st1 mv=>?_);obtain⟨t,rfl⟩:=hv i v x pv hx;have hs1:=hs.at λo e=>mv.heap S o nw e;have ky:(gR P w).is x (.int x t)=aC:=by show Ys x (.int x t)=aC; simp[Ys]
  refine j5 (m:=Yt [U7 x t] (setAdd S (.int x t))) (Qa ?_);unfold setAdd;refine Qa (j5 ((gR P w).pyHash (k:=x) ky ?_));have fl:(i8 (ss.take i)).length<=i:=by
   have:=FS (ss.take i) [];rw[Q2,Zp] at this;unfold i8;lia
  refine Ya (knd:=gR P w) (s:={ s1 with toks:=s1.toks+1 }) ky rfl hs1 (by lia) λh2 sb hs2=>?_
  have hs3:=IsSetI.next hs2
  rw[<-T8 hx] at hs3;refine jm ⟨plainId_quiet QV _,ih (i+1) _ (by lia) lt (W.frame _ s1 _ _ st1 (Z2 _) λb z o e=>(sb.2 b (λy=>hS (y▸z))).trans e) hs3 λs2 mv2=>q s2 (Ul W.gtrans ((mv.mono up).then_heap (Z2 _) λb o z e=>(sb.2 b (λy=>z (y▸.head _))).trans e) mv2)⟩
end
section
variable {P:jI}{w:Qf}{E:j8->jc->Prop}{s:jc}
set_option maxHeartbeats 3200000 in
def VC{l:jv}{its:Array j8}{ss:am}{Q:j8->jc->Prop}(hh:A.handled=aB)(hl:s.heap.IsList l its)(hn:ss.length=its.size)(hv:∀(i:Nat) v x,its[i]?=aA v->ss[i]?=aA x->∃ t,v=.int x t)(hb:its.size+1 < Zv)
  (q:∀(h':QN) (tk:Nat),IsSetI P w s.heap.objs.size (i8 ss) h'->(∀ b o,b < s.heap.objs.size->s.heap.get? b=aA o->h'.get? b=aA o)->Q (.ref s.heap.objs.size) { s with heap:=h',toks:=tk }) :
  jT (jR P w) A (call (.type "set") [.ref l]) Q E s:=by
 have a0:=Qv.mro;obtain⟨mc,mt,a0⟩:=a0;have a1:=Qv.made;have a2:=Qv.sub;refine W3 (NO (jm ⟨gQ _ (by decide +kernel),gd WZ ?_⟩))
 rw[WG (NP "set" [QF l] []) rfl];have a3:=Qv.notType;have a4:=Qv.canCreate;have a5:=Jm (.ref l)
 repeat (any_goals (first |wp_step |assumption))
 refine gG (code_set_new_1 (.ref l) (E:=E) (Q₁:=λv s1=>∃ led:Bool,v=.ref s.heap.objs.size/\s1={ s with heap:=s.heap.push (fU led) }) λled=>⟨led,rfl,rfl⟩) λr s1 hr=>?_;cases r with
 |error e=>exact hr
 |ok fl=>
  cases fl with
  |ret v=>
   obtain⟨led,rfl,rfl⟩:=hr;have g0:(s.heap.push (fU led)).get? s.heap.objs.size=aA (fU led):=jL _ rfl;have ty:WH { s with heap:=s.heap.push (fU led) } (.ref s.heap.objs.size) "set":=⟨_,g0,rfl⟩;have b1:=Qv.init.lookup;have b2:=Qv.init.bind (.ref s.heap.objs.size)
   repeat (any_goals (first |wp_step |assumption))
   refine gG (Yj (R:=wants (λr s2=>r=.none/\∃ h' tk,s2={ s with heap:=h',toks:=tk }/\IsSetI P w s.heap.objs.size (i8 ss) h'/\(∀ b o,b < s.heap.objs.size->s.heap.get? b=aA o->h'.get? b=aA o)) E) Qv.init.plain Jn (check_set_init_1 ty ?_)) λr2 s2 hr2=>?_
   ·obtain⟨⟨c1,c2,c3,c4⟩,ho,hc,nl,hd⟩:=hl;dsimp only at hc hd;subst hc hd;have g1:(s.heap.push (fU led)).get? l=aA { cls:=.type "list",dict:=c2,data:=.seq its nl,slots:=c4 }:=ja _ ho;have d1:=F.sub_list_set;have d2:=Wb;have d3:(W1 "list" == W1 "dict")=aD:=by decide
    have il:(s.heap.push (fU led)).IsList l its:=⟨_,g1,rfl,nl,rfl⟩;unfold Wr.«set.__init__»;unfold noKeywords Yr;generalize hPI:pyIter=PI
    wp_walk
    subst hPI;refine Y3 il (j5 (wpAny_runValue ?_));have lS:=jr ho;have ne:l≠(s.heap.push (fU led)).objs.size:=by rw[Zn]; exact jH (QB lS)
    have nS:s.heap.objs.size∉[(s.heap.push (fU led)).objs.size,l]:=by
     rw[Zn];intro z;obtain z |z:=jx.mp z
     ·exact absurd z (jH (Zj _))
     ·exact absurd (j9.mp z) (g9 lS)
    refine Tu ((Walks.list (show A.in1.in1.in1.handled=aB by simp[hh]) _ l ne its).toS) s.heap.objs.size nS ss hn (λi v x hv' hx=>hv i v x hv' hx) hb (its.size - 0) 0 _ (by lia) (QQ _) ⟨⟨_,jL _ rfl,rfl,rfl⟩,il.push _⟩ ?st ?fin
    case st=>exact(Wj (knd:=gR P w) led).setOf (ja _ g0) (by unfold Zv; lia)
    case fin=>
     intro s' mv hs';obtain⟨h',g',d',tk',os'⟩:=s';obtain rfl:g'=s.gens:=mv.gens;obtain rfl:d'=s.drawn:=mv.drawn;obtain rfl:os'=s.os:=mv.os;refine jm (jm ⟨rfl,h',tk',rfl,hs',λb o z e=>mv.heap b o (λy=>?_) (ja _ (ja _ e))⟩);rw[Zn] at y;obtain y |y:=jx.mp y
     ·exact absurd y (jH z)
     ·exact absurd (j9.mp y) (jH (QB z))
   ·cases r2 with
    |error e=>exact hr2
    |ok f2=>
     cases f2 with
     |ret r=>
      obtain⟨rfl,h',tk,rfl,y1,y2⟩:=hr2
      repeat (any_goals (first |wp_step |assumption))
      exact q _ _ y1 y2
     |_=>exact hr2.elim
  |_=>exact hr.elim
end
section
def setI(X:Cx)(a:jv)(l:am):HO:=.ext (IsSetI X.prog X.w a l)
def T1(hc:X.calm=aC):CallR X (.type "set") (λxs H Q=>∃(a:jv) (ss:am),xs=[V.ref a]/\aq X.K H a (ss.map V.int)/\ss.length < 1000/\∀ l,H l=aB->Q (.ref l) (aS H l (setI X l (i8 ss)))):=by
 intro pc s σ H xs us Q I rv h;obtain⟨a,ss,rfl,hq,hl,q⟩:=h;obtain⟨u,rfl,ru⟩:=rv.one;cases ru;obtain⟨its,r,p,hz⟩:=I.list hq;have hlen:=r.length;rw[j4] at hlen;refine VC (ss:=ss) (I.ok.hd hc) p.isList (by rw[jt]; exact hlen) (λi v x hv hx=>?_) (by rw[jt]; unfold Zv; lia) λh' tk hs k=>?_
 ·obtain⟨u,hu,ru⟩:=r.get (i:=i) (x:=V.int x) (by rw[jf,hx]; rfl)
  have e:v=u:=by
   rw[NQ,hu] at hv;exact(jh hv).symm
  rw[e];exact ru
 ·have new:ObjOk X.prog X.w (aS H s.heap.objs.size (setI X s.heap.objs.size (i8 ss))) h' s.heap.objs.size (setI X s.heap.objs.size (i8 ss)):=⟨hs,by obtain⟨o,_,_,_,e,_⟩:=hs; exact⟨o,e⟩,λh1 h2 x k=>x.at k⟩
  exact⟨.ref s.heap.objs.size,_,I.laid (a:=s.heap.objs.size) (t':=tk) (λb o e=>k b o (jr e) e) (jj _) new,rfl,q _ (I.hok.fresh (jj _))⟩
def TW:CallR X (.builtin "len") (λxs H Q=>∃(a:jv) (l:am),xs=[V.ref a]/\H a=aA (setI X a l)/\Q (.int l.length) H):=by
 intro pc s σ H xs us Q I rv h;obtain⟨a,l,rfl,ha,q⟩:=h;obtain⟨u,rfl,ru⟩:=rv.one;cases ru;obtain⟨hs,_,_⟩:=(I.hok a _ ha);obtain⟨o,es,ep,t,e,ex,d,_,_,b,f,n⟩:=hs;refine call_len_set e ex d f (by unfold Zv at b; lia) ?_
 rw[n];exact⟨.int l.length,H,I.tok _,⟨_,rfl⟩,q⟩
end
end L2
namespace L3
open PySem PySem.Spec PyProof.Rows L2
variable [TheK]
variable {X:Cx}{M:ak}{a b c e:Q5}{fa fb fe:DE}{p pos:Pos}
def i6(caps:af)(s:Sg):Sg:=caps.map λo=>o.bind λj=>(s[j]?).join
def dD(M:ak):af->Sg->Sg->Sg
 |some j::cs,x::xs,s=>dD M cs xs (if M.contains j then s.set j x else s)
 |none::cs,_::xs,s=>dD M cs xs s
 |_,_,s=>s
structure CapOk (caps:af) (M Mi:ak):Prop where
 yes:∀(i:Nat),i∈Mi->∃ j,caps[i]?=aA (aA j)/\j∈M
 no:∀(i j:Nat),caps[i]?=aA (aA j)->i∉Mi->j∉M
 inj:∀(i i' j:Nat),caps[i]?=aA (aA j)->caps[i']?=aA (aA j)->i=i'
def qz(caps:af)(M Mi:ak):Bool:=
 Mi.all (λi=>match caps[i]? with |some (aA j)=>M.contains j |_=>aD) &&
 (j7 caps.length).all (λi=>match caps[i]? with |some (aA j)=>Mi.contains i||!M.contains j |_=>aC) &&
 (j7 caps.length).all (λi=>(j7 caps.length).all λi'=>match caps[i]?,caps[i']? with |some (aA j),aA (aA j')=>j != j'||i == i' |_,_=>aC)
def CapOk.of{caps:af}{M Mi:ak}(h:qz caps M Mi=aC):CapOk caps M Mi:=by
 unfold qz at h;rw[jJ,jJ] at h;obtain⟨⟨h1,h2⟩,h3⟩:=h;have lt:∀ {i:Nat} {o:Option Nat},caps[i]?=aA o->i∈j7 caps.length:=λe=>je.mpr (j6.mp e).1;refine⟨λi hi=>?_,λi j e n=>?_,λi i' j e e'=>?_⟩
 ·have:=jB.mp h1 i hi;cases hc:caps[i]? with
  |none=>rw[hc] at this; cases this
  |some o=>cases o with
   |none=>rw[hc] at this; cases this
   |some j=>rw[hc] at this; exact⟨j,rfl,by simpa using this⟩
 ·have:=jB.mp h2 i (lt e);rw[e] at this;intro hj;have a:Mi.contains i=aD:=by simpa using n
  have b:M.contains j=aC:=by simpa using hj
  dsimp only at this;rw[a,b] at this;cases this
 ·have:=jB.mp (jB.mp h3 i (lt e)) i' (lt e');rw[e,e'] at this;simpa using this
def Ea{caps:af}{s:Sg}{i:Nat}{t:T}(h:(i6 caps s)[i]?=aA (aA t)):∃ j,caps[i]?=aA (aA j)/\s[j]?=aA (aA t):=by
 unfold i6 at h;rw[jf] at h;obtain⟨o,h1,h2⟩:=Qm h;cases o with
 |none=>cases h2
 |some j=>exact⟨j,h1,cv h2⟩
def F8{caps:af}{σ:L2.St}{i j:Nat}(h:caps[i]?=aA (aA j)):(cp caps σ)[i]?=aA (σ[j]?).join:=by
 unfold cp;rw[jf,h];rfl
def oW{caps:af}{σ:L2.St}{i:Nat}{v:V}(h:(cp caps σ)[i]?=aA (aA v)):∃ j,caps[i]?=aA (aA j)/\σ[j]?=aA (aA v):=by
 unfold cp at h;rw[jf] at h;obtain⟨o,h1,h2⟩:=Qm h;cases o with
 |none=>cases h2
 |some j=>
  refine⟨j,h1,?_⟩;have h2:(σ[j]?).join=aA v:=h2;cases e:σ[j]? with
  |none=>rw[e] at h2; cases h2
  |some x=>rw[e] at h2; cases x with
   |none=>cases h2
   |some y=>injection h2 with h2; rw[h2]
def Rel.cap{F:Fr}{O:jv->Prop}{M Mi:ak}{s:Sg}{σ:L2.St}{H:Hp}{caps:af}(R:Rel F O M s σ H)(c:CapOk caps M Mi):Rel F O Mi (i6 caps s) (cp caps σ) H:=by
 refine⟨by unfold i6 cp; simp,λi t e n=>?_,λi t e n=>?_,λi a hi e=>?_,λi i' a hi hi' e e'=>?_,R.keep,R.dom,R.fresh,R.inD,R.al⟩
 ·obtain⟨j,h1,h2⟩:=Ea e;obtain⟨v,h3,h4⟩:=R.val j t h2 (c.no i j h1 n);exact⟨v,by rw[F8 h1,h3]; rfl,h4⟩
 ·obtain⟨j,h1,h2⟩:=Ea e;obtain⟨j',h1',h3⟩:=c.yes i n;rw[h1] at h1';obtain rfl:j=j':=by injection h1' with h; injection h
  obtain⟨a,h4,L⟩:=R.own j t h2 h3;exact⟨a,by rw[F8 h1,h4]; rfl,L⟩
 ·obtain⟨j,h1,h2⟩:=oW e;obtain⟨j',h1',h3⟩:=c.yes i hi;rw[h1] at h1';obtain rfl:j=j':=by injection h1' with h; injection h
  exact R.ow j a h3 h2
 ·obtain⟨j,h1,h2⟩:=oW e;obtain⟨j',h1',h2'⟩:=oW e';obtain⟨k,hk,h3⟩:=c.yes i hi;obtain⟨k',hk',h3'⟩:=c.yes i' hi';rw[h1] at hk;rw[h1'] at hk';obtain rfl:j=k:=by injection hk with h; injection h
  obtain rfl:j'=k':=by injection hk' with h; injection h
  have:=R.dis j j' a h3 h3' h2 h2';subst this;exact c.inj i i' j h1 h1'
def wE(M:ak):∀(caps:af) (si s:Sg),(dD M caps si s).length=s.length
 |[],_,_=>by unfold dD; rfl
 |none::cs,[],s=>by unfold dD; rfl
 |some j::cs,[],s=>by unfold dD; rfl
 |none::cs,x::xs,s=>by unfold dD; exact wE M cs xs s
 |some j::cs,x::xs,s=>by
  unfold dD;rw[wE M cs xs];split
  ·rw[Qi]
  ·rfl
def tZ(M:ak){j:Nat}:∀(caps:af) (si s:Sg),(j∉M∨∀ i:Nat,caps[i]?≠aA (aA j))->(dD M caps si s)[j]?=s[j]?
 |[],_,_,_=>by unfold dD; rfl
 |none::cs,[],s,_=>by unfold dD; rfl
 |some k::cs,[],s,_=>by unfold dD; rfl
 |none::cs,x::xs,s,h=>by
  unfold dD;exact tZ M cs xs s (h.imp id λz i=>by simpa using z (i+1))
 |some k::cs,x::xs,s,h=>by
  unfold dD;rw[tZ M cs xs _ (h.imp id λz i=>by simpa using z (i+1))]
  split
  ·rename_i hk;refine jq λz=>?_;subst z;obtain h |h:=h
   ·exact h (by simpa using hk)
   ·exact h 0 rfl
  ·rfl
def zq(M:ak){j:Nat}(hj:j∈M):∀(caps:af) (si s:Sg) (i:Nat),caps[i]?=aA (aA j)->(∀ i':Nat,caps[i']?=aA (aA j)->i'=i)->i < si.length->j < s.length->(dD M caps si s)[j]?=si[i]?
 |[],_,_,i,e,_,_,_=>by simp at e
 |c::cs,[],s,i,_,_,hi,_=>by simp at hi
 |none::cs,x::xs,s,i,e,u,hi,hl=>by
  unfold dD;cases i with
  |zero=>simp at e
  |succ i=>
   rw[gS];exact zq M hj cs xs s i (by simpa using e) (λi' e'=>by simpa using u (i'+1) (by simpa using e')) (by simpa using hi) hl
 |some k::cs,x::xs,s,i,e,u,hi,hl=>by
  unfold dD;cases i with
  |zero=>
   have hk:k=j:=by simpa using e
   subst hk;rw[tZ M cs xs _ (.inr λi' e'=>by simpa using u (i'+1) (by simpa using e')),aI (by simpa using hj),jW hl]
   rfl
  |succ i=>
   rw[gS];refine zq M hj cs xs _ i (by simpa using e) (λi' e'=>by simpa using u (i'+1) (by simpa using e')) (by simpa using hi) ?_
   split
   ·rw[Qi]; exact hl
   ·exact hl
def Rel.back{F:Fr}{O:jv->Prop}{M Mi:ak}{s si:Sg}{σ σ2:L2.St}{H2 H4:Hp}{caps:af}(R:Rel F O M s σ H2)(c:CapOk caps M Mi)(S:Step σ2 Mi H2 H4)(Ri:Rel F O Mi si σ2 H4)
  (hk:∀(i j:Nat),caps[i]?=aA (aA j)->σ2[i]?=(cp caps σ)[i]?) (hl:si.length=caps.length):Rel F O M (dD M caps si s) σ H4:=by
 have addr:∀(i:Nat) b,i∈Mi->σ2[i]?=aA (aA (.ref b))->∃ j,caps[i]?=aA (aA j)/\j∈M/\σ[j]?=aA (aA (.ref b)):=λi b hi e=>by
  obtain⟨j,h1,h2⟩:=c.yes i hi;rw[hk i j h1] at e;obtain⟨j',h3,h4⟩:=oW e;rw[h1] at h3;obtain rfl:j=j':=by injection h3 with h; injection h
  exact⟨j,h1,h2,h4⟩
 have kf:∀ b u,Free F O b->H2 b=aA u->H4 b=aA u:=λb u z e=>S.keep b u (λi hi e'=>by
  obtain⟨j,_,h2,h3⟩:=addr i b hi e'
  exact z.1 (R.ow j b h2 h3)) e
 refine⟨by rw[wE]; exact R.len,λj t e n=>?_,λj t e n=>?_,R.ow,R.dis,Ri.keep,Ri.dom,R.fresh,R.inD,Ri.al⟩
 ·rw[tZ M caps si s (.inl n)] at e;obtain⟨v,h1,h2⟩:=R.val j t e n;exact⟨v,h1,h2.mono (λ_ c=>c) kf⟩
 ·by_cases hc:∃ i:Nat,caps[i]?=aA (aA j)
  ·obtain⟨i,hi⟩:=hc;have hlt:=(j6.mp hi).1;have hjl:j < s.length:=by
    have:=(j6.mp e).1
    rwa [wE] at this
   rw[zq M n caps si s i hi (λi' e'=>c.inj i' i j e' hi) (by lia) hjl] at e
   have him:=Decidable.byContradiction λz=>c.no i j hi z n;obtain⟨a,h1,L⟩:=Ri.own i t e him;obtain⟨j',h2,_,h3⟩:=addr i a him h1;rw[hi] at h2;obtain rfl:j=j':=by injection h2 with h; injection h
   exact⟨a,h3,L⟩
  ·rw[tZ M caps si s (.inr λi z=>hc ⟨i,z⟩)] at e;obtain⟨a,h1,L⟩:=R.own j t e n;refine⟨a,h1,L.mono (λ_ c=>c) kf λu e'=>S.keep a u (λi hi e''=>?_) e'⟩;obtain⟨j',h2,h3,h4⟩:=addr i a hi e'';have:=R.dis j j' a n h3 h1 h4;subst this;exact hc ⟨i,h2⟩
def o0(g:TG)(dg:DG)(Mi:ak)(caps:af):Prop:=∀ F O s t s' v σ H (Q:L2.St->Hp->Prop),Rel F O Mi s σ H->Rep (Free F O) H v t->dg t s=aA s'->
 (∀ σ',Rel F O Mi s' σ' H->(∀(i j:Nat),caps[i]?=aA (aA j)->σ'[i]?=σ[i]?)->σ'.length=σ.length->Q σ' H)->g v σ H Q
def iD{i:Nat}{Mi:ak}{caps:af}(hc:caps[i]?=aA aB:=by rfl)(hi:Mi.contains i=aD:=by rfl):o0 (eS i) (bK i) Mi caps:=by
 intro F O s t s' v σ H Q R r hg q;have hi':i∉Mi:=by simpa using hi
 unfold bK at hg;split at hg
 ·rename_i hl;cases hg;refine q _ (R.setE (λj hj=>⟨hj,λz=>hi' (z▸hj)⟩) (λj hj=>.inl hj) hl r) (λk j e=>?_) ?_;exact jq λz=>by subst z; rw[hc] at e; cases e
  exact Qi
 ·cases hg
def DZ{Mi:ak}{caps:af}{F:Fr}{O:jv->Prop}{H:Hp}{Q:L2.St->Hp->Prop}:∀ {is:ak} {ts:List T} {vs:List V} {s s':Sg} {σ:L2.St},Rel F O Mi s σ H->(∀ i,i∈is->i∉Mi/\caps[i]?=aA aB)->Reps (Free F O) H vs ts->iC is ts s=aA s'->
  (∀ σ',Rel F O Mi s' σ' H->(∀(i j:Nat),caps[i]?=aA (aA j)->σ'[i]?=σ[i]?)->σ'.length=σ.length->Q σ' H)->lG is vs σ H Q
 |[],[],vs,s,s',σ,R,_,h,e,q=>by
  cases e;exact⟨h.none,q σ R (λ_ _ _=>rfl) rfl⟩
 |[],t::ts,vs,s,s',σ,R,_,h,e,q=>by cases e
 |i::is,[],vs,s,s',σ,R,_,h,e,q=>by cases e
 |i::is,t::ts,[],s,s',σ,R,_,h,e,q=>by have:=h.1; simp at this
 |i::is,t::ts,v::vs,s,s',σ,R,hm,h,e,q=>by
  unfold iC at e;split at e
  ·rename_i hl;obtain⟨hi,hc⟩:=hm i jV;refine⟨v,vs,rfl,DZ (R.setE (λj hj=>⟨hj,λz=>hi (z▸hj)⟩) (λj hj=>.inl hj) hl h.head) (λj hj=>hm j (jA _ hj)) h.tail e fun σ' R' k l=>q σ' R' (λk' j e'=>(k k' j e').trans ?_) (l.trans Qi)⟩;exact jq λz=>by subst z; rw[hc] at e'; cases e'
  ·cases e
def G1:∀ {is:ak} {ts:List T} {s s':Sg},iC is ts s=aA s'->ts.length=is.length
 |[],[],_,_,_=>rfl
 |[],_::_,_,_,e=>by cases e
 |_::_,[],_,_,e=>by cases e
 |i::is,t::ts,s,s',e=>by
  unfold iC at e;split at e
  ·rw[jo,jo,G1 e]
  ·cases e
def vD{is:ak}{n:Nat}{K:jd}{Mi:ak}{caps:af}(hn:is.length=n:=by rfl)(h:is.all (λi=>!Mi.contains i&&caps[i]? == aA aB)=aC:=by rfl):o0 (ia K n (lG is)) (fK is) Mi caps:=by
 intro F O s t s' v σ H Q R r hg q;obtain⟨ts,rfl⟩:∃ ts,t=.tup ts:=by cases t<;>first |exact⟨_,rfl⟩ |cases hg
 have hg:=hg;obtain⟨a,vs,rfl,ha,ra⟩:=BRep.tup (.inl r);refine⟨a,vs,rfl,cL.of ha,by rw[ra.1,G1 hg,hn],DZ R (λi hi=>?_) ra hg q⟩
 have:=jB.mp h i hi;rw[jJ] at this;exact⟨by simpa using this.1,by simpa using this.2⟩
@[irreducible] def zgq:Nat:=1000000
def Er:zgq=1000000:=by unfold zgq; rfl
def o8(M:ak)(caps:af)(dg:DG)(ft:DT)(fe:DE):List T->List T->Sg->Option (List T × Sg)
 |[],acc,s=>aA (acc,s)
 |x::xs,acc,s=>(dg x (i6 caps s)).bind λs1=>(ft s1).bind λp=>if p.1 then (fe p.2).bind λq=>o8 M caps dg ft fe xs (acc++[q.1]) (dD M caps q.2 s) else o8 M caps dg ft fe xs acc (dD M caps p.2 s)
def du(M:ak)(caps:af)(fi:DI)(dg:DG)(ft:DT)(fe:DE):DE:=λs=>(fi s).bind λp=>if p.1.length<=zgq then (o8 M caps dg ft fe p.1 [] p.2).map λq=>(.lst q.1,q.2) else aB
def dR:DT:=λs=>aA (aC,s)
def Cj{M Mi:ak}{caps:af}{fi:DI}{g:TG}{dg:DG}{ft:DT}{fe:DE}{tt:TT}(c:CapOk caps M Mi)(hg:o0 g dg Mi caps)(htt:∀ σ H Q,cT Mi ft σ H Q->tt σ H Q) :
  ∀ σ H Q,cE .n M (du M caps fi dg ft fe) σ H Q->ql caps (cI M fi) g tt (cE .e Mi fe) σ H Q:=by
 intro σ H Q h_;refine bz h_ λF O s t s' R hf q=>?_;obtain⟨⟨its,s1⟩,h1,h2⟩:=Qb hf;split at h2
 case isFalse=>cases h2
 rename_i hsz;have hsz:its.length<=zgq:=hsz;rw[Er] at hsz;obtain⟨⟨tsE,sE⟩,h3,h4⟩:=Qm h2;cases h4;refine⟨F,O,s,its,s1,R,h1,λJ H1 S1 R1 IT D hD=>?_⟩;have nD:∀(j:Nat),j∈M->σ[j]?≠aA (aA (.ref D)):=λj hj e=>R1.al D (R1.ow j D hj e) hD;have RD:=R1.new hD (.lst [])
 refine⟨λi m H'=>m=its.length - i/\i<=its.length/\∃ s' acc ys,Rel F (λb=>O b∨b=D) M s' σ H'/\H' D=aA (.lst ys)/\ys.length<=i/\Reps (Free F (λb=>O b∨b=D)) H' ys acc/\Step σ M H H' /\
  (∀ b o,Free F O b->H1 b=aA o->H' b=aA o)/\o8 M caps dg ft fe (its.drop i) acc s'=aA (tsE,sE),⟨its.length,by simp,QQ _,s1,[],[],RD,cD,jj _,.nil,S1.trans (.new hD _),λb o _ e=>by rw[au (dA e hD)]; exact e,h3⟩,?_⟩
 rintro i m H2 ⟨rfl,hi,s2,acc,ys,R2,hD2,hy,ry,S2,k2,hl⟩;have it:=IT H2 k2 i
 by_cases hlt:i < its.length
 ·refine .inr ?_;obtain⟨go,yl⟩:=it.1 its[i] (j3 hlt);rw[ZB hlt] at hl;unfold o8 at hl;obtain⟨si1,hdg,hl⟩:=Qb hl;obtain⟨⟨b,si2⟩,hft,hl⟩:=Qb hl;refine⟨go,λx H3 hy3=>?_⟩;obtain⟨y1,y2⟩:=yl x H3 hy3
  -- what was yielded is free of D
  have R3:Rel F (λb=>O b∨b=D) M s2 σ H3/\(∀ b u,H2 b=aA u->H3 b=aA u)/\(∀ b,H3 b=aB->H2 b=aB):=by
   obtain rfl |⟨p,o,hp,rfl⟩:=y1
   ·exact⟨R2,λ_ _ e=>e,λ_ e=>e⟩
   ·exact⟨(R2.new hp o).less (λb z=>.inl z) R2.ow R2.inD,λb u e=>by rw[au (dA e hp)]; exact e,λb e=>by
     unfold aS at e;split at e
     ·cases e
     ·exact e⟩
  obtain⟨R3,k3,dm3⟩:=R3
  have rx:Rep (Free F (λb=>O b∨b=D)) H3 x its[i]:=y2.mono (λb z=>by
   obtain ⟨z,n⟩ |n:=z
   ·exact⟨λy=>y.elim z.1 λy=>n (y▸hD),z.2⟩
   ·exact⟨λy=>R2.al b y n,.inr (R2.dom b n)⟩) λ_ _ _ e=>e
  have ry3:=ry.mono (λ_ z=>z) λb o _ e=>k3 b o e;have hD3:=k3 _ _ hD2;refine hg F _ (i6 caps s2) its[i] si1 x (cp caps σ) H3 _ (R3.cap c) rx hdg fun σ4 R4 hk4 hl4=>?_;have hsl:∀ {sx:Sg} {Hx:Hp},Rel F (λb=>O b∨b=D) Mi sx σ4 Hx->sx.length=caps.length:=λ{sx Hx} Rx=>by
   rw[Rx.len,hl4];unfold cp;rw[j4]
  have nD4:∀(k:Nat),k∈Mi->σ4[k]?≠aA (aA (.ref D)):=λk hk e=>by
   obtain⟨j,e1,e2⟩:=c.yes k hk;rw[hk4 k j e1] at e;obtain⟨j',e3,e4⟩:=oW e;rw[e1] at e3;obtain rfl:j=j':=by injection e3 with h; injection h
   exact nD j e2 e4
  refine htt _ _ _ ⟨F,_,si1,b,si2,R4,hft,λH5 S5 R5=>?_⟩;have freeK:∀ {Hx Hy:Hp},Step σ4 Mi Hx Hy->∀ b o,(Free F O b/\b≠D)->Hx b=aA o->Hy b=aA o:=λ{Hx Hy} Sx b o z e=>Sx.keep b o (R4.notOwned λy=>y.elim z.1.1 z.2) e
  have S3':∀ {Hx:Hp},Step σ4 Mi H3 Hx->Step σ M H Hx:=λ{Hx} Sx=>⟨λb o n e=>Sx.keep b o (λk hk e'=>by
   obtain⟨j,e1,e2⟩:=c.yes k hk;rw[hk4 k j e1] at e';obtain⟨j',e3,e4⟩:=oW e';rw[e1] at e3;obtain rfl:j=j':=by injection e3 with h; injection h
   exact n j e2 e4) (k3 b o (S2.keep b o n e)),λb e=>S2.dom b (dm3 b (Sx.dom b e))⟩
  have keepF:∀ {Hx:Hp},Step σ4 Mi H3 Hx->∀ b o,Free F O b->H1 b=aA o->Hx b=aA o:=λ{Hx} Sx b o z e=>freeK Sx b o ⟨z,λy=>by rw[y,hD] at e; cases e⟩ (k3 b o (k2 b o z e))
  cases b with
  |false=>
   rw[aH jO] at hl;dsimp only;rw[aH jO];exact⟨its.length - (i+1),by lia,rfl,hlt,dD M caps si2 s2,acc,ys,R3.back c S5 R5 hk4 (hsl R5),S5.keep D _ nD4 hD3,J4 hy,ry3.mono (λ_ z=>z) λb o z e=>S5.keep b o (R4.notOwned z.1) e,S3' S5,keepF S5,hl⟩
  |true=>
   rw[aI rfl] at hl;dsimp only;rw[aI rfl];obtain⟨⟨te,si3⟩,hfe,hl⟩:=Qb hl;refine⟨F,_,si2,te,si3,R5,hfe,λy H6 S6 p6=>?_⟩;have S56:=S5.trans S6;have hD6:=S56.keep D _ nD4 hD3;have R6:=R3.back c S56 p6.1 hk4 (hsl p6.1);refine⟨ys,hD6,by rw[Zi]; lia,its.length - (i+1),by lia,rfl,hlt,dD M caps si3 s2,acc++[te],ys++[y],?_,cD,by rw[jk,Zu]; lia,?_,?_,?_,hl⟩
   ·-- D is nobody's: writing there keeps the relation
    have kD:∀ b u,b≠D->H6 b=aA u->aS H6 D (.lst (ys++[y])) b=aA u:=λb u n e=>by rw[au n]; exact e
    refine⟨R6.len,λj t e n=>?_,λj t e n=>?_,R6.ow,R6.dis,λb u n e=>?_,λb e=>?_,R6.fresh,R6.inD,λb z e=>?_⟩
    ·obtain⟨v,a1,a2⟩:=R6.val j t e n;exact⟨v,a1,a2.mono (λ_ z=>z) λb u z e=>kD b u (λw=>z.1 (.inr w)) e⟩
    ·obtain⟨a,a1,a2⟩:=R6.own j t e n;exact⟨a,a1,a2.mono (λ_ z=>z) (λb u z e=>kD b u (λw=>z.1 (.inr w)) e) λu e=>kD a u (λw=>nD j n (w▸a1)) e⟩
    ·refine kD b u (λw=>?_) (R6.keep b u n e);subst w;have:=R1.dom b hD;rw[this] at e; cases e
    ·refine R6.dom b ?_;unfold aS at e;split at e
     ·cases e
     ·exact e
    ·refine R6.al b z ?_;unfold aS at e;split at e
     ·cases e
     ·exact e
   ·have r1:=(ry3.mono (λ_ z=>z) λb o z e=>S56.keep b o (R4.notOwned z.1) e).snoc p6.2;exact r1.mono (λ_ z=>z) λb u z e=>by rw[au (λw=>z.1 (.inr w))]; exact e
   ·exact⟨λb o n e=>by rw[au (dA e (S1.dom D hD))]; exact(S3' S56).keep b o n e,λb e=>(S3' S56).dom b (by
     unfold aS at e;split at e
     ·cases e
     ·exact e)⟩
   ·exact λb o z e=>by rw[au (dA e hD)]; exact keepF S56 b o z e
 ·have e:i=its.length:=by lia
  subst e;rw[Nq] at hl;cases hl;exact .inl ⟨it.2 (jj _),q _ H2 S2 ⟨D,rfl,S1.dom D hD,R2,.lst hD2 ry⟩⟩
def sU{X:Cx}{e:Q5}{t t':TE}(h:PE X e t)(h':PE X e t'):PE X e (fun σ H Q=>t σ H Q∨t' σ H Q):=λpc s σ H Q I q=>q.elim (h pc s σ H Q I) (h' pc s σ H Q I)
def C6{X:Cx}{e:Q5}{t t':TT}(h:PT X e t)(h':PT X e t'):PT X e (fun σ H Q=>t σ H Q∨t' σ H Q):=λpc s σ H Q I q=>q.elim (h pc s σ H Q I) (h' pc s σ H Q I)
def xW{X:Cx}{tg e:Q5}{t t':TI}(h:PI X tg e t)(h':PI X tg e t'):PI X tg e (fun σ H R=>t σ H R∨t' σ H R):=λpc s σ H R I q=>q.elim (h pc s σ H R I) (h' pc s σ H R I)
def su{M:ak}{k k' k2:Kd}{f f' f2:DE}(hs:∀ s p,f2 s=aA p->f s=aA p∨f' s=aA p)(hk:∀ F O σ H s' t v H' (s:Sg),Rel F O M s σ H->Post k F O M σ H s' t v H'->Post k2 F O M σ H s' t v H')(hk':∀ F O σ H s' t v H' (s:Sg),Rel F O M s σ H->Post k' F O M σ H s' t v H'->Post k2 F O M σ H s' t v H') :
  ∀ σ H Q,cE k2 M f2 σ H Q->cE k M f σ H Q∨cE k' M f' σ H Q:=by
 intro σ H Q h_;refine bz h_ λF O s t s' R hf q=>?_;obtain h |h:=hs s _ hf
 ·exact .inl ⟨F,O,s,t,s',R,h,λv H' S p=>q v H' S (hk F O σ H s' t v H' s R p)⟩
 ·exact .inr ⟨F,O,s,t,s',R,h,λv H' S p=>q v H' S (hk' F O σ H s' t v H' s R p)⟩
def dk(g g':T->T->Option T):T->T->Option T:=λx y=>match g x y with
 |some t=>aA t
 |none=>g' x y
def Dm{g g':T->T->Option T}{x y:T}{t:T}(h:dk g g' x y=aA t):g x y=aA t∨g' x y=aA t:=by
 unfold dk at h;cases e:g x y with
 |none=>rw[e] at h; exact .inr h
 |some u=>rw[e] at h; exact .inl h
def sZ{g g':T->T->Option T}{fa fb:DE}:∀ s p,d2 (dk g g') fa fb s=aA p->d2 g fa fb s=aA p∨d2 g' fa fb s=aA p:=λs p h=>by
 obtain⟨t,s'⟩:=p;obtain⟨x,s1,y,h1,h2,h3⟩:=vM h;obtain e |e:=Dm h3
 ·left; unfold d2; rw[h1,jb,h2,jb,e]; rfl
 ·right; unfold d2; rw[h1,jb,h2,jb,e]; rfl
def Lk{g g':T->T->Option T}{i:Nat}{fb:DE}:∀ s p,cC (dk g g') i fb s=aA p->cC g i fb s=aA p∨cC g' i fb s=aA p:=λs p h=>by
 obtain⟨t,s'⟩:=p;obtain⟨x0,x,y,h0,h1,h2,h3⟩:=zR h;have j0:(s[i]?).join=aA x0:=by rw[h0]; rfl
 have j2:(s'[i]?).join=aA x:=by rw[h2]; rfl
 obtain e |e:=Dm h3
 ·left; unfold cC; rw[j0,jb,h1,jb,j2,jb,e]; rfl
 ·right; unfold cC; rw[j0,jb,h1,jb,j2,jb,e]; rfl
def aM:=dk iE qA
def nE:=dk xL By
def eV:=dk t3 yj
def bV:=dk q5 nC
section
def om:∀(F:Fr) (O:jv->Prop) (σ:L2.St) (H:Hp) (s':Sg) (t:T) (v:V) (H':Hp) (s:Sg),Rel F O M s σ H->Post .e F O M σ H s' t v H'->Post .e F O M σ H s' t v H':=λ_ _ _ _ _ _ _ _ _ _ p=>p
def Gy:∀(F:Fr) (O:jv->Prop) (σ:L2.St) (H:Hp) (s':Sg) (t:T) (v:V) (H':Hp) (s:Sg),Rel F O M s σ H->Post .n F O M σ H s' t v H'->Post .e F O M σ H s' t v H':=λ_ _ _ _ _ _ _ _ _ R p=>p.ne R
def ED{f f' f2:DE}(hs:∀ s p,f2 s=aA p->f s=aA p∨f' s=aA p):∀ σ H Q,cT M (dB f2) σ H Q->cT M (dB f) σ H Q∨cT M (dB f') σ H Q:=by
 intro σ H Q h_;refine qv h_ λF O s b s' R hf q=>?_;obtain h |h:=hs s _ (yw hf)
 ·exact .inl ⟨F,O,s,b,s',R,by unfold dB; rw[h]; rfl,q⟩
 ·exact .inr ⟨F,O,s,b,s',R,by unfold dB; rw[h]; rfl,q⟩
def cm(x:T)(lo hi:Option Int):Option T:=match x with
 |.str _=>o7 x lo hi
 |_=>iw x lo hi
def Ll{fl fh:DO}:∀ s p,dS cm fa fl fh s=aA p->dS o7 fa fl fh s=aA p∨dS iw fa fl fh s=aA p:=λs p h=>by
 obtain⟨p1,h1,h2⟩:=Qb h;obtain⟨q1,h3,h4⟩:=Qb h2;obtain⟨r1,h5,h6⟩:=Qb h4;obtain⟨t,h7,h8⟩:=Qm h6;have e:o7 p1.1 q1.1 r1.1=aA t∨iw p1.1 q1.1 r1.1=aA t:=by
  unfold cm at h7;split at h7
  ·exact .inl h7
  ·exact .inr h7
 obtain e |e:=e
 ·left; unfold dS; rw[h1,jb,h3,jb,h5,jb,e]; exact congrArg aA h8
 ·right; unfold dS; rw[h1,jb,h3,jb,h5,jb,e]; exact congrArg aA h8
def kT:aL->T
 |.inl i=>.int i
 |.inr x=>.str x
def MD{C:jv->Prop}{H:Hp}(k:aL):Rep C H (kV k) (kT k):=by
 cases k with
 |inl i=>exact .int i
 |inr x=>exact .str x
def wB{C:jv->Prop}{H:Hp}:∀ {vs:List (aL × V)} {ts:List (aL × T)},vs.map (·.1)=ts.map (·.1)->Reps C H (vs.map λkv=>kV kv.1) (ts.map λkv=>kT kv.1)
 |[],[],_=>.nil
 |p::vs,[],h=>by simp at h
 |[],q::ts,h=>by simp at h
 |p::vs,q::ts,h=>by
  rw[jp,jp] at h;injection h with h1 h2;rw[jp,jp,h1];exact .cons (MD _) (wB h2)
def rE(c:Nat):T:=.str ⟨#[c]⟩
def bc(f:DE):DI:=λs=>(f s).bind λp=>match p.1 with
 |.lst xs=>aA (xs,p.2)
 |.scr ns=>aA (ns.map .int,p.2)
 |.tup xs=>aA (xs,p.2)
 |.fd kvs=>aA (kvs.map λkv=>kT kv.1,p.2)
 |.str x=>aA (x.cps.toList.map rE,p.2)
 |_=>aB
def Br(f:DE):DI:=λs=>(f s).bind λp=>match p.1 with
 |.fd kvs=>aA (kvs.map λkv=>kT kv.1,p.2)
 |_=>aB
def Bs(f:DE):DI:=λs=>(f s).bind λp=>match p.1 with
 |.str x=>aA (x.cps.toList.map rE,p.2)
 |_=>aB
def PU{F:Fr}{O:jv->Prop}{H1:Hp}{a:jv}{o:Obj}{kvs:List (aL × V)}{f:aL × V->V}{ts:List T}(fr:Free F O a)(ha:H1 a=aA (.frz o (.dK kvs)))(r:Reps (Free F O) H1 (kvs.map f) ts):qy F O ts (Bk f a o) H1:=by
 intro H2 k i;have h2:=k a _ fr ha;have hl0:kvs.length=ts.length:=by have:=r.1; simpa using this
 refine⟨λt ht=>?_,λhl=>⟨kvs,h2,by rw[hl0]; exact hl⟩⟩
 obtain⟨v,hv,rv⟩:=r.get ht;rw[jf] at hv;obtain⟨y,hy,hyv⟩:=Qm hv;refine⟨⟨kvs,y,h2,hy⟩,λx H3 ⟨e1,e2⟩=>⟨.inl e1,?_⟩⟩;have:=e2 kvs h2;rw[hy] at this;have hx:=jh this;subst hx hyv e1;exact rv.there.mono (λb c=>.inl c) λb o c e=>k b o c.1 e
def HU{tg:Q5}(h:PE X e (cE .e M fe)):PI X tg e (cI M (Br fe)):=nM (P3 h) (by
 intro σ H R h_;refine nt h_ λF O s its s' Rl hf q=>?_;obtain⟨⟨p1,p2⟩,h1,h2⟩:=Qb hf;obtain⟨ks,rfl⟩:∃ ks,p1=.fd ks:=by cases p1<;>first |exact⟨_,rfl⟩ |cases h2
 cases h2;refine⟨F,O,s,_,_,Rl,h1,λv H1 S1 p=>?_⟩;obtain⟨a,o,kvs,rfl,ha,ra,fr⟩:=BRep.fd (.inl p.2)
 exact⟨a,o,kvs,rfl,ha,q _ H1 S1 p.1 (PU fr ha (wB ra.1))⟩)
def M9{tg:Q5}(h:PE X e (cE .e M fe)):PI X tg e (cI M (Bs fe)):=nM (P6 h) (by
 intro σ H R h_;refine nt h_ λF O s its s' Rl hf q=>?_;obtain⟨⟨p1,p2⟩,h1,h2⟩:=Qb hf;obtain⟨x,rfl⟩:∃ x,p1=.str x:=by cases p1<;>first |exact⟨_,rfl⟩ |cases h2
 cases h2;refine⟨F,O,s,_,_,Rl,h1,λv H1 S1 p=>?_⟩;refine⟨x,BRep.str (.inl p.2),q _ H1 S1 p.1 ?_⟩;intro H2 k i;refine⟨λt ht=>?_,λhl=>by simpa[xS] using hl⟩
 rw[jf] at ht;obtain⟨c,hc,rfl⟩:=Qm ht;have hc':x.cps[i]?=aA c:=by simpa using hc
 refine⟨(Array.getElem?_eq_some_iff.mp hc').1,λy H3 ⟨e1,c',e2,e3⟩=>⟨.inl e1,?_⟩⟩;rw[hc'] at e2;cases e2;subst e3
 exact .str _)
variable {es:List Q5}{fs:DA}{x:Str}{k:Nat}{f:jv}{fd:Zl}{ps:aj}{np:Nat}
def iP{Mi:ak}:∀ σ H Q,cT Mi dR σ H Q->xk σ H Q:=by
 intro σ H Q h_;refine qv h_ λF O s b s' R hf q=>?_;cases hf;exact q H .refl R
def xr{st:QX}{t t':TE}{g:TG}(h:PS X st (ef t g))(hw:∀ σ H Q,t' σ H Q->t σ H Q):PS X st (ef t' g):=fP h λD σ H q=>hw σ H _ q
end
def lW(M:ak)(caps:af)(dg:DG)(ft:DT)(fk fe:DE):List T->List (aL × T)->Sg->Option (List (aL × T) × Sg)
 |[],acc,s=>aA (acc,s)
 |x::xs,acc,s=>(dg x (i6 caps s)).bind λs1=>(ft s1).bind λp=>if p.1 then (fk p.2).bind λr=>(d6 r.1).bind λk=>(fe r.2).bind λq=>lW M caps dg ft fk fe xs (dI acc k q.1) (dD M caps q.2 s) else lW M caps dg ft fk fe xs acc (dD M caps p.2 s)
def nq(M:ak)(caps:af)(fi:DI)(dg:DG)(ft:DT)(fk fe:DE):DE:=λs=>(fi s).bind λp=>if p.1.length<=zgq then (lW M caps dg ft fk fe p.1 [] p.2).map λq=>(.dct q.1,q.2) else aB
def CP{M Mi:ak}{caps:af}{fi:DI}{g:TG}{dg:DG}{ft:DT}{fk fe:DE}{tt:TT}(c:CapOk caps M Mi)(hg:o0 g dg Mi caps)(htt:∀ σ H Q,cT Mi ft σ H Q->tt σ H Q) :
  ∀ σ H Q,cE .n M (nq M caps fi dg ft fk fe) σ H Q->qm caps (cI M fi) g tt (cE .e Mi fk) (cE .e Mi fe) σ H Q:=by
 intro σ H Q h_;refine bz h_ λF O s t s' R hf q=>?_;obtain⟨⟨its,s1⟩,h1,h2⟩:=Qb hf;split at h2
 case isFalse=>cases h2
 rename_i hsz;have hsz:its.length<=zgq:=hsz;rw[Er] at hsz;obtain⟨⟨tsE,sE⟩,h3,h4⟩:=Qm h2;cases h4;refine⟨F,O,s,its,s1,R,h1,λJ H1 S1 R1 IT D hD=>?_⟩;have nD:∀(j:Nat),j∈M->σ[j]?≠aA (aA (.ref D)):=λj hj e=>R1.al D (R1.ow j D hj e) hD;have RD:=R1.new hD (.dK [])
 refine⟨λi m H'=>m=its.length - i/\i<=its.length/\∃ s' acc ys,Rel F (λb=>O b∨b=D) M s' σ H'/\H' D=aA (.dK ys)/\ys.length<=i/\RepK (Free F (λb=>O b∨b=D)) H' ys acc/\Step σ M H H' /\
  (∀ b o,Free F O b->H1 b=aA o->H' b=aA o)/\lW M caps dg ft fk fe (its.drop i) acc s'=aA (tsE,sE),⟨its.length,by simp,QQ _,s1,[],[],RD,cD,jj _,⟨rfl,λi v t e=>by simp at e⟩,S1.trans (.new hD _),λb o _ e=>by rw[au (dA e hD)]; exact e,h3⟩,?_⟩
 rintro i m H2 ⟨rfl,hi,s2,acc,ys,R2,hD2,hy,ry,S2,k2,hl⟩;have it:=IT H2 k2 i
 by_cases hlt:i < its.length
 ·refine .inr ?_;obtain⟨go,yl⟩:=it.1 its[i] (j3 hlt);rw[ZB hlt] at hl;unfold lW at hl;obtain⟨si1,hdg,hl⟩:=Qb hl;obtain⟨⟨b,si2⟩,hft,hl⟩:=Qb hl;refine⟨go,λx H3 hy3=>?_⟩;obtain⟨y1,y2⟩:=yl x H3 hy3
  -- what was yielded is free of D
  have R3:Rel F (λb=>O b∨b=D) M s2 σ H3/\(∀ b u,H2 b=aA u->H3 b=aA u)/\(∀ b,H3 b=aB->H2 b=aB):=by
   obtain rfl |⟨p,o,hp,rfl⟩:=y1
   ·exact⟨R2,λ_ _ e=>e,λ_ e=>e⟩
   ·exact⟨(R2.new hp o).less (λb z=>.inl z) R2.ow R2.inD,λb u e=>by rw[au (dA e hp)]; exact e,λb e=>by
     unfold aS at e;split at e
     ·cases e
     ·exact e⟩
  obtain⟨R3,k3,dm3⟩:=R3
  have rx:Rep (Free F (λb=>O b∨b=D)) H3 x its[i]:=y2.mono (λb z=>by
   obtain ⟨z,n⟩ |n:=z
   ·exact⟨λy=>y.elim z.1 λy=>n (y▸hD),z.2⟩
   ·exact⟨λy=>R2.al b y n,.inr (R2.dom b n)⟩) λ_ _ _ e=>e
  have ry3:=ry.mono (λ_ z=>z) λb o _ e=>k3 b o e;have hD3:=k3 _ _ hD2;refine hg F _ (i6 caps s2) its[i] si1 x (cp caps σ) H3 _ (R3.cap c) rx hdg fun σ4 R4 hk4 hl4=>?_;have hsl:∀ {sx:Sg} {Hx:Hp},Rel F (λb=>O b∨b=D) Mi sx σ4 Hx->sx.length=caps.length:=λ{sx Hx} Rx=>by
   rw[Rx.len,hl4];unfold cp;rw[j4]
  have nD4:∀(k:Nat),k∈Mi->σ4[k]?≠aA (aA (.ref D)):=λk hk e=>by
   obtain⟨j,e1,e2⟩:=c.yes k hk;rw[hk4 k j e1] at e;obtain⟨j',e3,e4⟩:=oW e;rw[e1] at e3;obtain rfl:j=j':=by injection e3 with h; injection h
   exact nD j e2 e4
  refine htt _ _ _ ⟨F,_,si1,b,si2,R4,hft,λH5 S5 R5=>?_⟩;have freeK:∀ {Hx Hy:Hp},Step σ4 Mi Hx Hy->∀ b o,(Free F O b/\b≠D)->Hx b=aA o->Hy b=aA o:=λ{Hx Hy} Sx b o z e=>Sx.keep b o (R4.notOwned λy=>y.elim z.1.1 z.2) e
  have S3':∀ {Hx:Hp},Step σ4 Mi H3 Hx->Step σ M H Hx:=λ{Hx} Sx=>⟨λb o n e=>Sx.keep b o (λk hk e'=>by
   obtain⟨j,e1,e2⟩:=c.yes k hk;rw[hk4 k j e1] at e';obtain⟨j',e3,e4⟩:=oW e';rw[e1] at e3;obtain rfl:j=j':=by injection e3 with h; injection h
   exact n j e2 e4) (k3 b o (S2.keep b o n e)),λb e=>S2.dom b (dm3 b (Sx.dom b e))⟩
  have keepF:∀ {Hx:Hp},Step σ4 Mi H3 Hx->∀ b o,Free F O b->H1 b=aA o->Hx b=aA o:=λ{Hx} Sx b o z e=>freeK Sx b o ⟨z,λy=>by rw[y,hD] at e; cases e⟩ (k3 b o (k2 b o z e))
  cases b with
  |false=>
   rw[aH jO] at hl;dsimp only;rw[aH jO];exact⟨its.length - (i+1),by lia,rfl,hlt,dD M caps si2 s2,acc,ys,R3.back c S5 R5 hk4 (hsl R5),S5.keep D _ nD4 hD3,J4 hy,ry3.mono (λ_ z=>z) λb o z e=>S5.keep b o (R4.notOwned z.1) e,S3' S5,keepF S5,hl⟩
  |true=>
   rw[aI rfl] at hl;dsimp only;rw[aI rfl];obtain⟨⟨tk,si3⟩,hfk,hl⟩:=Qb hl;obtain⟨k,hkk,hl⟩:=Qb hl;obtain⟨⟨te,si4⟩,hfe,hl⟩:=Qb hl;refine⟨F,_,si2,tk,si3,R5,hfk,λky H5' S5' p5=>⟨F,_,si3,te,si4,p5.1,hfe,λy H6 S6 p6=>?_⟩⟩;have S56:=(S5.trans S5').trans S6;have hD6:=S56.keep D _ nD4 hD3;have R6:=R3.back c S56 p6.1 hk4 (hsl p6.1);cases oR (.inl p5.2) hkk;have lp:=tq ys k y;refine⟨ys,k,hD6,rfl,by rw[Zi]; lia,its.length - (i+1),by lia,rfl,hlt,dD M caps si4 s2,dI acc k te,dv ys k y,?_,cD,by lia,?_,?_,?_,hl⟩
   ·-- D is nobody's: writing there keeps the relation
    have kD:∀ b u,b≠D->H6 b=aA u->aS H6 D (.dK (dv ys k y)) b=aA u:=λb u n e=>by rw[au n]; exact e
    refine⟨R6.len,λj t e n=>?_,λj t e n=>?_,R6.ow,R6.dis,λb u n e=>?_,λb e=>?_,R6.fresh,R6.inD,λb z e=>?_⟩
    ·obtain⟨v,a1,a2⟩:=R6.val j t e n;exact⟨v,a1,a2.mono (λ_ z=>z) λb u z e=>kD b u (λw=>z.1 (.inr w)) e⟩
    ·obtain⟨a,a1,a2⟩:=R6.own j t e n;exact⟨a,a1,a2.mono (λ_ z=>z) (λb u z e=>kD b u (λw=>z.1 (.inr w)) e) λu e=>kD a u (λw=>nD j n (w▸a1)) e⟩
    ·refine kD b u (λw=>?_) (R6.keep b u n e);subst w;have:=R1.dom b hD;rw[this] at e; cases e
    ·refine R6.dom b ?_;unfold aS at e;split at e
     ·cases e
     ·exact e
    ·refine R6.al b z ?_;unfold aS at e;split at e
     ·cases e
     ·exact e
   ·have r1:RepK (Free F (λb=>O b∨b=D)) H6 (dv ys k y) (dI acc k te):=(ry3.mono (λ_ z=>z) λb o z e=>S56.keep b o (R4.notOwned z.1) e).put p6.2;exact r1.mono (λ_ z=>z) λb u z e=>by rw[au (λw=>z.1 (.inr w))]; exact e
   ·exact⟨λb o n e=>by rw[au (dA e (S1.dom D hD))]; exact(S3' S56).keep b o n e,λb e=>(S3' S56).dom b (by
     unfold aS at e;split at e
     ·cases e
     ·exact e)⟩
   ·exact λb o z e=>by rw[au (dA e hD)]; exact keepF S56 b o z e
 ·have e:i=its.length:=by lia
  subst e;rw[Nq] at hl;cases hl;exact .inl ⟨it.2 (jj _),q _ H2 S2 ⟨D,rfl,S1.dom D hD,R2,.dct hD2 ry⟩⟩
section
variable {fc fk:DE}
def nP:T->Option T
 |.lst xs=>aA (.lst xs) |.tup xs=>aA (.lst xs) |.scr ns=>aA (.lst (ns.map .int)) |.dct kvs=>aA (.lst (kvs.map λkv=>kT kv.1)) |.fd kvs=>aA (.lst (kvs.map λkv=>kT kv.1))
 |_=>aB
def RB:xP (λxs H Q=>(∃ p ys,xs=[.ref p]/\(aq TheK.K H p ys∨cL TheK.K H p ys)/\∀ l,H l=aB->Q (.ref l) (aS H l (.lst ys)))∨∃ a kvs,xs=[V.ref a]/\Rd H a (.dK kvs)/\∀ l,H l=aB->Q (.ref l) (aS H l (.lst (kvs.map λkv=>kV kv.1)))) nP:=by
 intro C H x tx t Q bx hg q;cases tx with
 |dct ts=>
  injection hg with hg; subst hg;obtain⟨a,kvs,rfl,ha,ra⟩:=bx.dct;exact .inr ⟨a,kvs,rfl,.inl ha,λp hp=>q p _ hp λC' hC=>.lst cD (wB ra.1)⟩
 |fd ts=>
  injection hg with hg; subst hg;obtain⟨a,ob,kvs,rfl,ha,ra,_⟩:=bx.fd;exact .inr ⟨a,kvs,rfl,.inr ⟨ob,ha⟩,λp hp=>q p _ hp λC' hC=>.lst cD (wB ra.1)⟩
 |lst ts=>exact .inl (yf C H x (.lst ts) t Q bx hg q)
 |tup ts=>exact .inl (yf C H x (.tup ts) t Q bx hg q)
 |scr ts=>exact .inl (yf C H x (.scr ts) t Q bx hg q)
 |_=>cases hg
def l5:T->Option T
 |.int i=>aA (.int (-i))
 |_=>aB
end
def uX:T->Option T
 |.lst xs=>aA (.lst xs.reverse)
 |_=>aB
def xf(f:DE)(k:DO):DE:=λs=>(f s).bind λp=>(k p.2).bind λq=>if q.1=aA (-1) then (uX p.1).map λt=>(t,q.2) else aB
section
variable {st:Q5}{fk:DO}{p2:Pos}
def BZ(f:DA):DE:=λs=>(f s).bind λp=>match p.1 with
 |[.int j]=>if eN j=aC then aA (.lst (eO 0 j.toNat),p.2) else aB
 |_=>aB
def UN{j:Int}(h:eN j=aC):-16777216<=j/\j<=16777216:=by
 have:=gc h;lia
end
def sw(x y:T):Option T:=match x with
 |.lst ts=>(ib ts).bind λvs=>(ii y).bind λv=>(vs.findIdx? λu=>dt u v).map fun(j:Nat)=>.int j
 |_=>aB
def R9:Bh zI sw:=by
 intro C H x y tx ty t Q bx by' hg q;obtain⟨ts,rfl⟩:∃ ts,tx=.lst ts:=by cases tx<;>first |exact⟨_,rfl⟩ |cases hg
 obtain⟨vs,h1,h2⟩:=Qb hg;obtain⟨v,h3,h4⟩:=Qb h2;obtain⟨j,h5,rfl⟩:=Qm h4;obtain⟨a,us,rfl,ha,ra⟩:=bx.lst;obtain⟨e1,e2⟩:=vV ra h1;obtain⟨e3,e4⟩:=vE by' h3;subst e1 e3;exact⟨a,_,_,j,rfl,rfl,e4,e2,ha,h5,q _ (.int _)⟩
def sT:List T->Option (List Bool)
 |[]=>aA []
 |.bl b::ts=>(sT ts).map (b::·)
 |_=>aB
def Bv:T->Option T
 |.lst ts=>(sT ts).map λbs=>.bl (bs.all id)
 |_=>aB
def Bx:T->Option T
 |.lst ts=>(sT ts).map λbs=>.bl (bs.any id)
 |_=>aB
def Hk(t:TS):TS:=λD σ H=>∃ a kvs,H a=aA (.dK kvs)/\∀ o,t D σ (aS H a (.frz o (.dK kvs)))
def SG{X:Cx}{st:QX}{t:TS}(h:PS X st t):PS X st (Hk t):=λpc s σ H D I ⟨a,kvs,e,q⟩=>by
 obtain⟨o,I2⟩:=I.known e;exact h pc s σ _ D I2 (q o)
def o6(i:Nat)(d:DS):DS:=λs=>match (s[i]?).join with
 |some (.dct kvs)=>d (s.set i (aA (.fd kvs)))
 |_=>aB
section
variable {o:Q5}{fc:DE}{apos:Pos}
def se(i:Nat)(fk fx:DE):DE:=λs=>match (s[i]?).join with
 |some (.dct _)=>(fk s).bind λq=>(d6 q.1).bind λk=>(fx q.2).bind λr=>match (r.2[i]?).join with
  |some (.dct kvs)=>aA ((bh kvs k).getD r.1,r.2)
  |_=>aB
 |_=>aB
end
def lH:List T->Option (am)
 |[]=>aA []
 |.int i::ts=>(lH ts).map (i::·)
 |_=>aB
def vq{C:jv->Prop}{H:Hp}:∀ {vs:List V} {ts:List T} {ns:am},Reps C H vs ts->lH ts=aA ns->vs=ns.map V.int
 |[],[],ns,_,h=>by injection h with h; subst h; rfl
 |[],_::_,_,r,_=>by have:=r.1; simp at this
 |_::_,[],_,r,_=>by have:=r.1; simp at this
 |v::vs,t::ts,ns,r,h=>by
  obtain⟨b,rfl⟩:∃ b,t=.int b:=by cases t<;>first |exact⟨_,rfl⟩ |cases h
  obtain⟨l,h1,rfl⟩:=Qm h;rw[vq r.tail h1,BRep.int (.inl r.head)]; rfl
def rR:T->Option T
 |.lst ts=>match nL ts with
  |some ss=>if ss.length < 64 then aA (.lst ((oK ss).map T.str)) else aB
  |none=>(lH ts).bind λns=>if ns.length < 64 then aA (.lst ((nK ns).map T.int)) else aB
 |_=>aB
def Fe{C:jv->Prop}{H:Hp}:∀(l:aj),Reps C H (l.map V.str) (l.map T.str)
 |[]=>.nil
 |k::l=>.cons (.str _) (Fe l)
def Rj:xP (λxs H Q=>(∃(a:jv) (ss:aj),xs=[V.ref a]/\aq TheK.K H a (ss.map V.str)/\ss.length < 64/\∀ l,H l=aB->Q (.ref l) (aS H l (.lst ((oK ss).map V.str))))∨∃(a:jv) (ss:am),xs=[V.ref a]/\aq TheK.K H a (ss.map V.int)/\ss.length < 64/\∀ l,H l=aB->Q (.ref l) (aS H l (.lst ((nK ss).map V.int)))) rR:=by
 intro C H x tx t Q bx hg q;obtain⟨ts,rfl⟩:∃ ts,tx=.lst ts:=by cases tx<;>first |exact⟨_,rfl⟩ |cases hg
 obtain⟨a,us,rfl,ha,ra⟩:=bx.lst
 have hg:(match nL ts with
  |some ss=>if ss.length < 64 then aA (T.lst ((oK ss).map T.str)) else aB
  | none=>(lH ts).bind λns=>if ns.length < 64 then aA (T.lst ((nK ns).map T.int)) else aB)=aA t:=hg
 cases e:nL ts with
 |some ss=>
  rw[e] at hg;dsimp only at hg;split at hg
  ·rename_i hl;injection hg with hg; subst hg;rw[vf ra e] at ha;exact .inl ⟨a,ss,rfl,aq.of ha,hl,λl hl=>q l _ hl λC' _=>.lst cD (Fe _)⟩
  ·cases hg
 |none=>
  rw[e] at hg;obtain⟨ns,e2,hg⟩:=Qb hg;split at hg
  ·rename_i hl;injection hg with hg; subst hg;rw[vq ra e2] at ha;exact .inr ⟨a,ns,rfl,aq.of ha,hl,λl hl=>q l _ hl λC' _=>.lst cD (rZ _)⟩
  ·cases hg
def SX:Z7 "sorted"=aA (.builtin "sorted"):=by first |exact PySem.boot_sorted |rfl |decide +kernel
def yS:DS:=λ_=>aB
def rB:T->Bool
 |.non |.bl _ |.int _ |.str _=>aC
 |_=>aD
def Rc{C C':jv->Prop}{H H':Hp}{v:V}{t:T}(h:Rep C H v t)(f:rB t=aC):Rep C' H' v t:=by
 cases h<;>first |exact .non |exact .bl _ |exact .int _ |exact .str _ |cases f
def uw:Z7 "set"=aA (.type "set"):=by decide +kernel
def Rel.plus{F:Fr}{O:jv->Prop}{M:ak}{s:Sg}{σ:L2.St}{H:Hp}{l:jv}(R:Rel F O M s σ H)(h:H l=aB)(o:HO):Rel F O M s σ (aS H l o):=
 R.ext (λb u e=>by rw[au (dA e h)]; exact e) λb e=>by
  unfold aS at e;split at e
  ·cases e
  ·exact e
section
def y0:DE:=λs=>aA (.set (λ_=>aD) 0,s)
def xx(i:Nat)(fe:DE):DE:=λs=>(s[i]?).join.bind λt0=>match t0 with
 |.set _ _=>(fe s).bind λp=>(p.2[i]?).join.bind λt1=>match p.1,t1 with
  |.int k,.set S n=>if n < 1000 then aA (.non,p.2.set i (aA (.set (λj=>S j||aE (j=k)) (if S k then n else n+1)))) else aB
  |_,_=>aB
 |_=>aB
def rC:T->T->Option T
 |.int k,.set S _=>aA (.bl (!S k))
 |_,_=>aB
def BRep.setI{C:jv->Prop}{H:Hp}{v:V}{S:Int->Bool}{n:Nat}(h:BRep C H v (.set S n)):∃ a,v=.ref a/\H a=aA (.set S n):=by
 obtain h |⟨a,rfl,h⟩:=h
 ·cases h with |set c r=>exact⟨_,rfl,r⟩
 ·cases h with |set r=>exact⟨_,rfl,r⟩
def Mz:iH (λx y H Q=>∃ k a S n,x=.int k/\y=.ref a/\H a=aA (.set S n)/\Q (.bl (!S k)) H) rC:=by
 intro C H x y tx ty t Q bx by' hg q;obtain⟨k,rfl⟩:∃ k,tx=.int k:=by cases tx<;>first |exact⟨_,rfl⟩ |cases hg
 obtain⟨S,n,rfl⟩:∃ S n,ty=.set S n:=by cases ty<;>first |exact⟨_,_,rfl⟩ |cases hg
 cases hg;cases BRep.int bx;obtain⟨a,rfl,r⟩:=BRep.setI by';exact⟨k,a,S,n,rfl,rfl,r,q _ (.bl _)⟩
end
def tM(fn:List T->Option T)(i:Nat)(f0:DE)(fa:DA):DE:=λs=>(f0 s).bind λp=>(p.2[i]?).join.bind λ_=>(fa p.2).bind λq=>(q.2[i]?).join.bind λt0=>(fn (p.1::t0::q.1)).bind λt=>if rB t=aC then aA (t,q.2) else aB
def RQ{M:ak}{f0:DE}{fa:DA}{np:Nat}{fn:List T->Option T}{i:Nat}(hn:Ar fa np)(hi:M.contains i=aC):∀ σ H Q,cE .e M (tM fn i f0 fa) σ H Q->rG (bW .e (np+2) fn) [] E0 (lA (cE .e M f0) (lA (d7 i) (cA M fa))) σ H Q:=by
 intro σ H Q h_;refine bz h_ λF O s t s' R hf q=>?_;have hi':i∈M:=by simpa using hi
 obtain⟨p,h0,hf⟩:=Qb hf;obtain⟨x0,h1,hf⟩:=Qb hf;obtain⟨r,h2,hf⟩:=Qb hf;obtain⟨t0,h3,hf⟩:=Qb hf;obtain⟨w,h4,h5⟩:=Qb hf
 by_cases hfl:rB w=aC
 ·rw[aI hfl] at h5;injection h5 with h5;injection h5 with h5 h6;subst h5 h6;refine⟨F,O,s,p.1,p.2,R,h0,λv H1 S1 p1=>?_⟩;obtain⟨a,e1,_⟩:=p1.1.own i x0 (cv h1) hi';refine⟨_,e1,F,O,p.2,r.1,r.2,p1.1,h2,λvs H2 S2 R2 rs=>?_⟩;obtain⟨b,e2,L⟩:=R2.own i t0 (cv h3) hi';rw[e1] at e2;injection e2 with e2;cases e2;have rv:=p1.1.stay S2 p1.2
  try dsimp only
  rw[QH];refine⟨λ_=>True,p.1::t0::r.1,w,by rw[jo,jo,hn _ _ _ h2],.cons (rv.mono (λ_ _=>trivial) λ_ _ _ e=>e) (.cons (L.rep (λ_ _=>trivial) trivial) (rs.mono (λ_ _=>trivial) λ_ _ _ e=>e)),h4,λv H3 c=>q v H3 ((S1.trans S2).trans ⟨λb o _ e=>c.keep b o e,c.dom⟩) ⟨R2.ext c.keep c.dom,?_⟩⟩
  exact Rc c.res hfl
 ·rw[aH hfl] at h5; cases h5
def G0:∀(l acc:aj),acc.Nodup->(l.foldl Dw.dE acc).Nodup
 |[],_,h=>h
 |x::l,acc,h=>by
  rw[QU];refine G0 l _ ?_;unfold Dw.dE;split
  ·exact h
  ·rename_i hx;exact jK.mpr ⟨h,by simp,λa ha b hb e=>by rw[j9] at hb; subst hb e; exact hx ha⟩
def GR(l:aj):(Dw.aK l).Nodup:=G0 l [] Zo
def ud(xs ys:aj):Nat:=((Dw.aK xs).filter λx=>aE (x∈Dw.aK ys)).length
def vW:T->T->Option T
 |.lst xs,.lst ys=>(nL xs).bind λa=>(nL ys).bind λb=>if a.length < 900 then if b.length < 900 then aA (.int (ud a b)) else aB else aB
 |_,_=>aB
section
def Oi:Z7 "min"=aA (.builtin "min"):=by first |exact PySem.boot_min |exact PyProof.Rows.boot_min |decide +kernel
end
def qE(xs ys:List T):List T:=(xs.zip ys).map λp=>.tup [p.1,p.2]
def S9{F:Fr}{O:jv->Prop}{H1 H2:Hp}{p:jv}{x y:V}{t u:T}(k:∀ b o,Free F O b->H1 b=aA o->H2 b=aA o)(hp:H2 p=aB)(rx:Rep (Free F O) H1 x t)(ry:Rep (Free F O) H1 y u) :
  Rep (λb=>(Free F O b/\H1 b≠aB)∨H2 b=aB) (aS H2 p (.tup [x,y])) (.ref p) (.tup [t,u]):=by
 have up:∀ {v:V} {w:T},Rep (Free F O) H1 v w->Rep (λb=>(Free F O b/\H1 b≠aB)∨H2 b=aB) (aS H2 p (.tup [x,y])) v w:=λr=>
  r.there.mono (λb c=>.inl c) λb o c e=>by rw[au (dA (k b o c.1 e) hp)]; exact k b o c.1 e
 have rr:Reps (λb=>(Free F O b/\H1 b≠aB)∨H2 b=aB) (aS H2 p (.tup [x,y])) [x,y] [t,u]:=.cons (up rx) (.cons (up ry) .nil);exact .tup (.inr hp) cD rr.1 rr.2
def uW(f:DA):DI:=λs=>(f s).bind λp=>match p.1 with
 |[.lst xs,.lst ys]=>aA (qE xs ys,p.2)
 |_=>aB
def xg(f:am->Int):T->Option T
 |.lst ts=>(lH ts).bind λns=>if 0 < ns.length then aA (.int (f ns)) else aB
 |_=>aB
def oF:=xg ot
def oE:=xg qD
def Cu{f:am->Int}:Bi (λxs H Q=>∃(a:jv) (ns:am),xs=[V.ref a]/\aq TheK.K H a (ns.map V.int)/\0 < ns.length/\Q (.int (f ns)) H) (xg f):=by
 intro C H x tx t Q bx hg q;cases tx with
 |lst ts=>
  obtain⟨ns,h1,h2⟩:=Qb hg;split at h2
  ·rename_i hn;injection h2 with h2; subst h2;obtain⟨a,us,rfl,ha,ra⟩:=bx.lst;rw[vq ra h1] at ha;exact⟨a,ns,rfl,aq.of ha,hn,q _ (.int _)⟩
  ·cases h2
 |_=>cases hg
def Oh:Z7 "max"=aA (.builtin "max"):=by first |exact PySem.boot_max |exact PyProof.Rows.boot_max |decide +kernel
def K4(i j:Int):Prop:=i.natAbs < 2 ^ 200/\j.natAbs < 2 ^ 200
def E7{k:Int}(h:k.natAbs < 2 ^ 200):Wt k<=2 ^ 20:=by
 unfold Wt;split
 ·exact QQ _
 ·rename_i hne;have h0:k.natAbs≠0:=by
   intro z;exact hne (by simpa using z)
  have:=(Nat.log2_lt h0).mpr h;have e:(2:Nat) ^ 20=1048576:=by decide
  lia
def Ou{X:Cx}:cZ X (gK .Mult) (rI K4 λi j=>.int (i*j)):=uD λ_ _ _ _ _ _ _ hc q=>mul_int q (.of_bits (E7 hc.1) (E7 hc.2))
def CW(i j:Int):Bool:=Nat.ble i.natAbs 10000000000000000000000000000000000000000&&Nat.ble j.natAbs 10000000000000000000000000000000000000000
def yA:=gI CW λi j=>i*j
abbrev DR:=Sg->Bool
def cR(E:XK)(N:jv)(d:DR):TS:=λD σ H=>∃ F O s,Rel F O [] s σ H/\Ios F [] [] σ/\d s=aC/\∀ O' H',KeepO O H O' H'->E (.ref N) aB H'
def sN(ft:DT)(da db:DR):DR:=λs=>match ft s with
 |some (b,s')=>if b then da s' else db s'
 |none=>aD
def rA(d1:DR)(dn:DS)(d2:DR):DR:=λs=>d1 s||match dn s with
 |some (.nx s')=>d2 s'
 |_=>aD
def oj(N:jv)(np:Nat)(rs:List T->Bool):Sp:=λvs H _ E=>∃ C ts,ts.length=np/\Reps C H vs ts/\rs ts=aC/\∀ H',(∀ b o,H b=aA o->H' b=aA o)->(∀ b,H' b=aB->H b=aB)->E (.ref N) aB H'
def oz:DR:=λ_=>aD
section
variable {E:XK}{N:jv}{da db d1 d2:DR}{dn:DS}{ft:DT}{a b sts:List QX}{st:QX}
def Ha(hc:PT X c (cT [] ft))(ha:cV X a (cR E N da))(hb:cV X b (cR E N db)):PS X (.If c a b pos) (cR E N (sN ft da db)):=fP (Ce hc ha hb) (by
 intro D σ H hz; obtain⟨F,O,s,R,I,hd,q⟩:=hz;unfold sN at hd;split at hd
 case h_2=>cases hd
 rename_i k s' hf;refine⟨F,O,s,k,s',R,hf,λH1 S1 R1=>?_⟩;have k1:=S1.keepO R;cases k with
 |true=>exact⟨F,O,s',R1,I,hd,λO' H' k=>q O' H' (k1.trans k)⟩
 | false=>exact⟨F,O,s',R1,I,hd,λO' H' k=>q O' H' (k1.trans k)⟩)
def Hb:cV X sts (cR E N oz):=λpc s σ H D I hz=>by
 obtain⟨F,O,s,R,I,hd,q⟩:=hz;cases hd
def L1:PS X st (cR E N oz):=λpc s σ H D I hz=>by
 obtain⟨F,O,s,R,I,hd,q⟩:=hz;cases hd
def L4(h:PS X st (cR E N da)):cV X [st] (cR E N da):=vF (tH h) (λD σ H hz=>hz)
def L5{rk:Kd}(h1:PS X st (cR E N d1))(hn:PS X st (cS rk [] [] [] [] dn))(h2:cV X sts (cR E N d2)):cV X (st::sts) (cR E N (rA d1 dn d2)):=by
 intro pc s0 σ H D I0 hz;obtain⟨F,O,s,R,I,hd,q⟩:=hz;unfold rA at hd;obtain hd |hd:=Bool.or_eq_true_iff.mp hd
 ·exact zd h1 h2 pc s0 σ H D I0 ⟨F,O,s,R,I,hd,q⟩
 ·split at hd
  case h_2=>cases hd
  rename_i s' hf;refine zd hn h2 pc s0 σ H D I0 ⟨F,O,s,_,R,I,hf,λO' σ' H' k R' I'=>⟨F,O',s',R',I',hd,λO2 H2 k2=>q O2 H2 (k.trans k2)⟩⟩
end
def yx(fe:DE):DR:=λs=>(fe s).isSome
section
variable {E:XK}{N D:jv}
def ST{k:Nat}{bm:List j8}{x:Str}{np cpos:Pos}{e0:Q5}{fe:DE}(hR:vH X E)(hc:X.calm=aC)(hr:Room (k+1) X.A)(xc:XClsI X.K X.base N D bm)(hg:Gl X x)(hm:X.mg x=aA (.ref N))(he0:PE X e0 (cE .e [] fe))
  (he:ac X e0 []:=by rfl) (hpl:ad X cpos []:=by rfl) (hd:ae x:=by decide) :
  PS X (.Raise (aA (.Call (.Name x np) [e0] [] cpos)) aB pos) (cR E N (yx fe)):=fP (TF hR hc hr xc hg hm (fX he0 iq he) he hpl hd) (by
 intro D' σ H hz; obtain⟨F,O,s,R,I,hd,q⟩:=hz;obtain⟨⟨t,s'⟩,h1⟩:=ZG.mp hd
 exact⟨F,O,s,t,s',R,h1,λv H' S po=>⟨rfl,q O H' (S.keepO R)⟩⟩)
end
def Rel.wr{F:Fr}{O:jv->Prop}{M:ak}{s:Sg}{σ:L2.St}{H:Hp}{p:jv}(R:Rel F O M s σ H)(hO:O p)(hn:∀(i:Nat),i∈M->σ[i]?≠aA (aA (.ref p)))(h0:F.H0 p=aB)(o:HO):Rel F O M s σ (aS H p o):=by
 have k:∀ b u,Free F O b->H b=aA u->aS H p o b=aA u:=λb u c e=>by rw[au (λz:b=p=>c.1 (z▸hO))]; exact e
 refine⟨R.len,λi t e n=>?_,λi t e n=>?_,R.ow,R.dis,λb u n e=>?_,λb e=>?_,R.fresh,R.inD,λb z e=>?_⟩
 ·obtain⟨v,h1,h2⟩:=R.val i t e n;exact⟨v,h1,h2.mono (λ_ c=>c) k⟩
 ·obtain⟨a,h1,h2⟩:=R.own i t e n;exact⟨a,h1,h2.mono (λ_ c=>c) k λu e=>by rw[au (λz:a=p=>hn i n (z▸h1))]; exact e⟩
 ·rw[au (λz=>by rw[z,h0] at e; cases e)]
  exact R.keep b u n e
 ·refine R.dom b ?_;unfold aS at e;split at e
  ·cases e
  ·exact e
 ·refine R.al b z ?_;unfold aS at e;split at e
  ·cases e
  ·exact e
def yR(fk fv:DE):DE:=λs=>(fk s).bind λq=>(fv q.2).bind λr=>(d6 q.1).map λk=>(.dct [(k,r.1)],r.2)
def zZ:T->Option T
 |.lst ts=>(lH ts).bind λns=>if ns.length < 1000 then aA (.int (i8 ns).length) else aB
 |_=>aB
end L3
namespace L3
open PySem PySem.Spec PyProof.Rows L2
def Here(K:jd)(mg:Str->Option j8)(x:Str)(st:QX)(ps:aj):Prop:=
 ∃ f fd,Fun K x x st f fd/\Binds K fd ps []/\Qd K (.ref f)=aC/\mg x=aA (.ref f)
def fB(P:jI)(w:Qf)(K:jd)(mg:Str->Option j8)(base:QN)(n:Nat)(x:Str)(ps:aj)(sp:Sp):Prop:=
 ∃ f fd,FnOk P w K mg base fC n f fd ps sp/\Binds K fd ps []/\Qd K (.ref f)=aC/\mg x=aA (.ref f)
def PQ{K:jd}{h:QN}{mg:Str->Option j8}(X:K.In h)(G:h.Ns jX mg){x:Str}{st:QX}{ps:aj}{f:jv}{oc:j8}{od an:Option jv}{osl:Array (Option j8)}{kV doc pm cdv ct:j8}
  (hb:∀(kV doc pm:j8) (an:Option jv) (cdv ct:j8) (us:List j8),us.length=ps.length->Yo (Q1 x x (iQ st) (eB st) (aY st) .none kV doc pm an cdv ct) ⟨us,[]⟩=pure (ps.zip us))
  (a:Qy K jX x=aA (aA (.ref f))) (l:K.lookup f=aA ⟨oc,od,.func (Q1 x x (iQ st) (eB st) (aY st) .none kV doc pm an cdv ct),osl⟩)
  (c:Z6 K cdv x=aC) (k:Qd K (.ref f)=aC):Here K mg x st ps:=by
 have F:=DN (st:=st) l c k;exact⟨f,_,F,F.binds hb,k,WL X G a⟩
section
variable {P:jI}{w:Qf}{K:jd}{mg:Str->Option j8}{base:QN}
def Here.ok{x:Str}{st:QX}{N ps:aj}{k:Nat}{sp:Sp}(h:Here K mg x st ps)(S:FnScope N ps (aY st))(len:∀ vs H Q E,sp vs H Q E->vs.length=ps.length)
  (hbody:∀(f:jv) (cdv:j8) (A:Qg) (outer:List Env) (s:jc) (H:Hp) (vs:List V) (Q:VK) (E:XK),Room k (A.deeper (ZK x (aY st) s.heap.objs.size f cdv))->sp vs H Q E->
   ∃ t,cV (eY fC P w K mg base N x (aY st) f cdv A outer s H E).nox (eB st) t/\t { nx:=λ_ H'=>Q .non H',rt:=Q } (L2.start N vs) H):fB P w K mg base (k+1) x ps sp:=by
 obtain⟨f,fd,F,b,kp,m⟩:=h;exact⟨f,fd,F.ok S len λcdv A outer s H vs Q E hr hs=>hbody f cdv A outer s H vs Q E hr hs,b,kp,m⟩
def fB.mono{j k:Nat}{x:Str}{ps:aj}{sp:Sp}(h:fB P w K mg base j x ps sp)(hjk:j<=k):fB P w K mg base k x ps sp:=by
 obtain⟨f,fd,F,b,kp,m⟩:=h;exact⟨f,fd,F.mono hjk,b,kp,m⟩
end
def sQ(tk:TheK)(P:jI)(w:Qf)(mg:Str->Option j8)(base:QN)(k:Nat)(x:Str)(st:QX)(N:aj)(t:TS):Prop:=
 ∀(f:jv) (cdv:j8) (A:Qg) (outer:List Env) (s:jc) (H:Hp) (E:XK),Room k (A.deeper (ZK x (aY st) s.heap.objs.size f cdv))->cV (eY fC P w tk.K mg base N x (aY st) f cdv A outer s H E).nox (eB st) t
variable [tk:TheK]
section
variable {P:jI}{w:Qf}{mg:Str->Option j8}{base:QN}{x:Str}{st:QX}{N ps:aj}{k:Nat}{d:DS}{M' Mb:ak}
def Here.okP(h:Here tk.K mg x st ps)(S:FnScope N ps (aY st))(hb:sQ tk P w mg base k x st N (cS .e [] [] M' Mb d))(hN:ps.length<=N.length:=by decide):fB P w tk.K mg base (k+1) x ps (bW .e ps.length (bZ N.length d)):=by
 refine h.ok S (λvs H Q E ⟨C,ts,t,hl,r,_⟩=>by rw[r.1,hl]) λf cdv A outer s H vs Q E hr hs=>⟨_,hb f cdv A outer s H E hr,?_⟩
 refine yG (λts t e=>?_) (.inl rfl) hN hs;unfold bZ at e;split at e
 ·injection e with e; subst e; exact .inl ⟨_,by assumption⟩
 ·injection e with e; subst e; exact .inr ⟨rfl,rfl,_,by assumption⟩
 ·cases e
def Here.okN(h:Here tk.K mg x st ps)(S:FnScope N ps (aY st))(hb:sQ tk P w mg base k x st N (cS .n [] [] M' Mb d))(hN:ps.length<=N.length:=by decide):fB P w tk.K mg base (k+1) x ps (bW .n ps.length (nB N.length d)):=by
 refine h.ok S (λvs H Q E ⟨C,ts,t,hl,r,_⟩=>by rw[r.1,hl]) λf cdv A outer s H vs Q E hr hs=>⟨_,hb f cdv A outer s H E hr,?_⟩
 refine yG (λts t e=>?_) (.inr rfl) hN hs;unfold nB at e;split at e
 ·injection e with e; subst e; exact .inl ⟨_,by assumption⟩
 ·cases e
def EN{rk:Kd}{np:Nat}{fn:List T->Option (T × T)}{vs:List V}{H:Hp}{Q:VK}{E:XK}(h:fj rk np fn vs H Q E):vs.length=np:=by
 obtain⟨C,a,us,t0,ts,t,t1,hl,rfl,_,_,r,_⟩:=h;rw[<-hl,jo,jo,r.1]
def Here.okI(h:Here tk.K mg x st ps)(S:FnScope N ps (aY st))(hb:sQ tk P w mg base k x st N (cS .e [0] [0] M' Mb d))(hN:ps.length<=N.length:=by decide):fB P w tk.K mg base (k+1) x ps (fj .e ps.length (iG N.length d)):=
 h.ok S (λvs H Q E h=>EN h) λf cdv A outer s H vs Q E hr hs=>⟨_,hb f cdv A outer s H E hr,Cq (.inl rfl) hN hs⟩
def rF(K:jd):Sp:=λvs H Q _=>∃(a:jv) (ns:am),vs=[.ref a]/\uR H/\aq K H a (ns.map V.int)/\ns.length<=63/\∀ H',Q (.bl aC) H'
def Mg{fw:jv}{dw:Zl}(F:Fun tk.K x x st fw dw)(S:FnScope N [ps0] (aY st))(hb:sQ tk P w mg base k x st N (cS .e [] [] M' Mb d))(hN:1<=N.length)(hd:∀ ns:am,ns.length<=63->bZ N.length d [.scr ns]=aA (.bl aC)):FnOk P w tk.K mg base fC (k+1) fw dw [ps0] (rF tk.K):=by
 refine F.ok S (λvs H Q E ⟨a,ns,e,_⟩=>by rw[e]; rfl) λcdv A outer s H vs Q E hr hs=>⟨_,hb fw cdv A outer s H E hr,?_⟩
 obtain⟨a,ns,rfl,hO,hS,h63,q⟩:=hs;have rp:Rep (λ_=>True) H (.ref a) (.scr ns):=by
  obtain (hS |⟨o,hS⟩) |hS:=hS
  ·obtain z |⟨_,_,z⟩:=hO a<;>rw[hS] at z<;>cases z
  ·exact .scr trivial hS
  ·exact .scrK λH'=>.inr hS
 refine yG (np:=1) (N:=N) (fn:=L3.bZ N.length d) (λts t e=>?_) (.inl rfl) hN (E:=E) ⟨λ_=>True,[.scr ns],.bl aC,rfl,.cons rp .nil,hd ns h63,λv H' c=>?_⟩
 ·unfold L3.bZ at e;split at e
  ·injection e with e; subst e; exact .inl ⟨_,by assumption⟩
  ·injection e with e; subst e; exact .inr ⟨rfl,rfl,_,by assumption⟩
  ·cases e
 ·have:v=.bl aC:=BRep.bl (.inl c.res);rw[this];exact q H'
end
end L3
namespace L3
open PySem PySem.Spec PyProof.Rows L2
variable {X:Cx}{apos p p2 pos:Pos}{a c e iter o tg:Q5}{es:List Q5}{N ps:aj}{M M' Mb io:ak}{fa fb fe fk:DE}{ft:DT}{rk:Kd}{st:QX}{x:Str}{k:Nat}{P:jI}{w:Qf}{mg:Str->Option j8}{base:QN}
def eg{A:Qg}{k:Nat}(hr:Room k A):A.units+8 < gg:=by have:=hr.un; lia
structure QE (X:Cx) (e:Q5) (t:TE):Prop where
 un:L2.PE X e t
structure QT (X:Cx) (e:Q5) (t:TT):Prop where
 un:L2.PT X e t
structure QW (X:Cx) (e:Q5) (t:TT):Prop where
 un:L2.PW X e t
structure QA (X:Cx) (e:List Q5) (t:TA):Prop where
 un:L2.PA X e t
structure QSs (X:Cx) (e:List QX) (t:TS):Prop where
 un:L2.cV X e t
structure QS (X:Cx) (e:QX) (t:TS):Prop where
 un:L2.PS X e t
structure QI (X:Cx) (tg iter:Q5) (t:TI):Prop where
 un:L2.PI X tg iter t
structure QGs (X:Cx) (e:List Q5) (t:fA):Prop where
 un:L2.qw X e t
structure QG (X:Cx) (e:Q5) (t:TG):Prop where
 un:L2.PG X e t
structure QTs (X:Cx) (e:List Q5) (t:TT):Prop where
 un:L2.lV X e t
structure QO (X:Cx) (e:Option Q5) (t:TO):Prop where
 un:L2.PO X e t
section
def bD{i:Nat}{x:Str}(hN:X.N.Nodup)(hi:X.N[i]?=aA x)(hx:oq X.env.scope x)(hf:X.fn x=aC∨X.env.scope.names.lookup x=aA .local:=by first |exact .inl rfl |exact .inr rfl |assumption):QG X (.Name x pos) (eS i):=⟨L2.Oy hN hi hx hf⟩
def fg :QGs X [] qC:=⟨L2.P0 ⟩
def cQ{e:Q5}{es:List Q5}{t:TG}{u:fA}(h1:QG X e t)(h2:QGs X es u)(hs:(Qr (e::es) X.env).map (·.2)=YT e X.env::(Qr es X.env).map (·.2):=by rfl):QGs X (e::es) (oC t u):=⟨L2.SD h1.un h2.un hs⟩
def lw{es:List Q5}{k:Nat}{t:fA}{n:Nat}(hc:X.calm=aC)(h:QGs X es t)(hn:(Qr es X.env).length=n:=by rfl)(hst:(Qr es X.env).findIdx? (·.1)=aB:=by rfl):QG X (.Tuple es k pos) (ia X.K n t):=⟨L2.Do hc h.un hn hst⟩
def vb{o i:Q5}{to ti:TE}{t:uS}(ho:QE X o to)(hi:QE X i ti)(hs:xZ X t)(ha:∀ v,YT (.Subscript o i pos) X.env v=(do
   let ov <-Yt [v] (eval o X.env)
   let iv <-Yt [v,ov] (eval i X.env)
   standAt pos
   Yt [v,ov,iv] (setItem ov iv v)
   release [v,ov,iv] []):=by intro _; rfl):QG X (.Subscript o i pos) (xh to ti t):=⟨L2.MJ ho.un hi.un hs ha⟩
def qX{tg e:Q5}{te:TE}{g:TG}(he:QE X e te)(hg:QG X tg g)(hs:swapsWithSole [tg] e pos.line X.env=pure aD:=by rfl)(hw:swappedStores [tg] e X.env=pure aB:=by rfl)(h1:(Qr [tg] X.env).map (·.2)=[YT tg X.env]:=by rfl):QS X (.Assign [tg] e pos) (ef te g):=⟨L2.MM he.un hg.un hs hw h1⟩
def bA{i:Nat}{x:Str}{e:Q5}{te:TE}{pos':Pos}(hN:X.N.Nodup)(hi:X.N[i]?=aA x)(hx:oq X.env.scope x)(he:QE X e te)(hs:ZZ e (aA (.Name x pos')) pos.line X.env=pure aD:=by rfl)(hf:X.fn x=aC∨X.env.scope.names.lookup x=aA .local:=by first |exact .inl rfl |exact .inr rfl |assumption):QS X (.Assign [.Name x pos'] e pos) (ef te (eS i)):=⟨L2.Dp hN hi hx he.un hs hf⟩
end
section
def eD{iter:Q5}{body:List QX}{wi:TI}{g:TG}{tb:TS}{pos:Pos}(hp:Jv (jR X.prog X.w) X.A X.env X.xe)(hc:X.calm=aC)(hi:QI X tg iter wi)(hg:QG X tg g)(hb:QSs X body tb)(hs:∀ x,Qz iter X.env x=pure x:=by intro _; rfl):QS X (.For tg iter body [] pos) (ua wi g tb):=⟨L2.MN hp hc hi.un hg.un hb.un hs⟩
end
section
variable {te:TE}{t:TA}
def zC :QA X [] nI:=⟨L2.iq ⟩
def zf(ha:QE X e te)(hr:QA X es t)(hs:ac X e es:=by rfl):QA X (e::es) (lA te t):=⟨L2.fX ha.un hr.un hs⟩
end
section
variable {b:Q5}{ta tb:TE}
variable {to:TE}{t:TA}{name:Str}{cpos:Pos}{T id:String}{r:V->List V->Hp->VK->Prop}
def va(pa:WS T)(slot:Slot T name id)(hty:typeOf (.builtin id)=pure (.type "method_descriptor"))(hm:qx X id r)(ho:QE X o to)(hbase:Yq o name X.env (eval o X.env)=eval o X.env:=by rfl)(hline:(apos.endLine == cpos.line)=aC:=by rfl):QE X (.Call (.Attribute o name apos) [] [] cpos) (uZ X.K T r to):=⟨L2.Mt pa slot hty hm ho.un hbase hline⟩
def lC(pa:WS T)(slot:Slot T name id)(hty:typeOf (.builtin id)=pure (.type "method_descriptor"))(hm:qx X id r)(ho:QE X o to)(ha:QA X (e::es) t)(hbase:Yq o name X.env (eval o X.env)=eval o X.env:=by rfl)(hfew:((QM cpos (jg (e::es) X.env)).all (λx=>!x.1)&&(backToKw cpos (JA [] X.env)).all (λx=>x.1.isSome)
   && aE ((e::es).length+([]:List JB).length+(if ([]:List JB).isEmpty then 0 else 1) < 30))=aC:=by rfl) (hline:(apos.endLine == cpos.line)=aC:=by rfl) (hs:ac X e es:=by rfl) (hplain:ad X cpos es:=by rfl):QE X (.Call (.Attribute o name apos) (e::es) [] cpos) (ng X.K T r to t):=⟨L2.Iy pa slot hty hm ho.un ha.un hbase hfew hline hs hplain⟩
end
section
variable {i value:Q5}{pos' tpos:Pos}{td ty tv:TE}
def lz(hu:X.A.units+1 < gg)(ho:QE X o td)(hi:QE X i ty)(hv:QE X value tv)(hs:ZZ value (aA (.Subscript o i pos')) pos.line X.env=pure aD):QS X (.Assign [.Subscript o i pos'] value pos) (yH td ty tv):=⟨L2.PZ hu ho.un hi.un hv.un hs⟩
end
section
def aw(i:Nat){x:Str}{pos:Pos}(hN:X.N[i]?=aA x:=by rfl)(hv:uI X.env.scope x:=by first |exact jE rfl |exact ZL (jE rfl) |exact ZL (ZL rfl))(hd:ae x:=by decide)(hcd:(x == ("__classdict__":Str))=aD:=by decide):QE X (.Name x pos) (d7 i):=⟨L2.pv i hN hv hd hcd⟩
end
section
def iT{X:Cx}:QTs X [] xk:=⟨L2.Pc ⟩
def tU{X:Cx}{c:Q5}{t:TT}(h:QT X c t):QTs X [c] t:=⟨L2.Pd h.un⟩
end
section
variable {scope:Y1}{caps:af}{elt:Q5}{ifs:List Q5}{wi:TI}{g:TG}{tt:TT}{te:TE}
def lM(hc:X.calm=aC)(hi:QI X tg iter wi)(hg:∀ cl C s0 H0 fp,QG (bw X N scope cl C s0 H0 fp) tg g)(hgk:ic caps g)(ht:∀ cl C s0 H0 fp,QTs (bw X N scope cl C s0 H0 fp) ifs tt)(he:∀ cl C s0 H0 fp,QE (bw X N scope cl C s0 H0 fp) elt te)(hcap:capOk N X.N scope X.env.scope caps=aC:=by rfl)(hkind:scope.kind=.function:=by rfl)(hcell:scope.names.all (λp=>p.2 != .cell)=aC:=by rfl)(hnames:scope.names.all (λp=>p.2 != .local||scope.names.lookup p.1 == aA .local)=aC:=by rfl)(hfr:scope.names.all (λp=>p.2 != .free||(X.env.scope.names.lookup p.1 == aA .cell||X.env.scope.names.lookup p.1 == aA .free))=aC:=by rfl)(hs:∀ x,Qz iter X.env x=pure x:=by intro _; rfl):QE X (.ListComp elt [⟨tg,iter,ifs,0⟩] scope pos) (ql caps wi g tt te):=⟨L2.K0 hc hi.un (λcl C s0 H0 fp=>(hg cl C s0 H0 fp).un) hgk (λcl C s0 H0 fp=>(ht cl C s0 H0 fp).un) (λcl C s0 H0 fp=>(he cl C s0 H0 fp).un) hcap hkind hcell hnames hfr hs⟩
def qh{i:Nat}{y:Str}{py spos:Pos}(hN:X.N.Nodup)(hiy:X.N[i]?=aA y)(hy:X.env.scope.names.lookup y=aA .local)(hc:X.calm=aC)(hi:QI X tg iter wi)(hg:∀ cl C s0 H0 fp,QG (bw X N scope cl C s0 H0 fp) tg g)(hgk:ic caps g)(ht:∀ cl C s0 H0 fp,QTs (bw X N scope cl C s0 H0 fp) ifs tt)(he:∀ cl C s0 H0 fp,QE (bw X N scope cl C s0 H0 fp) elt te)(hsw:ZZ (.ListComp elt [⟨tg,iter,ifs,0⟩] scope pos) (aA (.Name y py)) spos.line X.env=pure aC:=by rfl)(hcap:capOk N X.N scope X.env.scope caps=aC:=by rfl)(hkind:scope.kind=.function:=by rfl)(hcell:scope.names.all (λp=>p.2 != .cell)=aC:=by rfl)(hnames:scope.names.all (λp=>p.2 != .local||scope.names.lookup p.1 == aA .local)=aC:=by rfl)(hfr:scope.names.all (λp=>p.2 != .free||(X.env.scope.names.lookup p.1 == aA .cell||X.env.scope.names.lookup p.1 == aA .free))=aC:=by rfl)(hs:∀ x,Qz iter X.env x=pure x:=by intro _; rfl):QS X (.Assign [.Name y py] (.ListComp elt [⟨tg,iter,ifs,0⟩] scope pos) spos) (ef (ql caps wi g tt te) (eS i)):=⟨L2.SI hN hiy hy hc hi.un (λcl C s0 H0 fp=>(hg cl C s0 H0 fp).un) hgk (λcl C s0 H0 fp=>(ht cl C s0 H0 fp).un) (λcl C s0 H0 fp=>(he cl C s0 H0 fp).un) hsw hcap hkind hcell hnames hfr hs⟩
end
section
variable {K:jd}
def vw{es:List Q5}{k:Nat}{t:fA}{n:Nat}{pos:Pos}(hK:X.K=K)(hc:X.calm=aC)(h:QGs X es t)(hn:(Qr es X.env).length=n:=by rfl)(hst:(Qr es X.env).findIdx? (·.1)=aB:=by rfl):QG X (.Tuple es k pos) (ia K n t):=⟨L2.Oz hK hc h.un hn hst⟩
end
section
def zD{es:List Q5}{k:Nat}{t:fA}{n:Nat}(hc:X.calm=aC)(h:QGs X es t)(hn:(Qr es X.env).length=n:=by rfl)(hst:(Qr es X.env).findIdx? (·.1)=aB:=by rfl):QG X (.Tuple es k pos) (xU X.K n t):=⟨L2.MK hc h.un hn hst⟩
end
section
variable {scope:Y1}{caps:af}{kx vx:Q5}{ifs:List Q5}{wi:TI}{g:TG}{tt:TT}{tk tv:TE}
def MW(hc:X.calm=aC)(hi:QI X tg iter wi)(hg:∀ cl C s0 H0 fp,QG (bw X N scope cl C s0 H0 fp) tg g)(hgk:ic caps g)(ht:∀ cl C s0 H0 fp,QTs (bw X N scope cl C s0 H0 fp) ifs tt)(hk:∀ cl C s0 H0 fp,QE (bw X N scope cl C s0 H0 fp) kx tk)(he:∀ cl C s0 H0 fp,QE (bw X N scope cl C s0 H0 fp) vx tv)(hcap:capOk N X.N scope X.env.scope caps=aC:=by rfl)(hkind:scope.kind=.function:=by rfl)(hcell:scope.names.all (λp=>p.2 != .cell)=aC:=by rfl)(hnames:scope.names.all (λp=>p.2 != .local||scope.names.lookup p.1 == aA .local)=aC:=by rfl)(hfr:scope.names.all (λp=>p.2 != .free||(X.env.scope.names.lookup p.1 == aA .cell||X.env.scope.names.lookup p.1 == aA .free))=aC:=by rfl)(hs:∀ x,Qz iter X.env x=pure x:=by intro _; rfl):QE X (.DictComp kx vx [⟨tg,iter,ifs,0⟩] scope pos) (qm caps wi g tt tk tv):=⟨L2.Iz hc hi.un (λcl C s0 H0 fp=>(hg cl C s0 H0 fp).un) hgk (λcl C s0 H0 fp=>(ht cl C s0 H0 fp).un) (λcl C s0 H0 fp=>(hk cl C s0 H0 fp).un) (λcl C s0 H0 fp=>(he cl C s0 H0 fp).un) hcap hkind hcell hnames hfr hs⟩
def Te{i:Nat}{y:Str}{py spos:Pos}(hN:X.N.Nodup)(hiy:X.N[i]?=aA y)(hy:X.env.scope.names.lookup y=aA .local)(hc:X.calm=aC)(hi:QI X tg iter wi)(hg:∀ cl C s0 H0 fp,QG (bw X N scope cl C s0 H0 fp) tg g)(hgk:ic caps g)(ht:∀ cl C s0 H0 fp,QTs (bw X N scope cl C s0 H0 fp) ifs tt)(hk:∀ cl C s0 H0 fp,QE (bw X N scope cl C s0 H0 fp) kx tk)(he:∀ cl C s0 H0 fp,QE (bw X N scope cl C s0 H0 fp) vx tv)(hsw:ZZ (.DictComp kx vx [⟨tg,iter,ifs,0⟩] scope pos) (aA (.Name y py)) spos.line X.env=pure aC:=by rfl)(hcap:capOk N X.N scope X.env.scope caps=aC:=by rfl)(hkind:scope.kind=.function:=by rfl)(hcell:scope.names.all (λp=>p.2 != .cell)=aC:=by rfl)(hnames:scope.names.all (λp=>p.2 != .local||scope.names.lookup p.1 == aA .local)=aC:=by rfl)(hfr:scope.names.all (λp=>p.2 != .free||(X.env.scope.names.lookup p.1 == aA .cell||X.env.scope.names.lookup p.1 == aA .free))=aC:=by rfl)(hs:∀ x,Qz iter X.env x=pure x:=by intro _; rfl):QS X (.Assign [.Name y py] (.DictComp kx vx [⟨tg,iter,ifs,0⟩] scope pos) spos) (ef (qm caps wi g tt tk tv) (eS i)):=⟨L2.SH hN hiy hy hc hi.un (λcl C s0 H0 fp=>(hg cl C s0 H0 fp).un) hgk (λcl C s0 H0 fp=>(ht cl C s0 H0 fp).un) (λcl C s0 H0 fp=>(hk cl C s0 H0 fp).un) (λcl C s0 H0 fp=>(he cl C s0 H0 fp).un) hsw hcap hkind hcell hnames hfr hs⟩
end
section
variable [TheK]
variable {b:Q5}
def cY(h:QE X e (cE .n M fa)):QE X e (cE .e M fa):=⟨L3.ne h.un⟩
def aP(h:QE X e (cE .e M fa)):QE X e (cE .b M fa):=⟨L3.eb h.un⟩
def uB(h:QE X e (cE .n M fa)):QE X e (cE .b M fa):=⟨L3.nb h.un⟩
def Xp{i:Nat}(hi:M.contains i=aD)(h:QE X e (d7 i)):QE X e (cE .e M (dV i)):=⟨have h:=h.un;weak h fun σ H Q h_=>bz h_ λF O s t s' R hf q=>by
 obtain⟨e1,rfl⟩:=yy hf;obtain⟨v,h1,h2⟩:=R.val i t e1 (by simpa using hi)
 exact⟨v,h1,q v H .refl ⟨R,h2⟩⟩⟩
def fW{i:Nat}(hi:M.contains i=aC)(h:QE X e (d7 i)):QE X e (cE .b M (dV i)):=⟨have h:=h.un;weak h fun σ H Q h_=>bz h_ λF O s t s' R hf q=>by
 obtain⟨e1,rfl⟩:=yy hf;obtain⟨a,h1,h2⟩:=R.own i t e1 (by simpa using hi)
 exact⟨_,h1,q _ H .refl ⟨R,.inr ⟨i,by simpa using hi,h1,e1⟩⟩⟩⟩
def aX{i j pos}:QE X (.Constant (.int i) j pos) (cE .e M (dC (.int i))):=⟨uk (λ_ _=>.int i) Mv⟩
def qG{i j pos}:QE X (.Constant (.bool i) j pos) (cE .e M (dC (.bl i))):=⟨uk (λ_ _=>.bl i) Ix⟩
def li{i j pos}:QE X (.Constant (.str i) j pos) (cE .e M (dC (.str i))):=⟨uk (λ_ _=>.str i) MG⟩
def lg{j pos}:QE X (.Constant .none j pos) (cE .e M (dC .non)):=⟨uk (λ_ _=>.non) Dn⟩
end
section
variable [TheK]
variable {b:Q5}
def Pg{i:Nat}(hi:M.contains i=aC)(ha:QE X a (d7 i))(hb:QE X b (cE .b M fb)):QE X (.BinOp a .Add b pos) (cE .n M (cC nC i fb)):=⟨have ha:=ha.un;have hb:=hb.un;weak (lb Dj ha hb) (OU hi Cr)⟩
def lj(ha:QE X a (cE .e M fa))(hb:QE X b (cE .b M fb)):QE X (.BinOp a .Sub b pos) (cE .e M (d2 ij fa fb)):=⟨have ha:=ha.un;have hb:=hb.un;weak (lb Mq ha hb) (dY Hd)⟩
def ez(ha:QE X a (cE .e M fa))(hb:QE X b (cE .b M fb)):QE X (.BinOp a .Mult b pos) (cE .e M (d2 dN fa fb)):=⟨have ha:=ha.un;have hb:=hb.un;weak (lb Mo ha hb) (dY (u9 λi j h=>by
 unfold o3 at h;rw[QR,decide_eq_true_iff,decide_eq_true_iff] at h
 exact h))⟩
def fQ(ha:QE X a (cE .e M fa))(hb:QE X b (cE .b M fb)):QE X (.BinOp a .FloorDiv b pos) (cE .e M (d2 dM fa fb)):=⟨have ha:=ha.un;have hb:=hb.un;weak (lb Ot ha hb) (dY (u9 λi j h=>of_decide_eq_true (p:=0 < j/\j < 1073741824) h))⟩
def cq(ha:QE X a (cE .e M fa))(hb:QE X b (cE .b M fb)):QE X (.BinOp a .Mod b pos) (cE .e M (d2 bv fa fb)):=⟨have ha:=ha.un;have hb:=hb.un;weak (lb Mn ha hb) (dY (u9 λi j h=>of_decide_eq_true h))⟩
def yb(ha:QE X a (cE .e M fa))(hb:QE X b (cE .b M fb)):QE X (.BinOp a .Pow b pos) (cE .e M (d2 r8 fa fb)):=⟨have ha:=ha.un;have hb:=hb.un;weak (lb Mp ha hb) (dY (u9 λi j h=>of_decide_eq_true (p:=0<=j/\j<=1000000/\i.natAbs < 2 ^ 64) h))⟩
end
section
variable [TheK]
variable {b:Q5}
def ur(hu:X.A.units+8 < gg)(ha:QE X a (cE .e M fa))(hb:QE X b (cE .b M fb)):QE X (.Compare a [.Eq] [b] pos) (cE .e M (d2 cK fa fb)):=⟨have ha:=ha.un;have hb:=hb.un;weak (yq (Dk hu) ha hb (nU _)) (dY CD)⟩
def KP(hu:X.A.units+8 < gg)(ha:QE X a (cE .e M fa))(hb:QE X b (cE .b M fb)):QE X (.Compare a [.NotEq] [b] pos) (cE .e M (d2 dF fa fb)):=⟨have ha:=ha.un;have hb:=hb.un;weak (yq (Dl hu) ha hb (nU _)) (dY CG)⟩
end
section
variable [TheK]
variable {b:Q5}{fu:DT}{k:Kd}
def nV(h:QE X a (cE .b M fa))(he:∀ whole,JQ a X.env whole=(do let v <-whole; standAt a.pos; Yt [v] (truthy v)):=by intro _; rfl):QT X a (cT M (iJ fa)):=⟨have h:=h.un;iB (SK h he) (by
 intro σ H Q h_;refine qv h_ λF O s b s' R hf q=>?_;obtain⟨p,h1,h2⟩:=Qb hf;obtain⟨b',h3,h4⟩:=Qm h2;injection h4 with h4 h5;subst h4 h5
 exact⟨F,O,s,p.1,p.2,R,h1,λv H' S po=>⟨b',Pj po.view h3,q H' S po.1⟩⟩)⟩
def iO(hu:X.A.units+8 < gg)(ha:QE X a (cE .e M fa))(hb:QE X b (cE .b M fb)):QT X (.Compare a [.Eq] [b] pos) (cT M (dB (d2 cK fa fb))):=⟨have ha:=ha.un;have hb:=hb.un;iB (lv (Dk hu) ha hb (nU _)) (iU (dY CD))⟩
def oM(hu:X.A.units+8 < gg)(ha:QE X a (cE .e M fa))(hb:QE X b (cE .b M fb)):QT X (.Compare a [.NotEq] [b] pos) (cT M (dB (d2 dF fa fb))):=⟨have ha:=ha.un;have hb:=hb.un;iB (lv (Dl hu) ha hb (nU _)) (iU (dY CG))⟩
def Cg(ha:QE X a (cE .e M fa))(hb:QE X b (cE .b M fb)):QT X (.Compare a [.Lt] [b] pos) (cT M (dB (d2 sI fa fb))):=⟨have ha:=ha.un;have hb:=hb.un;iB (lv (op_lt.or Sy) ha hb (nU _)) (iU (dY L9))⟩
def rD(ha:QE X a (cE .e M fa))(hb:QE X b (cE .b M fb)):QT X (.Compare a [.Gt] [b] pos) (cT M (dB (d2 iF fa fb))):=⟨have ha:=ha.un;have hb:=hb.un;iB (lv Iw ha hb (nU _)) (iU (dY CC))⟩
def KW(ha:QE X a (cE .e M fa))(hb:QE X b (cE .b M fb)):QT X (.Compare a [.GtE] [b] pos) (cT M (dB (d2 BY fa fb))):=⟨have ha:=ha.un;have hb:=hb.un;iB (lv Iv ha hb (nU _)) (iU (dY CC))⟩
def Cf(ha:QE X a (cE .e M fa))(hb:QE X b (cE .b M fb)):QT X (.Compare a [.Is] [b] pos) (cT M (dB (d2 oo fa fb))):=⟨have ha:=ha.un;have hb:=hb.un;iB (lv (op_isF.or Mm) ha hb (nU _)) (iU (dY He))⟩
def vy(ha:QE X a (cE .e M fa))(hb:QE X b (cE .b M fb)):QT X (.Compare a [.IsNot] [b] pos) (cT M (dB (d2 fF fa fb))):=⟨have ha:=ha.un;have hb:=hb.un;iB (lv (op_isnotF.or Ow) ha hb (nU _)) (iU (dY RA))⟩
def yd(h:QT X a (cT M ft)):QT X (.UnaryOp .Not a pos) (cT M (sO ft)):=⟨have h:=h.un;iB (MP h) (by
 intro σ H Q h_;refine qv h_ λF O s b s' R hf q=>?_;obtain⟨p,h1,h2⟩:=Qm hf;cases h2
 exact⟨F,O,s,p.1,p.2,R,h1,λH' S R'=>q H' S R'⟩)⟩
def zE(h:QT X a (cT M ft)):QW X (.BoolOp .And [a] pos) (cT M ft):=⟨have h:=h.un;Pe h⟩
def ye(h:QT X a (cT M ft)):QW X (.BoolOp .Or [a] pos) (cT M ft):=⟨have h:=h.un;MS h⟩
def vB{rest:List Q5}(ha:QT X a (cT M ft))(hb:QW X (.BoolOp .And (b::rest) pos) (cT M fu)):QW X (.BoolOp .And (a::b::rest) pos) (cT M (o5 ft fu)):=⟨have ha:=ha.un;have hb:=hb.un;Cz (MR ha hb) (by
 intro σ H Q h_;refine qv h_ λF O s b s' R hf q=>?_;obtain⟨p,h1,h2⟩:=Qb hf;refine⟨F,O,s,p.1,p.2,R,h1,λH' S R'=>?_⟩;split at h2
 ·rename_i hp;rw[aI hp];exact⟨F,O,p.2,b,s',R',h2,λH2 S2 R2=>q H2 (S.trans S2) R2⟩
 ·rename_i hp;rw[aH hp];cases h2
  exact q H' S R')⟩
def yF{rest:List Q5}(ha:QT X a (cT M ft))(hb:QW X (.BoolOp .Or (b::rest) pos) (cT M fu)):QW X (.BoolOp .Or (a::b::rest) pos) (cT M (sK ft fu)):=⟨have ha:=ha.un;have hb:=hb.un;Cz (KN ha hb) (by
 intro σ H Q h_;refine qv h_ λF O s b s' R hf q=>?_;obtain⟨p,h1,h2⟩:=Qb hf;refine⟨F,O,s,p.1,p.2,R,h1,λH' S R'=>?_⟩;split at h2
 ·rename_i hp;rw[aI hp];cases h2;exact q H' S R'
 ·rename_i hp;rw[aH hp]
  exact⟨F,O,p.2,b,s',R',h2,λH2 S2 R2=>q H2 (S.trans S2) R2⟩)⟩
def Du{op}(h:QE X a (cE .e M fa)):QE X (.BoolOp op [a] pos) (cE .e M fa):=⟨have h:=h.un;ME h⟩
def Dt{rest:List Q5}(ha:QE X a (cE .e M fa))(hb:QE X (.BoolOp .And (b::rest) pos) (cE .e M fb)):QE X (.BoolOp .And (a::b::rest) pos) (cE .e M (uf fa fb)):=⟨have ha:=ha.un;have hb:=hb.un;weak (Ms ha hb) (by
 intro σ H Q h_;refine bz h_ λF O s t s' R hf q=>?_;obtain⟨p,h1,h2⟩:=Qb hf;refine⟨F,O,s,.bl p.1,p.2,R,yw h1,λv H' S po=>⟨p.1,BRep.bl (.inl po.2),?_⟩⟩;split at h2
 ·rename_i hp;rw[aI hp];exact⟨F,O,p.2,t,s',po.1,h2,λw H2 S2 p2=>q w H2 (S.trans S2) p2⟩
 ·rename_i hp;rw[aH hp];cases h2
  exact q _ H' S ⟨po.1,.bl aD⟩)⟩
def ut(hc:QT X c (cT M ft))(ha:QE X a (cE .e M fa))(hb:QE X b (cE .e M fb)):QE X (.IfExp c a b pos) (cE .e M (qt ft fa fb)):=⟨have hc:=hc.un;have ha:=ha.un;have hb:=hb.un;weak (SC hc ha hb) (by
 intro σ H Q h_;refine bz h_ λF O s t s' R hf q=>?_;obtain⟨p,h1,h2⟩:=Qb hf;refine⟨F,O,s,p.1,p.2,R,h1,λH' S R'=>?_⟩;split at h2
 ·rename_i hp;rw[aI hp];exact⟨F,O,p.2,t,s',R',h2,λw H2 S2 p2=>q w H2 (S.trans S2) p2⟩
 ·rename_i hp;rw[aH hp]
  exact⟨F,O,p.2,t,s',R',h2,λw H2 S2 p2=>q w H2 (S.trans S2) p2⟩)⟩
end
section
variable [TheK]
variable {fa:DA}
def aQ :QA X [] (cA M aJ):=⟨Cw iq (by
 rintro σ H Q ⟨F,O,s,ts,s',R,hf,q⟩;cases hf
 exact q [] H .refl R .nil)⟩
def aG(h:QE X e (cE .e M fe))(ha:QA X es (cA M fa))(hs:ac X e es:=by rfl):QA X (e::es) (cA M (aF fe fa)):=⟨have h:=h.un;have ha:=ha.un;Cw (fX h ha hs) (by
 rintro σ H Q ⟨F,O,s,ts,s',R,hf,q⟩;obtain⟨p,h1,h2⟩:=Qb hf;obtain⟨r,h3,h4⟩:=Qm h2;cases h4;refine⟨F,O,s,p.1,p.2,R,h1,λv H1 S1 p1=>⟨F,O,p.2,r.1,r.2,p1.1,h3,λvs H2 S2 R2 rs=>?_⟩⟩
 exact q _ H2 (S1.trans S2) R2 (.cons (p1.1.stay S2 p1.2) rs))⟩
def dP(h:QA X es (cA M fa)):QE X (.List es pos) (cE .n M (cf fa)):=⟨have h:=h.un;weak (Mw h) (by
 intro σ H Q h_;refine bz h_ λF O s t s' R hf q=>?_;obtain⟨p,h1,h2⟩:=Qb hf;split at h2
 ·rename_i hl;cases h2;refine⟨F,O,s,p.1,p.2,R,h1,λvs H1 S1 R1 rs=>⟨by rw[rs.1]; exact hl,λa ha=>?_⟩⟩
  exact q _ _ (S1.trans (.new ha _)) (.mkN R R1 S1 ha λC hC=>.lst cD (rs.there.mono hC λc o _ e=>by rw[au (dA e ha)]; exact e))
 ·cases h2)⟩
def ie{x1}(h:QA X es (cA M fa)):QE X (.Tuple es x1 pos) (cE .e M (eZ fa)):=⟨have h:=h.un;weak (MH h) (by
 intro σ H Q h_;refine bz h_ λF O s t s' R hf q=>?_;obtain⟨p,h1,h2⟩:=Qb hf;split at h2
 ·rename_i hl;cases h2;refine⟨F,O,s,p.1,p.2,R,h1,λvs H1 S1 R1 rs=>⟨by rw[rs.1]; exact hl,λa ha=>?_⟩⟩
  refine q _ _ (S1.trans (.new ha _)) (.mkE R1 ha λC hC hp=>?_);have:=rs.there.mono (C':=C) (H':=aS H1 a (.tup vs)) hC λc o _ e=>by rw[au (dA e ha)]; exact e
  exact .tup hp cD this.1 this.2
 ·cases h2)⟩
def rV :QE X (.Dict [] [] pos) (cE .n M oA):=⟨weak SB (by
 intro σ H Q h_;refine bz h_ λF O s t s' R hf q=>?_;cases hf;intro a ha
 exact q _ _ (.new ha _) (.mkN R R .refl ha λC hC=>.dct cD ⟨rfl,λi v t e=>by simp at e⟩))⟩
end
section
variable [TheK]
variable {lo hi:Option Q5}{fl fh:DO}
def lP :QO X aB (cO M i4):=⟨λpc s σ H Q I h=>by
 obtain⟨F,O,s',t,s'',R,hf,q⟩:=h;cases hf
 exact P8 pc s σ H Q I (q H .refl R)⟩
def ig(h:QE X e (cE .e M fe)):QO X (aA e) (cO M (f9 fe)):=⟨have h:=h.un;λpc s σ H Q I hw=>by
 obtain⟨F,O,s',t,s'',R,hf,q⟩:=hw;obtain⟨⟨t',s1⟩,h1,h2⟩:=Qb hf;cases t'<;>simp at h2
 rename_i i;obtain⟨h2,h3⟩:=h2;subst h2 h3
 exact P9 h pc s σ H Q I ⟨F,O,s',.int i,s1,R,h1,λv H' S p=>⟨i,BRep.int (.inl p.2),q H' S p.1⟩⟩⟩
def KQ(hK:X.K=TheK.K)(he:QE X e (cE .e M fe))(hl:QO X lo (cO M fl))(hu:QO X hi (cO M fh)):QE X (.Subscript e (.Slice lo hi aB p2) pos) (cE .n M (dS iw fe fl fh)):=⟨L3.Bu hK he.un hl.un hu.un⟩
def MU{i:Nat}(hK:X.K=TheK.K)(hi':M.contains i=aC)(he:QE X e (d7 i))(hl:QO X lo (cO M fl))(hu:QO X hi (cO M fh)):QE X (.Subscript e (.Slice lo hi aB p2) pos) (cE .n M (uV iw i fl fh)):=⟨have he:=he.un;have hl:=hl.un;have hu:=hu.un;weak (zc (hK▸EL) he hl hu) (LD hi' CH)⟩
end
section
variable [TheK]
variable {F:Fr}{O O' O'':jv->Prop}{s s':Sg}{σ:L2.St}{H H' H'':Hp}{v:V}{t:T}{a:jv}
def rP{X:Cx}{st:QX}{d:DS}{Mx:ak}(h:QS X st (cS rk io M' Mx Mb d))(hM:M'.all (M.contains ·)=aC:=by rfl)(hio:io.all (M'.contains ·)=aC:=by rfl):QS X st (cS rk io M Mx Mb d):=⟨have h:=h.un;fP h (by
 intro D σ H h_;refine i5 h_ λF O s r R I hd q=>?_;obtain⟨O',w,R',I'⟩:=R.freeze I (lN hM) (lN hio)
 exact⟨F,O',s,r,R',I',hd,q.more ⟨λb o n h=>⟨h,λz=>n (w b z)⟩,λ_ h=>h⟩⟩)⟩
def zg{X:Cx}{st:List QX}{d:DS}{Mx:ak}(h:QSs X st (cS rk io M M' Mb d))(hM:Mx.all (M'.contains ·)=aC:=by rfl)(hio:io.all (Mx.contains ·)=aC:=by rfl):QSs X st (cS rk io M Mx Mb d):=⟨have h:=h.un;vF h (by
 intro D σ H h_;refine i5 h_ λF O s r R I hd q=>?_
 exact⟨F,O,s,r,R,I,hd,RW (lN hM) (lN hio) q⟩)⟩
end
section
variable [TheK]
variable {M'':ak}{sts:List QX}{a b:List QX}{d d':DS}{pos':Pos}
def cg :QSs X [] (cS rk io M M Mb bq):=⟨vF Pb (by
 intro D σ H h_;refine i5 h_ λF O s r R I hd q=>?_;cases hd
 exact q O σ H .refl R I)⟩
def aU(h:QS X st (cS rk io M M' Mb d)):QSs X [st] (cS rk io M M' Mb d):=⟨have h:=h.un;tH h⟩
def aT(h:QS X st (cS rk io M M' Mb d))(h2:QSs X sts (cS rk io M' M'' Mb d')):QSs X (st::sts) (cS rk io M M'' Mb (aN d d')):=⟨have h:=h.un;have h2:=h2.un;vF (zd h h2) (by
 intro D σ H h_;refine i5 h_ λF O s r R I hd q=>?_;obtain⟨r1,h1,h2⟩:=Qb hd;refine⟨F,O,s,r1,R,I,h1,?_⟩;cases r1 with
 |nx s1=>exact λO1 σ1 H1 k1 R1 I1=>⟨F,O1,s1,r,R1,I1,h2,q.more k1⟩
 |bk s1=>injection h2 with h2; subst h2; exact q
 |ct s1=>injection h2 with h2; subst h2; exact q
 | rt t s1=>injection h2 with h2; subst h2; exact q)⟩
def cW(hc:QT X c (cT M ft))(ha:QSs X a (cS rk io M M' Mb d))(hb:QSs X b (cS rk io M M' Mb d')):QS X (.If c a b pos) (cS rk io M M' Mb (bj ft d d')):=⟨have hc:=hc.un;have ha:=ha.un;have hb:=hb.un;fP (Ce hc ha hb) (by
 intro D σ H h_;refine i5 h_ λF O s r R I hd q=>?_;obtain⟨p,h1,h2⟩:=Qb hd;refine⟨F,O,s,p.1,p.2,R,h1,λH1 S1 R1=>?_⟩;have k:=S1.keepO R;dsimp only;split at h2
 ·rename_i hp;rw[aI hp];exact⟨F,O,p.2,r,R1,I,h2,q.more k⟩
 ·rename_i hp;rw[aH hp]
  exact⟨F,O,p.2,r,R1,I,h2,q.more k⟩)⟩
def bN{i:Nat}(h:QS X st (ef (cE .e M fe) (eS i)))(hM:D5 M M' io i=aC:=by rfl):QS X st (cS rk io M M' Mb (aZ i fe)):=⟨have h:=h.un;fP h (by
 unfold D5 at hM;rw[jJ,jJ,jJ] at hM;obtain⟨⟨⟨m1,m2⟩,m3⟩,m4⟩:=hM;intro D σ H h_;refine i5 h_ λF O s r R I hd q=>?_;obtain⟨p,h1,h2⟩:=Qb hd;split at h2
 ·rename_i hi;cases h2;refine⟨F,O,s,p.1,p.2,R,h1,λv H1 S1 p1=>?_⟩;refine q O _ H1 (S1.keepO R) (p1.1.setE (λj hj=>?_) (λj hj=>?_) hi p1.2) (I.set (by simpa using m3) (lN m4))
  ·simpa using jB.mp m1 j hj
  ·simpa using jB.mp m2 j hj
 ·cases h2)⟩
def eQ{i:Nat}(h:QS X st (ef (cE .n M fe) (eS i)))(hM:D6 M M' io i=aC:=by rfl):QS X st (cS rk io M M' Mb (aZ i fe)):=⟨have h:=h.un;fP h (by
 unfold D6 at hM;rw[jJ,jJ,jJ,jJ] at hM;obtain⟨⟨⟨⟨m1,m2⟩,m5⟩,m3⟩,m4⟩:=hM;intro D σ H h_;refine i5 h_ λF O s r R I hd q=>?_;obtain⟨p,h1,h2⟩:=Qb hd;split at h2
 ·rename_i hi;cases h2;refine⟨F,O,s,p.1,p.2,R,h1,λv H1 S1 p1=>?_⟩;obtain⟨a,rfl,h0,R1,L⟩:=p1;have k:KeepO O H (λb=>O b∨b=a) H1:=⟨λb o n h=>⟨S1.keep b o (R.notOwned n) h,λz=>z.elim n λz=>by rw[z,h0] at h; cases h⟩,S1.dom⟩
  refine q _ _ H1 k (R1.setN (λj hj=>?_) (λj hj=>?_) hi (by simpa using m5) (.inr rfl) (λj hj _ e=>R.al a (R.ow j a hj e) h0) L) (I.set (by simpa using m3) (lN m4))
  ·simpa using jB.mp m1 j hj
  ·simpa using jB.mp m2 j hj
 ·cases h2)⟩
def l9{k:Kd}(hk:k=.e∨k=.b)(he:QE X e (cE k M fe))(hs:ZZ e aB pos.line X.env=pure aD:=by rfl):QS X (.Expr e pos) (cS rk io M M Mb (iX fe)):=⟨have he:=he.un;fP (Pa he hs) (by
 intro D σ H h_;refine i5 h_ λF O s r R I hd q=>?_;obtain⟨p,h1,h2⟩:=Qm hd;subst h2;refine⟨F,O,s,p.1,p.2,R,h1,λv H1 S1 p1=>?_⟩;obtain rfl |rfl:=hk
 ·exact q O σ H1 (S1.keepO R) p1.1 I
 ·exact q O σ H1 (S1.keepO R) p1.1 I)⟩
def bM(he:QE X e (cE .e M fe)):QS X (.Return (aA e) pos) (cS .e io M M' Mb (bC io fe)):=⟨have he:=he.un;fP (v9 he) (by
 intro D σ H h_;refine i5 h_ λF O s r R I hd q=>?_;obtain⟨p,h1,h2⟩:=Qb hd;split at h2
 ·rename_i hh;cases h2;exact⟨F,O,s,p.1,p.2,R,h1,λv H1 S1 p1=>q v H1 (Co p1.1 I (hasAll.get hh) p1.2)⟩
 ·cases h2)⟩
def Py(he:QE X e (cE .n M fe)):QS X (.Return (aA e) pos) (cS .n io M M' Mb (bC io fe)):=⟨have he:=he.un;fP (v9 he) (by
 intro D σ H h_;refine i5 h_ λF O s r R I hd q=>?_;obtain⟨p,h1,h2⟩:=Qb hd;split at h2
 ·rename_i hh;cases h2;refine⟨F,O,s,p.1,p.2,R,h1,λv H1 S1 p1=>?_⟩;obtain⟨a,rfl,h0,R1,L⟩:=p1;exact q _ H1 (Cp R1 I (hasAll.get hh) (.inr rfl) (R.dom a h0) (λz=>R.al a (R.inD a z) h0) L)
 ·cases h2)⟩
def Pz{i:Nat}(hi:M.contains i=aC)(hn:io.contains i=aD)(he:QE X e (d7 i)):QS X (.Return (aA e) pos) (cS .n io M M' Mb (bC io (dV i))):=⟨have he:=he.un;fP (v9 he) (by
 intro D σ H h_;refine i5 h_ λF O s r R I hd q=>?_;obtain⟨p,h1,h2⟩:=Qb hd;obtain⟨t,s1⟩:=p;obtain⟨h3,h4⟩:=yy h1;subst h4;split at h2
 ·rename_i hh;cases h2;have hi':i∈M:=by simpa using hi
  obtain⟨a,e1,L⟩:=R.own i t h3 hi';have nd:¬ F.D a:=λz=>by
   obtain⟨j,hj,rfl⟩:=I.D a z;obtain⟨h5,h6⟩:=I.at_ j hj;have:=R.dis i j _ hi' h5 e1 h6;subst this;have:io.contains i=aC:=by simpa using hj
   rw[hn] at this; cases this
  refine⟨_,e1,q _ H (Cp R I (hasAll.get hh) (R.ow i a hi' e1) ?_ nd L)⟩;obtain z |z:=R.fresh a (R.ow i a hi' e1)
  ·exact absurd z nd
  ·exact z
 ·cases h2)⟩
end
section
variable [TheK]
variable {fv:DE}
def lm{i:Nat}(hi:M.contains i=aC)(h:QS X st (yH (d7 i) (cE .e M fk) (cE .e M fv))):QS X st (cS rk io M M Mb (im i fk fv)):=⟨have h:=h.un;fP h (by
 intro D σ H h_;refine i5 h_ λF O s r R I hd q=>?_;have hi':i∈M:=by simpa using hi
 obtain⟨p,h1,hd⟩:=Qb hd;obtain⟨t0,h0,hd⟩:=Qb hd;obtain⟨w,h2,hd⟩:=Qb hd;obtain⟨t1,h3,hd⟩:=Qb hd;obtain⟨kvs,rfl⟩:∃ kvs,t1=.dct kvs:=by cases t1<;>first |exact⟨_,rfl⟩ |cases hd
 have hd:=hd;obtain⟨k,h4,hd⟩:=Qb hd;split at hd
 case isFalse=>cases hd
 rename_i h5;cases hd;refine⟨F,O,s,p.1,p.2,R,h1,λv H1 S1 p1=>?_⟩;obtain⟨a,e1,_⟩:=p1.1.own i t0 (cv h0) hi';refine⟨_,e1,F,O,p.2,w.1,w.2,p1.1,h2,λy H2 S2 p2=>?_⟩;obtain⟨b,e2,L⟩:=p2.1.own i _ (cv h3) hi';rw[e1] at e2;injection e2 with e2;cases e2;have ne:=L.ne;cases L with
 |dct hr hk=>
  cases oR (.inl p2.2) h4;refine⟨a,_,rfl,DPut.k hr (by rw[hk.len]; exact h5),?_⟩
  have rv:=p1.1.stay S2 p1.2;have R2:=p2.1.write (t':=.dct (dI kvs k p.1)) hi' e1 (cv h3) (λHx kx ex=>.dct ex ((hk.put rv).mono (λ_ c=>c) kx))
  exact q O σ _ (((S1.trans S2).trans (.write hi' e1 ne)).keepO R) R2 I)⟩
def vc{i:Nat}(hi:M.contains i=aC)(h:QS X st (ef (cE .e M fv) (xh (d7 i) (cE .e M fk) Ci))):QS X st (cS rk io M M Mb (oB i fk fv)):=⟨have h:=h.un;fP h (by
 intro D σ H h_;refine i5 h_ λF O s r R I hd q=>?_;have hi':i∈M:=by simpa using hi
 obtain⟨p,h1,hd⟩:=Qb hd;obtain⟨t0,h0,hd⟩:=Qb hd;obtain⟨⟨w1,w2⟩,h2,hd⟩:=Qb hd;obtain⟨t1,h3,hd⟩:=Qb hd;obtain⟨xs,rfl⟩:∃ xs,t1=.lst xs:=by cases t1<;>first |exact⟨_,rfl⟩ |cases hd
 obtain⟨k,rfl⟩:∃ k,w1=.int k:=by cases w1<;>first |exact⟨_,rfl⟩ |cases hd
 obtain⟨j,h4,h6⟩:=Qm hd;subst h6;refine⟨F,O,s,p.1,p.2,R,h1,λv H1 S1 p1=>?_⟩;obtain⟨a,e1,_⟩:=p1.1.own i t0 (cv h0) hi';refine⟨_,e1,F,O,p.2,_,_,p1.1,h2,λy H2 S2 p2=>?_⟩;obtain⟨b,e2,L⟩:=p2.1.own i _ (cv h3) hi';rw[e1] at e2;injection e2 with e2;cases e2;have ne:=L.ne;obtain⟨vs,hr,hk⟩:=L.lst';obtain rfl:y=.int k:=BRep.int (.inl p2.2);refine⟨a,vs,k,j,rfl,rfl,hr,by rw[hk.1]; exact h4,?_⟩
 have rv:=p1.1.stay S2 p1.2;have R2:=p2.1.write (t':=.lst (xs.set j p.1)) hi' e1 (cv h3) (λHx kx ex=>.lst ex ((hk.set j rv).mono (λ_ c=>c) kx))
 exact q O σ _ (((S1.trans S2).trans (.write hi' e1 ne)).keepO R) R2 I)⟩
def yc{is:ak}{n:Nat}{K:jd}{fe:DE}(h:QS X st (ef (cE .e M fe) (λv σ H Q=>xU K n (lG is) v σ H Q∨ia K n (lG is) v σ H Q)))(hn:is.length=n)(hm:is.all (λi=>!M.contains i)=aC)(hio:io.all (M.contains ·)=aC):QS X st (cS rk io M M Mb (uH is fe)):=⟨have h:=h.un;fP h (by
 intro D σ H h_;refine i5 h_ λF O s r R I hd q=>?_;obtain⟨⟨p1,p2⟩,h1,hd⟩:=Qb hd;obtain⟨ts,h2,hd⟩:=Qb hd;obtain⟨s2,h3,hd⟩:=Qm hd;subst hd;have hl:∀ {is:ak} {ts:List T} {s s':Sg},iC is ts s=aA s'->ts.length=is.length:=by
  intro is
  induction is with
  |nil=>intro ts s s' e; cases ts with
   |nil=>rfl
   |cons=>cases e
  |cons i is ih=>intro ts s s' e; cases ts with
   |nil=>cases e
   |cons t ts=>
    unfold iC at e;split at e
    ·rw[jo,jo,ih e]
    ·cases e
 have hmm:∀ i,i∈is->i∉M:=λi hi=>by simpa using jB.mp hm i hi
 refine⟨F,O,s,p1,p2,R,h1,λv H1 S1 po=>?_⟩;cases p1<;>simp[v7] at h2
 ·subst h2;obtain⟨a,vs,rfl,ha,ra⟩:=BRep.lst (.inl po.2);exact .inl ⟨a,vs,rfl,aq.of ha,by rw[ra.1,hl h3,hn],vU po.1 I hmm (lN hio) ra h3 fun σ' R' I'=>q O σ' H1 (S1.keepO R) R' I'⟩
 ·subst h2;obtain⟨a,vs,rfl,ha,ra⟩:=BRep.tup (.inl po.2)
  exact .inr ⟨a,vs,rfl,cL.of ha,by rw[ra.1,hl h3,hn],vU po.1 I hmm (lN hio) ra h3 fun σ' R' I'=>q O σ' H1 (S1.keepO R) R' I'⟩)⟩
end
section
variable [TheK]
variable {fa:DA}
def oZ{a:Q5}{p pos:Pos}(hg:Gl X "range")(hm:X.mg "range"=aB)(ha:QA X [a] (cA M fa))(hs:jg [a] X.env=[(aD,eval a X.env)]:=by rfl):QI X tg (.Call (.Name "range" p) [a] [] pos) (cI M (i7 fa)):=⟨have ha:=ha.un;nM (TB hg hm ha hs) (by
 intro σ H R h_;refine nt h_ λF O s its s' Rl hf q=>?_;obtain⟨⟨p1,p2⟩,h1,h2⟩:=Qb hf;refine⟨F,O,s,p1,p2,Rl,h1,λvs H1 S1 R1 rs=>?_⟩;dsimp only at h2;split at h2
 case h_2=>cases h2
 ·rename_i j;have h2:=h2;split at h2
  ·rename_i hj;have hj:=vz hj;cases h2;obtain⟨v,rfl,rv⟩:=rs.one;obtain rfl:v=.int j:=BRep.int (.inl rv);exact⟨j,rfl,hj.1,hj.2,q _ H1 S1 R1 Ep⟩
  ·cases h2)⟩
def Fa{a b:Q5}{p pos:Pos}(hg:Gl X "range")(hm:X.mg "range"=aB)(ha:QA X [a,b] (cA M fa))(hs:jg [a,b] X.env=[(aD,eval a X.env),(aD,eval b X.env)]:=by rfl)(hs2:jg [b] X.env=[(aD,eval b X.env)]:=by rfl):QI X tg (.Call (.Name "range" p) [a,b] [] pos) (cI M (r6 fa)):=⟨have ha:=ha.un;nM (TC hg hm ha hs hs2) (by
 intro σ H R h_;refine nt h_ λF O s its s' Rl hf q=>?_;obtain⟨⟨p1,p2⟩,h1,h2⟩:=Qb hf;refine⟨F,O,s,p1,p2,Rl,h1,λvs H1 S1 R1 rs=>?_⟩;dsimp only at h2;split at h2
 case h_2=>cases h2
 ·rename_i i j;have h2:=h2;split at h2
  ·rename_i hj;have hj:-(2 ^ 62)<=i/\i < 2 ^ 62/\-(2 ^ 62)<=j/\j < 2 ^ 62:=⟨(vz hj.1).1,(vz hj.1).2,vz hj.2⟩;cases h2
   match vs,rs with
   |v::vs,rs=>
    obtain⟨u,rfl,ru⟩:=rs.tail.one;obtain rfl:v=.int i:=BRep.int (.inl rs.head);obtain rfl:u=.int j:=BRep.int (.inl ru);exact⟨i,j,rfl,hj,q _ H1 S1 R1 Ep⟩
   |[],rs=>exact absurd rs.1 (by simp)
  ·cases h2)⟩
def zB{elts:List Q5}{x1:Nat}{tp:Pos}{a:Q5}{p pos:Pos}(hg:Gl X "enumerate")(hm:X.mg "enumerate"=aB)(ha:QA X [a] (cA M fa))(hs:jg [a] X.env=[(aD,eval a X.env)]:=by rfl):QI X (.Tuple elts x1 tp) (.Call (.Name "enumerate" p) [a] [] pos) (cI M (sL fa)):=⟨have ha:=ha.un;nM (P4 hg hm ha hs) (by
 intro σ H R h_;refine nt h_ λF O s its s' Rl hf q=>?_;obtain⟨⟨p1,p2⟩,h1,h2⟩:=Qb hf;refine⟨F,O,s,p1,p2,Rl,h1,λvs H1 S1 R1 rs=>?_⟩;dsimp only at h2;split at h2
 case h_2=>cases h2
 ·rename_i xs;cases h2;obtain⟨v,rfl,rv⟩:=rs.one;cases rv with
  |@lst a us _ c r l h=>
   refine⟨a,rfl,⟨us,aq.of r⟩,q _ H1 S1 R1 ?_⟩;intro H2 k i;have h2:=k a _ c r;have hlen:(l7 xs).length=us.length:=by unfold l7; rw[j4,QC,l]
   refine⟨λt ht=>?_,λhl=>⟨us,aq.of h2,by rw[<-hlen]; exact hl⟩⟩
   have hi:i < us.length:=by rw[<-hlen]; exact(j6.mp ht).1
   have hx:i < xs.length:=by rw[<-l]; exact hi
   have et:t=.tup [.int i,xs[i]]:=by
    unfold l7 at ht;rw[jf,QL hx] at ht;have:=jh ht;rw[<-this];simp[List.getD,j3 hx]
   subst et;refine⟨⟨us,us[i],aq.of h2,j3 hi⟩,λx H3 ⟨p',x',e1,e2,e3,e4⟩=>⟨.inr ⟨p',_,e2,e3⟩,?_⟩⟩;have:=e4 us (aq.of h2);rw[j3 hi] at this;obtain rfl:us[i]=x':=jh this;subst e1 e3;have ri:=h i _ _ (j3 hi) (j3 hx);have ri2:Rep (λb=>(Free F O b/\H1 b≠aB)∨H2 b=aB) (aS H2 p' (.tup [.int i,us[i]])) us[i] xs[i]:=
    ri.there.mono (λb c=>.inl c) λb o c e=>by rw[au (dA (k b o c.1 e) e2)]; exact k b o c.1 e
   have rr:Reps (λb=>(Free F O b/\H1 b≠aB)∨H2 b=aB) (aS H2 p' (.tup [.int i,us[i]])) [.int i,us[i]] [.int i,xs[i]]:=.cons (.int _) (.cons ri2 .nil)
   exact .tup (.inr e2) cD rr.1 rr.2)⟩
end
section
variable [TheK]
variable {body:List QX}{fi:DI}{g:DG}{db:DS}
def fY{i:Nat}(h:QG X tg (eS i))(hi:M.contains i=aD:=by rfl)(hio:io.all (M.contains ·)=aC:=by rfl):QG X tg (cG io M (bK i)):=⟨have h:=h.un;Cy h (gn hi hio)⟩
def qS{is:ak}{n:Nat}{K:jd}(h:QG X tg (ia K n (lG is)))(hn:is.length=n:=by rfl)(hm:is.all (λi=>!M.contains i)=aC:=by rfl)(hio:io.all (M.contains ·)=aC:=by rfl):QG X tg (cG io M (fK is)):=⟨have h:=h.un;Cy h (gt hn hm hio)⟩
def eG(h:QS X (.For tg iter body [] pos) (ua (cI M fi) (cG io M g) (cS rk io M M M db))):QS X (.For tg iter body [] pos) (cS rk io M M Mb (cM fi g db)):=⟨have h:=h.un;fP h Lu⟩
def qb{c:Q5}{ft:DT}(n:Nat)(hp:Jv (jR X.prog X.w) X.A X.env X.xe)(hc:QT X c (cT M ft))(hb:QSs X body (cS rk io M M M db)):QS X (.While c body [] pos) (cS rk io M M Mb (fE ft db n)):=⟨have hc:=hc.un;have hb:=hb.un;fP (SJ hp hc hb) Rt⟩
end
section
variable [TheK]
variable {b:Q5}
def bQ(hK:X.K=TheK.K)(hu:X.A.units+1 < gg)(ha:QE X a (cE .e M fa))(hb:QE X b (cE .b M fb))(hs:tJ b):QE X (.Subscript a b pos) (cE .e M (d2 aM fa fb)):=⟨have ha:=ha.un;have hb:=hb.un;weak (sU (HR hK ha hb hs) (KH hu ha hb hs)) (su sZ om om)⟩
def iS{i:Nat}(hK:X.K=TheK.K)(hi:M.contains i=aC)(hu:X.A.units+1 < gg)(ha:QE X a (d7 i))(hb:QE X b (cE .b M fb))(hs:tJ b):QE X (.Subscript a b pos) (cE .e M (cC aM i fb)):=⟨have ha:=ha.un;have hb:=hb.un;weak (sU (KI hK hi ha hb hs) (Lo hi hu ha hb hs)) (su Lk om om)⟩
def Tc(hu:X.A.units+1 < gg)(ha:QE X a (cE .e M fa))(hb:QE X b (cE .b M fb))(hm:Qp .NotIn b=aD):QE X (.Compare a [.NotIn] [b] pos) (cE .e M (d2 eV fa fb)):=⟨have ha:=ha.un;have hb:=hb.un;weak (sU (PL ha hb hm) (RV hu ha hb hm)) (su sZ om om)⟩
def Dz(hu:X.A.units+1 < gg)(ha:QE X a (cE .e M fa))(hb:QE X b (cE .b M fb))(hm:Qp .In b=aD):QT X (.Compare a [.In] [b] pos) (cT M (dB (d2 nE fa fb))):=⟨have ha:=ha.un;have hb:=hb.un;iB (C6 (Hs ha hb hm) (LK hu ha hb hm)) (ED sZ)⟩
def qe(hu:X.A.units+1 < gg)(ha:QE X a (cE .e M fa))(hb:QE X b (cE .b M fb))(hm:Qp .NotIn b=aD):QT X (.Compare a [.NotIn] [b] pos) (cT M (dB (d2 eV fa fb))):=⟨have ha:=ha.un;have hb:=hb.un;iB (C6 (Pi ha hb hm) (Rq hu ha hb hm)) (ED sZ)⟩
def cX(ha:QE X a (cE .e M fa))(hb:QE X b (cE .b M fb)):QE X (.BinOp a .Add b pos) (cE .e M (d2 bV fa fb)):=⟨have ha:=ha.un;have hb:=hb.un;weak (sU (KF ha hb) (KG ha hb)) (su sZ om Gy)⟩
def lh{lo hi:Option Q5}{fl fh:DO}{p2:Pos}(hK:X.K=TheK.K)(he:QE X e (cE .e M fe))(hl:QO X lo (cO M fl))(hu:QO X hi (cO M fh)):QE X (.Subscript e (.Slice lo hi aB p2) pos) (cE .e M (dS cm fe fl fh)):=⟨have he:=he.un;have hl:=hl.un;have hu:=hu.un;weak (sU (KJ he hl hu) (Bu hK he hl hu)) (su Ll om Gy)⟩
def cu{tg:Q5}(hK:X.K=TheK.K)(h:QE X e (cE .e M fe)):QI X tg e (cI M (bc fe)):=⟨have h:=h.un;nM (xW (xW (M8 hK h) (Ih h)) (xW (HU h) (M9 h))) (by
 intro σ H R h_;refine nt h_ λF O s its s' Rl hf q=>?_;obtain⟨⟨p1,p2⟩,h1,h2⟩:=Qb hf;cases p1 with
 |lst xs=>exact .inl (.inl ⟨F,O,s,its,s',Rl,by unfold Ba; rw[h1]; exact h2,q⟩)
 |scr xs=>exact .inl (.inl ⟨F,O,s,its,s',Rl,by unfold Ba; rw[h1]; exact h2,q⟩)
 |tup xs=>exact .inl (.inr ⟨F,O,s,its,s',Rl,by unfold Bt; rw[h1]; exact h2,q⟩)
 |fd xs=>exact .inr (.inl ⟨F,O,s,its,s',Rl,by unfold Br; rw[h1]; exact h2,q⟩)
 |str x=>exact .inr (.inr ⟨F,O,s,its,s',Rl,by unfold Bs; rw[h1]; exact h2,q⟩)
 | _=>cases h2)⟩
end
section
variable [TheK]
variable {b:Q5}
variable {fs:DA}{f:jv}{fd:Zl}{np:Nat}
def Pf{fn:List T->Option T}(F:FnOk X.prog X.w X.K X.mg X.base fC k f fd ps (bW .e np fn))(hr:Room k X.A)(hg:Gl X x)(hm:X.mg x=aA (.ref f))(hk:Qd X.K (.ref f)=aC)(hb:Binds X.K fd ps [])(ha:QA X (e::es) (cA M fs))(ar:Ar fs np)(hdb:ae x:=by decide)(he:ac X e es:=by rfl)(hpl:ad X pos es:=by rfl):QE X (.Call (.Name x p) (e::es) [] pos) (cE .e M (av fn fs)):=⟨have ha:=ha.un;weak (rT F hr hg hm hk hb .nil sj ha hdb he hpl) (Lg ar)⟩
def SN{fn:List T->Option T}(F:FnOk X.prog X.w X.K X.mg X.base fC k f fd ps (bW .n np fn))(hr:Room k X.A)(hg:Gl X x)(hm:X.mg x=aA (.ref f))(hk:Qd X.K (.ref f)=aC)(hb:Binds X.K fd ps [])(ha:QA X (e::es) (cA M fs))(ar:Ar fs np)(hdb:ae x:=by decide)(he:ac X e es:=by rfl)(hpl:ad X pos es:=by rfl):QE X (.Call (.Name x p) (e::es) [] pos) (cE .n M (av fn fs)):=⟨have ha:=ha.un;weak (rT F hr hg hm hk hb .nil sj ha hdb he hpl) (Lh ar)⟩
def SL{fn:List T->Option (T × T)}{i:Nat}(hi:M.contains i=aC)(F:FnOk X.prog X.w X.K X.mg X.base fC k f fd ps (fj .e (np+1) fn))(hr:Room k X.A)(hg:Gl X x)(hm:X.mg x=aA (.ref f))(hk:Qd X.K (.ref f)=aC)(hb:Binds X.K fd ps [])(h0:QE X e (d7 i))(ha:QA X es (cA M fs))(ar:Ar fs np)(hdb:ae x:=by decide)(he:ac X e es:=by rfl)(hpl:ad X pos es:=by rfl):QE X (.Call (.Name x p) (e::es) [] pos) (cE .e M (nO fn i fs)):=⟨have h0:=h0.un;have ha:=ha.un;weak (rT F hr hg hm hk hb .nil sj (fX h0 ha he) hdb he hpl) (Oj ar hi)⟩
def SO{fn:List T->Option (T × T)}{rk:Kd}(hrk:rk=.e∨rk=.n)(F:FnOk X.prog X.w X.K X.mg X.base fC k f fd ps (fj rk (np+1) fn))(hr:Room k X.A)(hg:Gl X x)(hm:X.mg x=aA (.ref f))(hk:Qd X.K (.ref f)=aC)(hb:Binds X.K fd ps [])(h0:QE X e (cE .n M fe))(ha:QA X es (cA M fs))(ar:Ar fs np)(hdb:ae x:=by decide)(he:ac X e es:=by rfl)(hpl:ad X pos es:=by rfl):QE X (.Call (.Name x p) (e::es) [] pos) (cE rk M (qQ fn fe fs)):=⟨have h0:=h0.un;have ha:=ha.un;weak (rT F hr hg hm hk hb .nil sj (fX h0 ha he) hdb he hpl) (PB hrk ar)⟩
def eU(hK:X.K=TheK.K)(hg:Gl X "len")(hm:X.mg "len"=aB)(h:QE X e (cE .b M fe))(he:ac X e []:=by rfl)(hpl:ad X pos []:=by rfl):QE X (.Call (.Name "len" p) [e] [] pos) (cE .e M (d1 bn fe)):=⟨have h:=h.un; weak (rY (((hK▸VG).or V4).or SZ) hg hm Wm (fX h iq he) (by decide) (by decide) he hpl) (xw LA)⟩
def qg{i:Nat}{o:Q5}{apos:Pos}(hi:M.contains i=aC)(h:QE X (.Call (.Attribute o "append" apos) (e::es) [] pos) (ng X.K "list" zF (d7 i) (cA M fs))):QE X (.Call (.Attribute o "append" apos) (e::es) [] pos) (cE .e M (eR i9 i fs)):=⟨have h:=h.un;weak h (xv hi Ip)⟩
def FZ{i:Nat}{o:Q5}{apos:Pos}(hi:M.contains i=aC)(h:QE X (.Call (.Attribute o "extend" apos) (e::es) [] pos) (ng X.K "list" zH (d7 i) (cA M fs))):QE X (.Call (.Attribute o "extend" apos) (e::es) [] pos) (cE .e M (eR o9 i fs)):=⟨have h:=h.un;weak h (xv hi Iq)⟩
def vA{i:Nat}{o:Q5}{apos:Pos}(hi:M.contains i=aC)(h:QE X (.Call (.Attribute o "pop" apos) [] [] pos) (uZ X.K "list" xj (d7 i))):QE X (.Call (.Attribute o "pop" apos) [] [] pos) (cE .e M (eR lY i aJ)):=⟨have h:=h.un;weak h (Ml hi Ir)⟩
def SQ{o:Q5}{apos:Pos}(h:QE X (.Call (.Attribute o "count" apos) [e] [] pos) (ng X.K "list" zG (cE .e M fa) (lA (cE .b M fe) nI))):QE X (.Call (.Attribute o "count" apos) [e] [] pos) (cE .e M (qu rJ fa fe)):=⟨have h:=h.un;weak h (C4 R8)⟩
def lJ{Mi:ak}{caps:af}{fi:DI}{g:TG}{dg:DG}{ft:DT}{tt:TT}(c:qz caps M Mi=aC)(hg:o0 g dg Mi caps)(htt:∀ σ H Q,cT Mi ft σ H Q->tt σ H Q)(h:QE X e (ql caps (cI M fi) g tt (cE .e Mi fe))):QE X e (cE .n M (du M caps fi dg ft fe)):=⟨have h:=h.un;weak h (Cj (.of c) hg htt)⟩
def qK{st:QX}{Mi:ak}{caps:af}{fi:DI}{g:TG}{g2:TG}{dg:DG}{ft:DT}{tt:TT}(c:qz caps M Mi=aC)(hg:o0 g dg Mi caps)(htt:∀ σ H Q,cT Mi ft σ H Q->tt σ H Q)(h:QS X st (ef (ql caps (cI M fi) g tt (cE .e Mi fe)) g2)):QS X st (ef (cE .n M (du M caps fi dg ft fe)) g2):=⟨have h:=h.un;xr h (Cj (.of c) hg htt)⟩
def sr{st:QX}{g2:TG}{ff:DE}(h:QS X st (ef (cE .n M ff) g2)):QS X st (ef (cE .e M ff) g2):=⟨have h:=h.un;xr h fun σ H Q h_=>bz h_ λF O s t s' R hf q=>⟨F,O,s,t,s',R,hf,λv H' S p=>q v H' S (p.ne R)⟩⟩
def yE{tg:Q5}{t t':TG}(h:QG X tg t)(h':QG X tg t'):QG X tg (λv σ H Q=>t v σ H Q∨t' v σ H Q):=⟨have h:=h.un;have h':=h'.un;λpc s σ H v u Q I r q=>q.elim (h pc s σ H v u Q I r) (h' pc s σ H v u Q I r)⟩
end
section
variable [TheK]
variable {b:Q5}{fc:DE}
def KO{Mi:ak}{caps:af}{fi:DI}{g:TG}{dg:DG}{ft:DT}{tt:TT}(c:qz caps M Mi=aC)(hg:o0 g dg Mi caps)(htt:∀ σ H Q,cT Mi ft σ H Q->tt σ H Q)(h:QE X e (qm caps (cI M fi) g tt (cE .e Mi fk) (cE .e Mi fe))):QE X e (cE .n M (nq M caps fi dg ft fk fe)):=⟨have h:=h.un;weak h (CP (.of c) hg htt)⟩
def KU{st:QX}{Mi:ak}{caps:af}{fi:DI}{g:TG}{g2:TG}{dg:DG}{ft:DT}{tt:TT}(c:qz caps M Mi=aC)(hg:o0 g dg Mi caps)(htt:∀ σ H Q,cT Mi ft σ H Q->tt σ H Q)(h:QS X st (ef (qm caps (cI M fi) g tt (cE .e Mi fk) (cE .e Mi fe)) g2)):QS X st (ef (cE .n M (nq M caps fi dg ft fk fe)) g2):=⟨have h:=h.un;xr h (CP (.of c) hg htt)⟩
def ze(hK:X.K=TheK.K)(hc:X.calm=aC)(hg:Gl X "list")(hm:X.mg "list"=aB)(h:QE X e (cE .b M fe))(he:ac X e []:=by rfl)(hpl:ad X pos []:=by rfl):QE X (.Call (.Name "list" p) [e] [] pos) (cE .n M (d1 nP fe)):=⟨have h:=h.un; weak (wC (CallR.or (hK▸V5) (X2 hc)) hg hm Og (fX h iq he) (by decide) (by decide) he hpl) (Ck RB)⟩
def rO(h:QE X a (cE .b M fa)):QE X (.UnaryOp .USub a pos) (cE .e M (d1 l5 fa)):=⟨have h:=h.un;weak (K1 OV h) (by
 intro σ H Q h_;refine bz h_ λF O s t s' R hf q=>?_;obtain⟨⟨p1,p2⟩,h1,h2⟩:=Qb hf;obtain⟨t',h3,h4⟩:=Qm h2;cases h4;obtain⟨i,rfl⟩:∃ i,p1=.int i:=by cases p1<;>first |exact⟨_,rfl⟩ |cases h3
 cases h3
 exact⟨F,O,s,_,_,R,h1,λv H1 S1 p1=>⟨i,p1.view.int,q _ H1 S1 ⟨p1.1,.int _⟩⟩⟩)⟩
end
section
variable [TheK]
variable {st:Q5}{fk:DO}
def MT(hK:X.K=TheK.K)(he:QE X e (cE .e M fe))(hs:QO X (aA st) (cO M fk)):QE X (.Subscript e (.Slice aB aB (aA st) p2) pos) (cE .n M (xf fe fk)):=⟨have he:=he.un;have hs:=hs.un;weak (MF he hs) (by
 intro σ H Q h_;refine bz h_ λF O s t s' R hf q=>?_;obtain⟨p,h1,h2⟩:=Qb hf;obtain⟨l,h3,h4⟩:=Qb h2;split at h4
 case isFalse=>cases h4
 rename_i hk;obtain⟨t',h7,h8⟩:=Qm h4;cases h8;refine⟨F,O,s,p.1,p.2,R,h1,λv H1 S1 p1=>⟨F,O,p.2,l.1,l.2,p1.1,h3,λH2 S2 R2=>⟨hk,?_⟩⟩⟩;have r2:=p1.1.stay S2 p1.2;obtain⟨pt,ps⟩:=p;cases pt<;>simp[uX] at h7
 rename_i xs;subst h7;obtain⟨a,vs,rfl,ha,ra⟩:=BRep.lst (.inl r2)
 refine⟨a,vs,rfl,hK▸aq.of ha,λb hb=>q _ _ ((S1.trans S2).trans (.new hb _)) (.mkN R R2 (S1.trans S2) hb λC' hC=>.lst cD (ra.rev.there.mono hC λc o _ e=>by rw[au (dA e hb)]; exact e))⟩)⟩
def Vb{a:Q5}{fa:DA}{p p' pos':Pos}(hc:X.calm=aC)(hg:Gl X "list")(hm:X.mg "list"=aB)(hg':Gl X "range")(hm':X.mg "range"=aB)(ha:QA X [a] (cA M fa))(hs:jg [a] X.env=[(aD,eval a X.env)]:=by rfl)(hs':jg [.Call (.Name "range" p') [a] [] pos'] X.env=[(aD,eval (.Call (.Name "range" p') [a] [] pos') X.env)]:=by rfl):QE X (.Call (.Name "list" p) [.Call (.Name "range" p') [a] [] pos'] [] pos) (cE .n M (BZ fa)):=⟨have ha:=ha.un;weak (Va hc hg hm hg' hm' ha hs hs') (by
 intro σ H Q h_;refine bz h_ λF O s t s' R hf q=>?_;obtain⟨⟨p1,p2⟩,h1,h2⟩:=Qb hf;refine⟨F,O,s,p1,p2,R,h1,λvs H1 S1 R1 rs=>?_⟩;dsimp only at h2;split at h2
 case h_2=>cases h2
 ·rename_i j;have h2:=h2;split at h2
  ·rename_i hj;have hj:=UN hj;cases h2;obtain⟨v,rfl,rv⟩:=rs.one;obtain rfl:v=.int j:=BRep.int (.inl rv);refine⟨j,rfl,by lia,hj.2,λb hb=>q _ _ (S1.trans (.new hb _)) (.mkN R R1 S1 hb λC' hC=>.lst cD ?_)⟩
   have e:((j7 j.toNat).map fun(k:Nat)=>V.int k)=((j7 j.toNat).map fun(k:Nat)=>(k:Int)).map V.int:=by rw[jP]; rfl
   have e':eO 0 j.toNat=((j7 j.toNat).map fun(k:Nat)=>(k:Int)).map T.int:=by
    unfold eO;rw[jP];refine Qq λk _=>?_;rw[NJ]; rfl
   rw[e,e'];exact rZ _
  ·cases h2)⟩
end
section
variable [TheK]
def SS(h:QE X (.Call (.Attribute o "index" apos) [e] [] pos) (ng X.K "list" zI (cE .e M fa) (lA (cE .b M fe) nI))):QE X (.Call (.Attribute o "index" apos) [e] [] pos) (cE .e M (qu sw fa fe)):=⟨have h:=h.un;weak h (C4 R9)⟩
end
section
variable [TheK]
def sq{X:Cx}{st:QX}{d:DS}{rk:Kd}{io M M' Mx Mb:ak}{i:Nat}(h:QS X st (cS rk io M' Mx Mb d))(hi:M.contains i=aC:=by rfl)(hM:M'.all (λj=>M.contains j&&j != i)=aC:=by rfl)(hM2:M.all (λj=>M'.contains j||j == i)=aC:=by rfl)(hio:io.all (M'.contains ·)=aC:=by rfl):QS X st (cS rk io M Mx Mb (o6 i d)):=⟨have h:=h.un;fP (SG h) (by
 intro D σ H h_;refine i5 h_ λF O s r R I hd q=>?_;have hi':i∈M:=by simpa using hi
 have m1:∀ j,j∈M'->j∈M/\j≠i:=λj hj=>by have:=jB.mp hM j hj; simpa using this
 have m2:∀ j,j∈M->j∈M'∨j=i:=λj hj=>by have:=jB.mp hM2 j hj; simpa using this
 have mi:i∉M':=λz=>(m1 i z).2 rfl;have mio:∀ j,j∈io->j∈M':=λj hj=>by have:=jB.mp hio j hj; simpa using this
 unfold o6 at hd;split at hd
 ·rename_i ks e;have e:=cv e;obtain⟨a,ha,L⟩:=R.own i _ e hi';obtain⟨kvs,hr,rk'⟩:∃ kvs,H a=aA (.dK kvs)/\RepK (Free F O) H kvs ks:=by
   cases L with |dct r h=>exact⟨_,r,h⟩
  have hsl:=(j6.mp e).1
  -- what stays owned
  have oth:∀(j:Nat) b,j∈M'->σ[j]?=aA (aA (.ref b))->b≠a:=λj b hj e1 z=>by
   subst z;exact(m1 j hj).2 (R.dis j i b (m1 j hj).1 hi' e1 ha)
  have hD:¬ F.D a:=λz=>by
   obtain⟨j,hj,e1⟩:=I.D a z;have e2:=(I.at_ j hj).2;rw[<-e1] at e2;exact oth j a (mio j hj) e2 rfl
  have hF0:=(R.fresh a (R.ow i a hi' ha)).resolve_left hD;refine⟨a,kvs,hr,λo=>?_⟩;have kD:∀ b u,b≠a->H b=aA u->aS H a (.frz o (.dK kvs)) b=aA u:=λb u n e=>by rw[au n]; exact e
  have wk:∀ b,Free F O b->Free F (λb=>O b/\b≠a) b:=λb z=>z.weak λc y=>y.1;have fra:Free F (λb=>O b/\b≠a) a:=⟨λz=>z.2 rfl,.inr hF0⟩;have na:∀ b,Free F O b->b≠a:=λb z y=>z.1 (y▸R.ow i a hi' ha);have R':Rel F (λb=>O b/\b≠a) M' (s.set i (aA (.fd ks))) σ (aS H a (.frz o (.dK kvs))):=by
   refine⟨by rw[Qi]; exact R.len,λj t e' n=>?_,λj t e' n=>?_,λj b hj e1=>⟨R.ow j b (m1 j hj).1 e1,oth j b hj e1⟩,λj k b hj hk e1 e2=>R.dis j k b (m1 j hj).1 (m1 k hk).1 e1 e2,λb u n e1=>?_,λb e1=>?_,λb z=>R.fresh b z.1,λb z=>⟨R.inD b z,λy=>hD (y▸z)⟩,λb z e1=>?_⟩
   ·by_cases hji:j=i
    ·subst hji;rw[jW hsl] at e';cases e';exact⟨_,ha,.fd fra cD rk'.1 λk v t e1 e2=>(rk'.2 k v t e1 e2).mono wk λb u z e=>kD b u (na b z) e⟩
    ·rw[jq (λz=>hji z.symm)] at e';obtain⟨v,a1,a2⟩:=R.val j t e' (λz=>(m2 j z).elim n hji);exact⟨v,a1,a2.mono wk λb u z e=>kD b u (na b z) e⟩
   ·have hji:i≠j:=λz=>mi (z▸n);rw[jq hji] at e';obtain⟨c,a1,a2⟩:=R.own j t e' (m1 j n).1;exact⟨c,a1,a2.mono wk (λb u z e=>kD b u (na b z) e) λu e=>kD c u (oth j c n a1) e⟩
   ·exact kD b u (λz=>by rw[z,hF0] at e1; cases e1) (R.keep b u n e1)
   ·refine R.dom b ?_;unfold aS at e1;split at e1
    ·cases e1
    ·exact e1
   ·refine R.al b z.1 ?_
    rwa [au z.2] at e1
  refine⟨F,_,_,r,R',⟨λj hj=>⟨mio j hj,(I.at_ j hj).2⟩,I.D⟩,hd,q.more ⟨λb u n e1=>⟨kD b u (λz=>n (z▸R.ow i a hi' ha)) e1,λz=>n z.1⟩,λb e1=>?_⟩⟩;unfold aS at e1;split at e1
  ·cases e1
  ·exact e1
 ·cases hd)⟩
end
section
variable [TheK]
variable {b:Q5}{fc:DE}
def ES{i:Nat}{f:Q5}{fx:DE}(hi:M.contains i=aC)(hu:X.A.units+1 < gg)(h0:QE X o (d7 i))(hk:QE X e (cE .e M fe))(hx:QE X f (cE .e M fx))(m:M2 X o "get" apos e f pos):QE X (.Call (.Attribute o "get" apos) [e,f] [] pos) (cE .e M (se i fe fx)):=⟨have h0:=h0.un;have hk:=hk.un;have hx:=hx.un;weak (SA hu h0 hk hx m) (by
 intro σ H Q h_;refine bz h_ λF O s t s' R hf q=>?_;have hi':i∈M:=by simpa using hi
 unfold se at hf;split at hf
 ·rename_i ks0 e0;have e0:=cv e0;obtain⟨⟨q1,q2⟩,h1,hf⟩:=Qb hf;obtain⟨k,h2,hf⟩:=Qb hf;obtain⟨⟨r1,r2⟩,h3,hf⟩:=Qb hf;split at hf
  ·rename_i ks e1;have e1:=cv e1;cases hf;obtain⟨a,ha,L⟩:=R.own i _ e0 hi';obtain⟨kvs0,hr0,_⟩:∃ kvs,H a=aA (.dK kvs)/\RepK (Free F O) H kvs ks0:=by
    cases L with |dct r h=>exact⟨_,r,h⟩
   refine⟨_,ha,a,rfl,.inl ⟨kvs0,.inl hr0⟩,F,O,s,q1,q2,R,h1,λy H1 S1 p1=>⟨F,O,q2,r1,r2,p1.1,h3,λz H2 S2 p2=>?_⟩⟩;obtain⟨b,hb,L2⟩:=p2.1.own i _ e1 hi';rw[ha] at hb;injection hb with hb;cases hb;obtain⟨kvs,hr,rk⟩:∃ kvs,H2 a=aA (.dK kvs)/\RepK (Free F O) H2 kvs ks:=by
    cases L2 with |dct r h=>exact⟨_,r,h⟩
   have hy:=oR (.inl p1.2) h2;subst hy;refine⟨_,DGet.k hr,q _ H2 (S1.trans S2) ⟨p2.1,?_⟩⟩;obtain ⟨g1,g2⟩ |⟨v,t',g1,g2,g3⟩:=rk.look k
   ·rw[g1,g2]; exact p2.2
   ·rw[g1,g2]; exact g3
  ·cases hf
 ·cases hf)⟩
end
section
variable [TheK]
def Td(hK:X.K=TheK.K)(hg:Gl X "sorted")(hm:X.mg "sorted"=aB)(h:QE X e (cE .b M fe))(he:ac X e []:=by rfl)(hpl:ad X pos []:=by rfl):QE X (.Call (.Name "sorted" p) [e] [] pos) (cE .n M (d1 rR fe)):=⟨have h:=h.un; weak (rY (CallR.or (hK▸V7) (show CallR X _ _ from hK▸V6)) hg hm SX (fX h iq he) (by decide) (by decide) he hpl) (Ck Rj)⟩
end
section
variable [TheK]
def Ey{X:Cx}{st:QX}{rk:Kd}{io M M' Mb:ak}:QS X st (cS rk io M M' Mb yS):=⟨λpc s σ H D I ⟨F,O,s',r,R,Io,hd,q⟩=>by cases hd⟩
end
section
variable [TheK]
variable {b:Q5}
def Px(hg:Gl X "set")(hm:X.mg "set"=aB):QE X (.Call (.Name "set" p) [] [] pos) (cE .n M y0):=⟨weak (UK T0 hg hm uw) (by
 intro σ H Q h_;refine bz h_ λF O s t s' R hf q=>?_;cases hf
 exact⟨rfl,λl hl=>q _ _ (.new hl _) (.mkN R R .refl hl λC _=>.set cD)⟩)⟩
def Pw{i:Nat}{o:Q5}{apos:Pos}(hi:M.contains i=aC)(h:QE X (.Call (.Attribute o "add" apos) [e] [] pos) (ng X.K "set" Ch (d7 i) (lA (cE .e M fe) nI))):QE X (.Call (.Attribute o "add" apos) [e] [] pos) (cE .e M (xx i fe)):=⟨have h:=h.un;weak h (by
 intro σ H Q h_;refine bz h_ λF O s t s' R hf q=>?_;have hi':i∈M:=by simpa using hi
 obtain⟨t0,h0,hf⟩:=Qb hf;obtain⟨S0,n0,rfl⟩:∃ S0 n0,t0=.set S0 n0:=by cases t0<;>first |exact⟨_,_,rfl⟩ |cases hf
 obtain⟨⟨p1,p2⟩,h1,hf⟩:=Qb hf;obtain⟨t1,h2,hf⟩:=Qb hf;obtain⟨k,rfl⟩:∃ k,p1=.int k:=by cases p1<;>first |exact⟨_,rfl⟩ |cases hf
 obtain⟨S,n,rfl⟩:∃ S n,t1=.set S n:=by cases t1<;>first |exact⟨_,_,rfl⟩ |cases hf
 replace hf:(if n < 1000 then aA (T.non,p2.set i (aA (.set (λj=>S j||aE (j=k)) (if S k then n else n+1)))) else aB)=aA (t,s'):=hf
 by_cases hn:n < 1000
 ·rw[aI hn] at hf;cases hf;obtain⟨a,e1,L0⟩:=R.own i _ (cv h0) hi';have r0:H a=aA (.set S0 n0):=by cases L0 with |set r=>exact r
  refine⟨_,e1,.inr (.inr (.inr ⟨rfl,_,_,r0⟩)),F,O,s,_,p2,R,h1,λv H1 S1 p1=>?_⟩;obtain rfl:v=.int k:=BRep.int (.inl p1.2);obtain⟨b,e2,L⟩:=p1.1.own i _ (cv h2) hi';rw[e1] at e2;injection e2 with e2;cases e2;have r1:H1 a=aA (.set S n):=by cases L with |set r=>exact r
  refine⟨a,S,n,k,rfl,rfl,r1,hn,q _ _ (S1.trans (.write hi' e1 L.ne)) ⟨?_,.non⟩⟩;exact p1.1.write hi' e1 (cv h2) λHx kx ex=>.set ex
 ·rw[aH hn] at hf; cases hf)⟩
def R0(ha:QE X a (cE .e M fa))(hb:QE X b (cE .b M fb))(hm:Qp .NotIn b=aD):QT X (.Compare a [.NotIn] [b] pos) (cT M (dB (d2 rC fa fb))):=⟨have ha:=ha.un;have hb:=hb.un;iB (lv Ov ha hb hm) (iU (dY Mz))⟩
end
section
variable [TheK]
variable {e1 e2:Q5}{f0:DE}{fs:DA}{np:Nat}{f:jv}{fd:Zl}
def Ta{fn:List T->Option T}{i:Nat}(hi:M.contains i=aC)(F:FnOk X.prog X.w X.K X.mg X.base fC k f fd ps (bW .e (np+2) fn))(hr:Room k X.A)(hg:Gl X x)(hm:X.mg x=aA (.ref f))(hk:Qd X.K (.ref f)=aC)(hb:Binds X.K fd ps [])(h0:QE X e1 (cE .e M f0))(h1:QE X e2 (d7 i))(ha:QA X es (cA M fs))(ar:Ar fs np)(hdb:ae x:=by decide)(he:ac X e1 (e2::es):=by rfl)(he2:ac X e2 es:=by rfl)(hpl:ad X pos (e2::es):=by rfl):QE X (.Call (.Name x p) (e1::e2::es) [] pos) (cE .e M (tM fn i f0 fs)):=⟨have h0:=h0.un;have h1:=h1.un;have ha:=ha.un;weak (rT F hr hg hm hk hb .nil sj (fX h0 (fX h1 ha he2) he) hdb he hpl) (RQ ar hi)⟩
end
section
variable [TheK]
variable {e1 e2:Q5}{f1 f2:DE}{p3 pos2 pos3 pos4:Pos}
def Tb(hK:X.K=TheK.K)(hc:X.calm=aC)(hg:Gl X "len")(hm:X.mg "len"=aB)(hg2:Gl X "set")(hm2:X.mg "set"=aB)(h1:QE X e1 (cE .b M f1))(h2:QE X e2 (cE .b M f2))(he1:ac X e1 []:=by rfl)(hpl1:ad X pos2 []:=by rfl)(he2:ac X e2 []:=by rfl)(hpl2:ad X pos3 []:=by rfl)(he:ac X (.BinOp (.Call (.Name "set" p2) [e1] [] pos2) .BitAnd (.Call (.Name "set" p3) [e2] [] pos3) pos4) []:=by rfl)(hpl:ad X pos []:=by rfl):QE X (.Call (.Name "len" p) [.BinOp (.Call (.Name "set" p2) [e1] [] pos2) .BitAnd (.Call (.Name "set" p3) [e2] [] pos3) pos4] [] pos) (cE .e M (d2 vW f1 f2)):=⟨have h1:=h1.un;have h2:=h2.un; weak (rY Sa hg hm Wm (fX (lb Os (wC (F7 hc) hg2 hm2 uw (fX h1 iq he1) (by decide) (by decide) he1 hpl1) (wC (F7 hc) hg2 hm2 uw (fX h2 iq he2) (by decide) (by decide) he2 hpl2)) iq he) (by decide) (by decide) he hpl) (by
 intro σ H Q h_;refine bz h_ λF O s t s' R hf q=>?_;obtain⟨x,s1,y,d1,d2,d3⟩:=vM hf;obtain⟨xs,rfl⟩:∃ xs,x=.lst xs:=by cases x<;>first |exact⟨_,rfl⟩ |cases d3
 obtain⟨ys,rfl⟩:∃ ys,y=.lst ys:=by cases y<;>first |exact⟨_,rfl⟩ |cases d3
 obtain⟨as,h5,d4⟩:=Qb d3;obtain⟨bs,h6,d5⟩:=Qb d4;split at d5
 ·rename_i hl1;split at d5
  ·rename_i hl2;cases d5;refine⟨F,O,s,_,_,R,d1,λv H1 S1 p1=>?_⟩;obtain⟨a,us,rfl,ha,ra⟩:=p1.view.lst;rw[vf ra h5] at ha;refine⟨a,as,rfl,aq.of ha,by lia,λl hn=>?_⟩
   have R1:=p1.1.plus hn (lZ X l (Dw.aK as));refine⟨F,O,s1,_,_,R1,d2,λv2 H2 S2 p2=>?_⟩;obtain⟨b,us2,rfl,hb,rb⟩:=p2.view.lst;rw[vf rb h6] at hb;have no:¬ O l:=λz=>p1.1.al l z hn;have hl:=S2.keep l _ (R1.notOwned no) cD;refine⟨b,bs,rfl,aq.of hb,by lia,λm hm=>?_⟩
   have hlm:l≠m:=λe=>by subst e; rw[hl] at hm; cases hm
   have fl:∀ ss:aj,(Dw.aK ss).length<=ss.length:=λss=>by
    have:=zY ss []
    rwa [Zp,Z0] at this
   have f1:=fl as;have f2:=fl bs;refine⟨l,m,_,_,rfl,rfl,hlm,by rw[au hlm]; exact hl,cD,GR _,GR _,by lia,λc hc'=>?_⟩
   have S12:=(S1.trans (.new hn _)).trans S2;refine⟨c,_,rfl,cD,q _ _ ((S12.trans (.new hm _)).trans (.new hc' _)) ⟨(p2.1.plus hm _).plus hc' _,.int _⟩⟩
  ·cases d5
 ·cases d5)⟩
end
section
variable [TheK]
variable {fa:DA}
def MV{elts:List Q5}{x1:Nat}{tp:Pos}{a b:Q5}{p pos:Pos}(hK:X.K=TheK.K)(hg:Gl X "zip")(hm:X.mg "zip"=aB)(ha:QA X [a,b] (cA M fa))(hs:ac X a [b]:=by rfl)(hs2:ad X pos [b]:=by rfl):QI X (.Tuple elts x1 tp) (.Call (.Name "zip" p) [a,b] [] pos) (cI M (uW fa)):=⟨have ha:=ha.un;nM (P7 hg hm ha hs hs2) (by
 intro σ H R h_;refine nt h_ λF O s its s' Rl hf q=>?_;obtain⟨⟨p1,p2⟩,h1,h2⟩:=Qb hf;refine⟨F,O,s,p1,p2,Rl,h1,λvs H1 S1 R1 rs=>?_⟩;dsimp only at h2;split at h2
 case h_2=>cases h2
 ·rename_i xs ys;cases h2;obtain⟨u,h6,h7⟩:=rs.get (i:=0) rfl;obtain⟨v,h8,h9⟩:=rs.get (i:=1) rfl;have hvl:=rs.1;cases h7 with
  |@lst a1 us _ c r l h=>
   cases h9 with
   |@lst a2 ws _ c2 r2 l2 hw=>
    refine⟨a1,a2,us,ws,?_,hK▸aq.of r,hK▸aq.of r2,q _ H1 S1 R1 ?_⟩
    ·match vs,hvl with
     |[x,y],_=>
      simp at h6 h8;rw[h6,h8]
    intro H2 k i;have k1:=k a1 _ c r;have k2:=k a2 _ c2 r2;have hlen:(qE xs ys).length=min us.length ws.length:=by unfold qE; rw[j4,List.length_zip,<-l,<-l2]
    refine⟨λt ht=>?_,λhl=>⟨us,ws,aq.of k1,aq.of k2,by rw[hlen] at hl; lia⟩⟩
    have hi:=(j6.mp ht).1;rw[hlen] at hi;have hiu:i < us.length:=by lia
    have hik:i < ws.length:=by lia
    have hix:i < xs.length:=by lia
    have hiy:i < ys.length:=by lia
    have et:t=.tup [xs[i],ys[i]]:=by
     unfold qE at ht;rw[jf] at ht;obtain⟨pr,hpr,rfl⟩:=Qm ht;rw[List.getElem?_zip_eq_some,j3 hix,j3 hiy] at hpr;obtain⟨g1,g2⟩:=hpr;rw[<-jh g1,<-jh g2]
    subst et;refine⟨⟨us,us[i],ws,ws[i],aq.of k1,j3 hiu,aq.of k2,j3 hik⟩,λx H3 ⟨p',x',y',e1,e2,e3,e4,e5⟩=>⟨.inr ⟨p',_,e2,e3⟩,?_⟩⟩;have f1:=e4 us (aq.of k1);rw[j3 hiu] at f1;obtain rfl:us[i]=x':=jh f1;have f2:=e5 ws (aq.of k2);rw[j3 hik] at f2;obtain rfl:ws[i]=y':=jh f2;subst e1 e3
    exact S9 k e2 (h i _ _ (j3 hiu) (j3 hix)) (hw i _ _ (j3 hik) (j3 hiy)))⟩
end
section
variable [TheK]
def tN(hK:X.K=TheK.K)(hc:X.calm=aC)(hg:Gl X "min")(hm:X.mg "min"=aB)(h:QE X e (cE .b M fe))(he:ac X e []:=by rfl)(hpl:ad X pos []:=by rfl):QE X (.Call (.Name "min" p) [e] [] pos) (cE .e M (d1 oF fe)):=⟨have h:=h.un; weak (rY (hK▸Sz hc) hg hm Oi (fX h iq he) (by decide) (by decide) he hpl) (xw Cu)⟩
def zA(hK:X.K=TheK.K)(hc:X.calm=aC)(hg:Gl X "max")(hm:X.mg "max"=aB)(h:QE X e (cE .b M fe))(he:ac X e []:=by rfl)(hpl:ad X pos []:=by rfl):QE X (.Call (.Name "max" p) [e] [] pos) (cE .e M (d1 oE fe)):=⟨have h:=h.un; weak (rY (hK▸Sb hc) hg hm Oh (fX h iq he) (by decide) (by decide) he hpl) (xw Cu)⟩
end
section
variable [TheK]
variable {b:Q5}
def Ph(ha:QE X a (cE .e M fa))(hb:QE X b (cE .b M fb)):QE X (.BinOp a .Mult b pos) (cE .e M (d2 yA fa fb)):=⟨have ha:=ha.un;have hb:=hb.un;weak (lb Ou ha hb) (dY (u9 λi j h=>by
 unfold CW at h;rw[jJ] at h;have h1:=gc h.1;have h2:=gc h.2;have e:(10000000000000000000000000000000000000000:Nat) < 2 ^ 200:=by decide
 exact⟨gO h1 e,gO h2 e⟩))⟩
end
section
variable [TheK]
variable {k v:Q5}{fv:DE}
def SR(hk:QE X k (cE .e M fk))(hv:QE X v (cE .e M fv)):QE X (.Dict [aA k] [v] pos) (cE .n M (yR fk fv)):=⟨have hk:=hk.un;have hv:=hv.un;weak (Ox (SE hk hv PY) rfl rfl (by simp) (show 1<=15 by decide)) (by
 intro σ H Q h_;refine bz h_ λF O s t s' R hf q=>?_;obtain⟨⟨t1,s1⟩,h1,hf⟩:=Qb hf;obtain⟨⟨t2,s2⟩,h2,hf⟩:=Qb hf;obtain⟨ky,hkey,hf⟩:=Qm hf;cases hf;intro p hp;have ne0:∀(i:Nat),i∈M->σ[i]?≠aA (aA (.ref p)):=λi hi e=>R.al p (R.ow i p hi e) hp;refine⟨F,_,s,t1,s1,R.new hp (.dK []),h1,λy H1 S1 p1=>?_⟩;have e1:=S1.keep p _ ne0 cD;refine⟨F,_,s1,t2,s2,p1.1,h2,λz H2 S2 p2=>?_⟩;have e2:=S2.keep p _ ne0 e1;cases oR (.inl p1.2) hkey;refine⟨e2,[(ky,z)],rfl,show 1<=15 by decide,?_⟩
 refine q _ _ ⟨λb o hb e=>?_,λb e=>?_⟩ ⟨p,rfl,hp,p2.1.wr (.inr rfl) ne0 (R.dom p hp) _,.dct cD ⟨rfl,λi v t e3 e4=>?_⟩⟩
 ·have np:b≠p:=λz=>by rw[z,hp] at e; cases e
  rw[au np];exact S2.keep b o hb (S1.keep b o hb (by rw[au np]; exact e))
 ·have np:b≠p:=λz=>by rw[z,cD] at e; cases e
  rw[au np] at e;have:=S1.dom b (S2.dom b e)
  rwa [au np] at this
 ·match i,e3,e4 with
  |0,e3,e4=>
   cases jh e3;cases jh e4;exact p2.2.mono (λ_ c=>c) λb o c e=>by rw[au (λz=>c.1 (.inr z))]; exact e
  | i+1,e3,e4=>cases e4)⟩
end
section
variable [TheK]
variable {pos2:Pos}
def UL(hK:X.K=TheK.K)(hc:X.calm=aC)(hg:Gl X "len")(hm:X.mg "len"=aB)(hg2:Gl X "set")(hm2:X.mg "set"=aB)(h:QE X e (cE .b M fe))(he2:ac X e []:=by rfl)(hpl2:ad X pos2 []:=by rfl)(he:ac X (.Call (.Name "set" p2) [e] [] pos2) []:=by rfl)(hpl:ad X pos []:=by rfl):QE X (.Call (.Name "len" p) [.Call (.Name "set" p2) [e] [] pos2] [] pos) (cE .e M (d1 zZ fe)):=⟨have h:=h.un; weak (rY TW hg hm Wm (fX (wC (T1 hc) hg2 hm2 uw (fX h iq he2) (by decide) (by decide) he2 hpl2) iq he) (by decide) (by decide) he hpl) (by
 intro σ H Q h_;refine bz h_ λF O s t s' R hf q=>?_;obtain⟨⟨p1,p2⟩,h1,h2⟩:=Qb hf;obtain⟨t',h3,h4⟩:=Qm h2;cases h4;obtain⟨ts,rfl⟩:∃ ts,p1=.lst ts:=by cases p1<;>first |exact⟨_,rfl⟩ |cases h3
 obtain⟨ss,h6,h7⟩:=Qb h3;split at h7
 ·rename_i hl;cases h7;refine⟨F,O,s,_,_,R,h1,λv H1 S1 p1=>?_⟩;obtain⟨a,us,rfl,ha,ra⟩:=p1.view.lst;rw[vq ra h6] at ha;exact⟨a,ss,rfl,aq.of ha,hl,λl hn=>⟨l,_,rfl,cD,q _ _ (S1.trans (.new hn _)) ⟨p1.1.plus hn _,.int _⟩⟩⟩
 ·cases h7)⟩
end
def QW.pt{X:Cx}{e:Q5}{t:TT}(h:QW X e t):QT X e t:=⟨h.un.pt⟩
def QBody(tk:TheK)(P:jI)(w:Qf)(mg:Str->Option j8)(base:QN)(k:Nat)(x:Str)(st:QX)(N:aj)(t:TS):Prop:=
 ∀(f:jv) (cdv:j8) (A:Qg) (outer:List Env) (s:jc) (H:Hp) (E:XK),Room k (A.deeper (ZK x (aY st) s.heap.objs.size f cdv))->QSs (eY fC P w tk.K mg base N x (aY st) f cdv A outer s H E).nox (eB st) t
def QBody.b{tk:TheK}{P:jI}{w:Qf}{mg:Str->Option j8}{base:QN}{k:Nat}{x:Str}{st:QX}{N:aj}{t:TS}(h:QBody tk P w mg base k x st N t):sQ tk P w mg base k x st N t:=λf cdv A outer s H E hr=>(h f cdv A outer s H E hr).un
section
variable [tk:TheK]{d:DS}
def Here.qP(h:Here tk.K mg x st ps)(S:FnScope N ps (aY st))(hb:QBody tk P w mg base k x st N (cS .e [] [] M' Mb d))(hN:ps.length<=N.length:=by decide):fB P w tk.K mg base (k+1) x ps (bW .e ps.length (bZ N.length d)):=h.okP S hb.b hN
def Here.qN(h:Here tk.K mg x st ps)(S:FnScope N ps (aY st))(hb:QBody tk P w mg base k x st N (cS .n [] [] M' Mb d))(hN:ps.length<=N.length:=by decide):fB P w tk.K mg base (k+1) x ps (bW .n ps.length (nB N.length d)):=h.okN S hb.b hN
def Here.qI(h:Here tk.K mg x st ps)(S:FnScope N ps (aY st))(hb:QBody tk P w mg base k x st N (cS .e [0] [0] M' Mb d))(hN:ps.length<=N.length:=by decide):fB P w tk.K mg base (k+1) x ps (fj .e ps.length (iG N.length d)):=h.okI S hb.b hN
def Ii{ps0:Str}{fw:jv}{dw:Zl}(F:Fun tk.K x x st fw dw)(S:FnScope N [ps0] (aY st))(hb:QBody tk P w mg base k x st N (cS .e [] [] M' Mb d))(hN:1<=N.length)(hd:∀ ns:am,ns.length<=63->bZ N.length d [.scr ns]=aA (.bl aC)):FnOk P w tk.K mg base fC (k+1) fw dw [ps0] (rF tk.K):=Mg F S hb.b hN hd
end
def CalR(P:jI)(w:Qf)(K:jd)(mg:Str->Option j8)(base:QN)(n:Nat)(x:Str)(ps:aj)(sp:Sp):Prop:=
 ∃ f fd,FnOk P w K mg base (ny P w) n f fd ps sp/\Binds K fd ps []/\Qd K (.ref f)=aC/\mg x=aA (.ref f)
section
variable {K:jd}{sp:Sp}
def CalR.mono{j:Nat}(h:CalR P w K mg base j x ps sp)(hjk:j<=k):CalR P w K mg base k x ps sp:=by
 obtain⟨f,fd,F,b,kp,m⟩:=h;exact⟨f,fd,F.mono hjk,b,kp,m⟩
def Here.okX{CX:iI}(h:Here K mg x st ps)(S:FnScope N ps (aY st))(len:∀ vs H Q E,sp vs H Q E->vs.length=ps.length)
  (hbody:∀(f:jv) (cdv:j8) (A:Qg) (outer:List Env) (s:jc) (H:Hp) (vs:List V) (Q:VK) (E:XK),Room k (A.deeper (ZK x (aY st) s.heap.objs.size f cdv))->A.frames=aA outer->sp vs H Q E->
   ∃ t,nz (eY CX P w K mg base N x (aY st) f cdv A outer s H E) (eB st) t/\t { nx:=λ_ H'=>Q .non H',rt:=Q } (L2.start N vs) H) :
  ∃ f fd,FnOk P w K mg base CX (k+1) f fd ps sp/\Binds K fd ps []/\Qd K (.ref f)=aC/\mg x=aA (.ref f):=by
 obtain⟨f,fd,F,b,kp,m⟩:=h;obtain⟨oc,od,kV,doc,pm,an,cdv,ct,osl,rfl,lk,hcd⟩:=F.ex;exact⟨f,_,Ls lk hcd S len λA outer s H vs Q E hr hA hs=>hbody f cdv A outer s H vs Q E hr hA hs,b,kp,m⟩
end
variable [tk:TheK]
def uF(n:Nat)(d:DR):List T->Bool:=λts=>d (dZ n ts)
def RG{C:jv}{np:Nat}{rs:List T->Bool}{vs:List V}{H:Hp}{Q:VK}{E:XK}(h:oj C np rs vs H Q E):vs.length=np:=by
 obtain⟨C,ts,hl,r,_⟩:=h;rw[r.1,hl]
def L7{C:jv}{np:Nat}{N:aj}{d:DR}(hN:np<=N.length){vs:List V}{H:Hp}{Q:VK}{E:XK}{D:Ends}(h:oj C np (uF N.length d) vs H Q E):cR E C d D (L2.start N vs) H:=by
 obtain⟨C,ts,hl,r,hf,q⟩:=h;obtain⟨l1,l2⟩:=zv (N:=N) r (by lia)
 have w:∀ b,C b->Free ⟨H,C,λ_=>False,λ_=>0⟩ (λ_=>False) b:=λb c=>⟨λz=>z,.inl c⟩;have R:Rel ⟨H,C,λ_=>False,λ_=>0⟩ (λ_=>False) [] (dZ N.length ts) (L2.start N vs) H:=by
  refine⟨l1,λi t e _=>?_,λi t e n=>by simp at n,λi a n=>by simp at n,λi j a n=>by simp at n,λb o _ e=>e,λb e=>e,λa z=>z.elim,λa z=>z,λa z=>z.elim⟩
  obtain⟨v,h1,_,_,rv⟩:=l2 i t e;exact⟨v,h1,rv.mono w λ_ _ _ e=>e⟩
 exact⟨_,_,_,R,⟨λi hi=>by simp at hi,λa z=>z.elim⟩,hf,λO' H' k=>q H' (λb o e=>(k.1 b o (λz=>z) e).1) k.2⟩
section
variable {d:DR}{C:jv}
def Here.okR(h:Here tk.K mg x st ps)(S:FnScope N ps (aY st))
  (hb:∀(f:jv) (cdv:j8) (A:Qg) (outer:List Env) (s:jc) (H:Hp) (E:XK),Room k (A.deeper (ZK x (aY st) s.heap.objs.size f cdv))->A.frames=aA outer->
   cV (eY (ny P w) P w tk.K mg base N x (aY st) f cdv A outer s H E) (eB st) (cR E C d)) (hN:ps.length<=N.length:=by decide):CalR P w tk.K mg base (k+1) x ps (oj C ps.length (uF N.length d)):=
 h.okX S (λvs H Q E h=>RG h) λf cdv A outer s H vs Q E hr hA hs=>⟨_,(hb f cdv A outer s H E hr hA).zero,L7 hN hs⟩
end
section
variable {E:XK}{N:jv}{da db d1 d2:DR}{dn:DS}{a b sts:List QX}
def KR(hc:QT X c (cT [] ft))(ha:QSs X a (cR E N da))(hb:QSs X b (cR E N db)):QS X (.If c a b pos) (cR E N (sN ft da db)):=⟨Ha hc.un ha.un hb.un⟩
def KS:QSs X sts (cR E N oz):=⟨Hb⟩
def Dv:QS X st (cR E N oz):=⟨L1⟩
def Dx(h:QS X st (cR E N da)):QSs X [st] (cR E N da):=⟨L4 h.un⟩
def Dy{rk:Kd}(h1:QS X st (cR E N d1))(hn:QS X st (cS rk [] [] [] [] dn))(h2:QSs X sts (cR E N d2)):QSs X (st::sts) (cR E N (rA d1 dn d2)):=⟨L5 h1.un hn.un h2.un⟩
end
def MO{X:Cx}{st:List QX}{t1 t2:TS}(h1:cV X st t1)(h2:cV X st t2):cV X st (λD σ H=>t1 D σ H∨t2 D σ H):=λpc s σ H D I z=>z.elim (h1 pc s σ H D I) (h2 pc s σ H D I)
def DC(tk:TheK)(P:jI)(w:Qf)(mg:Str->Option j8)(base:QN)(k:Nat)(x:Str)(st:QX)(N:aj)(C:jv)(d:DR):Prop:=
 ∀(f:jv) (cdv:j8) (A:Qg) (outer:List Env) (s:jc) (H:Hp) (E:XK),Room k (A.deeper (ZK x (aY st) s.heap.objs.size f cdv))->A.frames=aA outer->
  QSs (eY (ny P w) P w tk.K mg base N x (aY st) f cdv A outer s H E) (eB st) (cR E C d)
def Here.qR{P:jI}{w:Qf}{mg:Str->Option j8}{base:QN}{x:Str}{st:QX}{N ps:aj}{k:Nat}{d:DR}{C:jv}(h:Here tk.K mg x st ps)(S:FnScope N ps (aY st))(hb:DC tk P w mg base k x st N C d)(hN:ps.length<=N.length:=by decide):CalR P w tk.K mg base (k+1) x ps (oj C ps.length (uF N.length d)):=
 h.okR S (λf cdv A outer s H E hr hA=>(hb f cdv A outer s H E hr hA).un) hN
end L3
namespace L3
open PySem PySem.Spec PyProof.Rows L2
def Rv{K:jd}{h:QN}{C D N f:jv}{nm q:Str}{bs bm:List j8}{hdct:Bool}{sn:aj}{sub:List j8}{ab:Bool}{col:Option Bool}{dd:Option jv}{k0 k1 k2 k3 k5:Option j8}{n1 n2:Str}{p1 p2 p3 p4:Pos}
  {name qual:Str} {params:Wz} {scope:Y1} {dV kV doc pm cdv ct:j8} {an od:Option jv} {osl:Array (Option j8)} {cdt:JF} (X:K.In h)
  (xl:K.lookup C=aA (YC nm q C N bs bm hdct sn sub ab col dd k0 k1 k2 k3 k5 "ValueError.__new__")) (xi:Qy K N "__init__"=aA (aA (.ref f))) (xn:PySem.W.nsOkIn K N=aC)
  (xt:PySem.W.tailIn K [.type "ValueError",.type "Exception",.type "BaseException",.type "object"] bm=aC)
  (lk:K.lookup f=aA ⟨.type "function",od,.func (Q1 name qual params [.Assign [.Attribute (.Name n1 p1) n2 p2] (.Name n2 p3) p4] scope dV kV doc pm an cdv ct),osl⟩) (hcd:Z6 K cdv qual=aC)
  (S:FnScope [n1,n2] [n1,n2] scope) (l1:scope.names.lookup n1=aA .local) (l2:scope.names.lookup n2=aA .local) (d1:(n1 == ("__debug__":Str))=aD) (d2:(n2 == ("__debug__":Str))=aD)
  (hb:∀ us:List j8,us.length=2->Yo (Q1 name qual params [.Assign [.Attribute (.Name n1 p1) n2 p2] (.Name n2 p3) p4] scope dV kV doc pm an cdv ct) ⟨us,[]⟩=pure ([n1,n2].zip us))
  (c1:PySem.W.clsIn K C=aA cdt) (c2:cdt.mro=[.ref C,.ref D,.type "ValueError",.type "Exception",.type "BaseException",.type "object"]) (c3:cdt.hasDict=aC)
  (c4:JM K (.ref C) "__setattr__"=aA (aA (.builtin "object.__setattr__"))) (c5:JM K (.ref C) n2=aA aB):XClsI K h C D bm:=by
 have G:h.Ns N (h.nsMap N):=.of_isNs (PySem.W.isNs_of_in X xn);have gi:h.nsMap N "__init__"=aA (.ref f):=by
  obtain⟨o,es,ep,ho,hd,_,hf⟩:=G;unfold Qy at xi;split at xi
  ·rename_i c d es' n' sl qq;have:=X _ _ qq;rw[ho] at this;cases this;cases hd;split at xi
   ·rename_i en he;have xi:=xi;rw[<-hf];unfold nsFind findBy;rw[<-Array.find?_toList,he];exact jh xi
   ·split at xi<;>cases xi
  ·cases xi
 exact⟨N,nm,q,bs,hdct,sn,sub,ab,col,dd,k0,k1,k2,k3,k5,_,f,X _ _ xl,G,gi,PySem.W.tail_of_in X xt,n1,n2,p1,p2,p3,p4,name,qual,params,scope,dV,kV,doc,pm,cdv,ct,od,an,osl,cdt,lk,hcd,S,l1,l2,d1,d2,.all hb,⟨c1,c2,c3,c4,c5⟩⟩
def TZ{X:Cx}{st:QX}{sts:List QX}{t u:TS}(h1:uK X st t)(h2:cV X sts u):nz X (st::sts) (CJ t u):=by
 intro s σ H D I h;refine Yc (jY (h1 s σ H { D with nx:=u D } I h) (λf s1 q=>?_) λ_ _ z=>z);cases f with
 |next=>
  obtain⟨σ',H',I',q⟩:=q;exact h2 [] s1 σ' H' D I' q
 |ret v=>exact q
 |brk=>exact q
 |cont=>exact q
variable [tk:TheK]
def Ro{X:Cx}{st:QX}{sts:List QX}{rk:Kd}{io M M' M'' Mb:ak}{d d':DS}(h:uK X st (cS rk io M M' Mb d))(h2:cV X sts (cS rk io M' M'' Mb d')):nz X (st::sts) (cS rk io M M'' Mb (aN d d')):=by
 intro s0 σ H D I0 hz;refine TZ h h2 s0 σ H D I0 ?_;obtain⟨F,O,s,r,R,I,hd,q⟩:=hz;obtain⟨r1,h1,h2⟩:=Qb hd;refine⟨F,O,s,r1,R,I,h1,?_⟩;cases r1 with
 |nx s1=>exact λO1 σ1 H1 k1 R1 I1=>⟨F,O1,s1,r,R1,I1,h2,q.more k1⟩
 |bk s1=>injection h2 with h2; subst h2; exact q
 |ct s1=>injection h2 with h2; subst h2; exact q
 |rt t s1=>injection h2 with h2; subst h2; exact q
def Tg{X:Cx}{st:QX}{sts:List QX}{rk:Kd}{io M M' M'' Mb:ak}{d d':DS}(h:uK X st (cS rk io M M' Mb d))(h2:QSs X.nox sts (cS rk io M' M'' Mb d')):nz X (st::sts) (cS rk io M M'' Mb (aN d d')):=Ro h h2.un.nox
def Rel.up{F:Fr}{O:jv->Prop}{M:ak}{s:Sg}{σ:L2.St}{H H':Hp}(R:Rel F O M s σ H)(k:∀ b o,H b=aA o->H' b=aA o)(d:∀ b,H' b=aB->H b=aB):Rel F O M s σ H':=by
 refine⟨R.len,λi t e n=>?_,λi t e n=>?_,R.ow,R.dis,λb o n e=>k b o (R.keep b o n e),λb e=>R.dom b (d b e),R.fresh,R.inD,λa o e=>R.al a o (d a e)⟩
 ·obtain⟨v,h1,h2⟩:=R.val i t e n;exact⟨v,h1,h2.mono (λ_ c=>c) λb o _ e=>k b o e⟩
 ·obtain⟨a,h1,h2⟩:=R.own i t e n;exact⟨a,h1,h2.mono (λ_ c=>c) (λb o _ e=>k b o e) λo e=>k a o e⟩
def qH(io:ak)(np:Nat)(rs:List T->Bool)(fa:DA)(dn:DS):DS:=λs=>match dn s with
 |some r=>aA r
 |none=>match fa s with
  |some (ts,s')=>if (aE (ts.length=np)&&rs ts&&hasAll io s')=aC then aA (.rt .non s') else aB
  |none=>aB
def xN(E:XK)(N:jv)(M:ak)(np:Nat)(rs:List T->Bool)(fa:DA):TS:=λD σ H=>∃ F O s ts s',Rel F O M s σ H/\fa s=aA (ts,s')/\ts.length=np/\rs ts=aC/\∀ H',Rel F O M s' σ H'->E (.ref N) aB H'
section
variable {X:Cx}{E:XK}{N D:jv}{pos:Pos}{io M M' Mb:ak}{np:Nat}{rs:List T->Bool}{fa:DA}{dn:DS}{st:QX}
def L6{CX:iI}{k i:Nat}{f:jv}{fd:Zl}{ps:aj}{x y:Str}{p cpos pos':Pos}{e:Q5}{es:List Q5}(hN:X.N.Nodup)(hi:X.N[i]?=aA y)(hl:oq X.env.scope y)(F:FnOk X.prog X.w X.K X.mg X.base CX k f fd ps (oj N np rs))(hr:Room k X.A)(hg:Gl X x)(hm:X.mg x=aA (.ref f))(hk:Qd X.K (.ref f)=aC)(hb:Binds X.K fd ps [])(hx:oN CX X E)
  (ha:PA X (e::es) (cA M fa)) (hf:X.fn y=aC∨X.env.scope.names.lookup y=aA .local) (hs:ZZ (.Call (.Name x p) (e::es) [] cpos) (aA (.Name y pos')) pos.line X.env=pure aD:=by rfl) (hdb:ae x:=by decide) (he:ac X e es:=by rfl) (hpl:ad X cpos es:=by rfl) :
  PS X (.Assign [.Name y pos'] (.Call (.Name x p) (e::es) [] cpos) pos) (xN E N M np rs fa):=fP (Dp hN hi hl (rT F hr hg hm hk hb .nil hx ha hdb he hpl) hs hf) (by
 intro D σ H hz; obtain⟨F,O,s,ts,s',R,hf,hl,hrs,q⟩:=hz;refine⟨F,O,s,ts,s',R,hf,λvs H1 S1 R1 rr=>?_⟩
 exact⟨Free F O,ts,hl,by rw[QH]; exact rr,hrs,λH' k1 k2=>q H' (R1.up k1 k2)⟩)
def MX{CX:iI}{k i:Nat}{f:jv}{fd:Zl}{ps:aj}{x y:Str}{p cpos pos':Pos}{e:Q5}{es:List Q5}(hN:X.N.Nodup)(hi:X.N[i]?=aA y)(hl:oq X.env.scope y)(F:FnOk X.prog X.w X.K X.mg X.base CX k f fd ps (oj N np rs))(hr:Room k X.A)(hg:Gl X x)(hm:X.mg x=aA (.ref f))(hk:Qd X.K (.ref f)=aC)(hb:Binds X.K fd ps [])(hx:oN CX X E)
  (ha:QA X (e::es) (cA M fa)) (hf:X.fn y=aC∨X.env.scope.names.lookup y=aA .local) (hs:ZZ (.Call (.Name x p) (e::es) [] cpos) (aA (.Name y pos')) pos.line X.env=pure aD:=by rfl) (hdb:ae x:=by decide) (he:ac X e es:=by rfl) (hpl:ad X cpos es:=by rfl) :
  QS X (.Assign [.Name y pos'] (.Call (.Name x p) (e::es) [] cpos) pos) (xN E N M np rs fa):=⟨L6 hN hi hl F hr hg hm hk hb hx ha.un hf hs hdb he hpl⟩
def O3{bm bmD:List j8}{d:Str}{p1 p2 p3 hpos:Pos}{j:Nat}(hn:∀ W,QS (X.wish W) st (cS .e io M M' Mb dn))(hc:∀ W E,oN (ny X.prog X.w) (X.wish W) E->QS (X.wish W) st (xN E N M np rs fa))
  (hst:X.stack=X.env::X.outer) (hfr:X.env.frame=aA X.env.locals) (hex:X.ex=[]) (hgd:Gl X d) (hmd:X.mg d=aA (.ref D)) (xd:XObj X.base D bmD) (xn:XObj X.base N bm) (hm:(QF N::bm).contains (.ref D)=aC)
  (hdb:ae d:=by decide) :
  uK X (.Try [st] [.ExceptHandler (aA (.Name d p1)) aB [.Return (aA (.Constant .none j p2)) p3] hpos] [] [] pos) (cS .e io M M' Mb (qH io np rs fa dn)):=by
 intro s0 σ H En I0 hz;refine TH (tb:=λE' D' σ' H'=>cS .e io M M' Mb dn D' σ' H'∨xN E' N M np rs fa D' σ' H') (ts:=CI (tC .non)) (λW E' hp=>MO (tH (hn W).un) (tH (hc W E' hp).un)) hst hfr hex hgd hmd xd (λx=>tH (v9 Dn)) hdb s0 σ H En I0 ?_;obtain⟨F,O,s,r,R,I,hd,q⟩:=hz;unfold qH at hd;split at hd
 ·rename_i r1 h1;cases jh hd;exact .inl ⟨F,O,s,_,R,I,h1,q⟩
 split at hd
 case h_2=>cases hd
 rename_i ts s' hf;split at hd
 case isFalse=>cases hd
 rename_i hc;cases jh hd;obtain⟨hc,hio⟩:=Wd.mp hc;obtain⟨hl,hrs⟩:=Wd.mp hc;refine .inr ⟨F,O,s,ts,s',R,hf,of_decide_eq_true hl,hrs,λH' R'=>⟨N,bm,rfl,xn,hm,?_⟩⟩;exact q .non H' (Co R' I (hasAll.get hio) .non)
end
section
variable {P:jI}{w:Qf}{mg:Str->Option j8}{base:QN}{x:Str}{st:QX}{N ps:aj}{k:Nat}{d:DS}{M' Mb:ak}
def Here.okI0(h:Here tk.K mg x st ps)(S:FnScope N ps (aY st))
  (hb:∀(f:jv) (cdv:j8) (A:Qg) (outer:List Env) (s:jc) (H:Hp) (E:XK),Room k (A.deeper (ZK x (aY st) s.heap.objs.size f cdv))->A.frames=aA outer->
   nz (eY fC P w tk.K mg base N x (aY st) f cdv A outer s H E) (eB st) (cS .e [0] [0] M' Mb d)) (hN:ps.length<=N.length:=by decide):fB P w tk.K mg base (k+1) x ps (fj .e ps.length (iG N.length d)):=
 h.okX S (λvs H Q E h=>EN h) λf cdv A outer s H vs Q E hr hA hs=>⟨_,hb f cdv A outer s H E hr hA,Cq (.inl rfl) hN hs⟩
end
section
variable {X:Cx}{E:XK}{N D:jv}{pos:Pos}
def Tf{k:Nat}{bm:List j8}{x:Str}{np cpos:Pos}{e0:Q5}{fe:DE}(hR:vH X E)(hc:X.calm=aC)(hr:Room (k+1) X.A)(xc:XClsI X.K X.base N D bm)(hg:Gl X x)(hm:X.mg x=aA (.ref N))(he0:QE X e0 (cE .e [] fe))
  (he:ac X e0 []:=by rfl) (hpl:ad X cpos []:=by rfl) (hd:ae x:=by decide) :
  QS X (.Raise (aA (.Call (.Name x np) [e0] [] cpos)) aB pos) (cR E N (yx fe)):=⟨ST hR hc hr xc hg hm he0.un he hpl hd⟩
end
end L3
namespace L3
open PySem PySem.Spec PyProof.Rows L2
variable {ps:aj}{x:Str}{st:QX}{K:jd}{mg:Str->Option j8}
def Ol{α:Type}(x:α):(aA (aA x):Option (Option α)).join=aA x:=rfl
def nZ{n:Nat}(h:n<=1000000):n<=ju:=by rw[Zi]; lia
def lE{n:Nat}(h:n<=1000000):n < ju:=by rw[Zi]; lia
def xu{n:Nat}(h:n<=1000000):n<=zgq:=by rw[show zgq=1000000 by unfold zgq; rfl]; exact h
def qY{j:Int}(h0:-2000<=j)(h:j<=2000):eN j=aC:=by
 unfold eN;refine NV ?_;lia
def M4{α:Type}{xs:List α}{i:Nat}{x:α}(h:xs[i]?=aA x):dU xs (i:Int)=aA x:=by
 have h2:=(j6.mp h).1;unfold dU fS;rw[aI (by lia),aI (by lia),jb,Q3,h]
def yi{g:DG}{db:DS}(I:Nat->Sg->Prop):∀(xs:List T) (i:Nat) (s:Sg),I i s->(∀ j x s,xs[j]?=aA x->I (i+j) s->∃ s1,g x s=aA s1/\∃ s2,(db s1=aA (.nx s2)∨db s1=aA (.ct s2))/\I (i+j+1) s2)->
  ∃ s',fO g db xs s=aA (.nx s')/\I (i+xs.length) s'
 |[],i,s,h0,_=>⟨s,by unfold fO; rfl,h0⟩
 |x::xs,i,s,h0,h=>by
  obtain⟨s1,h1,s2,h2,h3⟩:=h 0 x s rfl h0;obtain⟨s',h4,h5⟩:=yi I xs (i+1) s2 h3 λj y s e q=>by
   have z:=h (j+1) y s (by simpa using e)
   rw[show i+(j+1)=i+1+j by lia] at z
   exact z q
  refine⟨s',?_,by rw[jo,show i+(xs.length+1)=i+1+xs.length by lia]; exact h5⟩
  unfold fO;rw[h1,jb];obtain h2 |h2:=h2<;>rw[h2,jb]<;>exact h4
def FC(n:Nat)(x y:T):bP (n+1) x y=uG n x y:=by cases x<;>cases y<;>rfl
def yV{n:Nat}{x y:T}{b:Bool}(h:cz x y=aA b):bP n x y=aA b:=by
 cases n with
 |zero=>unfold bP; exact h
 |succ n=>rw[FC]; unfold uG; cases x<;>cases y<;>simp[cz] at h<;>simpa[cz] using h
def yz(n:Nat)(i j:Int):bP n (.int i) (.int j)=aA (i == j):=yV rfl
def DL(n:Nat)(i j:Bool):bP n (.bl i) (.bl j)=aA (i == j):=yV rfl
def yg(n:Nat)(i j:Str):bP n (.str i) (.str j)=aA (i == j):=yV rfl
def EW{α:Type}[DecidableEq α]{f:T->T->Option Bool}{bi:α->T}(h:∀ a b,f (bi a) (bi b)=aA (aE (a=b))):∀(xs ys:List α),xs.length=ys.length->fM f (xs.map bi) (ys.map bi)=aA (aE (xs=ys))
 |[],[],_=>rfl
 |[],_::_,hl=>by simp at hl
 |_::_,[],hl=>by simp at hl
 |x::xs,y::ys,hl=>by
  rw[jp,jp];unfold fM;rw[h,jb,EW h xs ys (by simpa using hl),jS]
  refine congrArg aA ?_
  by_cases h1:x=y<;>by_cases h2:xs=ys<;>simp[h1,h2]
def EE{α:Type}[DecidableEq α]{n:Nat}{bi:α->T}(h:∀ a b,bP n (bi a) (bi b)=aA (aE (a=b)))(xs ys:List α):bP (n+1) (.lst (xs.map bi)) (.lst (ys.map bi))=aA (aE (xs=ys)):=by
 rw[FC];unfold uG;dsimp only;rw[j4,j4]
 by_cases hl:xs.length=ys.length
 ·rw[aI hl,EW h xs ys hl]
 ·rw[aH hl,bL (λz=>hl (by rw[z]))]
def Ei{n:Nat}(xs ys:aj):bP (n+1) (.lst (xs.map T.str)) (.lst (ys.map T.str))=aA (aE (xs=ys)):=EE (λa b=>by rw[yg]; refine congrArg aA ?_; by_cases h:a=b<;>simp[h]) xs ys
def zy(xs:aj):ib (xs.map T.str)=aA (xs.map V.str):=by
 induction xs with
 |nil=>rfl
 |cons x xs ih=>rw[jp]; unfold ib; rw[ih]; rfl
def Em(x:Str)(xs:aj):nk (.str x) (xs.map V.str)=aE (x∈xs):=by
 unfold nk;rw[Jg,Ze,Ye,decide_eq_true_iff];constructor
 ·rintro⟨y,hy,e⟩;have:y=x:=by simpa[dt] using e
  exact this▸hy
 ·intro h;exact⟨x,h,by simp[dt]⟩
def V0(x:Str)(xs:aj):(xs.map V.str).countP (λu=>dt u (.str x))=xs.count x:=by
 rw[List.countP_map,List.count_eq_countP];refine List.countP_congr λy hy=>?_;simp[dt]
def OJ{f g:DS}{s s':Sg}{r:Option Fl}(h:f s=aA (.nx s'))(k:g s'=r):aN f g s=r:=by
 unfold aN;rw[h,jb];exact k
def E2{f g:DS}{s s':Sg}{t:T}(h:f s=aA (.rt t s')):aN f g s=aA (.rt t s'):=by
 unfold aN;rw[h];rfl
def yX{n:Nat}{d:DS}{ts:List T}{t:T}{s:Sg}(h:d (dZ n ts)=aA (.rt t s)):bZ n d ts=aA t:=by unfold bZ; rw[h]
def EG{n:Nat}{d:DS}{ts:List T}{t:T}{s:Sg}(h:d (dZ n ts)=aA (.rt t s)):nB n d ts=aA t:=by unfold nB; rw[h]
def Lq{n:Nat}{d:DS}{ts:List T}{t u:T}{s:Sg}(h:d (dZ n ts)=aA (.rt t s))(hs:s[0]?=aA (aA u)):iG n d ts=aA (t,u):=by unfold iG; rw[h]; simp[hs]
def v4{fi:DI}{g:DG}{db:DS}{s s1 s2:Sg}{its:List T}(h:fi s=aA (its,s1))(k:fO g db its s1=aA (.nx s2)):cM fi g db s=aA (.nx s2):=by unfold cM; rw[h,jb]; exact k
def Fb{lo:Int}{n j:Nat}{x:T}(h:(eO lo n)[j]?=aA x):j < n/\x=.int (lo+j):=by
 unfold eO at h;rw[jf] at h;obtain⟨i,h1,h2⟩:=Qm h;have hj:j < n:=by simpa using (j6.mp h1).1
 rw[QL hj] at h1;cases h1;exact⟨hj,h2.symm⟩
def Fc(lo:Int)(n:Nat):(eO lo n).length=n:=by unfold eO; simp
def yv{α:Type}(xs:List α){t:Int}(h0:0<=t)(h:t<=xs.length):dW xs aB (aA t)=xs.take t.toNat:=by
 unfold dW HT.sIx;simp only[Wi,Nat.sub_zero];split
 ·lia
 ·rw[YD (by lia)]
def zr{α:Type}(xs:List α){t:Int}(h0:0<=t)(h:t<=xs.length):dW xs (aA t) aB=xs.drop t.toNat:=by
 unfold dW HT.sIx;dsimp only;split
 ·lia
 ·rw[YD (by lia),jZ (by rw[QY]; lia)]
def RT{α:Type}(xs:List α){t u:Int}(h0:0<=t)(h:t<=u)(hu:u<=xs.length):dW xs (aA t) (aA u)=(xs.drop t.toNat).take (u.toNat - t.toNat):=by
 unfold dW HT.sIx;dsimp only;split<;>split<;>first |lia |rw[YD (by lia),YD (by lia)]
def bG(d:DS)(s:Sg)(Q:Fl->Prop):Prop:=∃ r,d s=aA r/\Q r
def sS(P:Sg->Prop):Fl->Prop
 |.nx s=>P s
 |.ct s=>P s
 |_=>False
def eF{d:DS}{s:Sg}{Q:Fl->Prop}{r:Fl}(h:d s=aA r)(k:Q r):bG d s Q:=⟨r,h,k⟩
def tO{f g:DS}{s s':Sg}{Q:Fl->Prop}(h:f s=aA (.nx s'))(k:bG g s' Q):bG (aN f g) s Q:=by
 obtain⟨r,h1,h2⟩:=k;exact⟨r,OJ h h1,h2⟩
def zK{f g:DS}{s:Sg}{Q:Fl->Prop}(P:Sg->Prop)(h:bG f s λr=>match r with |.nx s'=>P s' |_=>False)(k:∀ s',P s'->bG g s' Q):bG (aN f g) s Q:=by
 obtain⟨r,h1,h2⟩:=h;cases r with
 |nx s'=>exact tO h1 (k s' h2)
 |_=>exact h2.elim
def fZ{fi:DI}{g:DG}{db d:DS}{s s1:Sg}{its:List T}{Q:Fl->Prop}(I:Nat->Sg->Prop)(h:fi s=aA (its,s1))(h0:I 0 s1)
  (hs:∀ j x s,its[j]?=aA x->I j s->∃ s1,g x s=aA s1/\bG db s1 (sS (I (j+1)))) (k:∀ s',I its.length s'->bG d s' Q):bG (aN (cM fi g db) d) s Q:=by
 obtain⟨s',h1,h2⟩:=yi (g:=g) (db:=db) I its 0 s1 h0 λj x s e q=>by
  rw[Z0] at q ⊢;obtain⟨s1,h1,r,h2,h3⟩:=hs j x s e q;refine⟨s1,h1,?_⟩;cases r with
  |nx s2=>exact⟨s2,.inl h2,h3⟩
  |ct s2=>exact⟨s2,.inr h2,h3⟩
  |bk s2=>exact h3.elim
  |rt t s2=>exact h3.elim
 rw[Z0] at h2;exact tO (v4 h h1) (k s' h2)
def G9{fi:DI}{g:DG}{db:DS}{s s1:Sg}{its:List T}{Q:Fl->Prop}(I:Nat->Sg->Prop)(h:fi s=aA (its,s1))(h0:I 0 s1)
  (hs:∀ j x s,its[j]?=aA x->I j s->∃ s1,g x s=aA s1/\bG db s1 (sS (I (j+1)))) (k:∀ s',I its.length s'->Q (.nx s')):bG (cM fi g db) s Q:=by
 obtain⟨s',h1,h2⟩:=yi (g:=g) (db:=db) I its 0 s1 h0 λj x s e q=>by
  rw[Z0] at q ⊢;obtain⟨s1,h1,r,h2,h3⟩:=hs j x s e q;refine⟨s1,h1,?_⟩;cases r with
  |nx s2=>exact⟨s2,.inl h2,h3⟩
  |ct s2=>exact⟨s2,.inr h2,h3⟩
  |bk s2=>exact h3.elim
  |rt t s2=>exact h3.elim
 rw[Z0] at h2;exact⟨_,v4 h h1,k s' h2⟩
def re{ft:DT}{db d:DS}{n:Nat}{s:Sg}{Q:Fl->Prop}(I:Sg->Prop)(μ:Sg->Nat)(hn:μ s < n)(h0:I s)(hs:∀ s,I s->∃ b s1,ft s=aA (b,s1)/\if b=aC then bG db s1 (sS λs2=>I s2/\μ s2 < μ s) else True)
  (k:∀ s0 s',I s0->ft s0=aA (aD,s')->bG d s' Q):bG (aN (fE ft db n) d) s Q:=by
 have key:∀ n s,μ s < n->I s->∃ s0 s',fE ft db n s=aA (.nx s')/\I s0/\ft s0=aA (aD,s'):=by
  intro n
  induction n with
  |zero=>intro s hn; exact absurd hn (Zc _)
  |succ n ih=>
   intro s hn h0;obtain⟨b,s1,h1,h2⟩:=hs s h0;unfold fE;rw[h1,jb];dsimp only;cases b with
   |true=>
    rw[aI rfl] at h2;obtain⟨r,h3,h4⟩:=h2;rw[aI rfl,h3,jb];cases r with
    |nx s2=>exact ih s2 (by have:=h4.2; lia) h4.1
    |ct s2=>exact ih s2 (by have:=h4.2; lia) h4.1
    |bk s2=>exact h4.elim
    |rt t s2=>exact h4.elim
   |false=>exact⟨s,s1,by rw[aH jO],h0,h1⟩
 obtain⟨s0,s',h1,h2,h3⟩:=key n s hn h0;exact tO h1 (k s0 s' h2 h3)
def ir{n:Nat}{d:DS}{ts:List T}{Q:T->Prop}(h:bG d (dZ n ts) λr=>∃ t s,r=.rt t s/\Q t):∃ t,bZ n d ts=aA t/\Q t:=by
 obtain⟨r,h1,t,s,rfl,h2⟩:=h;exact⟨t,yX h1,h2⟩
def vT{n:Nat}{d:DS}{ts:List T}{Q:T->T->Prop}(h:bG d (dZ n ts) λr=>∃ t u s,r=.rt t (aA u::s)/\Q t u):∃ t u,iG n d ts=aA (t,u)/\Q t u:=by
 obtain⟨r,h1,t,u,s,rfl,h2⟩:=h;exact⟨t,u,Lq h1 rfl,h2⟩
structure Ev where
 P:jI
 w:Qf
 mg:Str->Option j8
 base:QN
abbrev Cl[tk:TheK](v:Ev)(k:Nat)(x:Str)(ps:aj)(sp:Sp):Prop:=fB v.P v.w tk.K v.mg v.base k x ps sp
def bt{N P:aj}{sc:Y1}(h1:sc.kind=.function:=by rfl)(h2:sc.isCoroutine=aD:=by rfl)(h3:sc.isGenerator=aD:=by rfl)(h4:N.Nodup:=by decide +kernel)(h5:N.take P.length=P:=by rfl)
  (h6:∀ x∈P,sc.names.lookup x=aA .local∨sc.names.lookup x=aA .cell:=by decide +kernel) (h7:∀ y∈sc.names,y.2≠.free:=by decide +kernel):FnScope N P sc:=⟨h1,h2,h3,h4,h5,h6,h7⟩
def fB.up{P:jI}{w:Qf}{K:jd}{mg:Str->Option j8}{base:QN}{j k:Nat}{x:Str}{ps:aj}{sp:Sp}(h:fB P w K mg base j x ps sp)(hjk:j<=k:=by decide):fB P w K mg base k x ps sp:=h.mono hjk
section
variable [TheK]{f1 f2 f3 f4 f5 f6:DE}
def dJ:Ar (aF f1 aJ) 1:=xO M3
def eJ:Ar (aF f1 (aF f2 aJ)) 2:=xO dJ
def nu:Ar (aF f1 (aF f2 (aF f3 aJ))) 3:=xO eJ
def Xw:Ar (aF f1 (aF f2 (aF f3 (aF f4 aJ)))) 4:=xO nu
end
section
variable [TheK]{X:Cx}{M:ak}{e e1 e2:Q5}{es:List Q5}{fe f0:DE}{fs:DA}{p pos:Pos}{k np i:Nat}{fn:List T->Option T}{fi:List T->Option (T × T)}
def qc(C:fB X.prog X.w X.K X.mg X.base k x ps (bW .e np fn))(hr:Room k X.A)(hg:Gl X x)(ha:QA X (e::es) (cA M fs))(ar:Ar fs np)(hdb:ae x:=by decide)(he:ac X e es:=by rfl)(hpl:ad X pos es:=by rfl):QE X (.Call (.Name x p) (e::es) [] pos) (cE .e M (av fn fs)):=by
 obtain⟨f,fd,F,hb,hk,hm⟩:=C;exact Pf F hr hg hm hk hb ha ar hdb he hpl
def uC(C:fB X.prog X.w X.K X.mg X.base k x ps (bW .n np fn))(hr:Room k X.A)(hg:Gl X x)(ha:QA X (e::es) (cA M fs))(ar:Ar fs np)(hdb:ae x:=by decide)(he:ac X e es:=by rfl)(hpl:ad X pos es:=by rfl):QE X (.Call (.Name x p) (e::es) [] pos) (cE .n M (av fn fs)):=by
 obtain⟨f,fd,F,hb,hk,hm⟩:=C;exact SN F hr hg hm hk hb ha ar hdb he hpl
def xK(hi:M.contains i=aC)(C:fB X.prog X.w X.K X.mg X.base k x ps (fj .e (np+1) fi))(hr:Room k X.A)(hg:Gl X x)(h0:QE X e (d7 i))(ha:QA X es (cA M fs))(ar:Ar fs np)(hdb:ae x:=by decide)(he:ac X e es:=by rfl)(hpl:ad X pos es:=by rfl):QE X (.Call (.Name x p) (e::es) [] pos) (cE .e M (nO fi i fs)):=by
 obtain⟨f,fd,F,hb,hk,hm⟩:=C;exact SL hi F hr hg hm hk hb h0 ha ar hdb he hpl
def BV{rk:Kd}(hrk:rk=.e∨rk=.n)(C:fB X.prog X.w X.K X.mg X.base k x ps (fj rk (np+1) fi))(hr:Room k X.A)(hg:Gl X x)(h0:QE X e (cE .n M fe))(ha:QA X es (cA M fs))(ar:Ar fs np)(hdb:ae x:=by decide)(he:ac X e es:=by rfl)(hpl:ad X pos es:=by rfl):QE X (.Call (.Name x p) (e::es) [] pos) (cE rk M (qQ fi fe fs)):=by
 obtain⟨f,fd,F,hb,hk,hm⟩:=C;exact SO hrk F hr hg hm hk hb h0 ha ar hdb he hpl
def HY(hi:M.contains i=aC)(C:fB X.prog X.w X.K X.mg X.base k x ps (bW .e (np+2) fn))(hr:Room k X.A)(hg:Gl X x)(h0:QE X e1 (cE .e M f0))(h1:QE X e2 (d7 i))(ha:QA X es (cA M fs))(ar:Ar fs np)(hdb:ae x:=by decide)(he:ac X e1 (e2::es):=by rfl)(he2:ac X e2 es:=by rfl)(hpl:ad X pos (e2::es):=by rfl):QE X (.Call (.Name x p) (e1::e2::es) [] pos) (cE .e M (tM fn i f0 fs)):=by
 obtain⟨f,fd,F,hb,hk,hm⟩:=C;exact Ta hi F hr hg hm hk hb h0 h1 ha ar hdb he he2 hpl
end
section
variable [tk:TheK]{v:Ev}{N:aj}
def _root_.L3.Here.vP(k:Nat)(M':ak)(d:DS)(h:Here tk.K v.mg x st ps)(S:FnScope N ps (aY st))(hb:QBody tk v.P v.w v.mg v.base k x st N (cS .e [] [] M' [] d))(hN:ps.length<=N.length:=by decide):Cl v (k+1) x ps (bW .e ps.length (bZ N.length d)):=h.qP S hb hN
def _root_.L3.Here.vN(k:Nat)(M':ak)(d:DS)(h:Here tk.K v.mg x st ps)(S:FnScope N ps (aY st))(hb:QBody tk v.P v.w v.mg v.base k x st N (cS .n [] [] M' [] d))(hN:ps.length<=N.length:=by decide):Cl v (k+1) x ps (bW .n ps.length (nB N.length d)):=h.qN S hb hN
def _root_.L3.Here.vI(k:Nat)(M':ak)(d:DS)(h:Here tk.K v.mg x st ps)(S:FnScope N ps (aY st))(hb:QBody tk v.P v.w v.mg v.base k x st N (cS .e [0] [0] M' [] d))(hN:ps.length<=N.length:=by decide):Cl v (k+1) x ps (fj .e ps.length (iG N.length d)):=h.qI S hb hN
end
def Fd(K:jd)(x:Str)(st:QX):Prop:=∃(f:jv) (oc:j8) (od:Option jv) (sl:Array (Option j8)) (kV dc pm:j8) (an:Option jv) (cd ct:j8),Qy K jX x=aA (aA (.ref f))/\K.lookup f=aA ⟨oc,od,.func (Q1 x x (iQ st) (eB st) (aY st) .none kV dc pm an cd ct),sl⟩/\Z6 K cd x=aC/\Qd K (.ref f)=aC
section
variable {h:QN}{p1 p2 p3 p4 p5 p6:Str}
def Fd.mk{f:jv}{oc:j8}{od:Option jv}{sl:Array (Option j8)}{kV dc pm:j8}{an:Option jv}{cd ct:j8}(a:Qy K jX x=aA (aA (.ref f)))(l:K.lookup f=aA ⟨oc,od,.func (Q1 x x (iQ st) (eB st) (aY st) .none kV dc pm an cd ct),sl⟩)(c:Z6 K cd x=aC)(k:Qd K (.ref f)=aC):Fd K x st:=⟨f,oc,od,sl,kV,dc,pm,an,cd,ct,a,l,c,k⟩
def Bd(x:Str)(st:QX)(ps:aj):Prop:=∀(kV doc pm:j8) (an:Option jv) (cdv ct:j8) (us:List j8),us.length=ps.length->Yo (Q1 x x (iQ st) (eB st) (aY st) .none kV doc pm an cdv ct) ⟨us,[]⟩=pure (ps.zip us)
def Fd.here{ps:aj}(X:K.In h)(G:h.Ns jX mg)(a:Fd K x st)(hb:Bd x st ps):Here K mg x st ps:=by
 obtain⟨f,oc,od,sl,kV,dc,pm,an,cd,ct,a,l,c,k⟩:=a;exact PQ X G hb a l c k
def iy(h:∀(kV doc pm:j8) (an:Option jv) (cdv ct u1:j8),Yo (Q1 x x (iQ st) (eB st) (aY st) .none kV doc pm an cdv ct) ⟨[u1],[]⟩=pure [(p1,u1)]):Bd x st [p1]:=λa b c d e f us hl=>by
 cases us with
 |nil=>cases hl
 |cons u us=>cases us with
  |nil=>exact h a b c d e f u
  |cons _ _=>cases hl
def fL(h:∀(kV doc pm:j8) (an:Option jv) (cdv ct u1 u2:j8),Yo (Q1 x x (iQ st) (eB st) (aY st) .none kV doc pm an cdv ct) ⟨[u1,u2],[]⟩=pure [(p1,u1),(p2,u2)]):Bd x st [p1,p2]:=λa b c d e f us hl=>by
 obtain⟨u1,u2,rfl⟩:∃ u1 u2,us=[u1,u2]:=by
  cases us with
  |nil=>cases hl
  |cons u us=>obtain⟨u2,rfl⟩:=gX.mp (Jd hl); exact⟨u,u2,rfl⟩
 exact h a b c d e f u1 u2
def C3{us:List j8}(h:us.length=3):∃ u1 u2 u3,us=[u1,u2,u3]:=by
 match us,h with
 |[a,b,c],_=>exact⟨a,b,c,rfl⟩
def sM(h:∀(kV doc pm:j8) (an:Option jv) (cdv ct u1 u2 u3:j8),Yo (Q1 x x (iQ st) (eB st) (aY st) .none kV doc pm an cdv ct) ⟨[u1,u2,u3],[]⟩=pure [(p1,u1),(p2,u2),(p3,u3)]):Bd x st [p1,p2,p3]:=λa b c d e f us hl=>by
 obtain⟨u1,u2,u3,rfl⟩:=C3 hl;exact h a b c d e f u1 u2 u3
def Xv(h:∀(kV doc pm:j8) (an:Option jv) (cdv ct u1 u2 u3 u4:j8),Yo (Q1 x x (iQ st) (eB st) (aY st) .none kV doc pm an cdv ct) ⟨[u1,u2,u3,u4],[]⟩=pure [(p1,u1),(p2,u2),(p3,u3),(p4,u4)]):Bd x st [p1,p2,p3,p4]:=λa b c d e f us hl=>by
 cases us with
 |nil=>cases hl
 |cons u us=>obtain⟨u1,u2,u3,rfl⟩:=C3 (Jd hl); exact h a b c d e f u u1 u2 u3
end
def Lb{l:Yx}{q:jI}{loose:aj}{XP:(Str->Option j8)->QN->Prop}{YP:Qf->QN->Prop}{d:DefRec}{K:Params->jd}{x:Str}{k:Nat}(hn:l.most=aA 63)(hdf:d.params.defaults=[])(hk:k < 60)
  (hY:∀(w:Qf) (h:QN),YP w h->(K w.params).In h)
  (F:∀(w:Qf) (mg:Str->Option j8) (fa:jv) (h:QN),(K w.params).In h->h.Ns jX mg->mg d.name=aA (.ref fa)->
   ∃ fd:Zl,(∀(s:jc) (u:j8),Wn s fd ⟨[u],[]⟩ [(x,u)])/\∀ base:QN,(K w.params).In base->base.Ns jX mg->FnOk l.prog w (K w.params) mg base fC k fa fd [x] (rF (K w.params))) :
  JX q loose XP YP l.row.toRowW d [] (λf vs=>JT f vs):=
 L2.Pu (n:=63) (k:=k) (x:=x) (CX:=λ_=>fC) (sp:=λw=>rF (K w.params)) hn (by decide) hdf (Room.mono (k:=60) ⟨rfl,by decide,by decide⟩ (by lia)) hY F (λ_ _ a ns hl hO hS=>⟨a,ns,rfl,hO,hS,hl,λ_=>rfl⟩) λ_ _ _ _ _ z=>z
structure Ax where
 (C D r1 r2 r3 r4:jv)
section
variable [tk:TheK](v:Ev)
abbrev HH(k:Nat)(x:Str)(ps:aj)(sp:Sp):Prop:=CalR v.P v.w tk.K v.mg v.base k x ps sp
abbrev Nd(a:Ax):Prop:=∃ bm,XClsI tk.K v.base a.r2 a.D bm
end
section
variable {P:jI}{w:Qf}{base:QN}{j k:Nat}{sp:Sp}
def CalR.up(h:CalR P w K mg base j x ps sp)(hjk:j<=k:=by decide):CalR P w K mg base k x ps sp:=h.mono hjk
end
section
variable [tk:TheK]{v:Ev}{N:aj}
def _root_.L3.Here.vR(k:Nat)(C:jv)(d:DR)(h:Here tk.K v.mg x st ps)(S:FnScope N ps (aY st))(hb:DC tk v.P v.w v.mg v.base k x st N C d)(hN:ps.length<=N.length:=by decide):HH v (k+1) x ps (oj C ps.length (uF N.length d)):=h.qR S hb hN
def _root_.L3.Here.vI0(k:Nat)(M':ak)(d:DS)(h:Here tk.K v.mg x st ps)(S:FnScope N ps (aY st))
  (hb:∀(f:jv) (cdv:j8) (A:Qg) (outer:List Env) (s:jc) (H:Hp) (E:XK),Room k (A.deeper (ZK x (aY st) s.heap.objs.size f cdv))->A.frames=aA outer->
   nz (eY fC v.P v.w tk.K v.mg v.base N x (aY st) f cdv A outer s H E) (eB st) (cS .e [0] [0] M' [] d)) (hN:ps.length<=N.length:=by decide):Cl v (k+1) x ps (fj .e ps.length (iG N.length d)):=h.okI0 S hb hN
end
section
variable {h:QN}
def Rh{l:Yx}{w:Qf}{fa:jv}{N:aj}{p:Str}{k:Nat}{d:DS}{M' Mb:ak}(X:K.In h)(G:h.Ns jX mg)(hfa:mg "law"=aA (.ref fa))(a:Fd K "law" st)(sc:FnScope N [p] (aY st))
  (hbt:∀(kV dc pm:j8) (an:Option jv) (cd ct v:j8),Yo (Q1 "law" "law" (iQ st) (eB st) (aY st) .none kV dc pm an cd ct) ⟨[v],[]⟩=pure [(p,v)]) (hN:1<=N.length)
  (hd:∀ ns:am,bZ N.length d [.scr ns]=aA (.bl aC)) (hb:∀ base:QN,K.In base->base.Ns jX mg->QBody ⟨K⟩ l.prog w mg base k "law" st N (@cS ⟨K⟩ .e [] [] M' Mb d)) :
  ∃ fd:Zl,(∀(s:jc) (v:j8),Wn s fd ⟨[v],[]⟩ [(p,v)])/\∀ base:QN,K.In base->base.Ns jX mg->FnOk l.prog w K mg base fC (k+1) fa fd [p] (rF K):=by
 obtain⟨f,oc,od,sl,kV,dc,pm,an,cd,ct,a,ll,c,kk⟩:=a;have e:=hfa.symm.trans (WL X G a);cases e;exact⟨Q1 "law" "law" (iQ st) (eB st) (aY st) .none kV dc pm an cd ct,λs v=>.of_eq (hbt kV dc pm an cd ct v),λbase KB GB=>Ii (tk:=⟨K⟩) (DN (st:=st) ll c kk) sc (hb base KB GB) hN λns _=>hd ns⟩
end
def XU(i:Nat)(s:Sg):dV i s=(s[i]?).join.map λt=>(t,s):=rfl
def XV(t:T)(s:Sg):dC t s=aA (t,s):=rfl
def XX(g:T->T->Option T)(fa fb:DE)(s:Sg):d2 g fa fb s=(fa s).bind λp=>(fb p.2).bind λq=>(g p.1 q.1).map λt=>(t,q.2):=rfl
def IK(g:T->T->Option T)(i:Nat)(fb:DE)(s:Sg):cC g i fb s=(s[i]?).join.bind λ_=>(fb s).bind λq=>(q.2[i]?).join.bind λx=>(g x q.1).map λt=>(t,q.2):=rfl
def XW(f:DE)(s:Sg):dB f s=(f s).bind λp=>match p.1 with
 |.bl b=>aA (b,p.2)
 |_=>aB:=rfl
def Ky(f:DE)(s:Sg):iJ f s=(f s).bind λp=>(sH p.1).map λb=>(b,p.2):=rfl
def Kl(f g:DT)(s:Sg):o5 f g s=(f s).bind λp=>if p.1 then g p.2 else aA (aD,p.2):=rfl
def IW(f g:DT)(s:Sg):sK f g s=(f s).bind λp=>if p.1 then aA (aC,p.2) else g p.2:=rfl
def Kr(f:DT)(s:Sg):sO f s=(f s).map λp=>(!p.1,p.2):=rfl
def Ob(f g:DE)(s:Sg):uf f g s=(dB f s).bind λp=>if p.1 then g p.2 else aA (.bl aD,p.2):=rfl
def IS(c:DT)(f g:DE)(s:Sg):qt c f g s=(c s).bind λp=>if p.1 then f p.2 else g p.2:=rfl
def IM(s:Sg):aJ  s=aA ([],s):=rfl
def IL(f:DE)(g:DA)(s:Sg):aF f g s=(f s).bind λp=>(g p.2).map λq=>(p.1::q.1,q.2):=rfl
def Kp(f:DA)(s:Sg):cf f s=(f s).bind λp=>if p.1.length<=ju then aA (.lst p.1,p.2) else aB:=rfl
def Kz(f:DA)(s:Sg):eZ f s=(f s).bind λp=>if p.1.length<=ju then aA (.tup p.1,p.2) else aB:=rfl
def O6(s:Sg):oA  s=aA (.dct [],s):=rfl
def IV(s:Sg):i4  s=aA (aB,s):=rfl
def IX(f:DE)(s:Sg):f9 f s=(f s).bind λp=>match p.1 with
 |.int i=>aA (aA i,p.2)
 |_=>aB:=rfl
def Hq(g:T->Option Int->Option Int->Option T)(f:DE)(l h:DO)(s:Sg):dS g f l h s=(f s).bind λp=>(l p.2).bind λq=>(h q.2).bind λr=>(g p.1 q.1 r.1).map λt=>(t,r.2):=rfl
def Kx(g:T->Option Int->Option Int->Option T)(i:Nat)(l h:DO)(s:Sg):uV g i l h s=(s[i]?).join.bind λ_=>(l s).bind λq=>(h q.2).bind λr=>(r.2[i]?).join.bind λx=>(g x q.1 r.1).map λt=>(t,r.2):=rfl
def Kw(f g:DS)(s:Sg):aN f g s=(f s).bind λr=>match r with
 |.nx s'=>g s'
 |r=>aA r:=rfl
def O8(s:Sg):bq  s=aA (.nx s):=rfl
def Cv(i:Nat)(f:DE)(s:Sg):aZ i f s=(f s).bind λp=>if i < p.2.length then aA (.nx (p.2.set i (aA p.1))) else aB:=rfl
def Kn(c:DT)(f g:DS)(s:Sg):bj c f g s=(c s).bind λp=>if p.1 then f p.2 else g p.2:=rfl
def IN(f:DE)(s:Sg):iX f s=(f s).map λp=>.nx p.2:=rfl
def O9(io:ak)(f:DE)(s:Sg):bC io f s=(f s).bind λp=>if hasAll io p.2 then aA (.rt p.1 p.2) else aB:=rfl
def Kq(g:T->List T->Option (T × T))(i:Nat)(fa:DA)(s:Sg):eR g i fa s=(s[i]?).join.bind λt0=>if sY t0 then (fa s).bind λp=>(p.2[i]?).join.bind λt=>(g t p.1).map λq=>(q.2,p.2.set i (aA q.1)) else aB:=rfl
def Ks(i:Nat)(fk fv:DE)(s:Sg):im i fk fv s=(fv s).bind λp=>(p.2[i]?).join.bind λ_=>(fk p.2).bind λq=>(q.2[i]?).join.bind λt=>match t with
 |.dct kvs=>(d6 q.1).bind λk=>if kvs.length < ju then aA (.nx (q.2.set i (aA (.dct (dI kvs k p.1))))) else aB
 |_=>aB:=rfl
def OC(i:Nat)(fk fv:DE)(s:Sg):oB i fk fv s=(fv s).bind λp=>(p.2[i]?).join.bind λ_=>(fk p.2).bind λq=>(q.2[i]?).join.bind λt=>match t,q.1 with
 |.lst xs,.int k=>(fS xs.length k).map λj=>.nx (q.2.set i (aA (.lst (xs.set j p.1))))
 |_,_=>aB:=rfl
def Hr(is:ak)(f:DE)(s:Sg):uH is f s=(f s).bind λp=>(v7 p.1).bind λts=>(iC is ts p.2).map .nx:=rfl
def Ku(f:DA)(s:Sg):i7 f s=(f s).bind λp=>match p.1 with
 |[.int j]=>if eN j=aC then aA (eO 0 j.toNat,p.2) else aB
 |_=>aB:=rfl
def Kv(f:DA)(s:Sg):r6 f s=(f s).bind λp=>match p.1 with
 |[.int i,.int j]=>if eN i=aC/\eN j=aC then aA (eO i (j - i).toNat,p.2) else aB
 |_=>aB:=rfl
def IP(f:DA)(s:Sg):sL f s=(f s).bind λp=>match p.1 with
 |[.lst xs]=>aA (l7 xs,p.2)
 |_=>aB:=rfl
def IQ(i:Nat)(t:T)(s:Sg):bK i t s=if i < s.length then aA (s.set i (aA t)) else aB:=rfl
def IR(is:ak)(t:T)(s:Sg):fK is t s=match t with
 |.tup ts=>iC is ts s
 |_=>aB:=rfl
def O4(fn:List T->Option T)(fa:DA)(s:Sg):av fn fa s=(fa s).bind λp=>(fn p.1).map λt=>(t,p.2):=rfl
def Pq(fn:List T->Option (T × T))(i:Nat)(fa:DA)(s:Sg):nO fn i fa s=(s[i]?).join.bind λ_=>(fa s).bind λp=>(p.2[i]?).join.bind λt0=>(fn (t0::p.1)).map λq=>(q.1,p.2.set i (aA q.2)):=rfl
def Pr(fn:List T->Option (T × T))(f0:DE)(fa:DA)(s:Sg):qQ fn f0 fa s=(f0 s).bind λp=>(fa p.2).bind λq=>(fn (p.1::q.1)).map λr=>(r.1,q.2):=rfl
def XY(g:T->Option T)(f:DE)(s:Sg):d1 g f s=(f s).bind λp=>(g p.1).map λt=>(t,p.2):=rfl
def IJ(g:T->T->Option T)(fa fb:DE)(s:Sg):qu g fa fb s=(fa s).bind λp=>if sY p.1 then (fb p.2).bind λq=>(g p.1 q.1).map λt=>(t,q.2) else aB:=rfl
def Ko(f:DE)(s:Sg):bc f s=(f s).bind λp=>match p.1 with
 |.lst xs=>aA (xs,p.2)
 |.scr ns=>aA (ns.map .int,p.2)
 |.tup xs=>aA (xs,p.2)
 |.fd kvs=>aA (kvs.map λkv=>kT kv.1,p.2)
 |.str x=>aA (x.cps.toList.map rE,p.2)
 |_=>aB:=rfl
def Kt(f:DE)(k:DO)(s:Sg):xf f k s=(f s).bind λp=>(k p.2).bind λq=>if q.1=aA (-1) then (uX p.1).map λt=>(t,q.2) else aB:=rfl
def IU(f:DA)(s:Sg):BZ f s=(f s).bind λp=>match p.1 with
 |[.int j]=>if eN j=aC then aA (.lst (eO 0 j.toNat),p.2) else aB
 |_=>aB:=rfl
def Km(i:Nat)(d:DS)(s:Sg):o6 i d s=match (s[i]?).join with
 |some (.dct kvs)=>d (s.set i (aA (.fd kvs)))
 |_=>aB:=rfl
def O7(i:Nat)(fk fx:DE)(s:Sg):se i fk fx s=match (s[i]?).join with
 |some (.dct _)=>(fk s).bind λq=>(d6 q.1).bind λk=>(fx q.2).bind λr=>match (r.2[i]?).join with
  |some (.dct kvs)=>aA ((bh kvs k).getD r.1,r.2)
  |_=>aB
 |_=>aB:=rfl
def OB(s:Sg):y0  s=aA (.set (λ_=>aD) 0,s):=rfl
def OA(i:Nat)(fe:DE)(s:Sg):xx i fe s=(s[i]?).join.bind λt0=>match t0 with
 |.set _ _=>(fe s).bind λp=>(p.2[i]?).join.bind λt1=>match p.1,t1 with
  |.int k,.set S n=>if n < 1000 then aA (.non,p.2.set i (aA (.set (λj=>S j||aE (j=k)) (if S k then n else n+1)))) else aB
  |_,_=>aB
 |_=>aB:=rfl
def Rs(fn:List T->Option T)(i:Nat)(f0:DE)(fa:DA)(s:Sg):tM fn i f0 fa s=(f0 s).bind λp=>(p.2[i]?).join.bind λ_=>(fa p.2).bind λq=>(q.2[i]?).join.bind λt0=>(fn (p.1::t0::q.1)).bind λt=>if rB t=aC then aA (t,q.2) else aB:=rfl
def LY(f:DA)(s:Sg):uW f s=(f s).bind λp=>match p.1 with
 |[.lst xs,.lst ys]=>aA (qE xs ys,p.2)
 |_=>aB:=rfl
def Ps(fk fv:DE)(s:Sg):yR fk fv s=(fk s).bind λq=>(fv q.2).bind λr=>(d6 q.1).map λk=>(.dct [(k,r.1)],r.2):=rfl
def LX(s:Sg):dR s=aA (aC,s):=rfl
def nT(k:Nat):T:=.int (k:Int)
def u7(k:Nat):nT k=.int (k:Int):=rfl
def OZ(i j:Int):bV (.int i) (.int j)=aA (.int (i+j)):=rfl
def ya{a b:List T}(h:a.length+b.length<=1000000):bV (.lst a) (.lst b)=aA (.lst (a++b)):=by
 have q:=nZ h;simp only[bV,dk,q5,nC,q,if_true]
def LT{a b:List T}(h:a.length+b.length<=1000000):nC (.lst a) (.lst b)=aA (.lst (a++b)):=by
 have q:=nZ h;simp only[nC,q,if_true]
def Oa{a b:Str}(h:a.length+b.length<=1000000):bV (.str a) (.str b)=aA (.str (a++b)):=by
 have q:=nZ h;simp only[bV,dk,q5,q,if_true]
def XZ(i j:Int):ij (.int i) (.int j)=aA (.int (i - j)):=rfl
def IF{i j:Int}(h:-1000000000000<=i/\i<=1000000000000∨-1000000000000<=j/\j<=1000000000000):dN (.int i) (.int j)=aA (.int (i*j)):=by
 have:o3 i j=aC:=by unfold o3; rw[QR,decide_eq_true_iff,decide_eq_true_iff]; lia
 simp only[dN,gI,this,if_true]
def Hu{i j:Int}(h:0 < j/\j<=1000000000):dM (.int i) (.int j)=aA (.int (i / j)):=by
 have:uT i j=aC:=bB (by lia)
 simp only[dM,gI,this,if_true]
def IE{i j:Int}(h:0 < j):bv (.int i) (.int j)=aA (.int (i%j)):=by
 have:uU i j=aC:=bB h;simp only[bv,gI,this,if_true]
def II(i:Int):l5 (.int i)=aA (.int (-i)):=rfl
def Xa(i j:Int):sI (.int i) (.int j)=aA (.bl (aE (i < j))):=rfl
def Xb(i j:Int):Xu (.int i) (.int j)=aA (.bl (aE (i<=j))):=rfl
def Xc(i j:Int):iF (.int i) (.int j)=aA (.bl (aE (j < i))):=rfl
def Xd(i j:Int):BY (.int i) (.int j)=aA (.bl (aE (j<=i))):=rfl
def Hz(i j:Int):cK (.int i) (.int j)=aA (.bl (aE (i=j))):=by simp only[cK,yz,jS]; rfl
def CN(i j:Int):dF (.int i) (.int j)=aA (.bl (!aE (i=j))):=by simp only[dF,yz,jS]; rfl
def Hv(i j:Bool):cK (.bl i) (.bl j)=aA (.bl (i == j)):=by simp only[cK,DL,jS]
def IG(i j:Bool):dF (.bl i) (.bl j)=aA (.bl (!(i == j))):=by simp only[dF,DL,jS]
def IA(i j:Str):cK (.str i) (.str j)=aA (.bl (aE (i=j))):=by
 simp only[cK,yg,jS]
 by_cases h:i=j<;>simp[h]
def IH(i j:Str):dF (.str i) (.str j)=aA (.bl (!aE (i=j))):=by
 simp only[dF,yg,jS]
 by_cases h:i=j<;>simp[h]
def LV(xs ys:aj):cK (.lst (xs.map T.str)) (.lst (ys.map T.str))=aA (.bl (aE (xs=ys))):=by simp only[cK,Ei,jS]
def Kc(xs ys:aj):dF (.lst (xs.map T.str)) (.lst (ys.map T.str))=aA (.bl (!aE (xs=ys))):=by simp only[dF,Ei,jS]
def Eh{n:Nat}(xs ys:ak):bP (n+1) (.lst (xs.map nT)) (.lst (ys.map nT))=aA (aE (xs=ys)):=EE (λa b=>by
 rw[u7,u7,yz]; refine congrArg aA ?_
 by_cases h:a=b
 ·subst h; simp
 ·rw[bL h]; simp; lia) xs ys
def LU(xs ys:ak):cK (.lst (xs.map nT)) (.lst (ys.map nT))=aA (.bl (aE (xs=ys))):=by simp only[cK,Eh,jS]
def Kb(xs ys:ak):dF (.lst (xs.map nT)) (.lst (ys.map nT))=aA (.bl (!aE (xs=ys))):=by simp only[dF,Eh,jS]
def um(xs:List T):bn (.lst xs)=aA (.int xs.length):=rfl
def Ka(xs:List T):bn (.tup xs)=aA (.int xs.length):=rfl
def LW(xs:List (aL × T)):bn (.dct xs)=aA (.int xs.length):=rfl
def KZ(xs:am):bn (.scr xs)=aA (.int xs.length):=rfl
def EY{α:Type}(xs:List α)(k:Nat):dU xs (k:Int)=xs[k]?:=by
 unfold dU fS;rw[aI (by lia)]
 split
 ·simp
 ·rename_i h;rw[Option.bind_none,eq_comm,YQ]; lia
def ln(xs:List T)(k:Nat):aM (.lst xs) (.int (k:Int))=xs[k]?:=by
 have:aM (.lst xs) (.int (k:Int))=dk iE qA (.lst xs) (.int (k:Int)):=rfl;rw[this]; unfold dk;have e:iE (.lst xs) (.int (k:Int))=xs[k]?:=by show dU xs (k:Int)=_; exact EY xs k
 rw[e];cases xs[k]?<;>rfl
def OW(xs:List T)(k:Nat):aM (.tup xs) (.int (k:Int))=xs[k]?:=by
 have:aM (.tup xs) (.int (k:Int))=dk iE qA (.tup xs) (.int (k:Int)):=rfl;rw[this]; unfold dk;have e:iE (.tup xs) (.int (k:Int))=xs[k]?:=by show dU xs (k:Int)=_; exact EY xs k
 rw[e];cases xs[k]?<;>rfl
def EQ(kvs:List (aL × T))(x:Str):aM (.dct kvs) (.str x)=bh kvs (.inr x):=by
 rfl
def Pl(kvs:List (aL × T))(x:Int):aM (.dct kvs) (.int x)=bh kvs (.inl x):=rfl
def Ke(b:Bool):sH (.bl b)=aA b:=rfl
def Kg(xs:List T):sH (.lst xs)=aA (!xs.isEmpty):=rfl
def Kf(i:Int):sH (.int i)=aA (i != 0):=rfl
def OX(xs:List T):nP (.lst xs)=aA (.lst xs):=rfl
def OY(xs:List T):nP (.tup xs)=aA (.lst xs):=rfl
def DB{xs:aj}(x:Str)(h:xs.length<=1000000):i9 (.lst (xs.map T.str)) [.str x]=aA (.lst ((xs++[x]).map T.str),.non):=by
 have q:(xs.map T.str).length < ju:=lE (by rw[j4]; exact h)
 simp only[i9,q,if_true,jF,jp,Zb]
def D9{xs:ak}(x:Nat)(h:xs.length<=1000000):i9 (.lst (xs.map nT)) [.int (x:Int)]=aA (.lst ((xs++[x]).map nT),.non):=by
 have q:(xs.map nT).length < ju:=lE (by rw[j4]; exact h)
 simp only[i9,q,if_true,jF,jp,Zb,u7]
def ul{xs:List T}(x:T)(h:xs.length<=1000000):i9 (.lst xs) [x]=aA (.lst (xs++[x]),.non):=by
 have q:=lE h;simp only[i9,q,if_true]
def Pp(x:Str)(xs:aj):eV (.str x) (.lst (xs.map T.str))=aA (.bl (!aE (x∈xs))):=by
 simp only[eV,dk,t3,qB,ii,zy,jb,jS,Em]
def ID(x:Str)(xs:aj):nE (.str x) (.lst (xs.map T.str))=aA (.bl (aE (x∈xs))):=by
 simp only[nE,dk,xL,qB,ii,zy,jb,jS,Em]
def FU(xs:ak):ib (xs.map nT)=aA (xs.map fun(k:Nat)=>V.int (k:Int)):=by
 induction xs with
 |nil=>rfl
 |cons x xs ih=>rw[jp]; unfold ib; rw[ih]; rfl
def El(x:Nat)(xs:ak):nk (.int (x:Int)) (xs.map fun(k:Nat)=>V.int (k:Int))=aE (x∈xs):=by
 unfold nk;rw[Jg,Ze,Ye,decide_eq_true_iff];constructor
 ·rintro⟨y,hy,e⟩;have:(y:Int)=x:=by simpa[dt] using e
  have:y=x:=by lia
  exact this▸hy
 ·intro h;exact⟨x,h,by simp[dt]⟩
def IC(x:Nat)(xs:ak):nE (.int (x:Int)) (.lst (xs.map nT))=aA (.bl (aE (x∈xs))):=by
 simp only[nE,dk,xL,qB,ii,FU,jb,jS,El]
def Po(x:Nat)(xs:ak):eV (.int (x:Int)) (.lst (xs.map nT))=aA (.bl (!aE (x∈xs))):=by
 simp only[eV,dk,t3,qB,ii,FU,jb,jS,El]
def IB(x:Str)(kvs:List (aL × T)):nE (.str x) (.dct kvs)=aA (.bl (bh kvs (.inr x)).isSome):=rfl
def Pn(x:Str)(kvs:List (aL × T)):eV (.str x) (.dct kvs)=aA (.bl (!(bh kvs (.inr x)).isSome)):=rfl
def Pk(x:Str)(xs:aj):rJ (.lst (xs.map T.str)) (.str x)=aA (.int (xs.count x:Nat)):=by
 simp only[rJ,zy,ii,jb,jS,V0]
def OG(xs:List T):lF "list" (.lst xs)=aA aC:=by simp[lF]
def OF(i:Int):lF "int" (.int i)=aA aC:=by simp[lF]
def OE(i:Int):lF "bool" (.int i)=aA aD:=by simp[lF]
def OD(b:Bool):lF "bool" (.bl b)=aA aC:=by simp[lF]
def OI(xs:List T):lF "tuple" (.tup xs)=aA aC:=by simp[lF]
def OH(x:Str):lF "str" (.str x)=aA aC:=by simp[lF]
def Tw(s:Sg):hasAll [] s=aC:=rfl
def EZ(bs:List Bool):sT (bs.map T.bl)=aA bs:=by
 induction bs with
 |nil=>rfl
 |cons b bs ih=>rw[jp]; unfold sT; rw[ih]; rfl
def LQ(bs:List Bool):Bv (.lst (bs.map T.bl))=aA (.bl (bs.all id)):=by simp only[Bv,EZ,jS]
def LR(bs:List Bool):Bx (.lst (bs.map T.bl))=aA (.bl (bs.any id)):=by simp only[Bx,EZ,jS]
def Sh(xs:List T):sY (.lst xs)=aC:=rfl
def Xn:0<=ju:=QQ _
def Xm:1<=ju:=nZ (by lia)
def Xl:2<=ju:=nZ (by lia)
def Xk:3<=ju:=nZ (by lia)
def Xj:4<=ju:=nZ (by lia)
def uA{k:Nat}(h:k<=2000):eN (k:Int)=aC:=qY (by lia) (by lia)
def rL{α:Type}{M:ak}{caps:af}{fi:DI}{dg:DG}{ft:DT}{fe:DE}{s:Sg}(xs:List α)(bi:α->T)(b:α->Bool)(e:α->T)(hi:fi s=aA (xs.map bi,s))(hl:xs.length<=1000000)
  (h:∀ x∈xs,∃ s1,dg (bi x) (i6 caps s)=aA s1/\ft s1=aA (b x,s1)/\(b x=aC->fe s1=aA (e x,s1))/\dD M caps s1 s=s):du M caps fi dg ft fe s=aA (.lst ((xs.filter b).map e),s):=by
 have key:∀(ys:List α) (acc:List T),(∀ y∈ys,y∈xs)->o8 M caps dg ft fe (ys.map bi) acc s=aA (acc++(ys.filter b).map e,s):=by
  intro ys
  induction ys with
  |nil=>intro acc _; unfold o8; simp
  |cons y ys ih=>
   intro acc hy;obtain⟨s1,h1,h2,h3,h4⟩:=h y (hy y jV);rw[jp];unfold o8;rw[h1,jb,h2,jb];have ih':=λacc=>ih acc λz hz=>hy z (jA _ hz);cases hb:b y with
   |true=>rw[aI rfl,h3 hb,jb,h4,ih',Zt,aI hb,jp,Qn]; rfl
   |false=>rw[aH jO,h4,ih',Zt,aH (by rw[hb]; exact jO)]
 unfold du;rw[hi,jb];have q:(xs.map bi).length<=zgq:=xu (by rw[j4]; exact hl)
 rw[aI q,key xs [] (λ_ h=>h),jS];rfl
def iu{α:Type}{M:ak}{caps:af}{fi:DI}{dg:DG}{fe:DE}{s:Sg}(xs:List α)(bi:α->T)(e:α->T)(hi:fi s=aA (xs.map bi,s))(hl:xs.length<=1000000)
  (h:∀ x∈xs,∃ s1,dg (bi x) (i6 caps s)=aA s1/\fe s1=aA (e x,s1)/\dD M caps s1 s=s):du M caps fi dg dR fe s=aA (.lst (xs.map e),s):=by
 have:=rL (M:=M) (caps:=caps) (fi:=fi) (dg:=dg) (ft:=dR) (fe:=fe) (s:=s) xs bi (λ_=>aC) e hi hl λx hx=>by
  obtain⟨s1,h1,h2,h3⟩:=h x hx;exact⟨s1,h1,rfl,λ_=>h2,h3⟩
 rw[this,List.filter_eq_self.mpr (λ_ _=>rfl)]
def tI{kvs:List (aL × T)}{k:aL}(t:T)(h:k∉kvs.map (·.1)):dI kvs k t=kvs++[(k,t)]:=by
 unfold dI;rw[aH];intro z;obtain⟨kv,h1,h2⟩:=Ye.mp z;exact h (jz.mpr ⟨kv,h1,of_decide_eq_true h2⟩)
def Ln{α:Type}{M:ak}{caps:af}{fi:DI}{dg:DG}{fk fe:DE}{s:Sg}(xs:List α)(bi:α->T)(k:α->T)(kk:α->aL)(e:α->T)(hi:fi s=aA (xs.map bi,s))(hl:xs.length<=1000000)(hn:(xs.map kk).Nodup)
  (h:∀ x∈xs,∃ s1,dg (bi x) (i6 caps s)=aA s1/\fk s1=aA (k x,s1)/\d6 (k x)=aA (kk x)/\fe s1=aA (e x,s1)/\dD M caps s1 s=s):nq M caps fi dg dR fk fe s=aA (.dct (xs.map λx=>(kk x,e x)),s):=by
 have key:∀(ys:List α) (zs:List α),zs++ys=xs->lW M caps dg dR fk fe (ys.map bi) (zs.map λx=>(kk x,e x)) s=aA (xs.map (λx=>(kk x,e x)),s):=by
  intro ys
  induction ys with
  |nil=>intro zs hz; rw[QH] at hz; subst hz; unfold lW; rfl
  |cons y ys ih=>
   intro zs hz;obtain⟨s1,h1,h2,h3,h4,h5⟩:=h y (by rw[<-hz]; simp)
   rw[jp];unfold lW;have hk:kk y∉(zs.map λx=>(kk x,e x)).map (·.1):=by
    rw[jP];intro hm;rw[<-hz,jF,jK] at hn;obtain⟨x,hx,hxe⟩:=jz.mp hm;exact hn.2.2 (kk x) (jz.mpr ⟨x,hx,rfl⟩) (kk y) (by simp) hxe
   rw[h1,jb];simp only[dR,jb,if_true,h2,h3,h4,h5,tI _ hk];have:=ih (zs++[y]) (by rw[<-hz]; simp)
   rwa [jF] at this
 unfold nq;rw[hi,jb];have q:(xs.map bi).length<=zgq:=xu (by rw[j4]; exact hl)
 have k0:=key xs [] rfl;rw[Zb] at k0;rw[aI q,k0,jS]
def qZ{α:Type}(xs:List α)(kk:α->aL)(e:α->T)(k:aL):bh (xs.map λx=>(kk x,e x)) k=(xs.find? λx=>aE (kk x=k)).map e:=by
 unfold bh;rw[List.find?_map,Option.map_map];rfl
def Eg{α:Type}(xs:List α)(bi:α->T):l7 (xs.map bi)=xs.zipIdx.map λp=>T.tup [.int (p.2:Nat),bi p.1]:=by
 unfold l7;refine Jp (by simp) λi h1 h2=>?_
 have hi:i < xs.length:=by simpa using h2
 rw[Nw,ZW,Nw,List.getElem_zipIdx,jD,jf,j3 hi];simp
def qd(m:Nat):eO 0 m=(j7 m).map nT:=by
 unfold eO;refine Qq λi _=>?_;rw[NJ]; rfl
def aV{f g:DS}{s s':Sg}{Q:Fl->Prop}(h:f s=aA (.nx s'))(k:bG g s' Q):bG (aN f g) s Q:=tO h k
def qT{f g:DS}{s s':Sg}{t:T}{Q:Fl->Prop}(h:f s=aA (.rt t s'))(k:Q (.rt t s')):bG (aN f g) s Q:=⟨_,E2 h,k⟩
def eT{n:Nat}{d:DS}{ts:List T}{t:T}(h:bG d (dZ n ts) λr=>∃ s,r=.rt t s):bZ n d ts=aA t:=by
 obtain⟨r,h1,s,rfl⟩:=h;exact yX h1
def tD{n:Nat}{d:DS}{ts:List T}{t:T}(h:bG d (dZ n ts) λr=>∃ s,r=.rt t s):nB n d ts=aA t:=by
 obtain⟨r,h1,s,rfl⟩:=h;exact EG h1
def f8{d:DS}{s s':Sg}{t t':T}(h:d s=aA (.rt t' s'))(k:t'=t):bG d s λr=>∃ s,r=.rt t s:=⟨_,h,s',by rw[k]⟩
def Kh(s:Sg):i6 [] s=[]:=rfl
def Ki(cs:af)(s:Sg):i6 (aB::cs) s=aB::i6 cs s:=rfl
def Kj(j:Nat)(cs:af)(s:Sg):i6 (aA j::cs) s=(s[j]?).join::i6 cs s:=rfl
def w4{f g:DS}{s s':Sg}{t t':T}(h:f s=aA (.rt t' s'))(k:t'=t):bG (aN f g) s λr=>∃ s,r=.rt t s:=⟨_,E2 h,s',by rw[k]⟩
def ca{d:DS}{s s':Sg}{P:Sg->Prop}(h:d s=aA (.nx s'))(k:P s'):bG d s (sS P):=⟨_,h,k⟩
def sW(P:Sg->Prop)(Q:Fl->Prop):Fl->Prop
 |.nx s=>P s
 |.ct s=>P s
 |.rt t s=>Q (.rt t s)
 |.bk _=>False
def yO{g:DG}{db:DS}{Q:Fl->Prop}(I:Nat->Sg->Prop):∀(xs:List T) (i:Nat) (s:Sg),I i s->(∀ j x s,xs[j]?=aA x->I (i+j) s->∃ s1,g x s=aA s1/\bG db s1 (sW (I (i+j+1)) Q))->
  (∃ s',fO g db xs s=aA (.nx s')/\I (i+xs.length) s')∨∃ t s',fO g db xs s=aA (.rt t s')/\Q (.rt t s')
 |[],i,s,h0,_=>.inl ⟨s,by unfold fO; rfl,h0⟩
 |x::xs,i,s,h0,h=>by
  obtain⟨s1,h1,r,h2,h3⟩:=h 0 x s rfl h0;have next:∀ s2,I (i+0+1) s2->(∃ s',fO g db xs s2=aA (.nx s')/\I (i+(xs.length+1)) s')∨∃ t s',fO g db xs s2=aA (.rt t s')/\Q (.rt t s'):=λs2 q=>by
   have:=yO I xs (i+1) s2 q λj y s e q'=>by
    have z:=h (j+1) y s (by simpa using e)
    rw[show i+(j+1)=i+1+j by lia] at z
    exact z q'
   rw[show i+(xs.length+1)=i+1+xs.length by lia]
   exact this
  rw[jo];cases r with
  |nx s2=>unfold fO; rw[h1,jb,h2,jb]; exact next s2 h3
  |ct s2=>unfold fO; rw[h1,jb,h2,jb]; exact next s2 h3
  |bk s2=>exact h3.elim
  |rt t s2=>exact .inr ⟨t,s2,by unfold fO; rw[h1,jb,h2]; rfl,h3⟩
def zU{fi:DI}{g:DG}{db d:DS}{s s1:Sg}{its:List T}{Q:Fl->Prop}(I:Nat->Sg->Prop)(h:fi s=aA (its,s1))(h0:I 0 s1)
  (hs:∀ j x s,its[j]?=aA x->I j s->∃ s1,g x s=aA s1/\bG db s1 (sW (I (j+1)) Q)) (k:∀ s',I its.length s'->bG d s' Q):bG (aN (cM fi g db) d) s Q:=by
 obtain ⟨s',h1,h2⟩ |⟨t,s',h1,h2⟩:=yO (g:=g) (db:=db) (Q:=Q) I its 0 s1 h0 (λj x s e q=>by rw[Z0] at q ⊢; exact hs j x s e q)
 ·rw[Z0] at h2;exact tO (v4 h h1) (k s' h2)
 ·refine⟨.rt t s',?_,h2⟩;unfold aN cM;rw[h,jb,h1];rfl
def GT{fi:DI}{g:DG}{db:DS}{s s1:Sg}{its:List T}{Q:Fl->Prop}(I:Nat->Sg->Prop)(h:fi s=aA (its,s1))(h0:I 0 s1)
  (hs:∀ j x s,its[j]?=aA x->I j s->∃ s1,g x s=aA s1/\bG db s1 (sW (I (j+1)) Q)) (k:∀ s',I its.length s'->Q (.nx s')):bG (cM fi g db) s Q:=by
 obtain ⟨s',h1,h2⟩ |⟨t,s',h1,h2⟩:=yO (g:=g) (db:=db) (Q:=Q) I its 0 s1 h0 (λj x s e q=>by rw[Z0] at q ⊢; exact hs j x s e q)
 ·rw[Z0] at h2;exact⟨_,v4 h h1,k s' h2⟩
 ·refine⟨.rt t s',?_,h2⟩;unfold cM;rw[h,jb,h1]
def tG{d:DS}{s s':Sg}{P:Sg->Prop}{Q:Fl->Prop}(h:d s=aA (.nx s'))(k:P s'):bG d s (sW P Q):=⟨_,h,k⟩
def yp{d:DS}{s s':Sg}{P:Sg->Prop}{Q:Fl->Prop}{t:T}(h:d s=aA (.rt t s'))(k:Q (.rt t s')):bG d s (sW P Q):=⟨_,h,k⟩
def LZ(c:Nat):rE c=.str ⟨#[c]⟩:=rfl
def KY(xs:List (aL × T)):bn (.fd xs)=aA (.int xs.length):=rfl
end L3
namespace Dw
open PySem PySem.Spec PyProof.Rows L2 L3
def Eu(x:Str):∀(wd acc:aj),x∈wd.foldl dE acc↔x∈acc∨x∈wd
 |[],acc=>by simp
 |y::wd,acc=>by
  rw[QU,Eu x wd,jx];unfold dE;split
  ·rename_i h;constructor
   ·rintro(q |q)
    ·exact .inl q
    ·exact .inr (.inr q)
   ·rintro(q |q |q)
    ·exact .inl q
    ·exact .inl (q▸h)
    ·exact .inr q
  ·rw[jn,j9];constructor
   ·rintro((q |q) |q)
    ·exact .inl q
    ·exact .inr (.inl q)
    ·exact .inr (.inr q)
   ·rintro(q |q |q)
    ·exact .inl (.inl q)
    ·exact .inl (.inr q)
    ·exact .inr q
def mem_firsts{x:Str}{wd:aj}:x∈aK wd↔x∈wd:=by unfold aK; rw[Eu]; simp
def Ft:∀(wd acc:aj),acc.Nodup->(wd.foldl dE acc).Nodup
 |[],acc,h=>h
 |y::wd,acc,h=>by
  rw[QU];refine Ft wd _ ?_;unfold dE;split
  ·exact h
  ·rename_i q;rw[jK];exact⟨h,by simp,λa ha b hb e=>q (by rw[j9] at hb; subst hb; subst e; exact ha)⟩
def tu(wd:aj):(aK wd).Nodup:=Ft wd [] Zo
def zj(wd:aj):(aK wd).length<=wd.length:=by have:=Fn wd []; simpa[aK] using this
def nQ(i j:Nat)(ps:ak):ak:=ps.filter λk=>aE (i < k)&&aE (k < j)
def wF{wd:aj}{i j:Nat}(y:Str)(hij:i < j)(hj:j < wd.length):(iY wd i j).count y=(nQ i j (cJ wd y)).length:=by
 rw[<-AR];unfold cJ nQ iY;have hl:((wd.drop (i+1)).take (j - (i+1))).length=j - (i+1):=by rw[Q2,QY]; lia
 rw[hl];have e:wd.length=(i+1)+((j - (i+1))+(wd.length - j)):=by lia
 rw[WM];have er:j7 wd.length=j7 (i+1)++((j7 (j - (i+1))).map (λx=>i+1+x)++(j7 (wd.length - j)).map ((λx=>i+1+x)∘λx=>j - (i+1)+x)):=by
  conv=>lhs; rw[e]
  rw[JN (n:=i+1),JN (n:=j - (i+1)),jF,jP]
 rw[er,Zx,Zx];have e1:(j7 (i+1)).filter (λk=>(aE (i < k)&&aE (k < j))&&aE (wd[k]?=aA y))=[]:=by
  refine ZU.mpr λk hk=>?_;have:=je.mp hk;rw[bL (by lia:¬ i < k),YM,YM]
  exact jO
 have e3:((j7 (wd.length - j)).map ((λx=>i+1+x)∘λx=>j - (i+1)+x)).filter (λk=>(aE (i < k)&&aE (k < j))&&aE (wd[k]?=aA y))=[]:=by
  refine ZU.mpr λk hk=>?_;obtain⟨m,hm,rfl⟩:=jz.mp hk;have:¬ ((λx=>i+1+x)∘λx=>j - (i+1)+x) m < j:=by
   show ¬ i+1+(j - (i+1)+m) < j;lia
  rw[bL this,YN,YM];exact jO
 rw[e1,e3,NW,QH,NL,j4];refine congrArg Yw (N6 λk hk=>?_);have hk':=je.mp hk;show _=((aE (i < i+1+k)&&aE (i+1+k < j))&&aE (wd[i+1+k]?=aA y));rw[bB (by lia:i < i+1+k),bB (by lia:i+1+k < j),WD,aI hk',WN]
 rfl
def UU{i j:Nat}:nQ i j [i,j]=[]:=by
 refine ZU.mpr λk hk=>?_;obtain rfl |hk:=jx.mp hk
 ·simp
 ·obtain rfl |hk:=jx.mp hk
  ·simp
  ·cases hk
def og{wd:aj}{x:Str}{k:Nat}(h:k∈cJ wd x):wd[k]?=aA x:=of_decide_eq_true (jQ.mp h).2
def UV{i j k l:Nat}(h1:i < j)(h2:k < l)(a:i≠k)(b:i≠l)(c:j≠k)(d:j≠l):aE ((nQ i j [k,l]).length=1)=aE ((nQ k l [i,j]).length=1):=by
 have f:∀ p q r s:Nat,(nQ p q [r,s]).length=(if p < r/\r < q then 1 else 0)+(if p < s/\s < q then 1 else 0):=λp q r s=>by
  unfold nQ
  by_cases h:p < r/\r < q<;>by_cases h':p < s/\s < q<;>simp[Zt,h,h']
 rw[f,f,Ze,decide_eq_true_iff,decide_eq_true_iff];split<;>split<;>split<;>split<;>lia
def V1{wd:aj}{x y:Str}{i j k l:Nat}(hx:cJ wd x=[i,j])(hy:cJ wd y=[k,l]):aE ((iY wd i j).count y=1)=aE ((iY wd k l).count x=1):=by
 obtain⟨a,b⟩:=qk hx;obtain⟨c,d⟩:=qk hy;rw[wF y a b,wF x c d,hx,hy]
 by_cases h:x=y
 ·subst h;rw[hx] at hy;injection hy with e1 e2;injection e2 with e2 _;subst e1 e2;rfl
 ·have mx:∀ p∈[i,j],wd[p]?=aA x:=λp hp=>og (hx▸hp);have my:∀ p∈[k,l],wd[p]?=aA y:=λp hp=>og (hy▸hp);have ne:∀ p∈[i,j],∀ q∈[k,l],p≠q:=λp hp q hq e=>h (jh ((mx p hp).symm.trans (e▸my q hq)));exact UV a c (ne i (by simp) k (by simp)) (ne i (by simp) l (by simp)) (ne j (by simp) k (by simp)) (ne j (by simp) l (by simp))
def TY{wd:aj}{x y:Str}{i j:Nat}(hx:cJ wd x=[i,j]):aE ((iY wd i j).count y=1)=(aE (x≠y)&&aE ((nQ i j (cJ wd y)).length=1)):=by
 obtain⟨a,b⟩:=qk hx;rw[wF y a b]
 by_cases h:x=y
 ·subst h;rw[hx,UU];simp
 ·rw[bB h,U4]
def G5{wd:aj}{x:Str}{i j:Nat}(hx:cJ wd x=[i,j]):aE ((iY wd i j).count x=1)=aD:=by
 rw[TY hx];simp
def bT(wd:aj)(x y:Str):Bool:=match cJ wd x with
 |[i,j]=>aE ((iY wd i j).count y=1)
 |_=>aD
def rH{wd:aj}{x:Str}{i j:Nat}(h:cJ wd x=[i,j])(y:Str):bT wd x y=aE ((iY wd i j).count y=1):=by unfold bT; rw[h]
def PF{wd:aj}(g:GoodWord wd){x y:Str}(hx:x∈wd)(hy:y∈wd):bT wd x y=bT wd y x:=by
 obtain⟨i,j,h1⟩:=g.places hx;obtain⟨k,l,h2⟩:=g.places hy;rw[rH h1,rH h2,V1 h1 h2]
def RS{wd:aj}(g:GoodWord wd){x:Str}(hx:x∈wd):bT wd x x=aD:=by
 obtain⟨i,j,h1⟩:=g.places hx;rw[rH h1,G5 h1]
def Ek{xs:aj}{x:Str}(h:x∈xs):(xs.find? λy=>aE ((ZA y:aL)=ZA x))=aA x:=by
 induction xs with
 |nil=>cases h
 |cons y ys ih=>
  rw[Za]
  by_cases e:y=x
  ·subst e; simp
  ·rw[bL (λz=>e (ZX z))];obtain q |q:=jx.mp h
   ·exact absurd q.symm e
   ·exact ih q
def tQ(kvs:List (aL × T))(x:Str):aM (.fd kvs) (.str x)=bh kvs (.inr x):=rfl
def FT:∀(wd ns:aj),ns.Nodup->(∀ x∈wd,x∈ns)->wd.length=(ns.map λx=>wd.count x).sum
 |[],ns,_,_=>by
  have:(ns.map λx=>([]:aj).count x)=ns.map λ_=>0:=Qq λx _=>by simp
  have z:∀ l:aj,(l.map λ_=>0).sum=0:=λl=>by
   induction l with
   |nil=>rfl
   |cons n l ih=>rw[jp,Np,ih]
  rw[this,z];rfl
 |y::wd,ns,hn,h=>by
  have ih:=FT wd ns hn λx hx=>h x (jA _ hx);have key:∀(ns:aj),ns.Nodup->(ns.map λx=>(y::wd).count x).sum=(ns.map λx=>wd.count x).sum+if y∈ns then 1 else 0:=by
   intro ns
   induction ns with
   |nil=>intro _; rfl
   |cons n ns ihn=>
    intro hn;rw[Qh] at hn;rw[jp,Np,jp,Np,ihn hn.2,gb]
    by_cases e:y=n
    ·subst e;rw[aI (by simp),aH hn.1,aI (by simp)]; lia
    ·rw[aH (by simpa using e)]
     by_cases e2:y∈ns
     ·rw[aI e2,aI (jA _ e2)]; lia
     ·rw[aH e2,aH (by simp[e,e2])]; lia
  rw[key ns hn,aI (h y jV),<-ih,jo]
def lD{wd:aj}(h:∀ x∈wd,wd.count x=2):wd.length=2*(aK wd).length:=by
 have:=FT wd (aK wd) (tu wd) λx hx=>mem_firsts.mpr hx;rw[this];have e:=Qq λx hx=>h x (mem_firsts.mp hx);rw[e];generalize aK wd=l
 induction l with
 |nil=>rfl
 |cons a l ih=>rw[jp,Np,ih,jo]; lia
def rm{wd:aj}{x:Str}(h:wd.count x=2):∃ i j,cJ wd x=[i,j]:=by
 have hl:=AR wd x;rw[h] at hl
 match h:cJ wd x,hl with
 |[i,j],_=>exact⟨i,j,rfl⟩
end Dw
namespace Dw
def tY{α:Type}[DecidableEq α]:∀ {l m:List α},l.Nodup->(∀ x∈l,x∈m)->l.length<=m.length
 |[],m,_,_=>QQ _
 |a::l,m,hd,h=>by
  rw[Qh] at hd;have hm:=h a (by simp)
  have ih:=tY (l:=l) (m:=m.erase a) hd.2 λx hx=>(gx (λz:x=a=>hd.1 (z▸hx))).mpr (h x (jA _ hx));rw[ZI hm] at ih;have:=gY hm;rw[jo];lia
def bf(f:ai):Nat->ai
 |0,x=>x
 |k+1,x=>f (bf f k x)
def rS(f:ai)(j k x:Nat):bf f (j+k) x=bf f j (bf f k x):=by
 induction j with
 |zero=>rw[Z0]; rfl
 |succ j ih=>rw[Nat.succ_add]; show f (bf f (j+k) x)=f (bf f j (bf f k x)); rw[ih]
structure Perm1 (n:Nat) (f:ai):Prop where
 lt:∀ x,x < n->f x < n
 inj:∀ x y,x < n->y < n->f x=f y->x=y
def Perm1.itr_lt{n:Nat}{f:ai}(h:Perm1 n f)(k:Nat){x:Nat}(hx:x < n):bf f k x < n:=by
 induction k with
 |zero=>exact hx
 |succ k ih=>exact h.lt _ ih
def Perm1.itr_inj{n:Nat}{f:ai}(h:Perm1 n f)(k:Nat){x y:Nat}(hx:x < n)(hy:y < n)(e:bf f k x=bf f k y):x=y:=by
 induction k with
 |zero=>exact e
 |succ k ih=>exact ih (h.inj _ _ (h.itr_lt k hx) (h.itr_lt k hy) e)
def Perm1.back{n:Nat}{f:ai}(h:Perm1 n f){x:Nat}(hx:x < n):∃ p,0 < p/\bf f p x=x:=by
 by_cases hd:((j7 (n+1)).map λk=>bf f k x).Nodup
 ·have:=tY (m:=j7 n) hd λy hy=>by
   obtain⟨k,_,rfl⟩:=jz.mp hy;exact je.mpr (h.itr_lt k hx)
  rw[j4,QC,QC] at this;lia
 ·have:∃ i j,i < j/\bf f i x=bf f j x:=by
   apply YR;intro hne;apply hd;rw[W7,gk];exact Ur (λ{i j} hij e=>hne ⟨i,j,hij,e⟩) Zr
  obtain⟨i,j,hij,e⟩:=this;refine⟨j - i,by lia,?_⟩
  have e2:bf f j x=bf f i (bf f (j - i) x):=by rw[<-rS]; congr 1; lia
  rw[e2] at e;exact(h.itr_inj i hx (h.itr_lt _ hx) e).symm
def bu(f:ai)(x y:Nat):Prop:=∃ k,bf f k x=y
def bu.refl(f:ai)(x:Nat):bu f x x:=⟨0,rfl⟩
def bu.trans{f:ai}{x y z:Nat}(a:bu f x y)(b:bu f y z):bu f x z:=by
 obtain⟨j,rfl⟩:=a;obtain⟨k,rfl⟩:=b;exact⟨k+j,rS f k j x⟩
def PX{f:ai}{p x:Nat}(h:bf f p x=x)(m:Nat):bf f (m*p) x=x:=by
 induction m with
 |zero=>rw[Nat.zero_mul]; rfl
 |succ m ih=>rw[Nat.succ_mul,rS,h,ih]
def bu.symm{n:Nat}{f:ai}(h:Perm1 n f){x y:Nat}(hx:x < n)(a:bu f x y):bu f y x:=by
 obtain⟨k,rfl⟩:=a;obtain⟨p,hp,e⟩:=h.back hx;refine⟨k*p - k,?_⟩;rw[<-rS,show k*p - k+k=k*p by have:=Nat.le_mul_of_pos_right k hp; lia]
 exact PX e k
structure Trav (n:Nat) (R:Nat->Nat->Prop) (L:ak):Prop where
 lt:∀ x∈L,x < n
 one:L.Pairwise λx y=>¬ R x y
 all:∀ x,x < n->∃ y∈L,R y x
end Dw
namespace Dw
open PySem
abbrev eM:=List (Str × Option Str)
def ao(O:eM):aj:=O.map (·.1)
inductive Way (O:eM):Str->aj->Prop
 |root {x:Str} (h:(x,aB)∈O):Way O x [x]
 |step {x p:Str} {w:aj} (h:(x,aA p)∈O) (k:Way O p w):Way O x (x::w)
section
variable {O O':eM}{x y z m:Str}{w w' a b:aj}
def oS{e:Str × Option Str}(h:e∈O):e.1∈ao O:=jz.mpr ⟨e,h,rfl⟩
def On(h:x∈ao O):∃ o,(x,o)∈O:=by
 obtain⟨⟨y,o⟩,h1,h2⟩:=jz.mp h;exact⟨o,by dsimp only at h2; rw[<-h2]; exact h1⟩
def fH:ao (O++O')=ao O++ao O':=by unfold ao; rw[jF]
def Way.mono(h:∀ e∈O,e∈O')(k:Way O x w):Way O' x w:=by
 induction k with
 |root q=>exact .root (h _ q)
 |step q _ ih=>exact .step (h _ q) ih
def t9:∀ {O:eM},(ao O).Nodup->∀ {x:Str} {o o':Option Str},(x,o)∈O->(x,o')∈O->o=o'
 |[],_,_,_,_,h,_=>by cases h
 |e::O,nd,x,o,o',h,h'=>by
  obtain⟨n1,n2⟩:=Qh.mp (show (e.1::ao O).Nodup from nd);obtain h1 |h1:=jx.mp h<;>obtain h2 |h2:=jx.mp h'
  ·have:=h1.trans h2.symm;exact congrArg U5 this
  ·have q:=oS h2;have q2:=congrArg Up h1;exact absurd (q2▸q) n1
  ·have q:=oS h1;have q2:=congrArg Up h2;exact absurd (q2▸q) n1
  ·exact t9 n2 h1 h2
def Way.one(nd:(ao O).Nodup)(k:Way O x w):∀ {w'},Way O x w'->w=w':=by
 induction k with
 |root q=>
  intro w' k';cases k' with
  |root _=>rfl
  |step q' _=>cases t9 nd q q'
 |step q _ ih=>
  intro w' k';cases k' with
  |root q'=>cases t9 nd q q'
  |step q' k2=>
   have:=t9 nd q q';cases this;rw[ih k2]
def Way.head(k:Way O x w):∃ t,w=x::t:=by
 cases k with
 |root _=>exact⟨[],rfl⟩
 |step _ _=>exact⟨_,rfl⟩
def Way.from(k:Way O x w):∀ {a b},w=a++z::b->Way O z (z::b):=by
 induction k with
 |root q=>
  intro a b h;cases a with
  |nil=>injection h with h1 h2; subst h1 h2; exact .root q
  |cons c a=>injection h with h1 h2; simp at h2
 |step q k ih=>
  intro a b h;cases a with
  |nil=>injection h with h1 h2; subst h1 h2; exact .step q k
  |cons c a=>injection h with h1 h2; exact ih h2
def Way.key(k:Way O x w):∀ u∈w,u∈ao O:=by
 induction k with
 |root q=>intro u hu; rw[j9] at hu; subst hu; exact oS q
 |step q _ ih=>
  intro u hu;obtain hu |hu:=jx.mp hu
  ·subst hu; exact oS q
  ·exact ih u hu
def Way.nodup(nd:(ao O).Nodup)(k:Way O x w):w.Nodup:=by
 induction k with
 |root q=>simp
 |@step x p w q k ih=>
  refine Qh.mpr ⟨λhx=>?_,ih⟩;obtain⟨a,b,rfl⟩:=YJ hx;have k1:Way O x (x::(a++x::b)):=.step q k;have k2:=k.from (z:=x) (a:=a) (b:=b) rfl;have:=k1.one nd k2;have:=congrArg Yw this;simp at this;lia
def dL(G:Str->Str->Prop):aj->Prop
 |a::b::l=>G a b/\dL G (b::l)
 |_=>True
variable {G:Str->Str->Prop}
def dL.join:∀ {l:aj} {m:Str} {r:aj},dL G (l++[m])->dL G (m::r)->dL G (l++m::r)
 |[],_,_,_,h=>h
 |[c],_,_,h1,h2=>⟨h1.1,h2⟩
 |c::d::l,_,_,h1,h2=>⟨h1.1,dL.join (l:=d::l) h1.2 h2⟩
def dL.pre:∀ {l r:aj},dL G (l++r)->dL G l
 |[],_,_=>trivial
 |[_],_,_=>trivial
 |_::d::l,_,h=>⟨h.1,dL.pre (l:=d::l) h.2⟩
def dL.rev(sy:∀ a b,G a b->G b a):∀ {l:aj},dL G l->dL G l.reverse
 |[],_=>trivial
 |[_],_=>trivial
 |c::d::l,h=>by
  have:=dL.rev sy (l:=d::l) h.2;rw[Z1] at this;rw[Z1,Z1,Qn];exact dL.join this ⟨sy _ _ h.1,trivial⟩
def dL.imp{G':Str->Str->Prop}(hi:∀ a b,G a b->G' a b):∀ {l:aj},dL G l->dL G' l
 |[],_=>trivial
 |[_],_=>trivial
 |_::d::l,h=>⟨hi _ _ h.1,dL.imp hi (l:=d::l) h.2⟩
def Way.chn(k:Way O x w):dL (λa b=>(a,aA b)∈O) w:=by
 induction k with
 |root q=>trivial
 |step q k ih=>
  obtain⟨t,rfl⟩:=k.head;exact⟨q,ih⟩
def sJ(ev:ag):aj->Nat
 |a::b::l=>(if ev a b then 1 else 0)+sJ ev (b::l)
 |_=>0
def FE{ev:ag}{sd:ah}:∀(l:aj) (x y:Str),dL (λa b=>ev a b=(sd a != sd b)) (x::l)->(x::l).getLast?=aA y->(sJ ev (x::l)%2=1↔sd x≠sd y)
 |[],x,y,_,h=>by
  simp at h; subst h;simp[sJ]
 |z::l,x,y,c,h=>by
  have ih:=FE l z y c.2 (by simpa using h)
  have e:=c.1;show (((if ev x z then 1 else 0)+sJ ev (z::l))%2=1↔_)
  rw[e];cases h1:sd x<;>cases h2:sd z<;>cases h3:sd y<;>rw[h2,h3] at ih<;>simp at ih ⊢<;>lia
def R7{adj ev:ag}{sd:ah}{f n c:aj}(nd:(ao O).Nodup)(hs:∀ a b,(a,aA b)∈O->adj a b=aC/\adj b a=aC/\ev a b=(sd a != sd b)/\ev b a=(sd a != sd b))
  (hx:Way O x (f++m::c)) (hy:Way O y (n++m::c)) (he:f=[]∨n=[]∨f.getLast?≠n.getLast?) (hxx:adj x x=aD) (hyx:adj y x=aC) (hw:ev y x≠(sd y != sd x)) (hwy:ev x y=ev y x) :
  (f++m::n.reverse).Nodup/\(∀ u∈f++m::n.reverse,u∈ao O)/\3<=(f++m::n.reverse).length/\dL (λa b=>adj a b=aC) (f++m::n.reverse)/\(f++m::n.reverse).head?=aA x/\(f++m::n.reverse).getLast?=aA y/\((if ev y x then 1 else 0)+sJ ev (f++m::n.reverse))%2=1:=by
 have ndx:=hx.nodup nd;have ndy:=hy.nodup nd;have sp:∀ {l:aj},(l++m::c).Nodup->l.Nodup/\m∉l:=λ{l} h=>by
  obtain⟨h1,_,h2⟩:=jK.mp h;exact⟨h1,λhm=>h2 m hm m (.head _) rfl⟩
 obtain⟨nf,mf⟩:=sp ndx;obtain⟨nn,mn⟩:=sp ndy;have dis:∀ z,z∈f->z∈n->False:=λz hf hn=>by
  obtain⟨f1,f2,rfl⟩:=YJ hf;obtain⟨n1,n2,rfl⟩:=YJ hn;have k1:=hx.from (z:=z) (a:=f1) (b:=f2++m::c) (by simp)
  have k2:=hy.from (z:=z) (a:=n1) (b:=n2++m::c) (by simp)
  have e:=k1.one nd k2;injection e with _ e;have e:=List.append_cancel_right e;subst e;obtain he |he |he:=he
  ·simp at he
  ·simp at he
  ·refine he ?_;have g:∀ l:aj,(l++z::f2).getLast?=(z::f2).getLast?:=λl=>by
    rw[Yn];cases h:(z::f2).getLast? with
    |none=>simp at h
    |some q=>rfl
   rw[g,g]
 have hd:∀ {l:aj} {u:Str},Way O u (l++m::c)->(l++[m]).head?=aA u:=λ{l u} k=>by
  obtain⟨t,e⟩:=k.head;cases l with
  |nil=>injection e with e _; rw[e]; rfl
  |cons a l=>injection e with e _; rw[e]; rfl
 have hhx:=hd hx;have hhy:=hd hy;have sy:∀ a b,(adj a b=aC/\adj b a=aC/\ev a b=(sd a != sd b)/\ev b a=(sd a != sd b))->(adj b a=aC/\adj a b=aC/\ev b a=(sd b != sd a)/\ev a b=(sd b != sd a)):=λa b h=>by
  have:(sd b != sd a)=(sd a != sd b):=by cases sd a<;>cases sd b<;>rfl
  rw[this];exact⟨h.2.1,h.1,h.2.2.2,h.2.2.1⟩
 have cx:=(dL.pre (l:=f++[m]) (r:=c) (by simpa using hx.chn)).imp hs
 have cy:=(dL.pre (l:=n++[m]) (r:=c) (by simpa using hy.chn)).imp hs
 have cr:=dL.rev sy cy;rw[List.reverse_append] at cr;have ch:=dL.join cx cr;have last:(f++m::n.reverse).getLast?=aA y:=by
  cases n with
  |nil=>simp at hhy; subst hhy; simp
  |cons a n=>
   simp at hhy;subst hhy;rw[Yn,Z1];have:(m::(n.reverse++[a])).getLast?=aA a:=by rw[show m::(n.reverse++[a])=(m::n.reverse)++[a] from rfl,Yn]; rfl
   rw[this]; rfl
 have first:(f++m::n.reverse).head?=aA x:=by
  cases f with
  |nil=>simpa using hhx
  |cons a f=>simpa using hhx
 refine⟨?_,?_,?_,ch.imp λa b h=>h.1,first,last,?_⟩
 ·refine jK.mpr ⟨nf,Qh.mpr ⟨by simpa using mn,by simpa[W7,List.pairwise_reverse,ne_comm] using nn⟩,λa ha b hb e=>?_⟩
  subst e;obtain hb |hb:=jx.mp hb
  ·subst hb; exact mf ha
  ·exact dis a ha (by simpa using hb)
 ·intro u hu;obtain hu |hu:=jn.mp hu
  ·exact hx.key u (ji _ hu)
  ·obtain hu |hu:=jx.mp hu
   ·exact hx.key u (by rw[hu]; simp)
   ·exact hy.key u (ji _ (by simpa using hu))
 ·rw[jk,jo,Wp];refine Jk λhlt=>?_;obtain _ |⟨u,_ |⟨u2,f⟩⟩:=f
  ·obtain _ |⟨u,_ |⟨u2,n⟩⟩:=n
   ·simp at hhx hhy;rw[<-hhx,<-hhy] at hyx;rw[<-hhx] at hxx;rw[hyx] at hxx;cases hxx
   ·simp at hhx hhy;subst hhx hhy;have:=cy.1;exact hw this.2.2.1
   ·simp at hlt; lia
  ·cases n with
   |nil=>
    simp at hhx hhy;subst hhx hhy;have:=(sy _ _ cx.1);exact hw this.2.2.1
   |cons _ _=>simp at hlt; lia
  ·simp at hlt; lia
 ·have ce:dL (λa b=>ev a b=(sd a != sd b)) (f++m::n.reverse):=ch.imp λa b h=>h.2.2.1;obtain⟨l,hl⟩:∃ l,f++m::n.reverse=x::l:=by
   revert first
   cases f++m::n.reverse with
   |nil=>intro h; cases h
   |cons a l=>intro h; injection h with h; exact⟨l,by rw[h]⟩
  rw[hl] at ce last ⊢;have:=FE l x y ce last;cases hE:ev y x<;>rw[hE] at hw<;>cases h1:sd x<;>cases h2:sd y<;>rw[h1,h2] at this hw<;>simp at this hw ⊢<;>lia
end
structure Gr (ns:aj) (adj:ag):Prop where
 nd:ns.Nodup
 sym:∀ x∈ns,∀ y∈ns,adj x y=adj y x
 irr:∀ x∈ns,adj x x=aD
 len:ns.length<=30
def cU(ns:aj)(adj:ag)(x:Str):aj:=ns.filter (adj x)
def qo(ns:aj)(adj:ag)(x y:Str):Nat:=(ns.filter λz=>adj x z&&adj y z).length
def bS(ns:aj)(adj:ag)(x y:Str):Bool:=aE (qo ns adj x y%2=0)
def yh(ns:aj)(adj:ag)(x y:Str):bS ns adj x y=bS ns adj y x:=by
 unfold bS qo;rw[show (λz=>adj x z&&adj y z)=λz=>adj y z&&adj x z from funext λz=>U6 _ _]
structure Fo (ns:aj) (adj:ag) (O:eM):Prop where
 nd:(ao O).Nodup
 sub:∀ x∈ao O,x∈ns
 ord:∀(i:Nat) x p,O[i]?=aA (x,aA p)->adj p x=aC/\p∈ao (O.take i)
 clo:∀ x∈ao O,∀ y∈ns,adj x y=aC->y∈ao O
 way:∀ x∈ao O,∃ w,Way O x w
 rt:∀ x∈ao O,∀ y∈ao O,adj x y=aC->∀ w w',Way O x w->Way O y w'->w.getLast?=w'.getLast?
structure Dfs (ns:aj) (adj:ag) (b:Str) (O0 O:eM) (wt:aj):Prop where
 pre:∃ r,O=O0++r
 nd:(ao O).Nodup
 sub:∀ x∈ao O,x∈ns
 ord:∀(i:Nat) x p,O[i]?=aA (x,aA p)->adj p x=aC/\p∈ao (O.take i)
 cur:∀ x∈ao O,x∉ao O0->∃ w,Way O x w/\w.getLast?=aA b
 don:∀ x∈ao O,x∉ao O0->x∈wt∨∀ y∈ns,adj x y=aC->y∈ao O
 ws:∀ x∈wt,x∈ao O/\x∉ao O0
section
variable {ns:aj}{adj:ag}{O O0:eM}{b:Str}
def Fo.nil:Fo ns adj []:=⟨Zo,λx h=>(QZ h).elim,λi x p h=>by simp at h,λx h=>(QZ h).elim,λx h=>(QZ h).elim,λx h=>(QZ h).elim⟩
def F5{O r:eM}{i:Nat}{x:Str}(h:x∈ao (O.take i)):x∈ao ((O++r).take i):=by
 rw[Jq,fH];exact ji _ h
def Dfs.start(F:Fo ns adj O0)(hb:b∈ns)(hn:b∉ao O0):Dfs ns adj b O0 (O0++[(b,aB)]) [b]:=by
 have k:ao (O0++[(b,aB)])=ao O0++[b]:=by rw[fH]; rfl
 have wb:Way (O0++[(b,aB)]) b [b]:=.root (by simp)
 refine⟨⟨_,rfl⟩,?_,?_,?_,?_,?_,?_⟩
 ·rw[k];exact jK.mpr ⟨F.nd,by simp,λa ha c hc e=>by rw[j9] at hc; subst hc e; exact hn ha⟩
 ·intro x hx;rw[k] at hx;obtain hx |hx:=jn.mp hx
  ·exact F.sub x hx
  ·rw[j9] at hx; subst hx; exact hb
 ·intro i x p h
  by_cases hi:i < O0.length
  ·rw[Q8 hi] at h;have:=F.ord i x p h;exact⟨this.1,F5 this.2⟩
  ·rw[Qe (by lia)] at h
   cases hj:i - O0.length with
   |zero=>rw[hj] at h; simp at h
   |succ j=>rw[hj] at h; simp at h
 ·intro x hx hx0;rw[k] at hx;obtain hx |hx:=jn.mp hx
  ·exact absurd hx hx0
  ·rw[j9] at hx; subst hx; exact⟨_,wb,rfl⟩
 ·intro x hx hx0;rw[k] at hx;obtain hx |hx:=jn.mp hx
  ·exact absurd hx hx0
  ·exact .inl hx
 ·intro x hx;rw[j9] at hx; subst hx;exact⟨by rw[k]; simp,hn⟩
def Dfs.step(G:Gr ns adj){x:Str}{wt:aj}(D:Dfs ns adj b O0 O (wt++[x])):Dfs ns adj b O0 (O++((cU ns adj x).filter λy=>aE (y∉ao O)).map λy=>(y,aA x)) (wt++(cU ns adj x).filter λy=>aE (y∉ao O)):=by
 obtain⟨hx,hx0⟩:=D.ws x (by simp)
 generalize hf:((cU ns adj x).filter λy=>aE (y∉ao O))=fr;have fm:∀ y,y∈fr↔y∈ns/\adj x y=aC/\y∉ao O:=λy=>by
  rw[<-hf,jQ,cU,jQ,decide_eq_true_iff,and_assoc]
 have fn:fr.Nodup:=by rw[<-hf]; exact(G.nd.filter _).filter _
 have k:ao (O++fr.map λy=>(y,aA x))=ao O++fr:=by
  rw[fH]
  congr 1
  unfold ao;rw[jP];exact List.map_id' _
 have up:∀ e∈O,e∈O++fr.map λy=>(y,aA x):=λe he=>ji _ he;obtain⟨r,hr⟩:=D.pre;obtain⟨wx,hwx,hlx⟩:=D.cur x hx hx0;refine⟨⟨r++fr.map λy=>(y,aA x),by rw[hr,Qn]⟩,?_,?_,?_,?_,?_,?_⟩
 ·rw[k];exact jK.mpr ⟨D.nd,fn,λa ha c hc e=>by subst e; exact((fm a).mp hc).2.2 ha⟩
 ·intro y hy;rw[k] at hy;obtain hy |hy:=jn.mp hy
  ·exact D.sub y hy
  ·exact((fm y).mp hy).1
 ·intro i y p h
  by_cases hi:i < O.length
  ·rw[Q8 hi] at h;have:=D.ord i y p h;exact⟨this.1,F5 this.2⟩
  ·rw[Qe (by lia),jf] at h
   obtain⟨z,h1,h2⟩:=Qm h;injection h2 with h2 h3;injection h3 with h3;subst h2 h3;refine⟨((fm z).mp (jy h1)).2.1,?_⟩;rw[Jq,fH,jZ (by lia)]
   exact ji _ hx
 ·intro y hy hy0;rw[k] at hy;obtain hy |hy:=jn.mp hy
  ·obtain⟨w,h1,h2⟩:=D.cur y hy hy0;exact⟨w,h1.mono up,h2⟩
  ·refine⟨y::wx,.step (jw _ (jz.mpr ⟨y,hy,rfl⟩)) (hwx.mono up),?_⟩;obtain⟨t,rfl⟩:=hwx.head;exact hlx
 ·intro y hy hy0;rw[k] at hy ⊢;obtain hy |hy:=jn.mp hy
  ·obtain h |h:=D.don y hy hy0
   ·obtain h |h:=jn.mp h
    ·exact .inl (ji _ h)
    ·rw[j9] at h;subst h;refine .inr λz hz ha=>?_
     by_cases hk:z∈ao O
     ·exact ji _ hk
     ·exact jw _ ((fm z).mpr ⟨hz,ha,hk⟩)
   ·exact .inr λz hz ha=>ji _ (h z hz ha)
  ·exact .inl (jw _ hy)
 ·intro y hy;rw[k];obtain hy |hy:=jn.mp hy
  ·have:=D.ws y (ji _ hy);exact⟨ji _ this.1,this.2⟩
  ·have:=(fm y).mp hy;refine⟨jw _ hy,λh0=>this.2.2 ?_⟩;rw[hr,fH];exact ji _ h0
def Dfs.fin(G:Gr ns adj)(F:Fo ns adj O0)(D:Dfs ns adj b O0 O []):Fo ns adj O:=by
 obtain⟨r,hr⟩:=D.pre;have up:∀ e∈O0,e∈O:=λe he=>by rw[hr]; exact ji _ he
 have upk:∀ x∈ao O0,x∈ao O:=λx hx=>by rw[hr,fH]; exact ji _ hx
 have clo:∀ x∈ao O,∀ y∈ns,adj x y=aC->y∈ao O:=λx hx y hy ha=>by
  by_cases h0:x∈ao O0
  ·exact upk y (F.clo x h0 y hy ha)
  ·obtain h |h:=D.don x hx h0
   ·cases h
   ·exact h y hy ha
 refine⟨D.nd,D.sub,D.ord,clo,λx hx=>?_,λx hx y hy ha w w' hw hw'=>?_⟩
 ·by_cases h0:x∈ao O0
  ·obtain⟨w,h⟩:=F.way x h0;exact⟨w,h.mono up⟩
  ·obtain⟨w,h,_⟩:=D.cur x hx h0;exact⟨w,h⟩
 ·by_cases h0:x∈ao O0
  ·have hy0:=F.clo x h0 y (D.sub y hy) ha;obtain⟨u,hu⟩:=F.way x h0;obtain⟨u',hu'⟩:=F.way y hy0;rw[hw.one D.nd (hu.mono up),hw'.one D.nd (hu'.mono up)];exact F.rt x h0 y hy0 ha u u' hu hu'
  ·have hy0:y∉ao O0:=λz=>h0 (F.clo y z x (D.sub x hx) (by rw[<-G.sym x (D.sub x hx) y (D.sub y hy)]; exact ha))
   obtain⟨u,hu,h1⟩:=D.cur x hx h0;obtain⟨u',hu',h2⟩:=D.cur y hy hy0;rw[hw.one D.nd hu,hw'.one D.nd hu',h1,h2]
def vC(ev:ag)(f:ah)(e:Str × Option Str):ah:=λz=>if z=e.1 then (match e.2 with |none=>aD |some p=>ev p e.1 != f p) else f z
def dO(ev:ag)(O:eM):ah:=O.foldl (vC ev) (λ_=>aD)
def Fi(ev:ag)(O:eM)(e:Str × Option Str):dO ev (O++[e])=vC ev (dO ev O) e:=by unfold dO; rw[N1]; rfl
def F3(ev:ag):∀(r:eM) (O:eM) (z:Str),z∈ao O->(ao (O++r)).Nodup->dO ev (O++r) z=dO ev O z
 |[],O,z,_,_=>by rw[QH]
 |e::r,O,z,hz,nd=>by
  have e1:O++e::r=(O++[e])++r:=by simp
  rw[e1] at nd ⊢;rw[F3 ev r (O++[e]) z (by rw[fH]; exact ji _ hz) nd,Fi]
  unfold vC;rw[aH];intro hze;rw[fH,fH] at nd;have:=(jK.mp (jK.mp nd).1).2.2 z hz e.1 (by simp[ao])
  exact this hze
def EU(ev:ag){i:Nat}{z:Str}(nd:(ao O).Nodup)(hz:z∈ao (O.take i)):dO ev O z=dO ev (O.take i) z:=by
 have:=F3 ev (O.drop i) (O.take i) z hz (by rw[Zd]; exact nd)
 rwa [Zd] at this
def LB(ev:ag){i:Nat}{e:Str × Option Str}(nd:(ao O).Nodup)(h:O[i]?=aA e):dO ev O e.1=(match e.2 with |none=>aD |some p=>ev p e.1 != dO ev (O.take i) p):=by
 have h1:O.take (i+1)=O.take i++[e]:=by rw[ZT,h]; rfl
 rw[EU ev (i:=i+1) nd (by rw[h1,fH]; simp[ao]),h1,Fi]
 unfold vC;rw[aI rfl]
def Fo.side(F:Fo ns adj O)(ev:ag){i:Nat}{e:Str × Option Str}(h:O[i]?=aA e):dO ev O e.1=(match e.2 with |none=>aD |some p=>ev p e.1 != dO ev O p):=by
 rw[LB ev F.nd h];obtain⟨x,o⟩:=e;cases o with
 |none=>rfl
 |some p=>
  dsimp only;rw[EU ev F.nd (F.ord i x p h).2]
def Fo.edge(G:Gr ns adj)(F:Fo ns adj O){a p:Str}(h:(a,aA p)∈O):adj a p=aC/\adj p a=aC/\bS ns adj a p=(dO (bS ns adj) O a != dO (bS ns adj) O p)/\bS ns adj p a=(dO (bS ns adj) O a != dO (bS ns adj) O p):=by
 obtain⟨i,hi⟩:=List.mem_iff_getElem?.mp h;obtain⟨h1,h2⟩:=F.ord i a p hi;have hs:=F.side (bS ns adj) hi;dsimp only at hs;have ha:=F.sub a (oS h)
 have hp:p∈ns:=F.sub p (by
  have:O=O.take i++O.drop i:=(Zd i O).symm
  rw[this,fH]; exact ji _ h2)
 have e1:bS ns adj p a=(dO (bS ns adj) O a != dO (bS ns adj) O p):=by
  rw[hs];cases bS ns adj p a<;>cases dO (bS ns adj) O p<;>rfl
 exact⟨by rw[G.sym a ha p hp]; exact h1,h1,by rw[yh]; exact e1,e1⟩
end
end Dw
namespace Dw
variable {M n:Nat}{nm:ai}
section
variable [NeZero M]
def bX(M:Nat)[NeZero M]:Nat->Nat->Fin M
 |t,0=>Fin.ofNat M t
 |t,i+1=>bX M (t / M) i
def bi:Nat->(Nat->Fin M)->Nat
 |0,_=>0
 |k+1,h=>(h 0).val+M*bi k λi=>h (i+1)
def yU:∀(k:Nat) (h:Nat->Fin M),bi k h < M ^ k:=λk=>by
 induction k with
 |zero=>intro h; exact Nat.one_pos
 |succ k ih=>
  intro h;show (h 0).val+M*bi k _ < M ^ (k+1);have h1:=ih λi=>h (i+1);have h2:=(h 0).isLt;have h3:M*(bi k (λi=>h (i+1))+1)<=M*M ^ k:=Nat.mul_le_mul_left M h1;rw[Nat.pow_succ,Nat.mul_comm (M ^ k) M];rw[Nat.mul_add,Nat.mul_one] at h3;lia
def rQ:∀(k:Nat) (h:Nat->Fin M) (i:Nat),i < k->bX M (bi k h) i=h i:=λk=>by
 induction k with
 |zero=>intro h i hi; lia
 |succ k ih=>
  intro h i hi;have h2:=(h 0).isLt;have hM:=WO (NeZero.ne M);cases i with
  |zero=>
   refine JG ?_;show ((h 0).val+M*bi k _)%M=(h 0).val;rw[Nat.add_mul_mod_self_left,Nat.mod_eq_of_lt h2]
  |succ i=>
   show bX M (((h 0).val+M*bi k _) / M) i=_;rw[Nat.add_mul_div_left _ _ hM,Nat.div_eq_of_lt h2,Z0];exact ih _ i (by lia)
def vS:∀(k t:Nat),t < M ^ k->bi k (bX M t)=t:=λk=>by
 induction k with
 |zero=>intro t ht; rw[Nat.pow_zero] at ht; show 0=t; lia
 |succ k ih=>
  intro t ht;have hM:=WO (NeZero.ne M);show t%M+M*bi k (bX M (t / M))=t;rw[ih (t / M) ((Nat.div_lt_iff_lt_mul hM).mpr (by rw[<-Nat.pow_succ]; exact ht))]
  exact Nat.mod_add_div t M
def FB:∀(k:Nat) (h h':Nat->Fin M),(∀ i,i < k->h i=h' i)->bi k h=bi k h':=λk=>by
 induction k with
 |zero=>intros; rfl
 |succ k ih=>
  intro h h' e;show (h 0).val+M*bi k _=(h' 0).val+M*bi k _;rw[e 0 (by lia),ih _ (λi=>h' (i+1)) λi hi=>e (i+1) (by lia)]
def DU{A B:Nat}{F:ai}(h1:∀ t,t < A->F t < B)(h2:∀ t t',t < A->t' < A->F t=F t'->t=t'):A<=B/\(A=B->∀ y,y < B->∃ t,t < A/\F t=y):=by
 have nd:((j7 A).map F).Nodup:=by
  rw[W7,gk];refine Zg (λ{x y} hx hy hne e=>?_) (Zr (n:=A));have:=h2 x y (je.mp hx) (je.mp hy) e;lia
 have sub:∀ x∈(j7 A).map F,x∈j7 B:=λx hx=>by
  obtain⟨t,ht,rfl⟩:=jz.mp hx;exact je.mpr (h1 t (je.mp ht))
 constructor
 ·have:=tY nd sub;simpa using this
 ·intro e y hy;apply YR;intro hne
  have nd2:(y::(j7 A).map F).Nodup:=Qh.mpr ⟨λhm=>hne (by
   obtain⟨t,ht,e⟩:=jz.mp hm
   exact⟨t,je.mp ht,e⟩),nd⟩
  have:=tY (m:=j7 B) nd2 λx hx=>by
   obtain q |q:=jx.mp hx
   ·rw[q]; exact je.mpr hy
   ·exact sub x q
  simp at this;lia
def sm(l:ak)(h:Nat->Fin M):Fin M:=l.foldr (λk s=>h k+s) 0
def nW(h:Nat->Fin M):sm [] h=0:=rfl
def eW(k:Nat)(l:ak)(h:Nat->Fin M):sm (k::l) h=h k+sm l h:=rfl
def E3(l m:ak)(h:Nat->Fin M):sm (l++m) h=sm l h+sm m h:=by
 induction l with
 |nil=>rw[NW,nW]; grind
 |cons k l ih=>rw[Jr,eW,eW,ih]; grind
def RF{l m:ak}(p:l.Perm m)(h:Nat->Fin M):sm l h=sm m h:=by
 induction p with
 |nil=>rfl
 |cons x _ ih=>rw[eW,eW,ih]
 |swap x y l=>rw[eW,eW,eW,eW]; grind
 |trans _ _ a b=>rw[a,b]
def fG{l:ak}{h h':Nat->Fin M}(e:∀ k∈l,h k=h' k):sm l h=sm l h':=by
 induction l with
 |nil=>rfl
 |cons k l ih=>rw[eW,eW,e k (by simp),ih λk hk=>e k (jA _ hk)]
def oP(l:ak)(h h':Nat->Fin M):sm l (λk=>h k+h' k)=sm l h+sm l h':=by
 induction l with
 |nil=>rw[nW,nW,nW]; grind
 |cons k l ih=>rw[eW,eW,eW,ih]; grind
def ON(l:ak)(c:Fin M)(h:Nat->Fin M):sm l (λk=>c*h k)=c*sm l h:=by
 induction l with
 |nil=>rw[nW,nW]; grind
 |cons k l ih=>rw[eW,eW,ih]; grind
def zM(l:ak):sm l (λ_=>(0:Fin M))=0:=by
 induction l with
 |nil=>rfl
 |cons k l ih=>rw[eW,ih]; grind
def wX(k:Nat)(h:Nat->Fin M):sm (j7 (k+1)) h=sm (j7 k) h+h k:=by
 rw[NX,E3,eW,nW]; grind
end
structure Cd (n:Nat) (a b nm:ai):Prop where
 alt:∀ v,v < n->a v < 2*n
 blt:∀ v,v < n->b v < 2*n
 na:∀ v,v < n->nm (a v)=v
 nb:∀ v,v < n->nm (b v)=v
 ne:∀ v,v < n->a v≠b v
 nlt:∀ p,p < 2*n->nm p < n
 at_:∀ p,p < 2*n->p=a (nm p)∨p=b (nm p)
def bR(n k:Nat):Nat:=if k=0 then 2*n - 1 else k - 1
structure Wf (n:Nat) (a b f:ai):Prop where
 c1:∀ v,v < n->f (2*bR n (a v))=2*b v
 c2:∀ v,v < n->f (2*a v+1)=2*bR n (b v)+1
 c3:∀ v,v < n->f (2*bR n (b v))=2*bR n (a v)+1
 c4:∀ v,v < n->f (2*b v+1)=2*a v
section
variable [NeZero M]{a b f:ai}
structure Cor (n:Nat) (a b:ai) (G:Nat->Fin M):Prop where
 c1:∀ v,v < n->G (2*b v)=G (2*bR n (a v))
 c2:∀ v,v < n->G (2*bR n (b v)+1)=G (2*a v+1)
 c3:∀ v,v < n->G (2*bR n (a v)+1)=G (2*bR n (b v))
 c4:∀ v,v < n->G (2*a v)=G (2*b v+1)
def t7{k:Nat}(h:k < 2*n):bR n k < 2*n:=by unfold bR; split<;>lia
def DJ(C:Cd n a b nm)(W:Wf n a b f){G:Nat->Fin M}(h:∀ w,w < 4*n->G (f w)=G w):Cor n a b G:=by
 refine⟨λv hv=>?_,λv hv=>?_,λv hv=>?_,λv hv=>?_⟩
 ·rw[<-W.c1 v hv]; exact h _ (by have:=t7 (C.alt v hv); lia)
 ·rw[<-W.c2 v hv]; exact h _ (by have:=C.alt v hv; lia)
 ·rw[<-W.c3 v hv]; exact h _ (by have:=t7 (C.blt v hv); lia)
 ·rw[<-W.c4 v hv]; exact h _ (by have:=C.blt v hv; lia)
def DV(C:Cd n a b nm)(W:Wf n a b f){G:Nat->Fin M}(h:Cor n a b G):∀ w,w < 4*n->G (f w)=G w:=by
 intro w hw;obtain e |e:=Q6 w
 ·obtain⟨k,rfl⟩:∃ k,w=2*k:=⟨w / 2,by lia⟩
  obtain⟨p,hp,rfl⟩:∃ p,p < 2*n/\k=bR n p:=by
   by_cases q:k+1=2*n
   ·exact⟨0,by lia,by unfold bR; rw[aI rfl]; lia⟩
   ·exact⟨k+1,by lia,by unfold bR; rw[aH (by lia)]; lia⟩
  have hv:=C.nlt p hp;obtain q |q:=C.at_ p hp
  ·rw[q,W.c1 _ hv]; exact h.c1 _ hv
  ·rw[q,W.c3 _ hv]; exact h.c3 _ hv
 ·obtain⟨k,rfl⟩:∃ k,w=2*k+1:=⟨w / 2,by lia⟩
  have hp:k < 2*n:=by lia
  have hv:=C.nlt k hp;obtain q |q:=C.at_ k hp
  ·rw[q,W.c2 _ hv]; exact h.c2 _ hv
  ·rw[q,W.c4 _ hv]; exact h.c4 _ hv
def tV(C:Cd n a b nm)(h:Nat->Fin M):sm (j7 (2*n)) h=sm (j7 n) λv=>h (a v)+h (b v):=by
 have p:(j7 (2*n)).Perm ((j7 n).map a++(j7 n).map b):=by
  refine(List.perm_ext_iff_of_nodup ZS ?_).mpr λp=>?_
  ·rw[jK];refine⟨?_,?_,λx hx y hy e=>?_⟩
   ·rw[W7,gk];refine Zg (λ{x y} hx hy hne e=>?_) (Zr (n:=n));have h1:=C.na x (je.mp hx);rw[e,C.na y (je.mp hy)] at h1;lia
   ·rw[W7,gk];refine Zg (λ{x y} hx hy hne e=>?_) (Zr (n:=n));have h1:=C.nb x (je.mp hx);rw[e,C.nb y (je.mp hy)] at h1;lia
   ·obtain⟨u,hu,rfl⟩:=jz.mp hx;obtain⟨v,hv,rfl⟩:=jz.mp hy;have h1:=C.na u (je.mp hu);rw[e,C.nb v (je.mp hv)] at h1;subst h1;exact C.ne v (je.mp hv) e
  ·rw[jn,jz,jz,je];constructor
   ·intro hp;have hv:=C.nlt p hp;obtain q |q:=C.at_ p hp
    ·exact .inl ⟨nm p,je.mpr hv,q.symm⟩
    ·exact .inr ⟨nm p,je.mpr hv,q.symm⟩
   ·rintro(⟨v,hv,rfl⟩ |⟨v,hv,rfl⟩)
    ·exact C.alt v (je.mp hv)
    ·exact C.blt v (je.mp hv)
 rw[RF p,E3,oP];have sm_map:∀(l:ak) (g:ai),sm (l.map g) h=sm l λv=>h (g v):=λl g=>by
  induction l with
  |nil=>rfl
  |cons k l ih=>rw[jp,eW,eW,ih]
 rw[sm_map,sm_map]
def Dd(b nm:ai)(d0:Fin M)(x:Nat->Fin M):Nat->Fin M
 |0=>d0
 |k+1=>Dd b nm d0 x k+(if k=b (nm k) then - x (nm k) else x (nm k))
def Cc(a b nm:ai)(d0:Fin M)(x:Nat->Fin M)(p:Nat):Fin M:=if p=b (nm p) then Dd b nm d0 x (a (nm p)) else - Dd b nm d0 x (b (nm p)+1)
def La(a b nm:ai)(l0 d0:Fin M)(x:Nat->Fin M):Nat->Fin M
 |0=>l0
 |k+1=>La a b nm l0 d0 x k+Cc a b nm d0 x k
def uO(C:Cd n a b nm)(d0:Fin M)(x:Nat->Fin M){v:Nat}(hv:v < n):Dd b nm d0 x (a v+1)=Dd b nm d0 x (a v)+x v:=by
 show Dd b nm d0 x (a v)+(if a v=b (nm (a v)) then _ else _)=_
 rw[C.na v hv,aH (C.ne v hv)]
def Bm(C:Cd n a b nm)(d0:Fin M)(x:Nat->Fin M){v:Nat}(hv:v < n):Dd b nm d0 x (b v+1)=Dd b nm d0 x (b v) - x v:=by
 show Dd b nm d0 x (b v)+(if b v=b (nm (b v)) then _ else _)=_
 rw[C.nb v hv,aI rfl]; grind
def Bp(C:Cd n a b nm)(l0 d0:Fin M)(x:Nat->Fin M){v:Nat}(hv:v < n):La a b nm l0 d0 x (a v+1)=La a b nm l0 d0 x (a v) - Dd b nm d0 x (b v+1):=by
 show _+Cc a b nm d0 x (a v)=_;unfold Cc;rw[C.na v hv,aH (C.ne v hv)]; grind
def Bq(C:Cd n a b nm)(l0 d0:Fin M)(x:Nat->Fin M){v:Nat}(hv:v < n):La a b nm l0 d0 x (b v+1)=La a b nm l0 d0 x (b v)+Dd b nm d0 x (a v):=by
 show _+Cc a b nm d0 x (b v)=_;unfold Cc;rw[C.nb v hv,aI rfl]
def xo(d0:Fin M)(x:Nat->Fin M)(k:Nat):Dd b nm d0 x k=d0+sm (j7 k) λk=>if k=b (nm k) then - x (nm k) else x (nm k):=by
 induction k with
 |zero=>show d0=_; rw[NY,nW]; grind
 |succ k ih=>rw[wX]; show Dd b nm d0 x k+_=_; rw[ih]; grind
def zO(C:Cd n a b nm)(d0:Fin M)(x:Nat->Fin M):Dd b nm d0 x (2*n)=d0:=by
 rw[xo,tV C];have:(sm (j7 n) λv=>(if a v=b (nm (a v)) then - x (nm (a v)) else x (nm (a v)))+(if b v=b (nm (b v)) then - x (nm (b v)) else x (nm (b v))))=sm (j7 n) λ_=>(0:Fin M):=fG λv hv=>by
  have hv:=je.mp hv;rw[C.na v hv,C.nb v hv,aH (C.ne v hv),aI rfl]; grind
 rw[this,zM]; grind
def v6(C:Cd n a b nm)(d0:Fin M)(x:Nat->Fin M){k:Nat}(hk:k < 2*n):Dd b nm d0 x (bR n k+1)=Dd b nm d0 x k:=by
 unfold bR;split
 ·rename_i h; subst h;rw[show 2*n - 1+1=2*n by lia,zO C]; rfl
 ·rw[show k - 1+1=k by lia]
def nA(n:Nat)(a b nm:ai)(l0 d0:Fin M)(x:Nat->Fin M):Prop:=La a b nm l0 d0 x (2*n)=l0/\∀ v,v < n->La a b nm l0 d0 x (a v)=La a b nm l0 d0 x (b v+1)
def Gg(a b nm:ai)(l0 d0:Fin M)(x:Nat->Fin M)(w:Nat):Fin M:=if w%2=0 then La a b nm l0 d0 x (w / 2+1) else La a b nm l0 d0 x (w / 2+1) - Dd b nm d0 x (w / 2+1)
def xp(l0 d0:Fin M)(x:Nat->Fin M)(k:Nat):Gg a b nm l0 d0 x (2*k)=La a b nm l0 d0 x (k+1):=by
 unfold Gg; rw[aI (by lia),show 2*k / 2=k by lia]
def xq(l0 d0:Fin M)(x:Nat->Fin M)(k:Nat):Gg a b nm l0 d0 x (2*k+1)=La a b nm l0 d0 x (k+1) - Dd b nm d0 x (k+1):=by
 unfold Gg; rw[aH (by lia),show (2*k+1) / 2=k by lia]
def DH(C:Cd n a b nm){l0 d0:Fin M}{x:Nat->Fin M}(h:nA n a b nm l0 d0 x):Cor n a b (Gg a b nm l0 d0 x):=by
  have lp:∀ k,k < 2*n->La a b nm l0 d0 x (bR n k+1)=La a b nm l0 d0 x k:=λk hk=>by
    unfold bR;split
    · rename_i q; subst q
      rw[show 2*n - 1+1=2*n by lia,h.1]; rfl
    · rw[show k - 1+1=k by lia]
  have h2:=h.2;refine⟨λv hv=>?_,λv hv=>?_,λv hv=>?_,λv hv=>?_⟩ <;>
  (have e1:=h2 v hv
   have e2:=lp _ (C.alt v hv);have e3:=lp _ (C.blt v hv);have e4:=v6 C d0 x (C.alt v hv);have e5:=v6 C d0 x (C.blt v hv);have e6:=uO C d0 x hv;have e7:=Bm C d0 x hv;have e8:=Bp C l0 d0 x hv;have e9:=Bq C l0 d0 x hv;simp only[xp,xq,e2,e3,e4,e5,e8,e6,e7];rw[e7] at *
   grind)
end
section
variable [NeZero M]{a b f:ai}
def n9(n:Nat)(G:Nat->Fin M):Fin M:=G (2*bR n 0)
def dG(G:Nat->Fin M)(k:Nat):Fin M:=G (2*k) - G (2*k+1)
def xG(n:Nat)(a:ai)(G:Nat->Fin M)(v:Nat):Fin M:=dG G (a v) - dG G (bR n (a v))
def xX(C:Cd n a b nm){G:Nat->Fin M}(h:Cor n a b G):∀ k,k<=2*n->Dd b nm (dG G (bR n 0)) (xG n a G) k=dG G (bR n k):=λk=>by
 induction k with
 |zero=>intro _; rfl
 |succ k ih=>
  intro hk;have ih:=ih (by lia)
  have hp:bR n (k+1)=k:=by unfold bR; rw[aH (by lia)]; lia
  have hv:=C.nlt k (by lia)
  rw[hp];obtain q |q:=C.at_ k (by lia)
  ·generalize nm k=v at hv q;subst q;rw[uO C _ _ hv,ih];unfold xG
   grind
  ·generalize nm k=v at hv q;subst q;rw[Bm C _ _ hv,ih];have c1:=h.c1 v hv;have c2:=h.c2 v hv;have c3:=h.c3 v hv;have c4:=h.c4 v hv;unfold xG dG
   grind
def uP(C:Cd n a b nm){G:Nat->Fin M}(h:Cor n a b G):∀ k,k<=2*n->La a b nm (n9 n G) (dG G (bR n 0)) (xG n a G) k=G (2*bR n k):=λk=>by
 induction k with
 |zero=>intro _; rfl
 |succ k ih=>
  intro hk;have ih:=ih (by lia)
  have hp:bR n (k+1)=k:=by unfold bR; rw[aH (by lia)]; lia
  have hv:=C.nlt k (by lia)
  rw[hp];obtain q |q:=C.at_ k (by lia)
  ·generalize nm k=v at hv q;subst q;rw[Bp C _ _ _ hv,ih,xX C h _ (by have:=C.blt v hv; lia)]
   have c1:=h.c1 v hv;have c4:=h.c4 v hv;have hp:bR n (b v+1)=b v:=by unfold bR; rw[aH (by lia)]; lia
   rw[hp];unfold dG
   grind
  ·generalize nm k=v at hv q;subst q;rw[Bq C _ _ _ hv,ih,xX C h _ (by have:=C.alt v hv; lia)]
   have c1:=h.c1 v hv;have c3:=h.c3 v hv;unfold dG
   grind
def Li(C:Cd n a b nm)(hn:0 < n){G:Nat->Fin M}(h:Cor n a b G):nA n a b nm (n9 n G) (dG G (bR n 0)) (xG n a G):=by
 refine⟨?_,λv hv=>?_⟩
 ·rw[uP C h _ (jj _)];unfold n9
  congr 2
  unfold bR;rw[aH (by lia),aI rfl]
 ·rw[uP C h _ (by have:=C.alt v hv; lia),uP C h _ (by have:=C.blt v hv; lia),<-h.c1 v hv]
  congr 2
def xY(C:Cd n a b nm){G:Nat->Fin M}(h:Cor n a b G):∀ w,w < 4*n->G w=Gg a b nm (n9 n G) (dG G (bR n 0)) (xG n a G) w:=by
 intro w hw;have hp:bR n (w / 2+1)=w / 2:=by unfold bR; rw[aH (by lia)]; lia
 unfold Gg;rw[uP C h _ (by lia),xX C h _ (by lia),hp]
 split
 ·congr 1; lia
 ·unfold dG;rw[show 2*(w / 2)+1=w by lia]
  grind
def par(n:Nat)(a:ai)(G:Nat->Fin M):Nat->Fin M
 |0=>n9 n G
 |1=>dG G (bR n 0)
 |v+2=>xG n a G v
def yr(C:Cd n a b nm){d0:Fin M}{x x':Nat->Fin M}(e:∀ v,v < n->x v=x' v):∀ k,k<=2*n->Dd b nm d0 x k=Dd b nm d0 x' k:=λk=>by
 induction k with
 |zero=>intro _; rfl
 |succ k ih=>
  intro hk;show Dd b nm d0 x k+_=Dd b nm d0 x' k+_;rw[ih (by lia),e _ (C.nlt k (by lia))]
def vG(C:Cd n a b nm){l0 d0:Fin M}{x x':Nat->Fin M}(e:∀ v,v < n->x v=x' v):∀ k,k<=2*n->La a b nm l0 d0 x k=La a b nm l0 d0 x' k:=λk=>by
 induction k with
 |zero=>intro _; rfl
 |succ k ih=>
  intro hk;show La a b nm l0 d0 x k+Cc a b nm d0 x k=La a b nm l0 d0 x' k+Cc a b nm d0 x' k;have hv:=C.nlt k (by lia)
  unfold Cc;rw[ih (by lia),yr C e _ (by have:=C.alt _ hv; lia),yr C e _ (by have:=C.blt _ hv; lia)]
def RL(C:Cd n a b nm){l0 d0:Fin M}{x x':Nat->Fin M}(e:∀ v,v < n->x v=x' v)(h:nA n a b nm l0 d0 x):nA n a b nm l0 d0 x':=by
 refine⟨?_,λv hv=>?_⟩
 ·rw[<-vG C e _ (jj _)]; exact h.1
 ·rw[<-vG C e _ (by have:=C.alt v hv; lia),<-vG C e _ (by have:=C.blt v hv; lia)]; exact h.2 v hv
def E5(C:Cd n a b nm){l0 d0:Fin M}{x x':Nat->Fin M}(e:∀ v,v < n->x v=x' v){w:Nat}(hw:w < 4*n):Gg a b nm l0 d0 x w=Gg a b nm l0 d0 x' w:=by
 unfold Gg;rw[vG C e _ (by lia),yr C e _ (by lia)]
structure Cls (m:Nat) (f r:ai) (F:Nat):Prop where
 lt:∀ w,w < m->r w < F
 stay:∀ w,w < m->r (f w)=r w
 all:∀ i,i < F->∃ w,w < m/\r w=i
 one:∀ w w',w < m->w' < m->r w=r w'->bu f w w'
def DF{m:Nat}{f:ai}(hf:Perm1 m f){L:ak}(h:Trav m (bu f) L):∃ r,Cls m f r L.length:=by
 have ex:∀ w,w < m->∃ i,∃ hi:i < L.length,bu f L[i] w:=λw hw=>by
  obtain⟨y,hy,o⟩:=h.all w hw;obtain⟨i,hi,e⟩:=Qw hy;exact⟨i,hi,by rw[e]; exact o⟩
 have un:∀ i j (hi:i < L.length) (hj:j < L.length),bu f L[i] L[j]->i=j:=λi j hi hj o=>by
  have lt:∀ i j (hi:i < L.length) (hj:j < L.length),i < j->¬ bu f L[i] L[j]:=λi j hi hj hij=>gA.mp h.one i j hi hj hij;obtain q |q |q:=gq i j
  ·exact absurd o (lt i j hi hj q)
  ·exact q
  ·exact absurd (bu.symm hf (h.lt _ (jU hi)) o) (lt j i hj hi q)
 let r:ai:=λw=>open Classical in if h:∃ i,∃ hi:i < L.length,bu f L[i] w then QJ h else 0
 have hr:∀ w,w < m->∃ hi:r w < L.length,bu f L[r w] w:=λw hw=>by
  have e:r w=QJ (ex w hw):=dif_pos (ex w hw);rw[show (∃ hi:r w < L.length,bu f L[r w] w)=(∃ hi:QJ (ex w hw) < L.length,bu f L[QJ (ex w hw)] w) by simp only[e]]
  exact Zz (ex w hw)
 have ru:∀ w i (hi:i < L.length),w < m->bu f L[i] w->r w=i:=λw i hi hw o=>by
  obtain⟨h1,h2⟩:=hr w hw;exact un _ _ h1 hi (h2.trans (bu.symm hf (h.lt _ (jU hi)) o))
 refine⟨r,λw hw=>(hr w hw).1,λw hw=>?_,λi hi=>⟨L[i],h.lt _ (jU hi),ru _ i hi (h.lt _ (jU hi)) (bu.refl _ _)⟩,λw w' hw hw' e=>?_⟩
 ·obtain⟨h1,h2⟩:=hr w hw;exact ru _ _ h1 (hf.lt w hw) (h2.trans ⟨1,rfl⟩)
 ·obtain⟨h1,h2⟩:=hr w hw;obtain⟨h3,h4⟩:=hr w' hw';have h5:=bu.symm hf (h.lt _ (jU h1)) h2;have:L[r w]=L[r w']:=by congr 1
  rw[this] at h5;exact h5.trans h4
def vZ{m:Nat}{f:ai}(hf:Perm1 m f){G:Nat->Fin M}(h:∀ w,w < m->G (f w)=G w){w w':Nat}(hw:w < m)(o:bu f w w'):G w'=G w:=by
 obtain⟨k,rfl⟩:=o
 induction k with
 |zero=>rfl
 |succ k ih=>show G (f (bf f k w))=G w; rw[h _ (hf.itr_lt k hw),ih]
def Fg(C:Cd n a b nm)(W:Wf n a b f)(hn:0 < n){r:ai}{F:Nat}(h:Cls (4*n) f r F):M ^ F<=M ^ (n+2)/\(M ^ F=M ^ (n+2)->∀(l0 d0:Fin M) (x:Nat->Fin M),nA n a b nm l0 d0 x):=by
 have cor:∀ t,Cor n a b (λw=>bX M t (r w)):=λt=>DJ C W λw hw=>by rw[h.stay w hw]
 have key:=DU (A:=M ^ F) (B:=M ^ (n+2)) (F:=λt=>bi (n+2) (par n a λw=>bX M t (r w))) (λt ht=>yU _ _) (λt t' ht ht' e=>by
  have e:=e;have hp:∀ i,i < n+2->par n a (λw=>bX M t (r w)) i=par n a (λw=>bX M t' (r w)) i:=λi hi=>by
   rw[<-rQ (n+2) (par n a λw=>bX M t (r w)) i hi,e,rQ _ _ i hi]
  have hG:∀ w,w < 4*n->bX M t (r w)=bX M t' (r w):=λw hw=>by
   have e1:=xY C (cor t) w hw;have e2:=xY C (cor t') w hw;rw[show bX M t (r w)=_ from e1,show bX M t' (r w)=_ from e2];rw[show n9 n (λw=>bX M t (r w))=n9 n (λw=>bX M t' (r w)) from hp 0 (by lia),show dG (λw=>bX M t (r w)) (bR n 0)=dG (λw=>bX M t' (r w)) (bR n 0) from hp 1 (by lia)]
   exact E5 C (λv hv=>hp (v+2) (by lia)) hw
  rw[<-vS F t ht,<-vS F t' ht'];exact FB _ _ _ λi hi=>by
   obtain⟨w,hw,rfl⟩:=h.all i hi
   exact hG w hw)
 refine⟨key.1,λe l0 d0 x=>?_⟩
 let p:Nat->Fin M:=λi=>match i with
  |0=>l0
  |1=>d0
  |v+2=>x v
 obtain⟨t,ht,et⟩:=key.2 e (bi (n+2) p) (yU _ _);have hp:∀ i,i < n+2->par n a (λw=>bX M t (r w)) i=p i:=λi hi=>by
  rw[<-rQ (n+2) (par n a λw=>bX M t (r w)) i hi,<-rQ (n+2) p i hi]
  congr 1
 have:=Li C hn (cor t);rw[show n9 n (λw=>bX M t (r w))=l0 from hp 0 (by lia),show dG (λw=>bX M t (r w)) (bR n 0)=d0 from hp 1 (by lia)] at this
 exact RL C (λv hv=>hp (v+2) (by lia)) this
def Tj(C:Cd n a b nm)(W:Wf n a b f)(hf:Perm1 (4*n) f)(hn:0 < n){r:ai}{F:Nat}(h:Cls (4*n) f r F)(hc:∀(l0 d0:Fin M) (x:Nat->Fin M),nA n a b nm l0 d0 x):M ^ (n+2)<=M ^ F:=by
 let rep:ai:=λi=>open Classical in if h:∃ w,w < 4*n/\r w=i then QJ h else 0
 have hrep:∀ i,i < F->rep i < 4*n/\r (rep i)=i:=λi hi=>by
  have e:rep i=QJ (h.all i hi):=dif_pos (h.all i hi);rw[e];exact Zz (h.all i hi)
 let G:Nat->Nat->Fin M:=λt=>Gg a b nm (bX M t 0) (bX M t 1) (λv=>bX M t (v+2))
 have inv:∀ t w,w < 4*n->G t (f w)=G t w:=λt=>DV C W (DH C (hc _ _ _));refine(DU (A:=M ^ (n+2)) (B:=M ^ F) (F:=λt=>bi F λi=>G t (rep i)) (λt ht=>yU _ _) (λt t' ht ht' e=>?_)).1;have hG0:∀ i,i < F->G t (rep i)=G t' (rep i):=λi hi=>by
  rw[<-rQ F (λi=>G t (rep i)) i hi,show (bi F λi=>G t (rep i))=bi F λi=>G t' (rep i) from e,rQ F _ i hi]
 have hG:∀ w,w < 4*n->G t w=G t' w:=λw hw=>by
  obtain⟨q1,q2⟩:=hrep _ (h.lt w hw);have o:=h.one _ _ q1 hw q2;rw[vZ hf (inv t) q1 o,vZ hf (inv t') q1 o];exact hG0 _ (h.lt w hw)
 have hL:∀ k,k < 2*n->La a b nm (bX M t 0) (bX M t 1) (λv=>bX M t (v+2)) (k+1)=La a b nm (bX M t' 0) (bX M t' 1) (λv=>bX M t' (v+2)) (k+1):=λk hk=>by
  rw[<-xp,<-xp]; exact hG _ (by lia)
 have hD:∀ k,k < 2*n->Dd b nm (bX M t 1) (λv=>bX M t (v+2)) (k+1)=Dd b nm (bX M t' 1) (λv=>bX M t' (v+2)) (k+1):=λk hk=>by
  have e1:=hG (2*k+1) (by lia)
  have e2:=hL k hk;have e3:Gg a b nm (bX M t 0) (bX M t 1) (λv=>bX M t (v+2)) (2*k+1)=Gg a b nm (bX M t' 0) (bX M t' 1) (λv=>bX M t' (v+2)) (2*k+1):=e1;rw[xq,xq] at e3
  grind
 have g0:bX M t 0=bX M t' 0:=by
  have e1:=hL (2*n - 1) (by lia)
  rwa [show 2*n - 1+1=2*n by lia,(hc _ _ _).1,(hc _ _ _).1] at e1
 have g1:bX M t 1=bX M t' 1:=by
  have e1:=hD (2*n - 1) (by lia)
  rwa [show 2*n - 1+1=2*n by lia,zO C,zO C] at e1
 have hD2:∀ k,k < 2*n->Dd b nm (bX M t 1) (λv=>bX M t (v+2)) k=Dd b nm (bX M t' 1) (λv=>bX M t' (v+2)) k:=λk hk=>by
  rw[<-v6 C _ _ hk,<-v6 C _ _ hk];exact hD _ (t7 hk)
 have g2:∀ v,v < n->bX M t (v+2)=bX M t' (v+2):=λv hv=>by
  have e1:=hD (a v) (C.alt v hv);have e2:=hD2 (a v) (C.alt v hv);rw[uO C _ _ hv,uO C _ _ hv] at e1
  grind
 rw[<-vS (n+2) t ht,<-vS (n+2) t' ht'];exact FB _ _ _ λi hi=>by
  match i with
  |0=>exact g0
  |1=>exact g1
  |v+2=>exact g2 v (by lia)
end
abbrev F2:=Fin 2
def DM(x:F2):-x=x:=by revert x; decide
def sv(x:F2):x+x=0:=by revert x; decide
def EF(x y:F2):x+y=y+x:=by revert x y; decide
def CS(x:F2):x*x=x:=by revert x; decide
def eI(u v:Nat):F2:=if u=v then 1 else 0
def vo(u:Nat):eI u u=1:=aI rfl
def qL{u v:Nat}(h:u≠v):eI u v=0:=aH h
def RU(u v:Nat):eI u v=eI v u:=by
 by_cases h:u=v
 ·rw[h]
 ·rw[qL h,qL (ZE h)]
def oU{l:ak}{h:Nat->F2}(e:∀ k∈l,h k=0):sm l h=0:=by
 rw[fG e,zM]
def OM{l:ak}(nd:l.Nodup){v:Nat}(hv:v∈l)(h:Nat->F2):sm l (λu=>h u*eI u v)=h v:=by
 induction l with
 |nil=>cases hv
 |cons k l ih=>
  rw[Qh] at nd;rw[eW]
  by_cases q:k=v
  ·subst q;rw[oU λu hu=>by rw[qL (λz:u=k=>nd.1 (z▸hu))]; exact ZM _,vo]; grind
  ·rw[ih nd.2 ((jx.mp hv).resolve_left (ZE q)),qL q]; grind
structure Ij (n:Nat) (i j nm:ai):Prop where
 lt:∀ v,v < n->i v < j v
 jlt:∀ v,v < n->j v < 2*n
 ni:∀ v,v < n->nm (i v)=v
 nj:∀ v,v < n->nm (j v)=v
 nlt:∀ p,p < 2*n->nm p < n
 at_:∀ p,p < 2*n->p=i (nm p)∨p=j (nm p)
def aO(i j:ai)(hd:Nat->Bool)(v:Nat):Nat:=bif hd v then i v else j v
def bO(i j:ai)(hd:Nat->Bool)(v:Nat):Nat:=bif hd v then j v else i v
section
variable {i j:ai}{hd:Nat->Bool}
def Gw{v:Nat}(h:hd v=aC):aO i j hd v=i v/\bO i j hd v=j v:=by unfold aO bO; rw[h]; exact⟨rfl,rfl⟩
def Gx{v:Nat}(h:hd v=aD):aO i j hd v=j v/\bO i j hd v=i v:=by unfold aO bO; rw[h]; exact⟨rfl,rfl⟩
def l6(i j:ai)(hd:Nat->Bool)(v:Nat):(aO i j hd v=i v/\bO i j hd v=j v/\hd v=aC)∨(aO i j hd v=j v/\bO i j hd v=i v/\hd v=aD):=by
 cases h:hd v
 ·exact .inr ⟨(Gx h).1,(Gx h).2,rfl⟩
 ·exact .inl ⟨(Gw h).1,(Gw h).2,rfl⟩
def Ij.cd(I:Ij n i j nm)(hd:Nat->Bool):Cd n (aO i j hd) (bO i j hd) nm:=by
 refine⟨λv hv=>?_,λv hv=>?_,λv hv=>?_,λv hv=>?_,λv hv=>?_,I.nlt,λp hp=>?_⟩
 ·obtain ⟨a,b,_⟩ |⟨a,b,_⟩:=l6 i j hd v<;>rw[a]
  ·exact Jc (I.lt v hv) (I.jlt v hv)
  ·exact I.jlt v hv
 ·obtain ⟨a,b,_⟩ |⟨a,b,_⟩:=l6 i j hd v<;>rw[b]
  ·exact I.jlt v hv
  ·exact Jc (I.lt v hv) (I.jlt v hv)
 ·obtain ⟨a,b,_⟩ |⟨a,b,_⟩:=l6 i j hd v<;>rw[a]
  ·exact I.ni v hv
  ·exact I.nj v hv
 ·obtain ⟨a,b,_⟩ |⟨a,b,_⟩:=l6 i j hd v<;>rw[b]
  ·exact I.nj v hv
  ·exact I.ni v hv
 ·obtain ⟨a,b,_⟩ |⟨a,b,_⟩:=l6 i j hd v<;>rw[a,b]
  ·exact jH (I.lt v hv)
  ·exact g9 (I.lt v hv)
 ·obtain ⟨a,b,_⟩ |⟨a,b,_⟩:=l6 i j hd (nm p)<;>rw[a,b]
  ·exact I.at_ p hp
  ·exact(I.at_ p hp).symm
def dQ(i j:ai)(u p:Nat):F2:=if i u < p/\p < j u then 1 else 0
def io(i j:ai)(u k:Nat):F2:=if i u < k/\k<=j u then 1 else 0
def cr(i j:ai)(u v:Nat):F2:=dQ i j u (i v)+dQ i j u (j v)
def fq(hd:Nat->Bool)(v:Nat):F2:=bif hd v then 0 else 1
def DQ{p q:Prop}[Decidable p][Decidable q](h:p↔q):(if p then (1:F2) else 0)=if q then 1 else 0:=by
 by_cases hp:p
 ·rw[aI hp,aI (h.mp hp)]
 ·rw[aH hp,aH λz=>hp (h.mpr z)]
def E9{u x:Nat}(h:x≠i u):io i j u (x+1)=dQ i j u x:=DQ (by lia)
def E8{u x:Nat}(h:x≠j u):io i j u x=dQ i j u x:=DQ (by lia)
def yB(u:Nat):dQ i j u (i u)=0:=aH λh=>Q9 _ h.1
def yC(u:Nat):dQ i j u (j u)=0:=aH λh=>Q9 _ h.2
def Bz(u:Nat):io i j u (i u)=0:=aH λh=>Q9 _ h.1
def Ca{u:Nat}(h:i u < j u):io i j u (i u+1)=1:=aI ⟨Zj _,h⟩
def C2{u:Nat}(h:i u < j u):io i j u (j u)=1:=aI ⟨h,jj _⟩
def Cb(u:Nat):io i j u (j u+1)=0:=aH λh=>Q9 _ h.2
def PD(u:Nat):cr i j u u=0:=by unfold cr; rw[yB,yC]; rfl
def Ij.ne(I:Ij n i j nm){u p:Nat}(hp:p < 2*n)(hu:u < n)(h:u≠nm p):p≠i u/\p≠j u:=⟨λe=>h (by rw[e,I.ni u hu]),λe=>h (by rw[e,I.nj u hu])⟩
def rW{v:Nat}(hv:v < n)(h:Nat->F2):sm (j7 n) (λu=>h u*eI u v)=h v:=OM ZS (je.mpr hv) h
def K5(I:Ij n i j nm)(d0:F2)(x:Nat->F2):∀ k,k<=2*n->Dd (bO i j hd) nm d0 x k=d0+sm (j7 n) λu=>x u*io i j u k:=λk=>by
 induction k with
 |zero=>
  intro _;rw[oU λu _=>by rw[show io i j u 0=0 from aH λh=>Zc _ h.1]; exact ZM _]
  exact(Jh d0).symm
 |succ k ih=>
  intro hk;have hk':=hk;have hv:=I.nlt k hk';have e1:Dd (bO i j hd) nm d0 x (k+1)=Dd (bO i j hd) nm d0 x k+x (nm k):=by
   show _+(if k=bO i j hd (nm k) then - x (nm k) else x (nm k))=_
   rw[DM,ite_self]
  rw[e1,ih (Z8 hk')];have e2:(sm (j7 n) λu=>x u*io i j u (k+1))=sm (j7 n) λu=>x u*io i j u k+x u*eI u (nm k):=fG λu hu=>by
   have hu:=je.mp hu;have e3:io i j u (k+1)=io i j u k+eI u (nm k):=by
    by_cases q:u=nm k
    ·have ha:=I.at_ k hk';have hl:=I.lt u hu;rw[<-q] at ha ⊢;rw[vo];obtain e |e:=ha
     ·rw[e,Ca hl,Bz]; rfl
     ·rw[e,Cb,C2 hl]; rfl
    ·have hp:=I.ne hk' hu q;rw[qL q,E9 hp.1,E8 hp.2]; exact(Jh _).symm
   rw[e3]; grind
  rw[e2,oP,rW hv]; grind
def iV(a b nm:ai)(p:Nat):Nat:=if p=b (nm p) then a (nm p) else b (nm p)+1
def Tt(i j nm:ai)(hd:Nat->Bool)(u k:Nat):F2:=sm (j7 k) λp=>io i j u (iV (aO i j hd) (bO i j hd) nm p)
def OS{a b:ai}(C:Cd n a b nm){p:Nat}(h:p < 2*n):iV a b nm p<=2*n:=by
 have hv:=C.nlt p h;unfold iV;split
 ·exact Z8 (C.alt _ hv)
 ·exact C.blt _ hv
def ix(k:Nat)(d:F2):F2:=if k%2=0 then 0 else d
def RZ(k:Nat)(d:F2):ix (k+1) d=ix k d+d:=by
 unfold ix;obtain q |q:=Q6 k
 ·rw[aI q,aH (by lia)]; exact(Fin.zero_add d).symm
 ·rw[aI (c:=(k+1)%2=0) (by lia),aH (by lia)]; exact(sv d).symm
def oI(I:Ij n i j nm)(l0 d0:F2)(x:Nat->F2):∀ k,k<=2*n->La (aO i j hd) (bO i j hd) nm l0 d0 x k=l0+ix k d0+sm (j7 n) λu=>x u*Tt i j nm hd u k:=λk=>by
 induction k with
 |zero=>
  intro _;rw[oU λu _=>by exact ZM (x u)]
  show l0=l0+0+0
  grind
 |succ k ih=>
  intro hk;show La (aO i j hd) (bO i j hd) nm l0 d0 x k+Cc (aO i j hd) (bO i j hd) nm d0 x k=_;have e1:Cc (aO i j hd) (bO i j hd) nm d0 x k=Dd (bO i j hd) nm d0 x (iV (aO i j hd) (bO i j hd) nm k):=by
   unfold Cc iV;split
   ·rfl
   ·rw[DM]
  rw[e1,ih (Z8 hk),K5 I d0 x _ (OS (I.cd hd) hk),RZ];have e2:(sm (j7 n) λu=>x u*Tt i j nm hd u (k+1))=sm (j7 n) λu=>x u*Tt i j nm hd u k+x u*io i j u (iV (aO i j hd) (bO i j hd) nm k):=fG λu hu=>by
   unfold Tt;rw[wX]; grind
  rw[e2,oP]; grind
def EC(I:Ij n i j nm):(∀(l0 d0:F2) (x:Nat->F2),nA n (aO i j hd) (bO i j hd) nm l0 d0 x)↔(∀ w,w < n->(i w+j w)%2=1)/\(∀ u,u < n->Tt i j nm hd u (2*n)=0)/\∀ u w,u < n->w < n->Tt i j nm hd u (bO i j hd w+1)+Tt i j nm hd u (aO i j hd w)=0:=by
 have C:=I.cd hd;have par:∀ w,(i w+j w)%2=1↔∀ d,ix (aO i j hd w) d=ix (bO i j hd w+1) d:=λw=>by
  have key:∀ a b:Nat,(a+b)%2=1↔∀ d,ix a d=ix (b+1) d:=λa b=>by
   unfold ix;constructor
   ·intro h d;obtain q |q:=Q6 a
    ·rw[aI q,aI (by lia)]
    ·rw[aH (by lia),aH (by lia)]
   ·intro h;have h:=h 1;obtain q |q:=Q6 a<;>obtain q' |q':=Q6 (b+1)
    ·lia
    ·rw[aI q,aH (by lia)] at h; cases h
    ·rw[aH (by lia),aI q'] at h; cases h
    ·lia
  obtain ⟨a,b,_⟩ |⟨a,b,_⟩:=l6 i j hd w<;>rw[a,b]
  ·exact key _ _
  ·rw[Nat.add_comm]; exact key _ _
 constructor
 ·intro h;refine⟨λw hw=>(par w).mpr λd=>?_,λu hu=>?_,λu w hu hw=>?_⟩
  ·have e:=(h 0 d λ_=>0).2 w hw;rw[oI I _ _ _ _ (Z8 (C.alt w hw)),oI I _ _ _ _ (C.blt w hw),oU λu _=>by exact Yb _,oU λu _=>by exact Yb _] at e
   grind
  ·have e:=(h 0 0 λv=>eI v u).1;rw[oI I _ _ _ _ (jj _)] at e;have:(sm (j7 n) λv=>eI v u*Tt i j nm hd v (2*n))=Tt i j nm hd u (2*n):=by
    rw[<-rW hu λv=>Tt i j nm hd v (2*n)];exact fG λv _=>Ji _ _
   rw[this,show ix (2*n) (0:F2)=0 from ite_self _] at e; grind
  ·have e:=(h 0 0 λv=>eI v u).2 w hw;have z:∀ k,(sm (j7 n) λv=>eI v u*Tt i j nm hd v k)=Tt i j nm hd u k:=λk=>by
    rw[<-rW hu λv=>Tt i j nm hd v k];exact fG λv _=>Ji _ _
   rw[oI I _ _ _ _ (Z8 (C.alt w hw)),oI I _ _ _ _ (C.blt w hw),z,z,show ∀ k,ix k (0:F2)=0 from λ_=>ite_self _,show ∀ k,ix k (0:F2)=0 from λ_=>ite_self _] at e;have:=sv (Tt i j nm hd u (aO i j hd w))
   grind
 ·rintro⟨hE,hC,hV⟩ l0 d0 x;refine⟨?_,λw hw=>?_⟩
  ·rw[oI I _ _ _ _ (jj _),show ix (2*n) d0=0 from aI (Nat.mul_mod_right 2 n),oU λu hu=>by rw[hC u (je.mp hu)]; exact ZM _]
   grind
  ·rw[oI I _ _ _ _ (Z8 (C.alt w hw)),oI I _ _ _ _ (C.blt w hw),(par w).mp (hE w hw) d0];have e1:(sm (j7 n) λu=>x u*Tt i j nm hd u (aO i j hd w))=sm (j7 n) λu=>x u*Tt i j nm hd u (bO i j hd w+1):=fG λu hu=>by
    have:=hV u w (je.mp hu) hw;have:=sv (Tt i j nm hd u (aO i j hd w))
    grind
   rw[e1]
def BT(I:Ij n i j nm){u v:Nat}(hu:u < n)(hv:v < n):io i j u (iV (aO i j hd) (bO i j hd) nm (aO i j hd v))=dQ i j u (bO i j hd v)+fq hd u*eI u v:=by
 have C:=I.cd hd;unfold iV;rw[C.na v hv,aH (C.ne v hv)]
 by_cases q:u=v
 ·subst q;rw[vo];unfold fq;obtain ⟨_,b,h⟩ |⟨_,b,h⟩:=l6 i j hd u<;>rw[b,h]
  ·rw[Cb,yC]; rfl
  ·rw[Ca (I.lt u hu),yB]; rfl
 ·rw[qL q,E9 (I.ne (C.blt v hv) hu (by rw[C.nb v hv]; exact q)).1]; grind
def BS(I:Ij n i j nm){u v:Nat}(hu:u < n)(hv:v < n):io i j u (iV (aO i j hd) (bO i j hd) nm (bO i j hd v))=dQ i j u (aO i j hd v)+fq hd u*eI u v:=by
 have C:=I.cd hd;unfold iV;rw[C.nb v hv,aI rfl]
 by_cases q:u=v
 ·subst q;rw[vo];unfold fq;obtain ⟨a,_,h⟩ |⟨a,_,h⟩:=l6 i j hd u<;>rw[a,h]
  ·rw[Bz,yB]; rfl
  ·rw[C2 (I.lt u hu),yC]; rfl
 ·rw[qL q,E8 (I.ne (C.alt v hv) hu (by rw[C.na v hv]; exact q)).2]; grind
def lX(n:Nat)(i j:ai)(u:Nat):F2:=sm (j7 n) λv=>cr i j u v
def nG(n:Nat)(i j:ai)(u w:Nat):F2:=sm (j7 n) λv=>cr i j u v*cr i j w v
def ue(i j:ai)(hd:Nat->Bool)(u v:Nat):cr i j u v=dQ i j u (aO i j hd v)+dQ i j u (bO i j hd v):=by
 unfold cr;obtain ⟨a,b,_⟩ |⟨a,b,_⟩:=l6 i j hd v<;>rw[a,b]
 exact EF _ _
def D7(I:Ij n i j nm)(h:Nat->F2):sm (j7 (2*n)) h=sm (j7 n) λv=>h (i v)+h (j v):=by
 rw[tV (I.cd λ_=>aC)]; rfl
def K9(I:Ij n i j nm){u:Nat}(hu:u < n):Tt i j nm hd u (2*n)=lX n i j u:=by
 unfold Tt lX;rw[tV (I.cd hd)];refine fG λv hv=>?_;have hv:=je.mp hv;rw[BT I hu hv,BS I hu hv,ue i j hd];have:=sv (fq hd u*eI u v)
 grind
def E4(h:Nat->F2):∀(N k:Nat),k<=N->sm (j7 k) h=sm (j7 N) λp=>h p*if p < k then 1 else 0:=λN=>by
 induction N with
 |zero=>intro k hk; rw[Nat.le_zero.mp hk]; rfl
 |succ N ih=>
  intro k hk
  by_cases q:k=N+1
  ·subst q;refine fG λp hp=>?_;rw[aI (je.mp hp)]; exact(Fin.mul_one _).symm
  ·rw[wX,ih k (by lia),aH (by lia)]; grind
def OP{p x y:Nat}(h:x < y):(if p < y+1 then (1:F2) else 0)+(if p < x then 1 else 0)=(if x < p/\p < y then 1 else 0)+(eI p x+eI p y):=by
 unfold eI;obtain q |q |q:=gq p x
 ·rw[aI (by lia),aI q,aH (by lia),aH (by lia),aH (by lia)]; rfl
 ·rw[aI (by lia),aH (by lia),aH (by lia),aI q,aH (by lia)]; rfl
 ·obtain q' |q' |q':=gq p y
  ·rw[aI (by lia),aH (by lia),aI ⟨q,q'⟩,aH (by lia),aH (by lia)]; rfl
  ·rw[aI (by lia),aH (by lia),aH (by lia),aH (by lia),aI q']; rfl
  ·rw[aH (by lia),aH (by lia),aH (by lia),aH (by lia),aH (by lia)]; rfl
def OO{p x y:Nat}(h:x < y):(if p < x+1 then (1:F2) else 0)+(if p < y then 1 else 0)=if x < p/\p < y then 1 else 0:=by
 by_cases q:p < x+1
 ·rw[aI q,aI (by lia),aH (by lia)]; rfl
 ·by_cases q':p < y
  ·rw[aH q,aI q',aI (by lia)]; rfl
  ·rw[aH q,aH q',aH (by lia)]; rfl
def Lz(I:Ij n i j nm){u w:Nat}(hu:u < n)(hw:w < n):Tt i j nm hd u (bO i j hd w+1)+Tt i j nm hd u (aO i j hd w)=(sm (j7 (2*n)) λp=>dQ i j w p*io i j u (iV (aO i j hd) (bO i j hd) nm p))+(1+fq hd w)*cr i j u w:=by
 have C:=I.cd hd;have e0:cr i j u w=io i j u (iV (aO i j hd) (bO i j hd) nm (aO i j hd w))+io i j u (iV (aO i j hd) (bO i j hd) nm (bO i j hd w)):=by
  rw[BT I hu hw,BS I hu hw,ue i j hd];have:=sv (fq hd u*eI u w)
  grind
 rw[e0];unfold Tt;obtain⟨h,hh⟩:∃ h:Nat->F2,∀ p,io i j u (iV (aO i j hd) (bO i j hd) nm p)=h p:=⟨_,λ_=>rfl⟩;simp only[hh];have ea:=rW (n:=2*n) (C.alt w hw) h;have eb:=rW (n:=2*n) (C.blt w hw) h;rw[E4 h (2*n) _ (C.blt w hw),E4 h (2*n) _ (Z8 (C.alt w hw)),<-oP,<-ea,<-eb,<-oP,<-ON,<-oP];refine fG λp hp=>?_;have hk:(if p < bO i j hd w+1 then (1:F2) else 0)+(if p < aO i j hd w then 1 else 0)=dQ i j w p+(1+fq hd w)*(eI p (aO i j hd w)+eI p (bO i j hd w)):=by
  unfold fq dQ;obtain ⟨a,b,z⟩ |⟨a,b,z⟩:=l6 i j hd w<;>rw[a,b,z]
  ·rw[OP (I.lt w hw)]; show _=_+(1+0)*_; grind
  ·rw[OO (I.lt w hw)]; show _=_+(1+1)*_; grind
 generalize h p=y;generalize (if p < bO i j hd w+1 then (1:F2) else 0)=c1 at hk
 generalize (if p < aO i j hd w then (1:F2) else 0)=c2 at hk
 generalize dQ i j w p=c3 at *;generalize fq hd w=c4 at *;generalize eI p (aO i j hd w)=c5 at *;generalize eI p (bO i j hd w)=c6 at *
 clear hh ea eb e0 hp C
 revert y c1 c2 c3 c4 c5 c6
 decide
def Kk(n:Nat)(i j:ai)(u w:Nat):F2:=sm (j7 (2*n)) λp=>dQ i j u p*dQ i j w p
def CV(I:Ij n i j nm){u w:Nat}(hu:u < n)(hw:w < n):Tt i j nm hd u (bO i j hd w+1)+Tt i j nm hd u (aO i j hd w)=nG n i j u w+Kk n i j u w+fq hd u*cr i j w u+(1+fq hd w)*cr i j u w:=by
 have C:=I.cd hd;rw[Lz I hu hw];have e:(sm (j7 (2*n)) λp=>dQ i j w p*io i j u (iV (aO i j hd) (bO i j hd) nm p))=nG n i j u w+Kk n i j u w+fq hd u*cr i j w u:=by
  unfold nG Kk;rw[tV C,tV C (λp=>dQ i j u p*dQ i j w p)];rw[<-rW hu λv=>fq hd u*cr i j w v,<-oP,<-oP];refine fG λv hv=>?_;have hv:=je.mp hv;rw[BT I hu hv,BS I hu hv,RU u v,ue i j hd u v,ue i j hd w v];generalize dQ i j u (aO i j hd v)=p1;generalize dQ i j u (bO i j hd v)=p2;generalize dQ i j w (aO i j hd v)=p3;generalize dQ i j w (bO i j hd v)=p4;generalize fq hd u=p5;generalize eI v u=p6
  revert p1 p2 p3 p4 p5 p6
  decide
 rw[e]
def n2(k:Nat):F2:=Fin.ofNat 2 k
def rM{j k:Nat}(h:j%2=k%2):n2 j=n2 k:=JG h
def yQ(j k:Nat):n2 (j+k)=n2 j+n2 k:=JG (Nat.add_mod j k 2)
def n2_zero{k:Nat}:n2 k=0↔k%2=0:=⟨λh=>congrArg Fin.val h,λh=>rM (k:=0) h⟩
def yL(x y:Nat):∀ N,y<=N->sm (j7 N) (λp=>if x < p/\p < y then (1:F2) else 0)=n2 (y - (x+1)):=λN h=>by
 have key:∀ N,sm (j7 N) (λp=>if x < p/\p < y then (1:F2) else 0)=n2 (min N y - (x+1)):=λN=>by
  induction N with
  |zero=>rw[NY,nW,Nat.zero_min,Nat.zero_sub]; rfl
  |succ N ih=>
   rw[wX,ih]
   by_cases q:x < N/\N < y
   ·rw[aI q,show min (N+1) y - (x+1)=min N y - (x+1)+1 by lia,yQ]; rfl
   ·rw[aH q,show min (N+1) y - (x+1)=min N y - (x+1) by lia]; exact Jh _
 rw[key,Js h]
def PK(I:Ij n i j nm){u:Nat}(hu:u < n):lX n i j u=n2 (j u - (i u+1)):=by
 have:lX n i j u=sm (j7 (2*n)) λp=>dQ i j u p:=by
  rw[D7 I]; rfl
 rw[this];exact yL _ _ _ (Z8 (I.jlt u hu))
def ord(I:Ij n i j nm){u w:Nat}(hu:u < n)(hw:w < n)(h:i u < i w)(hE:∀ w,w < n->(i w+j w)%2=1):(cr i j u w=0/\cr i j w u=0/\Kk n i j u w=0)∨(cr i j u w=1/\cr i j w u=1/\Kk n i j u w=n2 (i u)+n2 (i w)):=by
 have hne:w≠u:=λe=>by rw[e] at h; exact Q9 _ h
 have h1:=I.lt u hu;have h2:=I.lt w hw;have h3:=I.jlt u hu;have h4:=I.jlt w hw;have d1:=(I.ne (u:=w) h3 hw (by rw[I.nj u hu]; exact hne))
 have e1:=hE u hu;have e2:=hE w hw;unfold cr Kk dQ;generalize 2*n=N at h3 h4;generalize i u=x at *;generalize j u=y at *;generalize i w=k at *;generalize j w=l at *
 clear hE hne hu hw I
 rw[aH (c:=k < x/\x < l) (by lia)]
 obtain q |q:=NT y k
 ·refine .inl ⟨?_,?_,oU λp _=>?_⟩
  ·rw[aH (by lia),aH (by lia)]; rfl
  ·rw[aH (by lia)]; rfl
  ·by_cases z:x < p/\p < y
   ·rw[aH (c:=k < p/\p < l) (by lia)]; exact ZM _
   ·rw[aH z]; exact Yb _
 ·obtain q' |q':=NT y l
  ·refine .inr ⟨?_,?_,?_⟩
   ·rw[aI (by lia),aH (by lia)]; rfl
   ·rw[aI (by lia)]; rfl
   ·rw[fG (h':=λp=>if k < p/\p < y then (1:F2) else 0) λp _=>?_,yL k y N (by lia),<-yQ]
    ·exact rM (by lia)
    ·by_cases z:k < p/\p < y
     ·rw[aI z,aI (by lia),aI (by lia)]; rfl
     ·rw[aH z]
      by_cases z':x < p/\p < y
      ·rw[aH (c:=k < p/\p < l) (by lia)]; exact ZM _
      ·rw[aH z']; exact Yb _
  ·refine .inl ⟨?_,?_,?_⟩
   ·rw[aI (by lia),aI (by lia)]; rfl
   ·rw[aH (by lia)]; rfl
   ·rw[fG (h':=λp=>if k < p/\p < l then (1:F2) else 0) λp _=>?_,yL k l N (by lia)]
    ·exact n2_zero.mpr (by lia)
    ·by_cases z:k < p/\p < l
     ·rw[aI z,aI (by lia)]; rfl
     ·rw[aH z]; exact ZM _
def HX(I:Ij n i j nm){u w:Nat}(hu:u < n)(hw:w < n)(h:u≠w)(hE:∀ w,w < n->(i w+j w)%2=1):cr i j w u=cr i j u w/\Kk n i j u w=cr i j u w*(n2 (i u)+n2 (i w)):=by
 have hK:Kk n i j w u=Kk n i j u w:=fG λp _=>Ji _ _;obtain q |q |q:=gq (i u) (i w)
 ·obtain ⟨a,b,c⟩ |⟨a,b,c⟩:=ord I hu hw q hE<;>rw[a,b,c]
  ·exact⟨rfl,(Yb _).symm⟩
  ·exact⟨rfl,(Fin.one_mul _).symm⟩
 ·exact absurd (by rw[<-I.ni u hu,q,I.ni w hw]) h
 ·obtain ⟨a,b,c⟩ |⟨a,b,c⟩:=ord I hw hu q hE<;>rw[<-hK,a,b,c]
  ·exact⟨rfl,(Yb _).symm⟩
  ·exact⟨rfl,by rw[Fin.one_mul]; exact EF _ _⟩
def nh(i:ai)(hd:Nat->Bool)(u:Nat):F2:=n2 (i u)+fq hd u
def T2(I:Ij n i j nm):(∀(l0 d0:F2) (x:Nat->F2),nA n (aO i j hd) (bO i j hd) nm l0 d0 x)↔(∀ u,u < n->lX n i j u=0)/\∀ u w,u < n->w < n->u≠w->nG n i j u w+cr i j u w*(nh i hd u+nh i hd w+1)=0:=by
 rw[EC I];have hEd:(∀ w,w < n->(i w+j w)%2=1)↔∀ u,u < n->lX n i j u=0:=by
  refine forall_congr' λu=>forall_congr' λhu=>?_;rw[PK I hu,n2_zero];have:=I.lt u hu;lia
 have key:∀ u w,u < n->w < n->u≠w->(∀ w,w < n->(i w+j w)%2=1)->Tt i j nm hd u (bO i j hd w+1)+Tt i j nm hd u (aO i j hd w)=nG n i j u w+cr i j u w*(nh i hd u+nh i hd w+1):=λu w hu hw h hE=>by
  obtain⟨o1,o2⟩:=HX I hu hw h hE;rw[CV I hu hw,o2,o1];unfold nh
  grind
 constructor
 ·rintro⟨hE,_,hV⟩;refine⟨hEd.mp hE,λu w hu hw h=>?_⟩;rw[<-key u w hu hw h hE];exact hV u w hu hw
 ·rintro⟨hd',hs⟩;have hE:=hEd.mpr hd';refine⟨hE,λu hu=>by rw[K9 I hu]; exact hd' u hu,λu w hu hw=>?_⟩
  by_cases h:u=w
  ·subst h
   rw[CV I hu hw,PD,show nG n i j u u=lX n i j u from fG λv _=>CS _,hd' u hu,show Kk n i j u u=lX n i j u by
    have e1:Kk n i j u u=sm (j7 (2*n)) λp=>dQ i j u p:=fG λv _=>CS _
    rw[e1,D7 I]; rfl,hd' u hu,ZM,ZM]
   rfl
  ·rw[key u w hu hw h hE]; exact hs u w hu hw h
end
end Dw
set_option maxHeartbeats 1000000
set_option maxHeartbeats 4000000
namespace L3
open PySem PySem.Spec PyProof.Rows L2
section
variable [TheK]{X:Cx}{M:ak}
def qV(i:Nat){x:Str}{pos:Pos}(hN:X.N[i]?=aA x:=by rfl)(hv:uI X.env.scope x:=by first |exact jE rfl |exact ZL (jE rfl) |exact ZL (ZL rfl))(hd:ae x:=by decide)(hcd:(x == ("__classdict__":Str))=aD:=by decide)(hi:M.contains i=aD:=by rfl):QE X (.Name x pos) (cE .e M (dV i)):=Xp hi (aw i hN hv hd hcd)
def aR{i:Int}{j:Nat}{pos:Pos}:QE X (.Constant (.int i) j pos) (cE .b M (dC (.int i))):=aP aX
end
end L3
namespace Dw
open PySem PySem.Spec PyProof.Rows L2 L3
def br(i:Nat):QX:=Y6.main.body.getD i (.Pass ⟨0,0,0,0⟩)
variable {v:Ev}
abbrev zt:QX:=br 40
def Fv:FnScope ["_law_cell_here","_law_many","_law_letters","_law_size","_law_rest","_law_stem","_law_k","_law_spot","_law_made","_law_letter","_law_name"] ["_law_cell_here","_law_many"] (aY zt):=bt
def w8:DS:=(aN (aZ 2 (dC (.str "abcdefghijklmnopqrstuvwxyz")))
  (aN (aZ 3 (d2 bV (dC (.int 1)) (d2 bv (dV 0) (dC (.int 8)))))
  (aN (aZ 4 (d2 bv (d2 dM (dV 0) (dC (.int 8))) (d2 r8 (dC (.int 10)) (dC (.int 18)))))
  (aN (aZ 5 (dC (.str "")))
  (aN (cM (i7 (aF (dV 3) aJ)) (bK 6)
  (aN (aZ 5 (d2 bV (dV 5) (d2 aM (dV 2) (d2 bv (dV 4) (dC (.int 26))))))
  (aZ 4 (d2 bV (d2 dM (dV 4) (dC (.int 26))) (d2 dN (dC (.int 5)) (dV 6))))))
  (aN (aZ 7 (d2 bv (d2 dM (dV 0) (dC (.int 3))) (dV 3)))
  (aN (aZ 8 (cf aJ))
  (aN (bj (dB (d2 cK (d2 bv (d2 dM (dV 0) (dC (.int 5))) (dC (.int 3))) (dC (.int 1)))) (aZ 8 (dS iw (du [8] [aB,aA 5] (r6 (aF (dC (.int 1)) (aF (d2 bV (dV 3) (dC (.int 1))) aJ))) (bK 0) dR (dS cm (dV 1) i4 (f9 (dV 0)))) i4 (f9 (dV 1)))) bq)
  (aN (bj (sK (dB (d2 cK (d2 bv (d2 dM (dV 0) (dC (.int 5))) (dC (.int 3))) (dC (.int 2)))) (dB (d2 iF (dV 1) (dC (.int 24))))) (aZ 8 (du [8] [aB,aA 2,aA 5,aA 4] (i7 (aF (dV 1) aJ)) (bK 0) dR (d2 bV (d2 bV (dS cm (dV 2) i4 (f9 (dC (.int 6)))) (d2 aM (dV 1) (d2 dM (dV 0) (dC (.int 5))))) (d2 aM (dV 1) (d2 bv (d2 bV (dV 0) (dV 3)) (dC (.int 26))))))) bq)
  (aN (cM (bc (dV 2)) (bK 9)
  (aN (aZ 10 (d2 bV (d2 bV (dS cm (dV 5) i4 (f9 (dV 7))) (dV 9)) (dS cm (dV 5) (f9 (d2 bV (dV 7) (dC (.int 1)))) i4)))
  (bj (o5 (dB (d2 sI (d1 bn (dV 8)) (dV 1))) (dB (d2 eV (dV 10) (dV 8)))) (iX (eR i9 8 (aF (dV 10) aJ))) bq)))
  (bC [] (dV 8))))))))))))
def A6:List T->Option T:=bZ 11 w8
abbrev zm[TheK](v:Ev)(k:Nat):Prop:=Cl v k "_law_names" ["_law_cell_here","_law_many"] (bW .e 2 A6)
def UG[tk:TheK](h:Here tk.K v.mg "_law_names" zt ["_law_cell_here","_law_many"])(m_range:v.mg "range"=aB)(m_len:v.mg "len"=aB):zm v 1:=by
 refine(h.vP 0 [] w8 Fv λf cdv A outer s H E hr=>?_ :);have sc:=Fv;have hu:=d9 hr;have hu8:=eg hr
 exact(aT (M':=[]) (bN (M':=[]) (bA (i:=2) sc.nd rfl (ZL rfl) li))
  (aT (M':=[]) (bN (M':=[]) (bA (i:=3) sc.nd rfl (jE rfl) (cX aX (aP (cq (qV 0) aR)))))
  (aT (M':=[]) (bN (M':=[]) (bA (i:=4) sc.nd rfl (ZL rfl) (cq (fQ (qV 0) aR) (aP (yb aX aR)))))
  (aT (M':=[]) (bN (M':=[]) (bA (i:=5) sc.nd rfl (ZL rfl) li))
  (aT (M':=[]) (eG (eD jG rfl (oZ rfl m_range (aG (qV 3) aQ)) (fY (bD (i:=6) sc.nd rfl (jE rfl)))
  (aT (M':=[]) (bN (M':=[]) (bA (i:=5) sc.nd rfl (ZL rfl) (cX (qV 5) (aP (bQ rfl hu (qV 2) (aP (cq (qV 4) aR)) (λ_ _=>rfl))))))
  (aU (bN (M':=[]) (bA (i:=4) sc.nd rfl (ZL rfl) (cX (fQ (qV 4) aR) (aP (ez aX (aP (qV 6)))))))))))
  (aT (M':=[]) (bN (M':=[]) (bA (i:=7) sc.nd rfl (jE rfl) (cq (fQ (qV 0) aR) (aP (qV 3)))))
  (aT (M':=[8]) (eQ (M':=[8]) (bA (i:=8) sc.nd rfl (jE rfl) (dP aQ)))
  (aT (M':=[8]) (cW (M':=[8]) (iO hu8 (cq (fQ (qV 0) aR) aR) aR) (aU (eQ (M':=[8]) (bA (i:=8) sc.nd rfl (jE rfl) (KQ rfl (cY (lJ (Mi:=[]) rfl (iD (i:=0)) iP (lM (N:=["_law_k","_law_stem"]) (caps:=[aB,aA 5]) rfl (Fa rfl m_range (aG aX (aG (cX (qV 3) aR) aQ))) (λ_ _ _ _ _=>(bD (i:=0) (show (["_law_k","_law_stem"]:aj).Nodup by decide +kernel) rfl (jE rfl))) fR (λ_ _ _ _ _=>iT) (λ_ _ _ _ _=>(lh rfl (qV 1) lP (ig (qV 0))))))) lP (ig (qV 1)))))) cg)
  (aT (M':=[8]) (cW (M':=[8]) (QW.pt (yF (iO hu8 (cq (fQ (qV 0) aR) aR) aR) (ye (rD (qV 1) aR)))) (aU (eQ (M':=[8]) (qK (Mi:=[]) rfl (iD (i:=0)) iP (qh (i:=8) sc.nd rfl rfl (N:=["_law_k","_law_letters","_law_stem","_law_rest"]) (caps:=[aB,aA 2,aA 5,aA 4]) rfl (oZ rfl m_range (aG (qV 1) aQ)) (λ_ _ _ _ _=>(bD (i:=0) (show (["_law_k","_law_letters","_law_stem","_law_rest"]:aj).Nodup by decide +kernel) rfl (jE rfl))) fR (λ_ _ _ _ _=>iT) (λ_ _ _ _ _=>(cX (cX (lh rfl (qV 2) lP (ig aX)) (aP (bQ rfl hu (qV 1) (aP (fQ (qV 0) aR)) (λ_ _=>rfl)))) (aP (bQ rfl hu (qV 1) (aP (cq (cX (qV 0) (aP (qV 3))) aR)) (λ_ _=>rfl))))))))) cg)
  (aT (M':=[8]) (eG (eD jG rfl (cu rfl (qV 2)) (fY (bD (i:=9) sc.nd rfl (jE rfl)))
  (aT (M':=[8]) (bN (M':=[8]) (bA (i:=10) sc.nd rfl (jE rfl) (cX (cX (lh rfl (qV 5) lP (ig (qV 7))) (aP (qV 9))) (aP (lh rfl (qV 5) (ig (cX (qV 7) aR)) lP)))))
  (aU (cW (M':=[8]) (QW.pt (vB (Cg (eU rfl rfl m_len (fW rfl (aw 8))) (aP (qV 1))) (zE (qe hu (qV 10) (fW rfl (aw 8)) (by with_unfolding_all rfl))))) (aU (l9 (.inl rfl) (qg rfl (lC jM Qt Qu oY (aw 8) (aG (qV 10) aQ))))) cg)))))
  (aU (rP (M':=[]) (bM (qV 8))))))))))))))
abbrev zW:QX:=br 39
def Fh:FnScope ["_law_bag_here","_law_many","_law_found"] ["_law_bag_here","_law_many"] (aY zW):=bt
def vm:DS:=(aN (bj (dB (d2 iF (cC aM 0 (dC (.int 0))) (dC (.int 0)))) (aN (aZ 2 (d2 bv (cC aM 0 (dC (.int 0))) (dV 1)))
  (aN (oB 0 (dC (.int 0)) (d2 dM (cC aM 0 (dC (.int 0))) (dV 1)))
  (bC [0] (dV 2)))) bq)
  (aN (oB 0 (dC (.int 1)) (d2 bv (d2 bV (d2 dN (cC aM 0 (dC (.int 1))) (dC (.int 48271))) (dC (.int 4099))) (dC (.int 2147483647))))
  (bC [0] (d2 bv (d2 dM (d2 bv (d2 dN (cC aM 0 (dC (.int 1))) (d2 bV (d2 dM (cC aM 0 (dC (.int 1))) (dC (.int 65536))) (dC (.int 7)))) (dC (.int 2147483629))) (dC (.int 32))) (dV 1)))))
def nc:List T->Option (T × T):=iG 3 vm
abbrev tR[TheK](v:Ev)(k:Nat):Prop:=Cl v k "_law_draw" ["_law_bag_here","_law_many"] (fj .e 2 nc)
def Su[tk:TheK](h:Here tk.K v.mg "_law_draw" zW ["_law_bag_here","_law_many"]):tR v 1:=by
 refine(h.vI 0 [] vm Fh λf cdv A outer s H E hr=>?_ :);have sc:=Fh;have hu:=d9 hr
 exact(aT (M':=[0]) (cW (M':=[0]) (rD (iS rfl rfl hu (aw 0) aR (λ_ _=>rfl)) aR) (aT (M':=[0]) (bN (M':=[0]) (bA (i:=2) sc.nd rfl (jE rfl) (cq (iS rfl rfl hu (aw 0) aR (λ_ _=>rfl)) (aP (qV 1)))))
  (aT (M':=[0]) (vc rfl (qX (fQ (iS rfl rfl hu (aw 0) aR (λ_ _=>rfl)) (aP (qV 1))) (vb (aw 0) aX vd)))
  (aU (bM (qV 2))))) cg)
  (aT (M':=[0]) (vc rfl (qX (cq (cX (ez (iS rfl rfl hu (aw 0) aR (λ_ _=>rfl)) aR) aR) aR) (vb (aw 0) aX vd)))
  (aU (bM (cq (fQ (cq (ez (iS rfl rfl hu (aw 0) aR (λ_ _=>rfl)) (aP (cX (fQ (iS rfl rfl hu (aw 0) aR (λ_ _=>rfl)) aR) aR))) aR) aR) (aP (qV 1)))))))
abbrev Av:QX:=br 42
def Gb:FnScope ["_law_bag_here","_law_names_here","_law_forms","_law_made","_law_left","_law_form_of","_law_at"] ["_law_bag_here","_law_names_here"] (aY Av):=bt
def wy:DS:=(aN (aZ 2 (cf (aF (cf (aF (dC (.int 0)) (aF (dC (.int 0)) aJ))) (aF (cf (aF (dC (.int 0)) (aF (dC (.int 1)) (aF (dC (.int 2)) (aF (dC (.int 0)) (aF (dC (.int 1)) (aF (dC (.int 2)) aJ))))))) (aF (cf (aF (dC (.int 0)) (aF (dC (.int 1)) (aF (dC (.int 2)) (aF (dC (.int 0)) (aF (dC (.int 3)) (aF (dC (.int 2)) (aF (dC (.int 1)) (aF (dC (.int 3)) aJ))))))))) (aF (cf (aF (dC (.int 0)) (aF (dC (.int 1)) (aF (dC (.int 2)) (aF (dC (.int 3)) (aF (dC (.int 4)) (aF (dC (.int 0)) (aF (dC (.int 1)) (aF (dC (.int 2)) (aF (dC (.int 3)) (aF (dC (.int 4)) aJ))))))))))) (aF (cf (aF (dC (.int 0)) (aF (dC (.int 1)) (aF (dC (.int 1)) (aF (dC (.int 0)) aJ))))) aJ)))))))
  (aN (aZ 2 (d2 bV (dV 2) (cf (aF (cf (aF (dC (.int 0)) (aF (dC (.int 1)) (aF (dC (.int 2)) (aF (dC (.int 3)) (aF (dC (.int 4)) (aF (dC (.int 2)) (aF (dC (.int 1)) (aF (dC (.int 0)) (aF (dC (.int 3)) (aF (dC (.int 4)) aJ))))))))))) (aF (cf (aF (dC (.int 0)) (aF (dC (.int 1)) (aF (dC (.int 2)) (aF (dC (.int 3)) (aF (dC (.int 1)) (aF (dC (.int 0)) (aF (dC (.int 3)) (aF (dC (.int 2)) aJ))))))))) aJ)))))
  (aN (aZ 3 (cf aJ))
  (aN (aZ 4 (d1 nP (dV 1)))
  (aN (fE (dB (d2 iF (d1 bn (dV 4)) (dC (.int 0))))
  (aN (aZ 5 (d2 aM (dV 2) (nO nc 0 (aF (dC (.int 7)) aJ))))
  (aN (bj (dB (d2 BY (d1 oE (dV 5)) (d1 bn (dV 4)))) (aZ 5 (d2 aM (dV 2) (dC (.int 0)))) bq)
  (aN (aZ 6 (nO nc 0 (aF (d2 bV (d1 bn (dV 3)) (dC (.int 1))) aJ)))
  (aN (aZ 3 (d2 bV (d2 bV (dS cm (dV 3) i4 (f9 (dV 6))) (du [0] [aB,aA 4] (bc (dV 5)) (bK 0) dR (d2 aM (dV 1) (dV 0)))) (dS cm (dV 3) (f9 (dV 6)) i4)))
  (aZ 4 (dS cm (dV 4) (f9 (d2 bV (d1 oE (dV 5)) (dC (.int 1)))) i4)))))) 100)
  (bC [0] (dV 3)))))))
def BC:List T->Option (T × T):=iG 7 wy
abbrev Ak[TheK](v:Ev)(k:Nat):Prop:=Cl v k "_law_built_word" ["_law_bag_here","_law_names_here"] (fj .e 2 BC)
def Vy[tk:TheK](h:Here tk.K v.mg "_law_built_word" Av ["_law_bag_here","_law_names_here"])(pd:tR v 1)(m_list:v.mg "list"=aB)(m_len:v.mg "len"=aB)(m_max:v.mg "max"=aB):Ak v 2:=by
 refine(h.vI 1 [] wy Gb λf cdv A outer s H E hr=>?_ :);have sc:=Gb;have hu:=d9 hr
 exact(aT (M':=[0]) (bN (M':=[0]) (bA (i:=2) sc.nd rfl (jE rfl) (cY (dP (aG (cY (dP (aG aX (aG aX aQ)))) (aG (cY (dP (aG aX (aG aX (aG aX (aG aX (aG aX (aG aX aQ)))))))) (aG (cY (dP (aG aX (aG aX (aG aX (aG aX (aG aX (aG aX (aG aX (aG aX aQ)))))))))) (aG (cY (dP (aG aX (aG aX (aG aX (aG aX (aG aX (aG aX (aG aX (aG aX (aG aX (aG aX aQ)))))))))))) (aG (cY (dP (aG aX (aG aX (aG aX (aG aX aQ)))))) aQ)))))))))
  (aT (M':=[0]) (bN (M':=[0]) (bA (i:=2) sc.nd rfl (jE rfl) (cX (qV 2) (uB (dP (aG (cY (dP (aG aX (aG aX (aG aX (aG aX (aG aX (aG aX (aG aX (aG aX (aG aX (aG aX aQ)))))))))))) (aG (cY (dP (aG aX (aG aX (aG aX (aG aX (aG aX (aG aX (aG aX (aG aX aQ)))))))))) aQ)))))))
  (aT (M':=[0]) (bN (M':=[0]) (bA (i:=3) sc.nd rfl (jE rfl) (cY (dP aQ))))
  (aT (M':=[0]) (bN (M':=[0]) (bA (i:=4) sc.nd rfl (ZL rfl) (cY (ze rfl rfl rfl m_list (aP (qV 1))))))
  (aT (M':=[0]) (qb 100 jG (rD (eU rfl rfl m_len (aP (qV 4))) aR)
  (aT (M':=[0]) (bN (M':=[0]) (bA (i:=5) sc.nd rfl (jE rfl) (bQ rfl hu (qV 2) (aP (xK rfl pd hr rfl (aw 0) (aG aX aQ) dJ)) (λ_ _=>rfl))))
  (aT (M':=[0]) (cW (M':=[0]) (KW (zA rfl rfl rfl m_max (aP (qV 5))) (aP (eU rfl rfl m_len (aP (qV 4))))) (aU (bN (M':=[0]) (bA (i:=5) sc.nd rfl (jE rfl) (bQ rfl hu (qV 2) aR (λ_ _=>rfl))))) cg)
  (aT (M':=[0]) (bN (M':=[0]) (bA (i:=6) sc.nd rfl (jE rfl) (xK rfl pd hr rfl (aw 0) (aG (cX (eU rfl rfl m_len (aP (qV 3))) aR) aQ) dJ)))
  (aT (M':=[0]) (bN (M':=[0]) (bA (i:=3) sc.nd rfl (jE rfl) (cX (cX (lh rfl (qV 3) lP (ig (qV 6))) (uB (lJ (Mi:=[]) rfl (iD (i:=0)) iP (lM (N:=["_law_k","_law_left"]) (caps:=[aB,aA 4]) rfl (cu rfl (qV 5)) (λ_ _ _ _ _=>(bD (i:=0) (show (["_law_k","_law_left"]:aj).Nodup by decide +kernel) rfl (jE rfl))) fR (λ_ _ _ _ _=>iT) (λ_ _ _ _ _=>(bQ rfl hu (qV 1) (aP (qV 0)) (λ_ _=>rfl))))))) (aP (lh rfl (qV 3) (ig (qV 6)) lP)))))
  (aU (bN (M':=[0]) (bA (i:=4) sc.nd rfl (ZL rfl) (lh rfl (qV 4) (ig (cX (zA rfl rfl rfl m_max (aP (qV 5))) aR)) lP)))))))))
  (aU (bM (qV 3))))))))
abbrev Ab:QX:=br 41
def GU:FnScope ["_law_bag_here","_law_names_here","_law_free","_law_made","_law_name","_law_at"] ["_law_bag_here","_law_names_here"] (aY Ab):=bt
def wY:DS:=(aN (aZ 2 (BZ (aF (d2 dN (dC (.int 2)) (d1 bn (dV 1))) aJ)))
  (aN (aZ 3 (du [0] [aB] (bc (dV 2)) (bK 0) dR (dC (.str ""))))
  (aN (cM (bc (dV 1)) (bK 4)
  (aN (oB 3 (d2 aM (dV 2) (dC (.int 0))) (dV 4))
  (aN (aZ 5 (d2 aM (dV 2) (d2 bV (dC (.int 1)) (nO nc 0 (aF (d2 ij (d1 bn (dV 2)) (dC (.int 1))) aJ)))))
  (aN (oB 3 (dV 5) (dV 4))
  (aZ 2 (du [0,3] [aB,aA 5] (bc (dS cm (dV 2) (f9 (dC (.int 1))) i4)) (bK 0) (dB (d2 dF (dV 0) (dV 1))) (dV 0)))))))
  (bC [0] (dV 3)))))
def As:List T->Option (T × T):=iG 6 wY
abbrev AJ[TheK](v:Ev)(k:Nat):Prop:=Cl v k "_law_any_word" ["_law_bag_here","_law_names_here"] (fj .e 2 As)
def Vp[tk:TheK](h:Here tk.K v.mg "_law_any_word" Ab ["_law_bag_here","_law_names_here"])(pd:tR v 1)(m_list:v.mg "list"=aB)(m_range:v.mg "range"=aB)(m_len:v.mg "len"=aB):AJ v 2:=by
 refine(h.vI 1 [] wY GU λf cdv A outer s H E hr=>?_ :);have sc:=GU;have hu:=d9 hr;have hu8:=eg hr
 exact(aT (M':=[0]) (bN (M':=[0]) (bA (i:=2) sc.nd rfl (jE rfl) (cY (Vb rfl rfl m_list rfl m_range (aG (ez aX (aP (eU rfl rfl m_len (aP (qV 1))))) aQ)))))
  (aT (M':=[0,3]) (eQ (M':=[0,3]) (qK (Mi:=[]) rfl (iD (i:=0)) iP (qh (i:=3) sc.nd rfl rfl (N:=["_law_at"]) (caps:=[aB]) rfl (cu rfl (qV 2)) (λ_ _ _ _ _=>(bD (i:=0) (show (["_law_at"]:aj).Nodup by decide +kernel) rfl (jE rfl))) fR (λ_ _ _ _ _=>iT) (λ_ _ _ _ _=>li))))
  (aT (M':=[0,3]) (eG (eD jG rfl (cu rfl (qV 1)) (fY (bD (i:=4) sc.nd rfl (jE rfl)))
  (aT (M':=[0,3]) (vc rfl (qX (qV 4) (vb (aw 3) (bQ rfl hu (qV 2) aR (λ_ _=>rfl)) vd)))
  (aT (M':=[0,3]) (bN (M':=[0,3]) (bA (i:=5) sc.nd rfl (ZL rfl) (bQ rfl hu (qV 2) (aP (cX aX (aP (xK rfl pd hr rfl (aw 0) (aG (lj (eU rfl rfl m_len (aP (qV 2))) aR) aQ) dJ)))) (λ_ _=>rfl))))
  (aT (M':=[0,3]) (vc rfl (qX (qV 4) (vb (aw 3) (qV 5) vd)))
  (aU (bN (M':=[0,3]) (sr (qK (Mi:=[]) rfl (iD (i:=0)) (λ_ _ _ h=>h) (qh (i:=2) sc.nd rfl rfl (N:=["_law_spot","_law_at"]) (caps:=[aB,aA 5]) rfl (cu rfl (lh rfl (qV 2) (ig aX) lP)) (λ_ _ _ _ _=>(bD (i:=0) (show (["_law_spot","_law_at"]:aj).Nodup by decide +kernel) rfl (jE rfl))) fR (λ_ _ _ _ _=>(tU (oM hu8 (qV 0) (aP (qV 1))))) (λ_ _ _ _ _=>(qV 0))))))))))))
  (aU (rP (M':=[0]) (bM (qV 3)))))))
abbrev zL:QX:=br 38
def Rk:FnScope ["_law_cell_here"] ["_law_cell_here"] (aY zL):=bt
def vO:DS:=(bC [] (cf (aF (d2 dN (d2 bv (d2 dM (dV 0) (dC (.int 2))) (d2 yA (d2 r8 (dC (.int 10)) (dC (.int 40))) (d2 r8 (dC (.int 10)) (dC (.int 40))))) (d2 bv (dV 0) (dC (.int 2)))) (aF (d2 bv (d2 dM (dV 0) (dC (.int 2))) (dC (.int 2147483647))) aJ))))
def rX:List T->Option T:=nB 1 vO
abbrev vK[TheK](v:Ev)(k:Nat):Prop:=Cl v k "_law_bag" ["_law_cell_here"] (bW .n 1 rX)
def S7[tk:TheK](h:Here tk.K v.mg "_law_bag" zL ["_law_cell_here"]):vK v 1:=by
 refine(h.vN 0 [] vO Rk λf cdv A outer s H E hr=>?_ :);exact(aU (Py (dP (aG (ez (cq (fQ (qV 0) aR) (aP (Ph (yb aX aR) (aP (yb aX aR))))) (aP (cq (qV 0) aR))) (aG (cq (fQ (qV 0) aR) aR) aQ)))))
abbrev zX:QX:=br 43
def Tl:FnScope ["_law_cell_here","_law_names_here"] ["_law_cell_here","_law_names_here"] (aY zX):=bt
def vn:DS:=(aN (bj (dB (d2 cK (d2 bv (dV 0) (dC (.int 2))) (dC (.int 1)))) (bC [] (qQ As (av rX (aF (dV 0) aJ)) (aF (dS cm (dV 1) i4 (f9 (dC (.int 8)))) aJ))) bq)
  (bC [] (qQ BC (av rX (aF (d2 dM (dV 0) (dC (.int 2))) aJ)) (aF (dV 1) aJ))))
def zk:List T->Option T:=bZ 2 vn
abbrev zQ[TheK](v:Ev)(k:Nat):Prop:=Cl v k "_law_word" ["_law_cell_here","_law_names_here"] (bW .e 2 zk)
def Sv[tk:TheK](h:Here tk.K v.mg "_law_word" zX ["_law_cell_here","_law_names_here"])(kq:AJ v 2)(px:vK v 2)(df:Ak v 2):zQ v 3:=by
 refine(h.vP 2 [] vn Tl λf cdv A outer s H E hr=>?_ :);have hu8:=eg hr
 exact(aT (M':=[]) (cW (M':=[]) (iO hu8 (cq (qV 0) aR) aR) (aU (bM (BV (.inl rfl) kq hr rfl (uC px hr rfl (aG (qV 0) aQ) dJ) (aG (lh rfl (qV 1) lP (ig aX)) aQ) dJ))) cg)
  (aU (bM (BV (.inl rfl) df hr rfl (uC px hr rfl (aG (fQ (qV 0) aR) aQ) dJ) (aG (qV 1) aQ) dJ))))
abbrev zV:QX:=br 37
def Tk:FnScope ["_law_script","_law_k"] ["_law_script","_law_k"] (aY zV):=bt
def zS:DS:=(aN (bj (dB (d2 sI (dV 1) (d1 bn (dV 0)))) (bC [] (d2 aM (dV 0) (dV 1))) bq)
  (bC [] (dC (.int 0))))
def lQ:List T->Option T:=bZ 2 zS
abbrev zP[TheK](v:Ev)(k:Nat):Prop:=Cl v k "_law_cell" ["_law_script","_law_k"] (bW .e 2 lQ)
def Ss[tk:TheK](h:Here tk.K v.mg "_law_cell" zV ["_law_script","_law_k"])(m_len:v.mg "len"=aB):zP v 1:=by
 refine(h.vP 0 [] zS Tk λf cdv A outer s H E hr=>?_ :);have hu:=d9 hr
 exact(aT (M':=[]) (cW (M':=[]) (Cg (qV 1) (aP (eU rfl rfl m_len (aP (qV 0))))) (aU (bM (bQ rfl hu (qV 0) (aP (qV 1)) (λ_ _=>rfl)))) cg)
  (aU (bM aX)))
abbrev Ad:QX:=br 4
def Vi:FnScope ["word"] ["word"] (aY Ad):=bt
def wa:DS:=(bC [] (d1 nP (nq [] [aB] (bc (dV 0)) (bK 0) dR (dV 0) (dC (.bl aC)))))
def n4:List T->Option T:=bZ 1 wa
abbrev sB[TheK](v:Ev)(k:Nat):Prop:=Cl v k "names_of" ["word"] (bW .e 1 n4)
def Vr[tk:TheK](h:Here tk.K v.mg "names_of" Ad ["word"])(m_list:v.mg "list"=aB):sB v 1:=by
 refine(h.vP 0 [] wa Vi λf cdv A outer s H E hr=>?_ :);exact(aU (bM (cY (ze rfl rfl rfl m_list (uB (KO (Mi:=[]) rfl (iD (i:=0)) iP (MW (N:=["name"]) (caps:=[aB]) rfl (cu rfl (qV 0)) (λ_ _ _ _ _=>(bD (i:=0) (show (["name"]:aj).Nodup by decide +kernel) rfl (jE rfl))) fR (λ_ _ _ _ _=>iT) (λ_ _ _ _ _=>(qV 0)) (λ_ _ _ _ _=>qG))))))))
abbrev Ae:QX:=br 10
def GV:FnScope ["mates","name"] ["mates"] (aY Ae):=bt
def wc:DS:=(aN (cM (bc (dV 0)) (bK 1)
  (bj (dB (d2 cK (d2 bv (d1 bn (d2 aM (dV 0) (dV 1))) (dC (.int 2))) (dC (.int 1)))) (bC [] (dV 1)) bq))
  (bC [] (dC .non)))
def Au:List T->Option T:=bZ 2 wc
abbrev AL[TheK](v:Ev)(k:Nat):Prop:=Cl v k "odd_name" ["mates"] (bW .e 1 Au)
def Vs[tk:TheK](h:Here tk.K v.mg "odd_name" Ae ["mates"])(m_len:v.mg "len"=aB):AL v 1:=by
 refine(h.vP 0 [] wc GV λf cdv A outer s H E hr=>?_ :);have sc:=GV;have hu:=d9 hr;have hu8:=eg hr
 exact(aT (M':=[]) (eG (eD jG rfl (cu rfl (qV 0)) (fY (bD (i:=1) sc.nd rfl (jE rfl)))
  (aU (cW (M':=[]) (iO hu8 (cq (eU rfl rfl m_len (aP (bQ rfl hu (qV 0) (aP (qV 1)) (λ_ _=>rfl)))) aR) aR) (aU (bM (qV 1))) cg))))
  (aU (bM lg)))
abbrev BM:QX:=br 11
def XL:FnScope ["mates","one","other"] ["mates","one","other"] (aY BM):=bt
def ww:DS:=(bC [] (d2 cK (d2 bv (d2 vW (d2 aM (dV 0) (dV 1)) (d2 aM (dV 0) (dV 2))) (dC (.int 2))) (dC (.int 0))))
def xD:List T->Option T:=bZ 3 ww
abbrev wv[TheK](v:Ev)(k:Nat):Prop:=Cl v k "evenly_shared" ["mates","one","other"] (bW .e 3 xD)
def XH[tk:TheK](h:Here tk.K v.mg "evenly_shared" BM ["mates","one","other"])(m_len:v.mg "len"=aB)(m_set:v.mg "set"=aB):wv v 1:=by
 refine(h.vP 0 [] ww XL λf cdv A outer s H E hr=>?_ :);have hu:=d9 hr;have hu8:=eg hr;exact(aU (bM (ur hu8 (cq (Tb rfl rfl rfl m_len rfl m_set (aP (bQ rfl hu (qV 0) (aP (qV 1)) (λ_ _=>rfl))) (aP (bQ rfl hu (qV 0) (aP (qV 2)) (λ_ _=>rfl)))) aR) aR)))
abbrev Af:QX:=br 12
def GW:FnScope ["mates","one","other","apart"] ["mates"] (aY Af):=bt
def we:DS:=(aN (cM (bc (dV 0)) (bK 1)
  (cM (bc (dV 0)) (bK 2)
  (aN (aZ 3 (uf (d2 dF (dV 2) (dV 1)) (d2 eV (dV 2) (d2 aM (dV 0) (dV 1)))))
  (bj (o5 (iJ (dV 3)) (sO (iJ (av xD (aF (dV 0) (aF (dV 1) (aF (dV 2) aJ))))))) (bC [] (eZ (aF (dV 1) (aF (dV 2) aJ)))) bq))))
  (bC [] (dC .non)))
def Ah:List T->Option T:=bZ 4 we
abbrev AM[TheK](v:Ev)(k:Nat):Prop:=Cl v k "odd_pair" ["mates"] (bW .e 1 Ah)
def Vt[tk:TheK](h:Here tk.K v.mg "odd_pair" Af ["mates"])(pC:wv v 1):AM v 2:=by
 refine(h.vP 1 [] we GW λf cdv A outer s H E hr=>?_ :);have sc:=GW;have hu:=d9 hr;have hu8:=eg hr
 exact(aT (M':=[]) (eG (eD jG rfl (cu rfl (qV 0)) (fY (bD (i:=1) sc.nd rfl (jE rfl)))
  (aU (eG (eD jG rfl (cu rfl (qV 0)) (fY (bD (i:=2) sc.nd rfl (jE rfl)))
  (aT (M':=[]) (bN (M':=[]) (bA (i:=3) sc.nd rfl (jE rfl) (Dt (KP hu8 (qV 2) (aP (qV 1))) (Du (Tc hu (qV 2) (aP (bQ rfl hu (qV 0) (aP (qV 1)) (λ_ _=>rfl))) (by with_unfolding_all rfl))))))
  (aU (cW (M':=[]) (QW.pt (vB (nV (aP (qV 3))) (zE (yd (nV (aP (qc pC hr rfl (aG (qV 0) (aG (qV 1) (aG (qV 2) aQ))) nu))))))) (aU (bM (ie (aG (qV 1) (aG (qV 2) aQ))))) cg))))))))
  (aU (bM lg)))
abbrev Az:QX:=br 14
def Gd:FnScope ["mates","origins","beginning","waiting","name","fresh","mate"] ["mates"] (aY Az):=bt
def wz:DS:=(aN (aZ 1 oA)
  (aN (cM (bc (dV 0)) (bK 2)
  (bj (dB (d2 eV (dV 2) (dV 1))) (aN (im 1 (dV 2) (dC .non))
  (aN (aZ 3 (cf (aF (dV 2) aJ)))
  (fE (iJ (dV 3))
  (aN (aZ 4 (eR lY 3 aJ))
  (aN (aZ 5 (du [1,3] [aB,aA 1] (bc (d2 aM (dV 0) (dV 4))) (bK 0) (dB (d2 eV (dV 0) (dV 1))) (dV 0)))
  (aN (cM (bc (dV 5)) (bK 6)
  (im 1 (dV 6) (dV 4)))
  (iX (eR o9 3 (aF (dV 5) aJ)))))) 100))) bq))
  (o6 1 (bC [] (dV 1)))))
def BE:List T->Option T:=bZ 7 wz
abbrev Am[TheK](v:Ev)(k:Nat):Prop:=Cl v k "found_from" ["mates"] (bW .e 1 BE)
def X0[tk:TheK](h:Here tk.K v.mg "found_from" Az ["mates"]):Am v 1:=by
 refine(h.vP 0 [] wz Gd λf cdv A outer s H E hr=>?_ :);have sc:=Gd;have hu:=d9 hr
 exact(aT (M':=[1]) (eQ (M':=[1]) (bA (i:=1) sc.nd rfl (ZL rfl) rV))
  (aT (M':=[1]) (eG (eD jG rfl (cu rfl (qV 0)) (fY (bD (i:=2) sc.nd rfl (jE rfl)))
  (aU (cW (M':=[1]) (qe hu (qV 2) (fW rfl (aw 1)) (by with_unfolding_all rfl)) (zg (M':=[1,3]) (aT (M':=[1]) (lm rfl (lz hu (aw 1) (qV 2) lg rfl))
  (aT (M':=[1,3]) (eQ (M':=[1,3]) (bA (i:=3) sc.nd rfl (jE rfl) (dP (aG (qV 2) aQ))))
  (aU (qb 100 jG (nV (fW rfl (aw 3)))
  (aT (M':=[1,3]) (bN (M':=[1,3]) (bA (i:=4) sc.nd rfl (jE rfl) (vA rfl (va jM ge gf v8 (aw 3)))))
  (aT (M':=[1,3]) (bN (M':=[1,3]) (sr (qK (Mi:=[1]) rfl (iD (i:=0)) (λ_ _ _ h=>h) (qh (i:=5) sc.nd rfl rfl (N:=["mate","origins"]) (caps:=[aB,aA 1]) rfl (cu rfl (bQ rfl hu (qV 0) (aP (qV 4)) (λ_ _=>rfl))) (λ_ _ _ _ _=>(bD (i:=0) (show (["mate","origins"]:aj).Nodup by decide +kernel) rfl (jE rfl))) fR (λ_ _ _ _ _=>(tU (qe hu (qV 0) (fW rfl (aw 1)) (by with_unfolding_all rfl)))) (λ_ _ _ _ _=>(qV 0))))))
  (aT (M':=[1,3]) (eG (eD jG rfl (cu rfl (qV 5)) (fY (bD (i:=6) sc.nd rfl (jE rfl)))
  (aU (lm rfl (lz hu (aw 1) (qV 6) (qV 4) rfl)))))
  (aU (l9 (.inl rfl) (FZ rfl (lC jM N7 N8 FP (aw 3) (aG (qV 5) aQ))))))))))))) cg))))
  (aU (sq (i:=1) (M':=[]) (bM (qV 1))))))
abbrev B3:QX:=br 15
def XE:FnScope ["mates","sides","name","mate"] ["mates","sides","name","mate"] (aY B3):=bt
def x9:DS:=(bC [] (qt (iJ (av xD (aF (dV 0) (aF (dV 2) (aF (dV 3) aJ))))) (d2 ij (dC (.int 1)) (d2 aM (dV 1) (dV 2))) (d2 aM (dV 1) (dV 2))))
def wu:List T->Option T:=bZ 4 x9
abbrev x6[TheK](v:Ev)(k:Nat):Prop:=Cl v k "side_beside" ["mates","sides","name","mate"] (bW .e 4 wu)
def XC[tk:TheK](h:Here tk.K v.mg "side_beside" B3 ["mates","sides","name","mate"])(pC:wv v 1):x6 v 2:=by
 refine(h.vP 1 [] x9 XE λf cdv A outer s H E hr=>?_ :);have hu:=d9 hr;exact(aU (bM (ut (nV (aP (qc pC hr rfl (aG (qV 0) (aG (qV 2) (aG (qV 3) aQ))) nu))) (lj aX (aP (bQ rfl hu (qV 1) (aP (qV 2)) (λ_ _=>rfl)))) (bQ rfl hu (qV 1) (aP (qV 2)) (λ_ _=>rfl)))))
abbrev B4:QX:=br 16
def Gm:FnScope ["mates","origins","sides","name","origin"] ["mates","origins"] (aY B4):=bt
def xA:DS:=(aN (aZ 2 oA)
  (aN (cM (bc (dV 1)) (bK 3)
  (aN (aZ 4 (d2 aM (dV 1) (dV 3)))
  (im 2 (dV 3) (qt (dB (d2 oo (dV 4) (dC .non))) (dC (.int 0)) (tM wu 2 (dV 0) (aF (dV 4) (aF (dV 3) aJ)))))))
  (o6 2 (bC [] (dV 2)))))
def B8:List T->Option T:=bZ 5 xA
abbrev BB[TheK](v:Ev)(k:Nat):Prop:=Cl v k "sides_along" ["mates","origins"] (bW .e 2 B8)
def XD[tk:TheK](h:Here tk.K v.mg "sides_along" B4 ["mates","origins"])(pG:x6 v 2):BB v 3:=by
 refine(h.vP 2 [] xA Gm λf cdv A outer s H E hr=>?_ :);have sc:=Gm;have hu:=d9 hr
 exact(aT (M':=[2]) (eQ (M':=[2]) (bA (i:=2) sc.nd rfl (jE rfl) rV))
  (aT (M':=[2]) (eG (eD jG rfl (cu rfl (qV 1)) (fY (bD (i:=3) sc.nd rfl (jE rfl)))
  (aT (M':=[2]) (bN (M':=[2]) (bA (i:=4) sc.nd rfl (jE rfl) (bQ rfl hu (qV 1) (aP (qV 3)) (λ_ _=>rfl))))
  (aU (lm rfl (lz hu (aw 2) (qV 3) (ut (Cf (qV 4) (aP lg)) aX (HY rfl pG hr rfl (qV 0) (aw 2) (aG (qV 4) (aG (qV 3) aQ)) eJ)) rfl))))))
  (aU (sq (i:=2) (M':=[]) (bM (qV 2))))))
abbrev B0:QX:=br 17
def Gi:FnScope ["mates","sides","name","mate"] ["mates","sides"] (aY B0):=bt
def x3:DS:=(aN (cM (bc (dV 0)) (bK 2)
  (cM (bc (d2 aM (dV 0) (dV 2))) (bK 3)
  (bj (dB (d2 dF (av wu (aF (dV 0) (aF (dV 1) (aF (dV 2) (aF (dV 3) aJ))))) (d2 aM (dV 1) (dV 3)))) (bC [] (eZ (aF (dV 2) (aF (dV 3) aJ)))) bq)))
  (bC [] (dC .non)))
def BF:List T->Option T:=bZ 4 x3
abbrev An[TheK](v:Ev)(k:Nat):Prop:=Cl v k "wrong_step" ["mates","sides"] (bW .e 2 BF)
def X1[tk:TheK](h:Here tk.K v.mg "wrong_step" B0 ["mates","sides"])(pG:x6 v 2):An v 3:=by
 refine(h.vP 2 [] x3 Gi λf cdv A outer s H E hr=>?_ :);have sc:=Gi;have hu:=d9 hr;have hu8:=eg hr
 exact(aT (M':=[]) (eG (eD jG rfl (cu rfl (qV 0)) (fY (bD (i:=2) sc.nd rfl (jE rfl)))
  (aU (eG (eD jG rfl (cu rfl (bQ rfl hu (qV 0) (aP (qV 2)) (λ_ _=>rfl))) (fY (bD (i:=3) sc.nd rfl (jE rfl)))
  (aU (cW (M':=[]) (oM hu8 (qc pG hr rfl (aG (qV 0) (aG (qV 1) (aG (qV 2) (aG (qV 3) aQ)))) Xw) (aP (bQ rfl hu (qV 1) (aP (qV 3)) (λ_ _=>rfl)))) (aU (bM (ie (aG (qV 2) (aG (qV 3) aQ))))) cg)))))))
  (aU (bM lg)))
abbrev Ag:QX:=br 18
def GX:FnScope ["origins","name","way"] ["origins","name"] (aY Ag):=bt
def wf:DS:=(aN (aZ 2 (cf (aF (dV 1) aJ)))
  (aN (fE (dB (d2 fF (d2 aM (dV 0) (cC aM 2 (d1 l5 (dC (.int 1))))) (dC .non)))
  (iX (eR i9 2 (aF (d2 aM (dV 0) (cC aM 2 (d1 l5 (dC (.int 1))))) aJ))) 100)
  (bC [] (dV 2))))
def wW:List T->Option T:=nB 3 wf
abbrev AN[TheK](v:Ev)(k:Nat):Prop:=Cl v k "way_back" ["origins","name"] (bW .n 2 wW)
def Vu[tk:TheK](h:Here tk.K v.mg "way_back" Ag ["origins","name"]):AN v 1:=by
 refine(h.vN 0 [] wf GX λf cdv A outer s H E hr=>?_ :);have sc:=GX;have hu:=d9 hr
 exact(aT (M':=[2]) (eQ (M':=[2]) (bA (i:=2) sc.nd rfl (jE rfl) (dP (aG (qV 1) aQ))))
  (aT (M':=[2]) (qb 100 jG (vy (bQ rfl hu (qV 0) (aP (iS rfl rfl hu (aw 2) (aP (rO aR)) (λ_ _=>rfl))) (λ_ _=>rfl)) (aP lg))
  (aU (l9 (.inl rfl) (qg rfl (lC jM Qt Qu oY (aw 2) (aG (bQ rfl hu (qV 0) (aP (iS rfl rfl hu (aw 2) (aP (rO aR)) (λ_ _=>rfl))) (λ_ _=>rfl)) aQ))))))
  (aU (Pz rfl rfl (aw 2)))))
abbrev BH:QX:=br 19
def Gh:FnScope ["origins","one","other","far","near"] ["origins","one","other"] (aY BH):=bt
def u0:DS:=(aN (aZ 3 (av wW (aF (dV 0) (aF (dV 1) aJ))))
  (aN (aZ 4 (av wW (aF (dV 0) (aF (dV 2) aJ))))
  (aN (fE (o5 (dB (d2 iF (d1 bn (dV 3)) (dC (.int 1)))) (o5 (dB (d2 iF (d1 bn (dV 4)) (dC (.int 1)))) (dB (d2 cK (cC aM 3 (d1 l5 (dC (.int 2)))) (cC aM 4 (d1 l5 (dC (.int 2))))))))
  (aN (iX (eR lY 3 aJ))
  (iX (eR lY 4 aJ))) 100)
  (bC [] (cC nC 3 (xf (uV iw 4 i4 (f9 (d1 l5 (dC (.int 1))))) (f9 (d1 l5 (dC (.int 1))))))))))
def BL:List T->Option T:=bZ 5 u0
abbrev B6[TheK](v:Ev)(k:Nat):Prop:=Cl v k "ring_through" ["origins","one","other"] (bW .e 3 BL)
def XR[tk:TheK](h:Here tk.K v.mg "ring_through" BH ["origins","one","other"])(pO:AN v 1)(m_len:v.mg "len"=aB):B6 v 2:=by
 refine(h.vP 1 [] u0 Gh λf cdv A outer s H E hr=>?_ :);have sc:=Gh;have hu:=d9 hr;have hu8:=eg hr
 exact(aT (M':=[3]) (eQ (M':=[3]) (bA (i:=3) sc.nd rfl (jE rfl) (uC pO hr rfl (aG (qV 0) (aG (qV 1) aQ)) eJ)))
  (aT (M':=[3,4]) (eQ (M':=[3,4]) (bA (i:=4) sc.nd rfl (jE rfl) (uC pO hr rfl (aG (qV 0) (aG (qV 2) aQ)) eJ)))
  (aT (M':=[3,4]) (qb 100 jG (QW.pt (vB (rD (eU rfl rfl m_len (fW rfl (aw 3))) aR) (vB (rD (eU rfl rfl m_len (fW rfl (aw 4))) aR) (zE (iO hu8 (iS rfl rfl hu (aw 3) (aP (rO aR)) (λ_ _=>rfl)) (aP (iS rfl rfl hu (aw 4) (aP (rO aR)) (λ_ _=>rfl))))))))
  (aT (M':=[3,4]) (l9 (.inl rfl) (vA rfl (va jM ge gf v8 (aw 3))))
  (aU (l9 (.inl rfl) (vA rfl (va jM ge gf v8 (aw 4)))))))
  (aU (bM (cY (Pg rfl (aw 3) (uB (MT rfl (cY (MU rfl rfl (aw 4) lP (ig (rO aR)))) (ig (rO aR)))))))))))
abbrev BO:QX:=br 13
def Gp:FnScope ["mates","origins","sides","step"] ["mates"] (aY BO):=bt
def u6:DS:=(aN (aZ 1 (av BE (aF (dV 0) aJ)))
  (aN (aZ 2 (av B8 (aF (dV 0) (aF (dV 1) aJ))))
  (aN (aZ 3 (av BF (aF (dV 0) (aF (dV 2) aJ))))
  (aN (bj (dB (d2 fF (dV 3) (dC .non))) (bC [] (eZ (aF (dC (.str "ring")) (aF (av BL (aF (dV 1) (aF (d2 aM (dV 3) (dC (.int 0))) (aF (d2 aM (dV 3) (dC (.int 1))) aJ)))) aJ)))) bq)
  (bC [] (eZ (aF (dC (.str "sides")) (aF (du [] [aB,aA 2] (bc (dV 0)) (bK 0) dR (d2 aM (dV 1) (dV 0))) aJ))))))))
def BQ:List T->Option T:=bZ 4 u6
abbrev BK[TheK](v:Ev)(k:Nat):Prop:=Cl v k "sides_or_ring" ["mates"] (bW .e 1 BQ)
def XJ[tk:TheK](h:Here tk.K v.mg "sides_or_ring" BO ["mates"])(kX:Am v 3)(kr:BB v 3)(hJ:An v 3)(hU:B6 v 3):BK v 4:=by
 refine(h.vP 3 [] u6 Gp λf cdv A outer s H E hr=>?_ :);have sc:=Gp;have hu:=d9 hr
 exact(aT (M':=[]) (bN (M':=[]) (bA (i:=1) sc.nd rfl (jE rfl) (qc kX hr rfl (aG (qV 0) aQ) dJ)))
  (aT (M':=[]) (bN (M':=[]) (bA (i:=2) sc.nd rfl (ZL rfl) (qc kr hr rfl (aG (qV 0) (aG (qV 1) aQ)) eJ)))
  (aT (M':=[]) (bN (M':=[]) (bA (i:=3) sc.nd rfl (jE rfl) (qc hJ hr rfl (aG (qV 0) (aG (qV 2) aQ)) eJ)))
  (aT (M':=[]) (cW (M':=[]) (vy (qV 3) (aP lg)) (aU (bM (ie (aG li (aG (qc hU hr rfl (aG (qV 1) (aG (bQ rfl hu (qV 3) aR (λ_ _=>rfl)) (aG (bQ rfl hu (qV 3) aR (λ_ _=>rfl)) aQ))) nu) aQ))))) cg)
  (aU (bM (ie (aG li (aG (cY (lJ (Mi:=[]) rfl (iD (i:=0)) iP (lM (N:=["name","sides"]) (caps:=[aB,aA 2]) rfl (cu rfl (qV 0)) (λ_ _ _ _ _=>(bD (i:=0) (show (["name","sides"]:aj).Nodup by decide +kernel) rfl (jE rfl))) fR (λ_ _ _ _ _=>iT) (λ_ _ _ _ _=>(bQ rfl hu (qV 1) (aP (qV 0)) (λ_ _=>rfl)))))) aQ)))))))))
abbrev Ai:QX:=br 5
def X7:FnScope ["word","name"] ["word","name"] (aY Ai):=bt
def wV:DS:=(bC [] (du [] [aB,aB,aA 1] (sL (aF (dV 0) aJ)) (fK [0,1]) (dB (d2 cK (dV 1) (dV 2))) (dV 0)))
def tz:List T->Option T:=bZ 2 wV
abbrev wT[TheK](v:Ev)(k:Nat):Prop:=Cl v k "standings" ["word","name"] (bW .e 2 tz)
def X4[tk:TheK](h:Here tk.K v.mg "standings" Ai ["word","name"])(m_enumerate:v.mg "enumerate"=aB):wT v 1:=by
 refine(h.vP 0 [] wV X7 λf cdv A outer s H E hr=>?_ :);have hu8:=eg hr;exact(aU (bM (cY (lJ (Mi:=[]) rfl (vD (K:=tk.K) (is:=[0,1]) (n:=2)) (λ_ _ _ h=>h) (lM (N:=["at","other","name"]) (caps:=[aB,aB,aA 1]) (g:=ia tk.K 2 (lG [0,1])) rfl (zB rfl m_enumerate (aG (qV 0) aQ)) (λ_ _ _ _ _=>(vw (K:=tk.K) rfl rfl (cQ (bD (i:=0) (show (["at","other","name"]:aj).Nodup by decide +kernel) rfl (jE rfl)) (cQ (bD (i:=1) (show (["at","other","name"]:aj).Nodup by decide +kernel) rfl (jE rfl)) fg)))) vY (λ_ _ _ _ _=>(tU (iO hu8 (qV 1) (aP (qV 2))))) (λ_ _ _ _ _=>(qV 0)))))))
abbrev AW:QX:=br 6
def GC:FnScope ["word","name","low","high"] ["word","name"] (aY AW):=bt
def wO:DS:=(aN (uH [2,3] (av tz (aF (dV 0) (aF (dV 1) aJ))))
  (bC [] (dS cm (dV 0) (f9 (d2 bV (dV 2) (dC (.int 1)))) (f9 (dV 3)))))
def AO:List T->Option T:=bZ 4 wO
abbrev AF[TheK](v:Ev)(k:Nat):Prop:=Cl v k "between" ["word","name"] (bW .e 2 AO)
def VT[tk:TheK](h:Here tk.K v.mg "between" AW ["word","name"])(pH:wT v 1):AF v 2:=by
 refine(h.vP 1 [] wO GC λf cdv A outer s H E hr=>?_ :);have sc:=GC
 exact(aT (M':=[]) (yc (is:=[2,3]) (n:=2) (K:=tk.K) (qX (qc pH hr rfl (aG (qV 0) (aG (qV 1) aQ)) eJ) (yE (zD rfl (cQ (bD (i:=2) sc.nd rfl (jE rfl)) (cQ (bD (i:=3) sc.nd rfl (jE rfl)) fg))) (lw rfl (cQ (bD (i:=2) sc.nd rfl (jE rfl)) (cQ (bD (i:=3) sc.nd rfl (jE rfl)) fg))))) rfl rfl rfl)
  (aU (bM (lh rfl (qV 0) (ig (cX (qV 2) aR)) (ig (qV 3))))))
abbrev B9:QX:=br 7
def Ge:FnScope ["word","name","inside"] ["word","name"] (aY B9):=bt
def wp:DS:=(aN (aZ 2 (av AO (aF (dV 0) (aF (dV 1) aJ))))
  (bC [] (du [] [aB,aA 2] (bc (av n4 (aF (dV 0) aJ))) (bK 0) (dB (d2 cK (qu rJ (dV 1) (dV 0)) (dC (.int 1)))) (dV 0))))
def sG:List T->Option T:=bZ 3 wp
abbrev wo[TheK](v:Ev)(k:Nat):Prop:=Cl v k "crossed_with" ["word","name"] (bW .e 2 sG)
def XO[tk:TheK](h:Here tk.K v.mg "crossed_with" B9 ["word","name"])(mM:AF v 2)(pf:sB v 2):wo v 3:=by
 refine(h.vP 2 [] wp Ge λf cdv A outer s H E hr=>?_ :);have sc:=Ge;have hu8:=eg hr
 exact(aT (M':=[]) (bN (M':=[]) (bA (i:=2) sc.nd rfl (ZL rfl) (qc mM hr rfl (aG (qV 0) (aG (qV 1) aQ)) eJ)))
  (aU (bM (cY (lJ (Mi:=[]) rfl (iD (i:=0)) (λ_ _ _ h=>h) (lM (N:=["other","inside"]) (caps:=[aB,aA 2]) rfl (cu rfl (qc pf hr rfl (aG (qV 0) aQ) dJ)) (λ_ _ _ _ _=>(bD (i:=0) (show (["other","inside"]:aj).Nodup by decide +kernel) rfl (jE rfl))) fR (λ_ _ _ _ _=>(tU (iO hu8 (SQ (lC jM PySem.F.slot_list_count PySem.F.type_list_count Sn (qV 1) (zf (aP (qV 0)) zC))) aR))) (λ_ _ _ _ _=>(qV 0))))))))
abbrev AC:QX:=br 9
def GF:FnScope ["word","mates","odd","pair"] ["word"] (aY AC):=bt
def tj:DS:=(aN (aZ 1 (nq [] [aB,aA 0] (bc (av n4 (aF (dV 0) aJ))) (bK 0) dR (dV 0) (av sG (aF (dV 1) (aF (dV 0) aJ)))))
  (aN (o6 1 (aZ 2 (av Au (aF (dV 1) aJ))))
  (aN (bj (dB (d2 fF (dV 2) (dC .non))) (bC [] (eZ (aF (dC (.str "odd")) (aF (dV 2) aJ)))) bq)
  (aN (aZ 3 (av Ah (aF (dV 1) aJ)))
  (aN (bj (dB (d2 fF (dV 3) (dC .non))) (bC [] (eZ (aF (dC (.str "pair")) (aF (d2 aM (dV 3) (dC (.int 0))) (aF (d2 aM (dV 3) (dC (.int 1))) aJ))))) bq)
  (bC [] (av BQ (aF (dV 1) aJ))))))))
def qi:List T->Option T:=bZ 4 tj
abbrev wD[TheK](v:Ev)(k:Nat):Prop:=Cl v k "looked" ["word"] (bW .e 1 qi)
def Ux[tk:TheK](h:Here tk.K v.mg "looked" AC ["word"])(pf:sB v 4)(pJ:wo v 4)(kU:AL v 4)(kO:AM v 4)(pZ:BK v 4):wD v 5:=by
 refine(h.vP 4 [] tj GF λf cdv A outer s H E hr=>?_ :);have sc:=GF;have hu:=d9 hr
 exact(aT (M':=[1]) (eQ (M':=[1]) (KU (Mi:=[]) rfl (iD (i:=0)) iP (Te (i:=1) sc.nd rfl rfl (N:=["name","word"]) (caps:=[aB,aA 0]) rfl (cu rfl (qc pf hr rfl (aG (qV 0) aQ) dJ)) (λ_ _ _ _ _=>(bD (i:=0) (show (["name","word"]:aj).Nodup by decide +kernel) rfl (jE rfl))) fR (λ_ _ _ _ _=>iT) (λ_ _ _ _ _=>(qV 0)) (λ_ _ _ _ _=>(qc pJ hr rfl (aG (qV 1) (aG (qV 0) aQ)) eJ)))))
  (aT (M':=[]) (sq (i:=1) (M':=[]) (bN (M':=[]) (bA (i:=2) sc.nd rfl (jE rfl) (qc kU hr rfl (aG (qV 1) aQ) dJ))))
  (aT (M':=[]) (cW (M':=[]) (vy (qV 2) (aP lg)) (aU (bM (ie (aG li (aG (qV 2) aQ))))) cg)
  (aT (M':=[]) (bN (M':=[]) (bA (i:=3) sc.nd rfl (jE rfl) (qc kO hr rfl (aG (qV 1) aQ) dJ)))
  (aT (M':=[]) (cW (M':=[]) (vy (qV 3) (aP lg)) (aU (bM (ie (aG li (aG (bQ rfl hu (qV 3) aR (λ_ _=>rfl)) (aG (bQ rfl hu (qV 3) aR (λ_ _=>rfl)) aQ)))))) cg)
  (aU (bM (qc pZ hr rfl (aG (qV 1) aQ) dJ))))))))
abbrev BG:QX:=br 24
def Gf:FnScope ["word","name","side","first","second"] ["word","name","side"] (aY BG):=bt
def wq:DS:=(aN (uH [3,4] (av tz (aF (dV 0) (aF (dV 1) aJ))))
  (aN (bj (dB (d2 cK (d2 bv (d2 bV (dV 2) (dV 3)) (dC (.int 2))) (dC (.int 0)))) (bC [] (cf (aF (d2 dN (dC (.int 2)) (dV 3)) (aF (d2 dN (dC (.int 2)) (dV 4)) (aF (d2 bV (d2 dN (dC (.int 2)) (dV 3)) (dC (.int 1))) (aF (d2 bV (d2 dN (dC (.int 2)) (dV 4)) (dC (.int 1))) aJ)))))) bq)
  (bC [] (cf (aF (d2 dN (dC (.int 2)) (dV 3)) (aF (d2 bV (d2 dN (dC (.int 2)) (dV 4)) (dC (.int 1))) (aF (d2 bV (d2 dN (dC (.int 2)) (dV 3)) (dC (.int 1))) (aF (d2 dN (dC (.int 2)) (dV 4)) aJ))))))))
def xB:List T->Option T:=bZ 5 wq
abbrev B5[TheK](v:Ev)(k:Nat):Prop:=Cl v k "ends_by_side" ["word","name","side"] (bW .e 3 xB)
def XQ[tk:TheK](h:Here tk.K v.mg "ends_by_side" BG ["word","name","side"])(pH:wT v 1):B5 v 2:=by
 refine(h.vP 1 [] wq Gf λf cdv A outer s H E hr=>?_ :);have sc:=Gf;have hu8:=eg hr
 exact(aT (M':=[]) (yc (is:=[3,4]) (n:=2) (K:=tk.K) (qX (qc pH hr rfl (aG (qV 0) (aG (qV 1) aQ)) eJ) (yE (zD rfl (cQ (bD (i:=3) sc.nd rfl (jE rfl)) (cQ (bD (i:=4) sc.nd rfl (jE rfl)) fg))) (lw rfl (cQ (bD (i:=3) sc.nd rfl (jE rfl)) (cQ (bD (i:=4) sc.nd rfl (jE rfl)) fg))))) rfl rfl rfl)
  (aT (M':=[]) (cW (M':=[]) (iO hu8 (cq (cX (qV 2) (aP (qV 3))) aR) aR) (aU (bM (cY (dP (aG (ez aX (aP (qV 3))) (aG (ez aX (aP (qV 4))) (aG (cX (ez aX (aP (qV 3))) aR) (aG (cX (ez aX (aP (qV 4))) aR) aQ)))))))) cg)
  (aU (bM (cY (dP (aG (ez aX (aP (qV 3))) (aG (cX (ez aX (aP (qV 4))) aR) (aG (cX (ez aX (aP (qV 3))) aR) (aG (ez aX (aP (qV 4))) aQ))))))))))
abbrev wK:QX:=br 23
def wn:FnScope ["word","told"] ["word"] (aY wK):=bt
def oh:DS:=(aN (aZ 1 (av qi (aF (dV 0) aJ)))
  (aN (bj (dB (d2 dF (d2 aM (dV 1) (dC (.int 0))) (dC (.str "sides")))) yS bq)
  (bC [] (du [] [aB,aB,aA 0] (uW (aF (av n4 (aF (dV 0) aJ)) (aF (d2 aM (dV 1) (dC (.int 1))) aJ))) (fK [0,1]) dR (eZ (aF (dV 0) (aF (av xB (aF (dV 2) (aF (dV 0) (aF (dV 1) aJ)))) aJ)))))))
def iR:List T->Option T:=bZ 2 oh
abbrev wM[TheK](v:Ev)(k:Nat):Prop:=Cl v k "drawing" ["word"] (bW .e 1 iR)
def VX[tk:TheK](h:Here tk.K v.mg "drawing" wK ["word"])(pB:wD v 5)(pf:sB v 5)(pX:B5 v 5)(m_zip:v.mg "zip"=aB):wM v 6:=by
 refine(h.vP 5 [] oh wn λf cdv A outer s H E hr=>?_ :);have sc:=wn;have hu:=d9 hr;have hu8:=eg hr
 exact(aT (M':=[]) (bN (M':=[]) (bA (i:=1) sc.nd rfl (jE rfl) (qc pB hr rfl (aG (qV 0) aQ) dJ)))
  (aT (M':=[]) (cW (M':=[]) (oM hu8 (bQ rfl hu (qV 1) aR (λ_ _=>rfl)) (aP li)) (aU Ey) cg)
  (aU (bM (cY (lJ (Mi:=[]) rfl (vD (K:=tk.K) (is:=[0,1]) (n:=2)) iP (lM (N:=["name","side","word"]) (caps:=[aB,aB,aA 0]) (g:=ia tk.K 2 (lG [0,1])) rfl (MV rfl rfl m_zip (aG (qc pf hr rfl (aG (qV 0) aQ) dJ) (aG (bQ rfl hu (qV 1) aR (λ_ _=>rfl)) aQ))) (λ_ _ _ _ _=>(vw (K:=tk.K) rfl rfl (cQ (bD (i:=0) (show (["name","side","word"]:aj).Nodup by decide +kernel) rfl (jE rfl)) (cQ (bD (i:=1) (show (["name","side","word"]:aj).Nodup by decide +kernel) rfl (jE rfl)) fg)))) vY (λ_ _ _ _ _=>iT) (λ_ _ _ _ _=>(ie (aG (qV 0) (aG (qc pX hr rfl (aG (qV 2) (aG (qV 0) (aG (qV 1) aQ))) nu) aQ)))))))))))
def wg:DR:=(rA oz (aZ 1 (av qi (aF (dV 0) aJ)))
  (rA (sN (dB (d2 dF (d2 aM (dV 1) (dC (.int 0))) (dC (.str "sides")))) (yx (dV 1)) oz) (bj (dB (d2 dF (d2 aM (dV 1) (dC (.int 0))) (dC (.str "sides")))) yS bq)
  oz))
def sD:List T->Bool:=uF 2 wg
abbrev AI[TheK](v:Ev)(a:Ax)(k:Nat):Prop:=HH v k "drawing" ["word"] (oj a.r2 1 sD)
def Vo[tk:TheK]{a:Ax}(h:Here tk.K v.mg "drawing" wK ["word"])(pB:wD v 5)(m2:v.mg "NotDrawn"=aA (.ref a.r2))(nd:Nd v a):AI v a 6:=by
 obtain⟨bm,xc⟩:=nd;refine(h.vR 5 _ wg wn λf cdv A outer s H E hr hA=>?_ :);have sc:=wn;have hu:=d9 hr;have hu8:=eg hr
 exact(Dy (rk:=.e) Dv (bN (M':=[]) (bA (i:=1) sc.nd rfl (jE rfl) (qc pB hr rfl (aG (qV 0) aQ) dJ)))
  (Dy (rk:=.e) (KR (oM hu8 (bQ rfl hu (qV 1) aR (λ_ _=>rfl)) (aP li)) (Dx (Tf (k:=4) (UM hA) rfl hr xc rfl m2 (qV 1))) KS) (cW (M':=[]) (oM hu8 (bQ rfl hu (qV 1) aR (λ_ _=>rfl)) (aP li)) (aU Ey) cg)
  (Dx Dv)))
abbrev AV:QX:=br 44
def GA:FnScope ["_law_bag_here","_law_word_here","_law_told","_law_turned","_law_name","_law_side","_law_todo","_law_here","_law_made","_law_ends"] ["_law_bag_here","_law_word_here"] (aY AV):=bt
def sF:DS:=(aN (qH [0] 1 sD (aF (dV 1) aJ) (aZ 2 (av iR (aF (dV 1) aJ))))
  (aN (aZ 3 oA)
  (aN (cM (bc (av n4 (aF (dV 1) aJ))) (bK 4)
  (bj (dB (d2 eV (dV 4) (dV 3))) (aN (aZ 5 (nO nc 0 (aF (dC (.int 2)) aJ)))
  (aN (aZ 6 (cf (aF (dV 4) aJ)))
  (fE (dB (d2 iF (d1 bn (dV 6)) (dC (.int 0))))
  (aN (aZ 7 (eR lY 6 aJ))
  (bj (dB (d2 eV (dV 7) (dV 3))) (aN (im 3 (dV 7) (dV 5))
  (iX (eR o9 6 (aF (av sG (aF (dV 1) (aF (dV 7) aJ))) aJ)))) bq)) 1000))) bq))
  (aN (aZ 8 (cf aJ))
  (aN (cM (bc (dV 2)) (fK [4,9])
  (aN (bj (dB (d2 cK (cC aM 3 (dV 4)) (dC (.int 1)))) (aZ 9 (cf (aF (d2 aM (dV 9) (dC (.int 0))) (aF (d2 aM (dV 9) (dC (.int 3))) (aF (d2 aM (dV 9) (dC (.int 2))) (aF (d2 aM (dV 9) (dC (.int 1))) aJ)))))) bq)
  (iX (eR i9 8 (aF (eZ (aF (dV 4) (aF (d1 nP (dV 9)) aJ))) aJ)))))
  (bC [0] (dV 8)))))))
def wj:List T->Option (T × T):=iG 10 sF
abbrev AE[TheK](v:Ev)(k:Nat):Prop:=Cl v k "_law_drawing" ["_law_bag_here","_law_word_here"] (fj .e 2 wj)
def VS[tk:TheK]{a:Ax}(h:Here tk.K v.mg "_law_drawing" AV ["_law_bag_here","_law_word_here"])(pK:wM v 6)(pf:sB v 6)(pd:tR v 6)(pJ:wo v 6)(pE:AI v a 6)(m_len:v.mg "len"=aB)(m_list:v.mg "list"=aB)(m2:v.mg "NotDrawn"=aA (.ref a.r2))(nd:Nd v a):AE v 7:=by
 obtain⟨dj,di,pE,mW,pY,p8⟩:=pE;obtain⟨bm,xd⟩:=nd;have hmm:(QF a.r2::bm).contains (.ref a.r2)=aC:=by rw[YI,beq_self_eq_true,Ua]
 refine(h.vI0 6 [] sF GA λf cdv A outer s H E hr hA=>?_ :);have sc:=GA;have hu:=d9 hr;have hu8:=eg hr
 exact(Tg (O3 (M':=[0]) (λW=>(bN (M':=[0]) (bA (i:=2) sc.nd rfl (jE rfl) (qc pK hr rfl (aG (qV 1) aQ) dJ))))
  (λW E' hp=>MX (i:=2) sc.nd rfl (jE rfl) pE hr rfl p8 pY mW hp (aG (qV 1) aQ) (.inr rfl)) rfl rfl rfl rfl m2 xd.o xd.o hmm)
  (aT (M':=[0,3]) (eQ (M':=[0,3]) (bA (i:=3) sc.nd rfl (jE rfl) rV))
  (aT (M':=[0,3]) (eG (eD jG rfl (cu rfl (qc pf hr rfl (aG (qV 1) aQ) dJ)) (fY (bD (i:=4) sc.nd rfl (jE rfl)))
  (aU (cW (M':=[0,3]) (qe hu (qV 4) (fW rfl (aw 3)) (by with_unfolding_all rfl)) (zg (M':=[0,3,6]) (aT (M':=[0,3]) (bN (M':=[0,3]) (bA (i:=5) sc.nd rfl (jE rfl) (xK rfl pd hr rfl (aw 0) (aG aX aQ) dJ)))
  (aT (M':=[0,3,6]) (eQ (M':=[0,3,6]) (bA (i:=6) sc.nd rfl (jE rfl) (dP (aG (qV 4) aQ))))
  (aU (qb 1000 jG (rD (eU rfl rfl m_len (fW rfl (aw 6))) aR)
  (aT (M':=[0,3,6]) (bN (M':=[0,3,6]) (bA (i:=7) sc.nd rfl (jE rfl) (vA rfl (va jM ge gf v8 (aw 6)))))
  (aU (cW (M':=[0,3,6]) (qe hu (qV 7) (fW rfl (aw 3)) (by with_unfolding_all rfl)) (aT (M':=[0,3,6]) (lm rfl (lz hu (aw 3) (qV 7) (qV 5) rfl))
  (aU (l9 (.inl rfl) (FZ rfl (lC jM N7 N8 FP (aw 6) (aG (qc pJ hr rfl (aG (qV 1) (aG (qV 7) aQ)) eJ) aQ)))))) cg)))))))) cg))))
  (aT (M':=[0,3,8]) (eQ (M':=[0,3,8]) (bA (i:=8) sc.nd rfl (jE rfl) (dP aQ)))
  (aT (M':=[0,3,8]) (eG (eD jG rfl (cu rfl (qV 2)) (qS (K:=tk.K) (is:=[4,9]) (n:=2) (lw rfl (cQ (bD (i:=4) sc.nd rfl (jE rfl)) (cQ (bD (i:=9) sc.nd rfl (jE rfl)) fg))))
  (aT (M':=[0,3,8]) (cW (M':=[0,3,8]) (iO hu8 (iS rfl rfl hu (aw 3) (aP (qV 4)) (λ_ _=>rfl)) aR) (aU (bN (M':=[0,3,8]) (bA (i:=9) sc.nd rfl (jE rfl) (cY (dP (aG (bQ rfl hu (qV 9) aR (λ_ _=>rfl)) (aG (bQ rfl hu (qV 9) aR (λ_ _=>rfl)) (aG (bQ rfl hu (qV 9) aR (λ_ _=>rfl)) (aG (bQ rfl hu (qV 9) aR (λ_ _=>rfl)) aQ))))))))) cg)
  (aU (l9 (.inl rfl) (qg rfl (lC jM Qt Qu oY (aw 8) (aG (ie (aG (qV 4) (aG (cY (ze rfl rfl rfl m_list (aP (qV 9)))) aQ))) aQ))))))))
  (aU (rP (M':=[0,3]) (bM (qV 8)))))))))
abbrev A9:QX:=br 45
def G7:FnScope ["_law_script","_law_names_here","_law_word_here"] ["_law_script"] (aY A9):=bt
def tf:DS:=(aN (aZ 1 (av A6 (aF (av lQ (aF (dV 0) (aF (dC (.int 0)) aJ))) (aF (d2 bv (av lQ (aF (dV 0) (aF (dC (.int 1)) aJ))) (dC (.int 13))) aJ))))
  (aN (aZ 2 (av zk (aF (av lQ (aF (dV 0) (aF (dC (.int 2)) aJ))) (aF (dV 1) aJ))))
  (bC [] (eZ (aF (dV 2) (aF (qQ wj (av rX (aF (av lQ (aF (dV 0) (aF (dC (.int 3)) aJ))) aJ)) (aF (dV 2) aJ)) aJ))))))
def AS:List T->Option T:=bZ 3 tf
abbrev A0[TheK](v:Ev)(k:Nat):Prop:=Cl v k "_law_set_up" ["_law_script"] (bW .e 1 AS)
def Uv[tk:TheK](h:Here tk.K v.mg "_law_set_up" A9 ["_law_script"])(mT:zm v 7)(pp:zP v 7)(dh:zQ v 7)(mS:AE v 7)(px:vK v 7):A0 v 8:=by
 refine(h.vP 7 [] tf G7 λf cdv A outer s H E hr=>?_ :);have sc:=G7
 exact(aT (M':=[]) (bN (M':=[]) (bA (i:=1) sc.nd rfl (jE rfl) (qc mT hr rfl (aG (qc pp hr rfl (aG (qV 0) (aG aX aQ)) eJ) (aG (cq (qc pp hr rfl (aG (qV 0) (aG aX aQ)) eJ) aR) aQ)) eJ)))
  (aT (M':=[]) (bN (M':=[]) (bA (i:=2) sc.nd rfl (jE rfl) (qc dh hr rfl (aG (qc pp hr rfl (aG (qV 0) (aG aX aQ)) eJ) (aG (qV 1) aQ)) eJ)))
  (aU (bM (ie (aG (qV 2) (aG (BV (.inl rfl) mS hr rfl (uC px hr rfl (aG (qc pp hr rfl (aG (qV 0) (aG aX aQ)) eJ) aQ) dJ) (aG (qV 2) aQ) dJ) aQ)))))))
abbrev Ay:QX:=br 26
def Gc:FnScope ["crossings","ahead","name","ends","at","end"] ["crossings"] (aY Ay):=bt
def tw:DS:=(aN (aZ 1 oA)
  (aN (cM (bc (dV 0)) (fK [2,3])
  (cM (sL (aF (dV 3) aJ)) (fK [4,5])
  (im 1 (dV 5) (d2 aM (dV 3) (d2 ij (dV 4) (dC (.int 1)))))))
  (o6 1 (bC [] (dV 1)))))
def BD:List T->Option T:=bZ 6 tw
abbrev Al[TheK](v:Ev)(k:Nat):Prop:=Cl v k "ends_ahead" ["crossings"] (bW .e 1 BD)
def Vz[tk:TheK](h:Here tk.K v.mg "ends_ahead" Ay ["crossings"])(m_enumerate:v.mg "enumerate"=aB):Al v 1:=by
 refine(h.vP 0 [] tw Gc λf cdv A outer s H E hr=>?_ :);have sc:=Gc;have hu:=d9 hr
 exact(aT (M':=[1]) (eQ (M':=[1]) (bA (i:=1) sc.nd rfl (jE rfl) rV))
  (aT (M':=[1]) (eG (eD jG rfl (cu rfl (qV 0)) (qS (K:=tk.K) (is:=[2,3]) (n:=2) (lw rfl (cQ (bD (i:=2) sc.nd rfl (jE rfl)) (cQ (bD (i:=3) sc.nd rfl (jE rfl)) fg))))
  (aU (eG (eD jG rfl (zB rfl m_enumerate (aG (qV 3) aQ)) (qS (K:=tk.K) (is:=[4,5]) (n:=2) (lw rfl (cQ (bD (i:=4) sc.nd rfl (jE rfl)) (cQ (bD (i:=5) sc.nd rfl (jE rfl)) fg))))
  (aU (lm rfl (lz hu (aw 1) (qV 5) (bQ rfl hu (qV 3) (aP (lj (qV 4) aR)) (λ_ _=>rfl)) rfl))))))))
  (aU (sq (i:=1) (M':=[]) (bM (qV 1))))))
abbrev AD:QX:=br 21
def GG:FnScope ["after","told","walked","start","walk","at"] ["after"] (aY AD):=bt
def wG:DS:=(aN (aZ 1 (cf aJ))
  (aN (aZ 2 y0)
  (aN (cM (i7 (aF (d1 bn (dV 0)) aJ)) (bK 3)
  (aN (aZ 4 (cf aJ))
  (aN (aZ 5 (dV 3))
  (aN (fE (dB (d2 rC (dV 5) (dV 2)))
  (aN (iX (xx 2 (dV 5)))
  (aN (iX (eR i9 4 (aF (dV 5) aJ)))
  (aZ 5 (d2 aM (dV 0) (dV 5))))) 300)
  (bj (iJ (dV 4)) (iX (eR i9 1 (aF (dV 4) aJ))) bq)))))
  (bC [] (dV 1)))))
def AT:List T->Option T:=bZ 6 wG
abbrev A2[TheK](v:Ev)(k:Nat):Prop:=Cl v k "rounds" ["after"] (bW .e 1 AT)
def Uy[tk:TheK](h:Here tk.K v.mg "rounds" AD ["after"])(m_set:v.mg "set"=aB)(m_range:v.mg "range"=aB)(m_len:v.mg "len"=aB):A2 v 1:=by
 refine(h.vP 0 [] wG GG λf cdv A outer s H E hr=>?_ :);have sc:=GG;have hu:=d9 hr
 exact(aT (M':=[1]) (eQ (M':=[1]) (bA (i:=1) sc.nd rfl (jE rfl) (dP aQ)))
  (aT (M':=[1,2]) (eQ (M':=[1,2]) (bA (i:=2) sc.nd rfl (jE rfl) (Px rfl m_set)))
  (aT (M':=[1,2]) (eG (eD jG rfl (oZ rfl m_range (aG (eU rfl rfl m_len (aP (qV 0))) aQ)) (fY (bD (i:=3) sc.nd rfl (jE rfl)))
  (aT (M':=[1,2,4]) (eQ (M':=[1,2,4]) (bA (i:=4) sc.nd rfl (jE rfl) (dP aQ)))
  (aT (M':=[1,2,4]) (bN (M':=[1,2,4]) (bA (i:=5) sc.nd rfl (jE rfl) (qV 3)))
  (aT (M':=[1,2,4]) (qb 300 jG (R0 (qV 5) (fW rfl (aw 2)) (by with_unfolding_all rfl))
  (aT (M':=[1,2,4]) (l9 (.inl rfl) (Pw rfl (lC PySem.F.plainAttrs_set PySem.F.slot_set_add PySem.F.type_set_add Oo (aw 2) (zf (qV 5) zC))))
  (aT (M':=[1,2,4]) (l9 (.inl rfl) (qg rfl (lC jM Qt Qu oY (aw 4) (aG (qV 5) aQ))))
  (aU (bN (M':=[1,2,4]) (bA (i:=5) sc.nd rfl (jE rfl) (bQ rfl hu (qV 0) (aP (qV 5)) (λ_ _=>rfl))))))))
  (aU (cW (M':=[1,2]) (nV (fW rfl (aw 4))) (aU (rP (M':=[1,2]) (l9 (.inl rfl) (qg rfl (lC jM Qt Qu oY (aw 1) (aG (qV 4) aQ)))))) (zg (M':=[1,2,4]) cg))))))))
  (aU (rP (M':=[2]) (bM (qV 1)))))))
abbrev Aj:QX:=br 28
def GZ:FnScope ["size","end","standing"] ["size","end"] (aY Aj):=bt
def Aq:DS:=(aN (aZ 2 (d2 dM (dV 1) (dC (.int 2))))
  (aN (bj (dB (d2 cK (d2 bv (dV 1) (dC (.int 2))) (dC (.int 0)))) (bC [] (d2 dN (dC (.int 2)) (dV 2))) bq)
  (bC [] (d2 bV (d2 dN (dC (.int 2)) (d2 bv (d2 ij (dV 2) (dC (.int 1))) (dV 0))) (dC (.int 1))))))
def x5:List T->Option T:=bZ 3 Aq
abbrev Ao[TheK](v:Ev)(k:Nat):Prop:=Cl v k "walker_by" ["size","end"] (bW .e 2 x5)
def X5[tk:TheK](h:Here tk.K v.mg "walker_by" Aj ["size","end"]):Ao v 1:=by
 refine(h.vP 0 [] Aq GZ λf cdv A outer s H E hr=>?_ :);have sc:=GZ;have hu8:=eg hr
 exact(aT (M':=[]) (bN (M':=[]) (bA (i:=2) sc.nd rfl (jE rfl) (fQ (qV 1) aR)))
  (aT (M':=[]) (cW (M':=[]) (iO hu8 (cq (qV 1) aR) aR) (aU (bM (ez aX (aP (qV 2))))) cg)
  (aU (bM (cX (ez aX (aP (cq (lj (qV 2) aR) (aP (qV 0))))) aR)))))
abbrev AB:QX:=br 27
def GE:FnScope ["size","walker","stretch"] ["size","walker"] (aY AB):=bt
def A4:DS:=(aN (aZ 2 (d2 dM (dV 1) (dC (.int 2))))
  (aN (bj (dB (d2 cK (d2 bv (dV 1) (dC (.int 2))) (dC (.int 1)))) (bC [] (d2 dN (dC (.int 2)) (dV 2))) bq)
  (bC [] (d2 bV (d2 dN (dC (.int 2)) (d2 bv (d2 bV (dV 2) (dC (.int 1))) (dV 0))) (dC (.int 1))))))
def wS:List T->Option T:=bZ 3 A4
abbrev A1[TheK](v:Ev)(k:Nat):Prop:=Cl v k "end_of" ["size","walker"] (bW .e 2 wS)
def Uw[tk:TheK](h:Here tk.K v.mg "end_of" AB ["size","walker"]):A1 v 1:=by
 refine(h.vP 0 [] A4 GE λf cdv A outer s H E hr=>?_ :);have sc:=GE;have hu8:=eg hr
 exact(aT (M':=[]) (bN (M':=[]) (bA (i:=2) sc.nd rfl (jE rfl) (fQ (qV 1) aR)))
  (aT (M':=[]) (cW (M':=[]) (iO hu8 (cq (qV 1) aR) aR) (aU (bM (ez aX (aP (qV 2))))) cg)
  (aU (bM (cX (ez aX (aP (cq (cX (qV 2) aR) (aP (qV 0))))) aR)))))
abbrev Aa:QX:=br 25
def GM:FnScope ["word","crossings","ahead","size"] ["word","crossings"] (aY Aa):=bt
def tm:DS:=(aN (bj (sO (iJ (dV 0))) (bC [] (cf (aF (cf aJ) (aF (cf aJ) aJ)))) bq)
  (aN (aZ 2 (av BD (aF (dV 1) aJ)))
  (aN (aZ 3 (d1 bn (dV 0)))
  (bC [] (av AT (aF (du [] [aB,aA 3,aA 2] (i7 (aF (d2 dN (dC (.int 2)) (dV 3)) aJ)) (bK 0) dR (av x5 (aF (dV 1) (aF (d2 aM (dV 2) (av wS (aF (dV 1) (aF (dV 0) aJ)))) aJ)))) aJ))))))
def wm:List T->Option T:=bZ 4 tm
abbrev AH[TheK](v:Ev)(k:Nat):Prop:=Cl v k "patches" ["word","crossings"] (bW .e 2 wm)
def VZ[tk:TheK](h:Here tk.K v.mg "patches" Aa ["word","crossings"])(mF:Al v 1)(kg:A2 v 1)(kL:Ao v 1)(kc:A1 v 1)(m_len:v.mg "len"=aB)(m_range:v.mg "range"=aB):AH v 2:=by
 refine(h.vP 1 [] tm GM λf cdv A outer s H E hr=>?_ :);have sc:=GM;have hu:=d9 hr
 exact(aT (M':=[]) (cW (M':=[]) (yd (nV (aP (qV 0)))) (aU (bM (cY (dP (aG (cY (dP aQ)) (aG (cY (dP aQ)) aQ)))))) cg)
  (aT (M':=[]) (bN (M':=[]) (bA (i:=2) sc.nd rfl (ZL rfl) (qc mF hr rfl (aG (qV 1) aQ) dJ)))
  (aT (M':=[]) (bN (M':=[]) (bA (i:=3) sc.nd rfl (ZL rfl) (eU rfl rfl m_len (aP (qV 0)))))
  (aU (bM (qc kg hr rfl (aG (cY (lJ (Mi:=[]) rfl (iD (i:=0)) iP (lM (N:=["walker","size","ahead"]) (caps:=[aB,aA 3,aA 2]) rfl (oZ rfl m_range (aG (ez aX (aP (qV 3))) aQ)) (λ_ _ _ _ _=>(bD (i:=0) (show (["walker","size","ahead"]:aj).Nodup by decide +kernel) rfl (jE rfl))) fR (λ_ _ _ _ _=>iT) (λ_ _ _ _ _=>(qc kL hr rfl (aG (qV 1) (aG (bQ rfl hu (qV 2) (aP (qc kc hr rfl (aG (qV 1) (aG (qV 0) aQ)) eJ)) (λ_ _=>rfl)) aQ)) eJ))))) aQ) dJ))))))
abbrev AX:QX:=br 30
def GD:FnScope ["word","crossings","places","number","walk","walker"] ["word","crossings"] (aY AX):=bt
def wP:DS:=(aN (aZ 2 oA)
  (aN (cM (sL (aF (av wm (aF (dV 0) (aF (dV 1) aJ))) aJ)) (fK [3,4])
  (cM (bc (dV 4)) (bK 5)
  (im 2 (dV 5) (dV 3))))
  (bC [] (du [2] [aB,aA 2] (i7 (aF (d1 bn (dV 0)) aJ)) (bK 0) dR (eZ (aF (cC aM 1 (d2 dN (dC (.int 2)) (dV 0))) (aF (cC aM 1 (d2 bV (d2 dN (dC (.int 2)) (dV 0)) (dC (.int 1)))) aJ)))))))
def sC:List T->Option T:=bZ 6 wP
abbrev wL[TheK](v:Ev)(k:Nat):Prop:=Cl v k "borders" ["word","crossings"] (bW .e 2 sC)
def VU[tk:TheK](h:Here tk.K v.mg "borders" AX ["word","crossings"])(mX:AH v 2)(m_enumerate:v.mg "enumerate"=aB)(m_range:v.mg "range"=aB)(m_len:v.mg "len"=aB):wL v 3:=by
 refine(h.vP 2 [] wP GD λf cdv A outer s H E hr=>?_ :);have sc:=GD;have hu:=d9 hr
 exact(aT (M':=[2]) (eQ (M':=[2]) (bA (i:=2) sc.nd rfl (ZL rfl) rV))
  (aT (M':=[2]) (eG (eD jG rfl (zB rfl m_enumerate (aG (qc mX hr rfl (aG (qV 0) (aG (qV 1) aQ)) eJ) aQ)) (qS (K:=tk.K) (is:=[3,4]) (n:=2) (lw rfl (cQ (bD (i:=3) sc.nd rfl (jE rfl)) (cQ (bD (i:=4) sc.nd rfl (jE rfl)) fg))))
  (aU (eG (eD jG rfl (cu rfl (qV 4)) (fY (bD (i:=5) sc.nd rfl (jE rfl)))
  (aU (lm rfl (lz hu (aw 2) (qV 5) (qV 3) rfl))))))))
  (aU (bM (cY (lJ (Mi:=[1]) rfl (iD (i:=0)) iP (lM (N:=["stretch","places"]) (caps:=[aB,aA 2]) rfl (oZ rfl m_range (aG (eU rfl rfl m_len (aP (qV 0))) aQ)) (λ_ _ _ _ _=>(bD (i:=0) (show (["stretch","places"]:aj).Nodup by decide +kernel) rfl (jE rfl))) fR (λ_ _ _ _ _=>iT) (λ_ _ _ _ _=>(ie (aG (iS rfl rfl hu (aw 1) (aP (ez aX (aP (qV 0)))) (λ_ _=>rfl)) (aG (iS rfl rfl hu (aw 1) (aP (cX (ez aX (aP (qV 0))) aR)) (λ_ _=>rfl)) aQ)))))))))))
abbrev BN:QX:=br 33
def Go:FnScope ["hands","found","waiting","left","right"] ["hands"] (aY BN):=bt
def u5:DS:=(aN (aZ 1 (yR (d2 aM (d2 aM (dV 0) (dC (.int 0))) (dC (.int 0))) (dC (.int 0))))
  (aN (aZ 2 (dV 0))
  (aN (fE (iJ (dV 2))
  (aN (cM (bc (dV 2)) (fK [3,4])
  (bj (dB (d2 nE (dV 3) (dV 1))) (im 1 (dV 4) (d2 ij (cC aM 1 (dV 3)) (dC (.int 1)))) (bj (dB (d2 nE (dV 4) (dV 1))) (im 1 (dV 3) (d2 bV (cC aM 1 (dV 4)) (dC (.int 1)))) bq)))
  (aZ 2 (du [1] [aB,aB,aA 1] (bc (dV 2)) (fK [0,1]) (sK (dB (d2 eV (dV 0) (dV 2))) (dB (d2 eV (dV 1) (dV 2)))) (eZ (aF (dV 0) (aF (dV 1) aJ)))))) 100)
  (o6 1 (bC [] (dV 1))))))
def xE:List T->Option T:=bZ 5 u5
abbrev BJ[TheK](v:Ev)(k:Nat):Prop:=Cl v k "heights_along" ["hands"] (bW .e 1 xE)
def XI[tk:TheK](h:Here tk.K v.mg "heights_along" BN ["hands"]):BJ v 1:=by
 refine(h.vP 0 [] u5 Go λf cdv A outer s H E hr=>?_ :);have sc:=Go;have hu:=d9 hr
 exact(aT (M':=[1]) (eQ (M':=[1]) (bA (i:=1) sc.nd rfl (ZL rfl) (SR (bQ rfl hu (bQ rfl hu (qV 0) aR (λ_ _=>rfl)) aR (λ_ _=>rfl)) aX)))
  (aT (M':=[1]) (bN (M':=[1]) (bA (i:=2) sc.nd rfl (jE rfl) (qV 0)))
  (aT (M':=[1]) (qb 100 jG (nV (aP (qV 2)))
  (aT (M':=[1]) (eG (eD jG rfl (cu rfl (qV 2)) (qS (K:=tk.K) (is:=[3,4]) (n:=2) (lw rfl (cQ (bD (i:=3) sc.nd rfl (jE rfl)) (cQ (bD (i:=4) sc.nd rfl (jE rfl)) fg))))
  (aU (cW (M':=[1]) (Dz hu (qV 3) (fW rfl (aw 1)) (by with_unfolding_all rfl)) (aU (lm rfl (lz hu (aw 1) (qV 4) (lj (iS rfl rfl hu (aw 1) (aP (qV 3)) (λ_ _=>rfl)) aR) rfl))) (aU (cW (M':=[1]) (Dz hu (qV 4) (fW rfl (aw 1)) (by with_unfolding_all rfl)) (aU (lm rfl (lz hu (aw 1) (qV 3) (cX (iS rfl rfl hu (aw 1) (aP (qV 4)) (λ_ _=>rfl)) aR) rfl))) cg))))))
  (aU (bN (M':=[1]) (sr (qK (Mi:=[2]) rfl (vD (K:=tk.K) (is:=[0,1]) (n:=2)) (λ_ _ _ h=>h) (qh (i:=2) sc.nd rfl rfl (N:=["left","right","found"]) (caps:=[aB,aB,aA 1]) (g:=ia tk.K 2 (lG [0,1])) rfl (cu rfl (qV 2)) (λ_ _ _ _ _=>(vw (K:=tk.K) rfl rfl (cQ (bD (i:=0) (show (["left","right","found"]:aj).Nodup by decide +kernel) rfl (jE rfl)) (cQ (bD (i:=1) (show (["left","right","found"]:aj).Nodup by decide +kernel) rfl (jE rfl)) fg)))) vY (λ_ _ _ _ _=>(tU (QW.pt (yF (qe hu (qV 0) (fW rfl (aw 2)) (by with_unfolding_all rfl)) (ye (qe hu (qV 1) (fW rfl (aw 2)) (by with_unfolding_all rfl))))))) (λ_ _ _ _ _=>(ie (aG (qV 0) (aG (qV 1) aQ)))))))))))
  (aU (sq (i:=1) (M':=[]) (bM (qV 1)))))))
abbrev AZ:QX:=br 32
def GL:FnScope ["word","crossings","outside","hands","found"] ["word","crossings","outside"] (aY AZ):=bt
def wR:DS:=(aN (aZ 3 (qt (iJ (dV 0)) (av sC (aF (dV 0) (aF (dV 1) aJ))) (cf (aF (eZ (aF (dC (.int 0)) (aF (dC (.int 1)) aJ))) aJ))))
  (aN (aZ 4 (av xE (aF (dV 3) aJ)))
  (bC [] (du [] [aB,aA 4,aA 2] (i7 (aF (d1 bn (dV 4)) aJ)) (bK 0) dR (d2 ij (d2 aM (dV 1) (dV 0)) (d2 aM (dV 1) (dV 2)))))))
def qj:List T->Option T:=bZ 5 wR
abbrev wN[TheK](v:Ev)(k:Nat):Prop:=Cl v k "heights" ["word","crossings","outside"] (bW .e 3 qj)
def VY[tk:TheK](h:Here tk.K v.mg "heights" AZ ["word","crossings","outside"])(pI:wL v 3)(mG:BJ v 3)(m_range:v.mg "range"=aB)(m_len:v.mg "len"=aB):wN v 4:=by
 refine(h.vP 3 [] wR GL λf cdv A outer s H E hr=>?_ :);have sc:=GL;have hu:=d9 hr
 exact(aT (M':=[]) (bN (M':=[]) (bA (i:=3) sc.nd rfl (jE rfl) (ut (nV (aP (qV 0))) (qc pI hr rfl (aG (qV 0) (aG (qV 1) aQ)) eJ) (cY (dP (aG (ie (aG aX (aG aX aQ))) aQ))))))
  (aT (M':=[]) (bN (M':=[]) (bA (i:=4) sc.nd rfl (ZL rfl) (qc mG hr rfl (aG (qV 3) aQ) dJ)))
  (aU (bM (cY (lJ (Mi:=[]) rfl (iD (i:=0)) iP (lM (N:=["patch","found","outside"]) (caps:=[aB,aA 4,aA 2]) rfl (oZ rfl m_range (aG (eU rfl rfl m_len (aP (qV 4))) aQ)) (λ_ _ _ _ _=>(bD (i:=0) (show (["patch","found","outside"]:aj).Nodup by decide +kernel) rfl (jE rfl))) fR (λ_ _ _ _ _=>iT) (λ_ _ _ _ _=>(lj (bQ rfl hu (qV 1) (aP (qV 0)) (λ_ _=>rfl)) (aP (bQ rfl hu (qV 1) (aP (qV 2)) (λ_ _=>rfl))))))))))))
abbrev AY:QX:=br 31
def Vd:FnScope ["word","crossings"] ["word","crossings"] (aY AY):=bt
def wQ:DS:=(bC [] (du [] [aB] (bc (av qj (aF (dV 0) (aF (dV 1) (aF (dC (.int 0)) aJ))))) (bK 0) dR (d2 bv (dV 0) (dC (.int 2)))))
def AQ:List T->Option T:=bZ 2 wQ
abbrev AG[TheK](v:Ev)(k:Nat):Prop:=Cl v k "colours" ["word","crossings"] (bW .e 2 AQ)
def VW[tk:TheK](h:Here tk.K v.mg "colours" AY ["word","crossings"])(pg:wN v 4):AG v 5:=by
 refine(h.vP 4 [] wQ Vd λf cdv A outer s H E hr=>?_ :);exact(aU (bM (cY (lJ (Mi:=[]) rfl (iD (i:=0)) iP (lM (N:=["height"]) (caps:=[aB]) rfl (cu rfl (qc pg hr rfl (aG (qV 0) (aG (qV 1) (aG aX aQ))) nu)) (λ_ _ _ _ _=>(bD (i:=0) (show (["height"]:aj).Nodup by decide +kernel) rfl (jE rfl))) fR (λ_ _ _ _ _=>iT) (λ_ _ _ _ _=>(cq (qV 0) aR)))))))
abbrev BR:QX:=br 35
def XT:FnScope ["name","one","other"] ["name","one","other"] (aY BR):=bt
def xC:DS:=(bC [] (qt (dB (d2 cK (d2 bv (dV 1) (dC (.int 2))) (dC (.int 0)))) (eZ (aF (dV 0) (aF (dV 1) (aF (dV 2) aJ)))) (eZ (aF (dV 0) (aF (dV 2) (aF (dV 1) aJ))))))
def xF:List T->Option T:=bZ 3 xC
abbrev BP[TheK](v:Ev)(k:Nat):Prop:=Cl v k "over_and_under" ["name","one","other"] (bW .e 3 xF)
def XS[tk:TheK](h:Here tk.K v.mg "over_and_under" BR ["name","one","other"]):BP v 1:=by
 refine(h.vP 0 [] xC XT λf cdv A outer s H E hr=>?_ :);have hu8:=eg hr;exact(aU (bM (ut (iO hu8 (cq (qV 1) aR) aR) (ie (aG (qV 0) (aG (qV 1) (aG (qV 2) aQ)))) (ie (aG (qV 0) (aG (qV 2) (aG (qV 1) aQ)))))))
abbrev Ac:QX:=br 34
def Vh:FnScope ["word"] ["word"] (aY Ac):=bt
def wZ:DS:=(bC [] (du [] [aB,aB] (bc (av iR (aF (dV 0) aJ))) (fK [0,1]) dR (av xF (aF (dV 0) (aF (d2 dM (d2 aM (dV 1) (dC (.int 0))) (dC (.int 2))) (aF (d2 dM (d2 aM (dV 1) (dC (.int 1))) (dC (.int 2))) aJ))))))
def At:List T->Option T:=bZ 1 wZ
abbrev AK[TheK](v:Ev)(k:Nat):Prop:=Cl v k "by_turns" ["word"] (bW .e 1 At)
def Vq[tk:TheK](h:Here tk.K v.mg "by_turns" Ac ["word"])(pK:wM v 6)(mH:BP v 6):AK v 7:=by
 refine(h.vP 6 [] wZ Vh λf cdv A outer s H E hr=>?_ :);have hu:=d9 hr;exact(aU (bM (cY (lJ (Mi:=[]) rfl (vD (K:=tk.K) (is:=[0,1]) (n:=2)) iP (lM (N:=["name","ends"]) (caps:=[aB,aB]) (g:=ia tk.K 2 (lG [0,1])) rfl (cu rfl (qc pK hr rfl (aG (qV 0) aQ) dJ)) (λ_ _ _ _ _=>(vw (K:=tk.K) rfl rfl (cQ (bD (i:=0) (show (["name","ends"]:aj).Nodup by decide +kernel) rfl (jE rfl)) (cQ (bD (i:=1) (show (["name","ends"]:aj).Nodup by decide +kernel) rfl (jE rfl)) fg)))) vY (λ_ _ _ _ _=>iT) (λ_ _ _ _ _=>(qc mH hr rfl (aG (qV 0) (aG (fQ (bQ rfl hu (qV 1) aR (λ_ _=>rfl)) aR) (aG (fQ (bQ rfl hu (qV 1) aR (λ_ _=>rfl)) aR) aQ))) nu)))))))
abbrev zu:QX:=br 46
def Fw:FnScope ["_law_ends","_law_sides","_law_made","_law_end"] ["_law_ends","_law_sides"] (aY zu):=bt
def wA:DS:=(aN (aZ 2 (cf aJ))
  (aN (cM (bc (dV 0)) (bK 3)
  (bj (dB (d2 cK (d2 bv (dV 3) (dC (.int 2))) (dC (.int 0)))) (iX (eR i9 2 (aF (d2 aM (d2 aM (dV 1) (d2 dM (dV 3) (dC (.int 2)))) (dC (.int 0))) aJ))) (iX (eR i9 2 (aF (d2 aM (d2 aM (dV 1) (d2 ij (d2 dM (dV 3) (dC (.int 2))) (dC (.int 1)))) (dC (.int 1))) aJ)))))
  (bC [] (dV 2))))
def rf:List T->Option T:=bZ 4 wA
abbrev zp[TheK](v:Ev)(k:Nat):Prop:=Cl v k "_law_round" ["_law_ends","_law_sides"] (bW .e 2 rf)
def UH[tk:TheK](h:Here tk.K v.mg "_law_round" zu ["_law_ends","_law_sides"]):zp v 1:=by
 refine(h.vP 0 [] wA Fw λf cdv A outer s H E hr=>?_ :);have sc:=Fw;have hu:=d9 hr;have hu8:=eg hr
 exact(aT (M':=[2]) (eQ (M':=[2]) (bA (i:=2) sc.nd rfl (jE rfl) (dP aQ)))
  (aT (M':=[2]) (eG (eD jG rfl (cu rfl (qV 0)) (fY (bD (i:=3) sc.nd rfl (jE rfl)))
  (aU (cW (M':=[2]) (iO hu8 (cq (qV 3) aR) aR) (aU (l9 (.inl rfl) (qg rfl (lC jM Qt Qu oY (aw 2) (aG (bQ rfl hu (bQ rfl hu (qV 1) (aP (fQ (qV 3) aR)) (λ_ _=>rfl)) aR (λ_ _=>rfl)) aQ))))) (aU (l9 (.inl rfl) (qg rfl (lC jM Qt Qu oY (aw 2) (aG (bQ rfl hu (bQ rfl hu (qV 1) (aP (lj (fQ (qV 3) aR) aR)) (λ_ _=>rfl)) aR (λ_ _=>rfl)) aQ)))))))))
  (aU (rP (M':=[]) (bM (qV 2))))))
abbrev B1:QX:=br 47
def Gk:FnScope ["_law_ends","_law_sides","_law_high","_law_some","_law_top"] ["_law_ends","_law_sides","_law_high"] (aY B1):=bt
def x8:DS:=(aN (aZ 3 (du [] [aB,aA 2] (bc (av rf (aF (dV 0) (aF (dV 1) aJ)))) (bK 0) dR (d2 aM (dV 1) (dV 0))))
  (aN (bj (dB (d2 dF (d1 rR (dV 3)) (cf (aF (d1 oF (dV 3)) (aF (d2 bV (d1 oF (dV 3)) (dC (.int 1))) (aF (d2 bV (d1 oF (dV 3)) (dC (.int 1))) (aF (d2 bV (d1 oF (dV 3)) (dC (.int 2))) aJ))))))) (bC [] (dC (.bl aD))) bq)
  (aN (aZ 4 (qu sw (dV 3) (d1 oE (dV 3))))
  (aN (bj (dB (d2 dF (d2 aM (dV 3) (d2 ij (dV 4) (dC (.int 2)))) (d1 oF (dV 3)))) (bC [] (dC (.bl aD))) bq)
  (bC [] (uf (d2 cK (d2 bv (d2 aM (dV 0) (dV 4)) (dC (.int 2))) (dC (.int 0))) (d2 cK (d2 bv (d2 aM (dV 0) (d2 bv (d2 bV (dV 4) (dC (.int 1))) (dC (.int 4)))) (dC (.int 2))) (dC (.int 1)))))))))
def B7:List T->Option T:=bZ 5 x8
abbrev BA[TheK](v:Ev)(k:Nat):Prop:=Cl v k "_law_steps_round" ["_law_ends","_law_sides","_law_high"] (bW .e 3 B7)
def XB[tk:TheK](h:Here tk.K v.mg "_law_steps_round" B1 ["_law_ends","_law_sides","_law_high"])(mK:zp v 1)(m_min:v.mg "min"=aB)(m_sorted:v.mg "sorted"=aB)(m_max:v.mg "max"=aB):BA v 2:=by
 refine(h.vP 1 [] x8 Gk λf cdv A outer s H E hr=>?_ :);have sc:=Gk;have hu:=d9 hr;have hu8:=eg hr
 exact(aT (M':=[]) (bN (M':=[]) (sr (qK (Mi:=[]) rfl (iD (i:=0)) iP (qh (i:=3) sc.nd rfl rfl (N:=["_law_patch","_law_high"]) (caps:=[aB,aA 2]) rfl (cu rfl (qc mK hr rfl (aG (qV 0) (aG (qV 1) aQ)) eJ)) (λ_ _ _ _ _=>(bD (i:=0) (show (["_law_patch","_law_high"]:aj).Nodup by decide +kernel) rfl (jE rfl))) fR (λ_ _ _ _ _=>iT) (λ_ _ _ _ _=>(bQ rfl hu (qV 1) (aP (qV 0)) (λ_ _=>rfl)))))))
  (aT (M':=[]) (cW (M':=[]) (oM hu8 (cY (Td rfl rfl m_sorted (aP (qV 3)))) (uB (dP (aG (tN rfl rfl rfl m_min (aP (qV 3))) (aG (cX (tN rfl rfl rfl m_min (aP (qV 3))) aR) (aG (cX (tN rfl rfl rfl m_min (aP (qV 3))) aR) (aG (cX (tN rfl rfl rfl m_min (aP (qV 3))) aR) aQ))))))) (aU (bM qG)) cg)
  (aT (M':=[]) (bN (M':=[]) (bA (i:=4) sc.nd rfl (jE rfl) (SS (lC jM PySem.F.slot_list_index PySem.F.type_list_index So (qV 3) (zf (aP (zA rfl rfl rfl m_max (aP (qV 3)))) zC)))))
  (aT (M':=[]) (cW (M':=[]) (oM hu8 (bQ rfl hu (qV 3) (aP (lj (qV 4) aR)) (λ_ _=>rfl)) (aP (tN rfl rfl rfl m_min (aP (qV 3))))) (aU (bM qG)) cg)
  (aU (bM (Dt (ur hu8 (cq (bQ rfl hu (qV 0) (aP (qV 4)) (λ_ _=>rfl)) aR) aR) (Du (ur hu8 (cq (bQ rfl hu (qV 0) (aP (cq (cX (qV 4) aR) aR)) (λ_ _=>rfl)) aR) aR)))))))))
abbrev yK:QX:=br 48
def E1:FnScope ["_law_script","_law_word_here","_law_lines","_law_sides","_law_shades","_law_outside","_law_high","_law_name","_law_ends","_law_same","_law_told","_law_goes","_law_over_at","_law_under_at","_law_at"] ["_law_script"] (aY yK):=bt
def ug:DS:=(aN (uH [1,2] (av AS (aF (dV 0) aJ)))
  (aN (bj (sK (dB (d2 oo (dV 2) (dC .non))) (dB (d2 cK (d1 bn (dV 1)) (dC (.int 0))))) (bC [] (dC (.bl aC))) bq)
  (aN (aZ 3 (av sC (aF (dV 1) (aF (dV 2) aJ))))
  (aN (aZ 4 (av AQ (aF (dV 1) (aF (dV 2) aJ))))
  (aN (cM (i7 (aF (d1 bn (dV 4)) aJ)) (bK 5)
  (aN (aZ 6 (av qj (aF (dV 1) (aF (dV 2) (aF (dV 5) aJ)))))
  (aN (cM (bc (dV 2)) (fK [7,8])
  (bj (sO (iJ (av B7 (aF (dV 8) (aF (dV 3) (aF (dV 6) aJ)))))) (bC [] (dC (.bl aD))) bq))
  (aN (aZ 9 (du [] [aB,aA 6,aA 4] (i7 (aF (d1 bn (dV 4)) aJ)) (bK 0) dR (d2 bv (d2 ij (d2 aM (dV 1) (dV 0)) (d2 aM (dV 2) (dV 0))) (dC (.int 2)))))
  (bj (dB (d2 dF (d1 zZ (dV 9)) (dC (.int 1)))) (bC [] (dC (.bl aD))) bq)))))
  (aN (aZ 10 (av At (aF (dV 1) aJ)))
  (aN (aZ 11 oA)
  (aN (cM (bc (dV 10)) (fK [7,12,13])
  (aN (im 11 (dV 12) (dC (.int 1)))
  (im 11 (dV 13) (dC (.int 0)))))
  (aN (cM (r6 (aF (dC (.int 1)) (aF (d1 bn (dV 1)) aJ))) (bK 14)
  (bj (dB (d2 cK (se 11 (dV 14) (dC (.int 2))) (se 11 (d2 ij (dV 14) (dC (.int 1))) (dC (.int 2))))) (bC [] (dC (.bl aD))) bq))
  (bC [] (d2 cK (d1 bn (dV 11)) (d1 bn (dV 1)))))))))))))
def Lr:List T->Option T:=bZ 15 ug
def KA[tk:TheK](ko:A0 v 8)(pI:wL v 8)(mU:AG v 8)(pg:wN v 8)(kW:BA v 8)(mE:AK v 8)(m_len:v.mg "len"=aB)(m_range:v.mg "range"=aB)(m_set:v.mg "set"=aB)  :QBody tk v.P v.w v.mg v.base 8 "law" yK ["_law_script","_law_word_here","_law_lines","_law_sides","_law_shades","_law_outside","_law_high","_law_name","_law_ends","_law_same","_law_told","_law_goes","_law_over_at","_law_under_at","_law_at"] (cS .e [] [] [] [] ug):=by
 intro f cdv A outer s H E hr;have sc:=E1;have hu:=d9 hr;have hu8:=eg hr
 exact(aT (M':=[]) (yc (is:=[1,2]) (n:=2) (K:=tk.K) (qX (qc ko hr rfl (aG (qV 0) aQ) dJ) (yE (zD rfl (cQ (bD (i:=1) sc.nd rfl (jE rfl)) (cQ (bD (i:=2) sc.nd rfl (jE rfl)) fg))) (lw rfl (cQ (bD (i:=1) sc.nd rfl (jE rfl)) (cQ (bD (i:=2) sc.nd rfl (jE rfl)) fg))))) rfl rfl rfl)
  (aT (M':=[]) (cW (M':=[]) (QW.pt (yF (Cf (qV 2) (aP lg)) (ye (iO hu8 (eU rfl rfl m_len (aP (qV 1))) aR)))) (aU (bM qG)) cg)
  (aT (M':=[]) (bN (M':=[]) (bA (i:=3) sc.nd rfl (jE rfl) (qc pI hr rfl (aG (qV 1) (aG (qV 2) aQ)) eJ)))
  (aT (M':=[]) (bN (M':=[]) (bA (i:=4) sc.nd rfl (ZL rfl) (qc mU hr rfl (aG (qV 1) (aG (qV 2) aQ)) eJ)))
  (aT (M':=[]) (eG (eD jG rfl (oZ rfl m_range (aG (eU rfl rfl m_len (aP (qV 4))) aQ)) (fY (bD (i:=5) sc.nd rfl (jE rfl)))
  (aT (M':=[]) (bN (M':=[]) (bA (i:=6) sc.nd rfl (ZL rfl) (qc pg hr rfl (aG (qV 1) (aG (qV 2) (aG (qV 5) aQ))) nu)))
  (aT (M':=[]) (eG (eD jG rfl (cu rfl (qV 2)) (qS (K:=tk.K) (is:=[7,8]) (n:=2) (lw rfl (cQ (bD (i:=7) sc.nd rfl (jE rfl)) (cQ (bD (i:=8) sc.nd rfl (jE rfl)) fg))))
  (aU (cW (M':=[]) (yd (nV (aP (qc kW hr rfl (aG (qV 8) (aG (qV 3) (aG (qV 6) aQ))) nu)))) (aU (bM qG)) cg))))
  (aT (M':=[]) (bN (M':=[]) (sr (qK (Mi:=[]) rfl (iD (i:=0)) iP (qh (i:=9) sc.nd rfl rfl (N:=["_law_k","_law_high","_law_shades"]) (caps:=[aB,aA 6,aA 4]) rfl (oZ rfl m_range (aG (eU rfl rfl m_len (aP (qV 4))) aQ)) (λ_ _ _ _ _=>(bD (i:=0) (show (["_law_k","_law_high","_law_shades"]:aj).Nodup by decide +kernel) rfl (jE rfl))) fR (λ_ _ _ _ _=>iT) (λ_ _ _ _ _=>(cq (lj (bQ rfl hu (qV 1) (aP (qV 0)) (λ_ _=>rfl)) (aP (bQ rfl hu (qV 2) (aP (qV 0)) (λ_ _=>rfl)))) aR))))))
  (aU (cW (M':=[]) (oM hu8 (UL rfl rfl rfl m_len rfl m_set (aP (qV 9))) aR) (aU (bM qG)) cg)))))))
  (aT (M':=[]) (bN (M':=[]) (bA (i:=10) sc.nd rfl (jE rfl) (qc mE hr rfl (aG (qV 1) aQ) dJ)))
  (aT (M':=[11]) (eQ (M':=[11]) (bA (i:=11) sc.nd rfl (jE rfl) rV))
  (aT (M':=[11]) (eG (eD jG rfl (cu rfl (qV 10)) (qS (K:=tk.K) (is:=[7,12,13]) (n:=3) (lw rfl (cQ (bD (i:=7) sc.nd rfl (jE rfl)) (cQ (bD (i:=12) sc.nd rfl (jE rfl)) (cQ (bD (i:=13) sc.nd rfl (jE rfl)) fg)))))
  (aT (M':=[11]) (lm rfl (lz hu (aw 11) (qV 12) aX rfl))
  (aU (lm rfl (lz hu (aw 11) (qV 13) aX rfl))))))
  (aT (M':=[11]) (eG (eD jG rfl (Fa rfl m_range (aG aX (aG (eU rfl rfl m_len (aP (qV 1))) aQ))) (fY (bD (i:=14) sc.nd rfl (jE rfl)))
  (aU (cW (M':=[11]) (iO hu8 (ES rfl hu (aw 11) (qV 14) aX ⟨rfl,rfl,rfl,rfl⟩) (aP (ES rfl hu (aw 11) (lj (qV 14) aR) aX ⟨rfl,rfl,rfl,rfl⟩))) (aU (bM qG)) cg))))
  (aU (bM (ur hu8 (eU rfl rfl m_len (fW rfl (aw 11))) (aP (eU rfl rfl m_len (aP (qV 1))))))))))))))))
end Dw
set_option maxHeartbeats 1000000
local macro_rules | `(tactic| simp? [$args,*]) => `(tactic| simp (disch := (first | lia | (simp only [List.length_map, List.length_append, List.length_cons, List.length_nil, List.length_reverse, List.length_range, List.length_set, List.length_take, List.length_drop, List.length_zipIdx]; lia))) only [L3.XU, L3.XV, L3.XX, L3.IK, L3.XW, L3.Ky, L3.Kl, L3.IW, L3.Kr, L3.Ob, L3.IS, L3.IM, L3.IL, L3.Kp, L3.Kz, L3.O6, L3.IV, L3.IX, L3.Hq, L3.Kx, L3.Kw, L3.O8, L3.Cv, L3.Kn, L3.IN, L3.O9, L3.Kq, L3.Ks, L3.OC, L3.Hr, L3.Ku, L3.Kv, L3.IP, L3.IQ, L3.IR, L3.O4, L3.Pq, L3.Pr, L3.XY, L3.IJ, L3.Ko, L3.Kt, L3.IU, L3.Km, L3.O7, L3.OB, L3.OA, L3.Rs, L3.LY, L3.Ps, L3.LX, L3.u7, L3.OZ, L3.ya, L3.LT, L3.XZ, L3.IF, L3.Hu, L3.IE, L3.II, L3.Xa, L3.Xb, L3.Xc, L3.Xd, L3.Hz, L3.CN, L3.Hv, L3.IG, L3.IA, L3.IH, L3.LV, L3.Kc, L3.LU, L3.Kb, L3.um, L3.Ka, L3.LW, L3.KZ, L3.ln, L3.OW, L3.EQ, L3.Pl, L3.Ke, L3.Kg, L3.Kf, L3.OX, L3.OY, L3.DB, L3.D9, L3.Pp, L3.ID, L3.IC, L3.Po, L3.IB, L3.Pn, L3.Pk, L3.OG, L3.OF, L3.OE, L3.OD, L3.OI, L3.OH, L3.Tw, L3.Kh, L3.Ki, L3.Kj, L3.LQ, L3.LR, L3.Sh, L3.LZ, L3.Xn, L3.Xm, L3.Xl, L3.Xk, L3.Xj, List.getElem?_cons_zero, List.getElem?_cons_succ, L3.Ol, Option.bind_some, Option.map_some, List.set_cons_succ, List.set_cons_zero, List.length_cons, List.length_nil, List.length_map, if_true, if_false, Bool.not_true, Bool.not_false, decide_true, decide_false, Bool.false_eq_true, L3.iC, L3.v7, Nat.reduceAdd, Nat.reduceLT, Int.zero_add, $args,*])
namespace Dw
open PySem L2 L3
def vL(ns:am)(k:Nat):lQ [.scr ns,.int k]=aA (.int (ns.getD k 0)):=by
 unfold lQ bZ zS
 by_cases h:k < ns.length
 ·have e:=M4 (j3 h);simp[aN,bq,bj,bC,dV,dC,d2,d1,dB,sI,sP,bn,aM,dk,iE,dZ,hasAll,h,e]
 ·simp[aN,bq,bj,bC,dV,dC,d2,d1,dB,sI,sP,bn,aM,dk,iE,dZ,hasAll,h]
structure Bag2 where
 (a b:Int)
def Bag2.t(x:Bag2):T:=.lst [.int x.a,.int x.b]
structure Bag2.Ok (x:Bag2):Prop where
 b0:0<=x.b
 b1:x.b < 2147483647
def Of:r8 (.int 10) (.int 40)=aA (.int 10000000000000000000000000000000000000000):=by rfl
def Oe:yA (.int 10000000000000000000000000000000000000000) (.int 10000000000000000000000000000000000000000)=aA (.int 100000000000000000000000000000000000000000000000000000000000000000000000000000000):=by rfl
def yu(n:Int):∃ x:Bag2,rX [.int n]=aA x.t/\x.Ok:=by
 refine⟨⟨n / 2%100000000000000000000000000000000000000000000000000000000000000000000000000000000*(n%2),n / 2%2147483647⟩,?_,⟨ZJ _ (by lia),Zh _ (by lia)⟩⟩
 unfold rX;refine tD ?_;show bG vO [aA (.int n)] _;exact f8 (by unfold vO; simp?[Of,Oe]<;>rfl) rfl
def vQ{x:Bag2}(h:x.Ok)(n:Int)(hn:0 < n)(hn2:n < 1073741824):∃(z:Int) (y:Bag2),nc [x.t,.int n]=aA (.int z,y.t)/\y.Ok/\0<=z/\z < n:=by
 have h0:=h.b0;have h1:=h.b1;have m1:o3 x.b 48271=aC:=by unfold o3; rw[QR,decide_eq_true_iff]; left; lia
 have m2:o3 ((x.b*48271+4099)%2147483647) ((x.b*48271+4099)%2147483647 / 65536+7)=aC:=by unfold o3; rw[QR,decide_eq_true_iff]; left; lia
 by_cases hp:0 < x.a
 ·refine⟨x.a%n,⟨x.a / n,x.b⟩,?_,⟨h0,h1⟩,ZJ _ (by lia),Zh _ hn⟩
  unfold nc iG vm Bag2.t;simp[aN,bq,bj,aZ,oB,bC,dV,dC,d2,cC,d1,dB,iF,qr,aM,dk,iE,bv,dM,gI,uU,uT,dZ,hasAll,dU,fS,hp,hn,hn2]
 ·refine⟨(x.b*48271+4099)%2147483647*((x.b*48271+4099)%2147483647 / 65536+7)%2147483629 / 32%n,⟨x.a,(x.b*48271+4099)%2147483647⟩,?_,⟨ZJ _ (by lia),Zh _ (by lia)⟩,ZJ _ (by lia),Zh _ hn⟩
  unfold nc iG vm Bag2.t;simp[aN,bq,bj,aZ,oB,bC,dV,dC,d2,cC,d1,dB,iF,qr,aM,dk,iE,bv,dM,dN,bV,q5,gI,uU,uT,dZ,hasAll,dU,fS,hp,m1,m2,hn,hn2]
def nY{α β:Type}(f:α->β)(xs:List α)(lo hi:Option Int):dW (xs.map f) lo hi=(dW xs lo hi).map f:=by
 unfold dW;rw[j4,WF,WE]
def Df{n j:Nat}(h:j < n):fS n (j:Int)=aA j:=by simp[fS,h]
def ol(names:aj):Option Nat->Str
 |none=>NS ""
 |some k=>names.getD k jC
def M1{x:Bag2}(hx:x.Ok){names:aj}(hn:names.length<=30)(hd:names.Nodup)(hN:∀ x∈names,lK x):∃(wd:aj) (y:Bag2),As [x.t,.lst (names.map T.str)]=aA (.lst (wd.map T.str),y.t)/\GoodWord wd/\∀ x∈wd,x∈names:=by
 have hr:eN (2*((names.length:Nat):Int))=aC:=qY (by lia) (by lia)
 have e2:(2*((names.length:Nat):Int)).toNat=2*names.length:=by lia
 obtain⟨t,u,e,wd,y,rfl,rfl,gw⟩:=vT (n:=6) (d:=wY) (ts:=[x.t,.lst (names.map T.str)]) (Q:=λt u=>∃(wd:aj) (y:Bag2),t=.lst (wd.map T.str)/\u=y.t/\GoodWord wd/\∀ x∈wd,x∈names) (by
  unfold wY;show bG _ [aA x.t,aA (.lst (names.map T.str)),aB,aB,aB,aB] _;refine aV (s':=[aA x.t,aA (.lst (names.map T.str)),aA (.lst ((j7 (2*names.length)).map nT)),aB,aB,aB]) (by simp?[hr,e2,qd]) ?_
  have l1:=iu (M:=[0]) (caps:=[aB]) (fi:=bc (dV 2)) (dg:=bK 0) (fe:=dC (.str "")) (s:=[aA x.t,aA (.lst (names.map T.str)),aA (.lst ((j7 (2*names.length)).map nT)),aB,aB,aB]) (j7 (2*names.length)) nT (λ_=>.str "") (by simp?[]) (by simp; lia) (λz _=>⟨[aA (nT z)],rfl,rfl,rfl⟩)
  have l2:(j7 (2*names.length)).map (λ_=>T.str "")=((QP (2*names.length) aB).map (ol names)).map T.str:=by
   rw[YK,YK];refine(List.eq_replicate_iff (a:=T.str (NS ""))).mpr ⟨by simp,λb hb=>?_⟩
   obtain⟨_,_,h⟩:=jz.mp hb;exact h.symm
  rw[l2] at l1;refine aV (by simp?[l1]<;>rfl) ?_
  refine fZ (its:=names.map T.str) (λi s=>∃(y:Bag2) (fr:ak) (pl:af) (a b:Option T),s=[aA y.t,aA (.lst (names.map T.str)),aA (.lst (fr.map nT)),aA (.lst ((pl.map (ol names)).map T.str)),a,b]/\y.Ok/\fr.length+2*i=2*names.length/\fr.Nodup/\(∀ k∈fr,pl[k]?=aA aB)/\Half pl names.length i)
   (by simp?[]<;>rfl) ⟨x,_,_,_,_,rfl,hx,by simp,ZS,λk hk=>by rw[gN,aI (je.mp hk)],Half.start _⟩ ?_ ?_
  ·rintro i z s hz ⟨y,fr,pl,a,b,rfl,oy,hl,hnd,hlt,hh⟩;rw[jf] at hz;obtain⟨x,hx,rfl⟩:=Qm hz;have hi:=(j6.mp hx).1;refine⟨_,by simp?[]<;>rfl,?_⟩
   match fr,hl,hnd,hlt with
   |[],hl,_,_=>exact absurd hl (by simp; lia)
   |k0::fr,hl,hnd,hlt=>
   rw[jo] at hl;rw[Qh] at hnd;have hk0:=hlt k0 (jV ..);obtain⟨u,y',eu,o',a',b'⟩:=vQ oy (fr.length:Int) (by lia) (by lia)
   have hu:u.toNat < fr.length:=by lia
   have hk1:=hlt fr[u.toNat] (jA _ (jU hu));have hne:k0≠fr[u.toNat]:=λz=>hnd.1 (z▸jU hu);have hlen:=hh.len;have q0:=(j6.mp hk0).1;have q1:=(j6.mp hk1).1;have hxn:x=ol names (aA i):=by
    show x=names.getD i jC;rw[qU hi];exact(jh ((j3 hi).symm.trans hx)).symm
   have i0:=Df (n:=pl.length) q0;have i1:=Df (n:=pl.length) q1;have g0:aM (.lst ((k0::fr).map nT)) (.int 0)=aA (nT k0):=ln ((k0::fr).map nT) 0;have lf:bn (.lst ((k0::fr).map nT))=aA (.int ((fr.length:Int)+1)):=by rw[um,j4,jo]; rfl
   have gu:aM (.lst ((k0::fr).map nT)) (.int (1+u))=aA (nT fr[u.toNat]):=by
    have:(1+u:Int)=((u.toNat+1:Nat):Int):=by lia
    rw[this,ln,jp,gS,jf,j3 hu];rfl
   have sl:cm (.lst ((k0::fr).map nT)) (aA 1) aB=aA (.lst (fr.map nT)):=by
    show aA (T.lst (dW ((k0::fr).map nT) (aA 1) aB))=_;rw[nY,zr (k0::fr) (by lia) (by rw[jo]; lia)]; rfl
   generalize hFR:T.lst ((k0::fr).map nT)=FR at g0 lf gu sl;refine aV (s':=[aA y.t,aA (.lst (names.map T.str)),aA FR,aA (.lst (((pl.set k0 (aA i)).map (ol names)).map T.str)),aA (.str x),b]) (by simp?[g0,i0]; rw[NZ,NZ,<-hxn]) ?_
   refine aV (s':=[aA y'.t,aA (.lst (names.map T.str)),aA FR,aA (.lst (((pl.set k0 (aA i)).map (ol names)).map T.str)),aA (.str x),aA (.int ((fr[u.toNat]:Nat):Int))]) (by simp?[lf,Int.add_sub_cancel,eu,gu]) ?_
   refine aV (s':=[aA y'.t,aA (.lst (names.map T.str)),aA FR,aA (.lst ((((pl.set k0 (aA i)).set fr[u.toNat] (aA i)).map (ol names)).map T.str)),aA (.str x),aA (.int ((fr[u.toNat]:Nat):Int))]) (by simp?[Qi,i1]; rw[NZ (l:=pl.set k0 (aA i)),NZ (l:=(pl.set k0 (aA i)).map (ol names)),<-hxn]) ?_
   have l1:=rL (M:=[0,3]) (caps:=[aB,aA 5]) (fi:=bc (dS cm (dV 2) (f9 (dC (.int 1))) i4)) (dg:=bK 0) (ft:=dB (d2 dF (dV 0) (dV 1))) (fe:=dV 0) (s:=[aA y'.t,aA (.lst (names.map T.str)),aA FR,aA (.lst ((((pl.set k0 (aA i)).set fr[u.toNat] (aA i)).map (ol names)).map T.str)),aA (.str x),aA (.int ((fr[u.toNat]:Nat):Int))]) fr nT (fun(k:Nat)=>!aE ((k:Int)=((fr[u.toNat]:Nat):Int))) nT (by simp?[sl]) (by lia) (λk _=>⟨[aA (nT k),aA (.int ((fr[u.toNat]:Nat):Int))],rfl,by simp?[],λ_=>rfl,rfl⟩)
   have fe:(fr.filter fun(k:Nat)=>!aE ((k:Int)=((fr[u.toNat]:Nat):Int)))=fr.erase fr[u.toNat]:=by
    rw[hnd.2.erase_eq_filter];refine N6 λk _=>?_
    by_cases h:k=fr[u.toNat]
    ·simp[h]
    ·have:¬ ((k:Int)=((fr[u.toNat]:Nat):Int)):=by lia
     simp[h,this]
   rw[fe] at l1;refine ca (by simp?[l1]<;>rfl) ⟨y',fr.erase fr[u.toNat],(pl.set k0 (aA i)).set fr[u.toNat] (aA i),_,_,rfl,o',?_,hnd.2.sublist (List.erase_sublist),λk hk=>?_,?_⟩
   ·rw[ZI (jU hu)]; lia
   ·have hk':=List.mem_of_mem_erase hk;have n0:k0≠k:=λz=>hnd.1 (z▸hk');have n1:fr[u.toNat]≠k:=λz=>by
     rw[<-z] at hk;exact hnd.2.not_mem_erase hk
    rw[jq n1,jq n0];exact hlt k (jA _ hk')
   ·exact hh.next hi hk1 hk0 (ZE hne)
  ·rintro s ⟨y,fr,pl,a,b,rfl,oy,hl,hnd,hlt,hh⟩;rw[j4] at hh;obtain⟨ps,hp,rfl⟩:=hh.done;have hg:=Fy hn rfl hd hN hp;refine⟨_,by simp?[]<;>rfl,_,_,_,rfl,_,_,rfl,rfl,?_,λx hx=>?_⟩
   ·rw[jP]; exact hg
   ·rw[jP] at hx;obtain⟨k,hk,rfl⟩:=jz.mp hx;have hk':=hp.lt k hk;show names.getD k jC∈names;rw[qU hk']
    exact jU hk')
 exact⟨wd,y,e,gw⟩
end Dw
set_option maxHeartbeats 2000000
namespace Dw
open PySem L2 L3
def AU{z:Int}(h0:0<=z)(h:z < 26):aM (.str letters) (.int z)=aA (.str (Sx [97+z.toNat])):=by
 simp only[aM,dk,iE,UX,if_true,UB h0 h,jS];rfl
def tT(l m:ak)(h:l.length+m.length<=1000):bV (.str (Sx l)) (.str (Sx m))=aA (.str (Sx (l++m))):=by
 rw[Oa (by rw[qO,qO]; lia),Ly]
def sR(l:ak):Prop:=∀ c∈l,97<=c/\c<=122
def yo{l:ak}(h:sR l)(h1:1<=l.length)(h8:l.length<=8):lK (Sx l):=by
 unfold lK;rw[qO,t5];exact⟨h1,h8,h⟩
def F9{α:Type}(xs:List α){t:Int}(h:(xs.length:Int)<=t):dW xs aB (aA t)=xs:=by
 unfold dW HT.sIx;simp only[Wi,Nat.sub_zero];rw[aH (by lia),Js (by lia),jZ (jj _)]
structure NmOk (mk:aj) (m:Nat):Prop where
 nd:mk.Nodup
 nm:∀ x∈mk,lK x
 len:mk.length<=m
def KM:r8 (.int 10) (.int 18)=aA (.int 1000000000000000000):=by rfl
def iz(l:ak)(r:Int)(k:Nat):ak:=l.take 6++[97+k / 5,97+(((k:Int)+r)%26).toNat]
def Ra{l:ak}{r:Int}{j k:Nat}(h:iz l r j=iz l r k)(hj:j < 31)(hk:k < 31):j=k:=by
 unfold iz at h;have h2:=List.append_cancel_left h;simp only[List.cons.injEq] at h2;lia
def PN{l:ak}{r:Int}{k:Nat}(hl:sR l)(hk:k < 31):lK (Sx (iz l r k)):=by
 refine yo (λc hc=>?_) (by unfold iz; simp) (by unfold iz; rw[jk,Q2]; simp; lia)
 unfold iz at hc;obtain q |q:=jn.mp hc
 ·exact hl c (ZC q)
 ·simp only[jx,QZ,or_false] at q;lia
def UY:sR letters.cps.toList:=by unfold sR; decide +kernel
def Sq(c:Int){m:Nat}(hm:m<=30):∃ names:aj,A6 [.int c,.int m]=aA (.lst (names.map T.str))/\names.length<=m/\names.Nodup/\∀ x∈names,lK x:=by
 obtain⟨sz,hsz⟩:∃ sz:Nat,1+c%8=(sz:Int):=⟨(1+c%8).toNat,by lia⟩
 obtain⟨sp,hsp⟩:∃ sp:Nat,c / 3%(sz:Int)=(sp:Int):=⟨(c / 3%(sz:Int)).toNat,by rw[Wu (ZJ _ (by lia))]⟩
 have hspl:sp < sz:=by have:=Zh (c / 3) (show (0:Int) < sz by lia); lia
 obtain⟨t,e,wd,rfl,gw⟩:=ir (n:=11) (d:=w8) (ts:=[.int c,.int m]) (Q:=λt=>∃ wd:aj,t=.lst (wd.map T.str)/\NmOk wd m) (by
  unfold w8;show bG _ [aA (.int c),aA (.int m),aB,aB,aB,aB,aB,aB,aB,aB,aB] _;refine aV rfl ?_;refine aV (s':=[aA (.int c),aA (.int m),aA (.str letters),aA (.int sz),aB,aB,aB,aB,aB,aB,aB]) (by simp?[hsz]) ?_
  refine aV (s':=[aA (.int c),aA (.int m),aA (.str letters),aA (.int sz),aA (.int (c / 8%1000000000000000000)),aB,aB,aB,aB,aB,aB]) (by simp?[KM]) ?_
  refine aV rfl ?_;refine fZ (its:=eO 0 sz) (λi s=>∃(l:ak) (r:Int) (a:Option T),s=[aA (.int c),aA (.int m),aA (.str letters),aA (.int sz),aA (.int r),aA (.str (Sx l)),a,aB,aB,aB,aB]/\l.length=i/\sR l)
   (by simp?[qY (j:=(sz:Int)) (by lia) (by lia),Q3]<;>rfl) ⟨[],_,aB,rfl,rfl,λc hc=>by cases hc⟩ ?_ ?_
  ·rintro i z s hz ⟨l,r,a,rfl,hl,hlo⟩;obtain⟨hi,rfl⟩:=Fb hz;have b1:0<=r%26:=ZJ _ (by decide)
   have b2:r%26 < 26:=Zh _ (by decide)
   refine⟨_,by simp?[]<;>rfl,?_⟩
   refine aV (by simp?[AU b1 b2,tT l [97+(r%26).toNat] (by simp; lia)]<;>rfl) ?_
   refine ca (by simp?[]<;>rfl) ⟨_,_,_,rfl,by simp[hl],λc hc=>?_⟩
   obtain q |q:=jn.mp hc
   ·exact hlo c q
   ·have:c=97+(r%26).toNat:=by simpa using q
    lia
  rintro s ⟨l,r,a,rfl,hl,hlo⟩;rw[Fc] at hl;have lS:l.length<=ju:=nZ (by lia)
  have sl:∀ k:Nat,k<=l.length->cm (.str (Sx l)) aB (aA (k:Int))=aA (.str (Sx (l.take k))):=λk hk=>by
   have:=K8 l (j:=(k:Int)) (by lia) (by lia)
   simp only[cm,o7,qO,lS,if_true,this,Q3]
  have sf:∀ k:Nat,k<=l.length->cm (.str (Sx l)) (aA (k:Int)) aB=aA (.str (Sx (l.drop k))):=λk hk=>by
   have:=Oc l (j:=(k:Int)) (by lia) (by lia)
   simp only[cm,o7,qO,lS,if_true,this,Q3]
  have s6:cm (.str (Sx l)) aB (aA 6)=aA (.str (Sx (l.take 6))):=by
   by_cases h6:6<=l.length
   ·exact sl 6 h6
   ·have h7:YZ (Sx l) aB (aA 6)=Sx (l.take 6):=by
     have k:∀ n:Nat,n < 6->(Builtin.Str.strSliceIndices aB (aA 6) 1 n).length=n:=by decide +kernel
     have k:=k l.length (by lia)
     unfold YZ;rw[qO,k,jZ (by lia),aI (by simp)]
    simp only[cm,o7,qO,lS,if_true,h7]
  refine aV (s':=[aA (.int c),aA (.int m),aA (.str letters),aA (.int sz),aA (.int r),aA (.str (Sx l)),a,aA (.int sp),aB,aB,aB]) (by simp?[hsp]) ?_
  refine aV (s':=[aA (.int c),aA (.int m),aA (.str letters),aA (.int sz),aA (.int r),aA (.str (Sx l)),a,aA (.int sp),aA (.lst (([]:aj).map T.str)),aB,aB]) (by simp?[]<;>rfl) ?_
  refine zK (λs=>∃ mk,NmOk mk m/\s=[aA (.int c),aA (.int m),aA (.str letters),aA (.int sz),aA (.int r),aA (.str (Sx l)),a,aA (.int sp),aA (.lst (mk.map T.str)),aB,aB]) ?_ ?_
  ·by_cases h1:c / 5%3=1
   ·have r12:eN 1=aC/\eN ((sz:Int)+1)=aC:=⟨qY (by decide) (by decide),qY (by lia) (by lia)⟩
    have e3:((sz:Int)+1 - 1).toNat=sz:=by lia
    have er:eO 1 sz=(j7 sz).map λk=>nT (k+1):=by
     unfold eO;refine Qq λk _=>?_;rw[u7]; congr 1; lia
    have l1:=iu (M:=[8]) (caps:=[aB,aA 5]) (fi:=r6 (aF (dC (.int 1)) (aF (d2 bV (dV 3) (dC (.int 1))) aJ))) (dg:=bK 0) (fe:=dS cm (dV 1) i4 (f9 (dV 0))) (s:=[aA (.int c),aA (.int m),aA (.str letters),aA (.int sz),aA (.int r),aA (.str (Sx l)),a,aA (.int sp),aA (.lst (([]:aj).map T.str)),aB,aB]) (j7 sz) (λk=>nT (k+1)) (λk=>.str (Sx (l.take (k+1)))) (by simp?[r12,and_self,e3,er]) (by simp; lia) (by
     intro k hk;have hk':=je.mp hk;refine⟨_,by simp?[]<;>rfl,?_,rfl⟩
     simp?[sl (k+1) (by lia)])
    have l2:(j7 sz).map (λk=>T.str (Sx (l.take (k+1))))=((j7 sz).map λk=>Sx (l.take (k+1))).map T.str:=by rw[jP]; rfl
    rw[l2] at l1;have hmx:∀ mk:aj,iw (.lst (mk.map T.str)) aB (aA (m:Int))=aA (.lst ((mk.take m).map T.str)):=λmk=>by
     show aA (T.lst (dW (mk.map T.str) aB (aA (m:Int))))=_;rw[nY]
     by_cases hq:m<=mk.length
     ·rw[yv mk (by lia) (by lia),Q3]
     ·rw[F9 mk (by lia),jZ (by lia)]
    refine eF (r:=.nx _) (by simp?[bB h1,l1,hmx]<;>rfl) ⟨_,⟨?_,λx hx=>?_,?_⟩,rfl⟩
    ·refine NM (YW _ _) (J7 _ (R:=λa b=>a≠b/\a < sz/\b < sz) (λa b ⟨n,ha,hb⟩ z=>n ?_) (Zg (R:=λa b=>a≠b) (λ{a b} ha hb n=>⟨n,je.mp ha,je.mp hb⟩) ZS));have:=congrArg Yw (DD z);rw[Q2,Q2] at this;lia
    ·obtain⟨k,hk,rfl⟩:=jz.mp (ZC hx);have hk':=je.mp hk;exact yo (λc hc=>hlo c (ZC hc)) (by rw[Q2]; lia) (by rw[Q2]; lia)
    ·rw[Q2]; lia
   ·exact eF (r:=.nx _) (by simp?[bL h1]<;>rfl) ⟨[],⟨Zo,(λx hx=>by cases hx),by simp⟩,rfl⟩
  rintro s ⟨mk,hmk,rfl⟩;refine zK (λs=>∃ mk,NmOk mk m/\s=[aA (.int c),aA (.int m),aA (.str letters),aA (.int sz),aA (.int r),aA (.str (Sx l)),a,aA (.int sp),aA (.lst (mk.map T.str)),aB,aB]) ?_ ?_
  ·have far:∀ s:Sg,s=[aA (.int c),aA (.int m),aA (.str letters),aA (.int sz),aA (.int r),aA (.str (Sx l)),a,aA (.int sp),aA (.lst (mk.map T.str)),aB,aB]->du [8] [aB,aA 2,aA 5,aA 4] (i7 (aF (dV 1) aJ)) (bK 0) dR (d2 bV (d2 bV (dS cm (dV 2) i4 (f9 (dC (.int 6)))) (d2 aM (dV 1) (d2 dM (dV 0) (dC (.int 5))))) (d2 aM (dV 1) (d2 bv (d2 bV (dV 0) (dV 3)) (dC (.int 26))))) s=aA (.lst (((j7 m).map λk=>Sx (iz l r k)).map T.str),s):=by
    rintro s rfl
    have l1:=iu (M:=[8]) (caps:=[aB,aA 2,aA 5,aA 4]) (fi:=i7 (aF (dV 1) aJ)) (dg:=bK 0) (fe:=d2 bV (d2 bV (dS cm (dV 2) i4 (f9 (dC (.int 6)))) (d2 aM (dV 1) (d2 dM (dV 0) (dC (.int 5))))) (d2 aM (dV 1) (d2 bv (d2 bV (dV 0) (dV 3)) (dC (.int 26))))) (s:=[aA (.int c),aA (.int m),aA (.str letters),aA (.int sz),aA (.int r),aA (.str (Sx l)),a,aA (.int sp),aA (.lst (mk.map T.str)),aB,aB]) (j7 m) nT (λk=>.str (Sx (iz l r k))) (by simp?[uA (k:=m) (by lia),Q3,qd]) (by simp; lia) (by
     intro k hk;have hk':=je.mp hk;have x1:=AU (z:=(k:Int) / 5) (by lia) (by lia)
     have x2:=AU (z:=((k:Int)+r)%26) (ZJ _ (by decide)) (Zh _ (by decide))
     have n1:((k:Int) / 5).toNat=k / 5:=by lia
     rw[n1] at x1;have p1:=tT (l.take 6) [97+k / 5] (by simp; lia)
     have p2:=tT (l.take 6++[97+k / 5]) [97+(((k:Int)+r)%26).toNat] (by simp; lia)
     rw[Qn] at p2;refine⟨[aA (nT k),aA (.str letters),aA (.str (Sx l)),aA (.int r)],rfl,?_,rfl⟩
     simp?[s6,x1,p1,x2,p2]<;>rfl)
    rwa [show (j7 m).map (λk=>T.str (Sx (iz l r k)))=((j7 m).map λk=>Sx (iz l r k)).map T.str by rw[jP]; rfl] at l1
   have far:=far _ rfl
   by_cases h2:c / 5%3=2∨(24:Int) < m
   ·have ok:NmOk ((j7 m).map λk=>Sx (iz l r k)) m:=by
     refine⟨J7 _ (R:=λa b=>a≠b/\a < 31/\b < 31) (λa b ⟨n,ha,hb⟩ z=>n (Ra (DD z) ha hb)) (Zg (R:=λa b=>a≠b) (λ{a b} ha hb n=>⟨n,by have:=je.mp ha; lia,by have:=je.mp hb; lia⟩) ZS),λx hx=>?_,by simp⟩
     obtain⟨k,hk,rfl⟩:=jz.mp hx;exact PN hlo (by have:=je.mp hk; lia)
    refine eF (r:=.nx _) ?_ ⟨_,ok,rfl⟩
    by_cases h3:c / 5%3=2
    ·simp?[bB h3,far]
    ·simp?[bL h3,bB (show (24:Int) < m by lia),far]
   ·exact eF (r:=.nx _) (by simp?[bL (show ¬ c / 5%3=2 by lia),bL (show ¬ (24:Int) < m by lia)]<;>rfl) ⟨mk,hmk,rfl⟩
  rintro s ⟨mk,hmk,rfl⟩;refine fZ (its:=letters.cps.toList.map rE) (λi s=>∃(mk:aj) (a g h:Option T),s=[aA (.int c),aA (.int m),aA (.str letters),aA (.int sz),aA (.int r),aA (.str (Sx l)),a,aA (.int sp),aA (.lst (mk.map T.str)),g,h]/\NmOk mk m)
   (by simp?[]<;>rfl) ⟨mk,a,aB,aB,rfl,hmk⟩ ?_ ?_
  ·rintro i z s hz ⟨mk,a,g,h,rfl,hmk⟩;rw[jf] at hz;obtain⟨ch,hch,rfl⟩:=Qm hz;have lch:=UY ch (jy hch);have es:rE ch=.str (Sx [ch]):=rfl;rw[es];refine⟨_,rfl,?_⟩;have p1:=tT (l.take sp) [ch] (by simp; lia)
   have p2:=tT (l.take sp++[ch]) (l.drop (sp+1)) (by simp; lia)
   refine aV (s':=[aA (.int c),aA (.int m),aA (.str letters),aA (.int sz),aA (.int r),aA (.str (Sx l)),a,aA (.int sp),aA (.lst (mk.map T.str)),aA (.str (Sx [ch])),aA (.str (Sx (l.take sp++[ch]++l.drop (sp+1))))]) (by
    have sf1:cm (.str (Sx l)) (aA ((sp:Int)+1)) aB=aA (.str (Sx (l.drop (sp+1)))):=sf (sp+1) (by lia)
    simp?[sl sp (by lia),p1,sf1,p2]) ?_
   have nmx:lK (Sx (l.take sp++[ch]++l.drop (sp+1))):=by
    have hlen:(l.take sp++[ch]++l.drop (sp+1)).length=sz:=by
     simp only[jk,Q2,QY,jo,Zp];lia
    refine yo (λc hc=>?_) (by lia) (by lia)
    simp only[jn,jx,QZ,or_false] at hc;obtain (q |q) |q:=hc
    ·exact hlo c (ZC q)
    ·rw[q]; exact lch
    ·exact hlo c (List.mem_of_mem_drop q)
   generalize Sx (l.take sp++[ch]++l.drop (sp+1))=nx at nmx;have hml:=hmk.len
   by_cases hlt:(mk.length:Int) < m
   ·by_cases hin:nx∈mk
    ·exact ca (by simp?[bB hlt,bB hin]<;>rfl) ⟨mk,_,_,_,rfl,hmk⟩
    ·refine ca (by simp?[bB hlt,bL hin]<;>rfl) ⟨mk++[nx],_,_,_,rfl,⟨?_,λx hx=>?_,by rw[jk,Zu]; lia⟩⟩
     ·rw[jK];exact⟨hmk.nd,by simp,λa ha b hb e=>hin (by rw[j9] at hb; subst hb; subst e; exact ha)⟩
     ·obtain q |q:=jn.mp hx
      ·exact hmk.nm x q
      ·rw[j9.mp q]; exact nmx
   ·exact ca (by simp?[bL hlt]<;>rfl) ⟨mk,_,_,_,rfl,hmk⟩
  rintro s ⟨mk,a,g,h,rfl,hmk⟩
  exact⟨_,by simp?[]<;>rfl,_,_,rfl,mk,rfl,hmk⟩)
 exact⟨wd,e,gw.len,gw.nd,gw.nm⟩
end Dw
set_option maxHeartbeats 1000000
namespace Dw
open PySem L2 L3
def Gq:List (ak):=[[0,0],[0,1,2,0,1,2],[0,1,2,0,3,2,1,3],[0,1,2,3,4,0,1,2,3,4],[0,1,1,0],[0,1,2,3,4,2,1,0,3,4],[0,1,2,3,1,0,3,2]]
def tL(l:ak):T:=.lst (l.map nT)
def iA:T:=.lst (Gq.map tL)
def OK:∀ k,k < 7->∃ sh m,Gq[k]?=aA sh/\Pairing sh m/\1<=m/\m<=5/\oE (tL sh)=aA (.int ((m:Int) - 1))
 |0,_=>⟨_,1,rfl,.of_dec rfl rfl rfl,by lia,by lia,rfl⟩
 |1,_=>⟨_,3,rfl,.of_dec rfl rfl rfl,by lia,by lia,rfl⟩
 |2,_=>⟨_,4,rfl,.of_dec rfl rfl rfl,by lia,by lia,rfl⟩
 |3,_=>⟨_,5,rfl,.of_dec rfl rfl rfl,by lia,by lia,rfl⟩
 |4,_=>⟨_,2,rfl,.of_dec rfl rfl rfl,by lia,by lia,rfl⟩
 |5,_=>⟨_,5,rfl,.of_dec rfl rfl rfl,by lia,by lia,rfl⟩
 |6,_=>⟨_,4,rfl,.of_dec rfl rfl rfl,by lia,by lia,rfl⟩
 |k+7,h=>absurd h (by lia)
def Il:T->Nat
 |.lst xs=>xs.length
 |_=>0
def Ik(s:Sg):Nat:=Il ((s[4]?).join.getD .non)
def RP{x:Bag2}(hx:x.Ok){names:aj}(hn:names.length<=30)(hd:names.Nodup)(hN:∀ x∈names,lK x):∃(wd:aj) (y:Bag2),BC [x.t,.lst (names.map T.str)]=aA (.lst (wd.map T.str),y.t)/\GoodWord wd/\∀ x∈wd,x∈names:=by
 obtain⟨t,u,e,wd,y,rfl,rfl,gw⟩:=vT (n:=7) (d:=wy) (ts:=[x.t,.lst (names.map T.str)]) (Q:=λt u=>∃(wd:aj) (y:Bag2),t=.lst (wd.map T.str)/\u=y.t/\GoodWord wd/\∀ x∈wd,x∈names) (by
  unfold wy;refine aV (by rfl) ?_
  refine aV (by rfl) ?_
  refine aV (by simp?[]<;>rfl) ?_
  refine aV (by simp?[]<;>rfl) ?_
  refine re (λs=>∃(y:Bag2) (ps:ak) (c:Nat) (a b:Option T),s=[aA y.t,aA (.lst (names.map T.str)),aA iA,aA (.lst ((ps.map λk=>names.getD k jC).map T.str)),aA (.lst ((names.drop c).map T.str)),a,b]/\y.Ok/\Pairing ps c/\c<=names.length)
   Ik (by show ((names.drop 0).map T.str).length < 100; simp; lia) ⟨x,[],0,_,_,rfl,hx,.nil,by lia⟩ ?_ ?_
  ·rintro s ⟨y,ps,c,a,b,rfl,oy,hp,hc⟩;refine⟨aE (c < names.length),[aA y.t,aA (.lst (names.map T.str)),aA iA,aA (.lst ((ps.map λk=>names.getD k jC).map T.str)),aA (.lst ((names.drop c).map T.str)),a,b],?_,?_⟩
   ·simp?[]
    congr 3
    simp;lia
   obtain hlt |hlt:=NT c names.length
   case inr=>rw[aH (by simpa using hlt)]; trivial
   rw[aI (by simpa using hlt)]
   obtain⟨z,y1,e1,o1,a1,b1⟩:=vQ oy 7 (by decide) (by decide)
   obtain⟨k,rfl⟩:∃ k:Nat,z=(k:Int):=⟨z.toNat,by lia⟩
   obtain⟨sh0,m0,at0,hp0,hm0,hm0',gm0⟩:=OK k (by lia)
   have i0:aM iA (.int (k:Int))=aA (tL sh0):=by
    unfold iA;rw[ln,jf,at0]; rfl
   have i00:aM iA (.int 0)=aA (tL [0,0]):=rfl;have hpl:=hp.len;have hl4:bn (.lst ((names.drop c).map T.str))=aA (.int ((names.length - c:Nat):Int)):=by rw[um,j4,QY]
   refine aV (s':=[aA y1.t,aA (.lst (names.map T.str)),aA iA,aA (.lst ((ps.map λk=>names.getD k jC).map T.str)),aA (.lst ((names.drop c).map T.str)),aA (tL sh0),b]) (by simp?[e1,i0]) ?_
   refine zK (λs=>∃ sh m,s=[aA y1.t,aA (.lst (names.map T.str)),aA iA,aA (.lst ((ps.map λk=>names.getD k jC).map T.str)),aA (.lst ((names.drop c).map T.str)),aA (tL sh),b]/\Pairing sh m/\1<=m/\m<=5/\c+m<=names.length/\oE (tL sh)=aA (.int ((m:Int) - 1))) ?_ ?_
   ·by_cases hg:c+m0<=names.length
    ·exact eF (r:=.nx _) (by simp?[gm0,hl4,bL (show ¬ ((names.length - c:Nat):Int)<=(m0:Int) - 1 by lia)]<;>rfl) ⟨sh0,m0,rfl,hp0,hm0,hm0',hg,gm0⟩
    ·exact eF (r:=.nx _) (by simp?[gm0,hl4,i00,bB (show ((names.length - c:Nat):Int)<=(m0:Int) - 1 by lia)]<;>rfl) ⟨[0,0],1,rfl,.of_dec rfl rfl rfl,by lia,by lia,by lia,rfl⟩
   rintro s ⟨sh,m,rfl,hps,hm1,hm2,hcm,gm⟩;have hsl:=hps.len;obtain⟨z2,y2,e2,o2,a2,b2⟩:=vQ o1 ((ps.length:Int)+1) (by lia) (by lia)
   obtain⟨p,rfl⟩:∃ p:Nat,z2=(p:Int):=⟨z2.toNat,by lia⟩
   refine aV (s':=[aA y2.t,aA (.lst (names.map T.str)),aA iA,aA (.lst ((ps.map λk=>names.getD k jC).map T.str)),aA (.lst ((names.drop c).map T.str)),aA (tL sh),aA (.int (p:Int))]) (by simp?[e2]) ?_
   have l1:=iu (M:=[0]) (caps:=[aB,aA 4]) (fi:=bc (dV 5)) (dg:=bK 0) (fe:=d2 aM (dV 1) (dV 0)) (s:=[aA y2.t,aA (.lst (names.map T.str)),aA iA,aA (.lst ((ps.map λk=>names.getD k jC).map T.str)),aA (.lst ((names.drop c).map T.str)),aA (tL sh),aA (.int (p:Int))]) sh nT (λk=>T.str (names.getD (c+k) jC)) (by unfold tL; simp?[]) (by lia) (by
    intro k hk;have hk':=hps.lt k hk;refine⟨[aA (nT k),aA (.lst ((names.drop c).map T.str))],rfl,?_,rfl⟩;have:aM (.lst ((names.drop c).map T.str)) (.int (k:Int))=aA (.str (names.getD (c+k) jC)):=by
     rw[ln,jf,WN,j3 (by lia),qU (by lia)]; rfl
    simp?[this])
   have l2:sh.map (λk=>T.str (names.getD (c+k) jC))=((sh.map λk=>c+k).map λk=>names.getD k jC).map T.str:=by rw[jP,jP]; rfl
   rw[l2] at l1;have c1:cm (.lst ((ps.map λk=>names.getD k jC).map T.str)) aB (aA (p:Int))=aA (.lst (((ps.take p).map λk=>names.getD k jC).map T.str)):=by
    show aA (T.lst (dW _ aB (aA (p:Int))))=_;rw[nY,nY,yv ps (by lia) (by lia),Q3]
   have c2:cm (.lst ((ps.map λk=>names.getD k jC).map T.str)) (aA (p:Int)) aB=aA (.lst (((ps.drop p).map λk=>names.getD k jC).map T.str)):=by
    show aA (T.lst (dW _ (aA (p:Int)) aB))=_;rw[nY,nY,zr ps (by lia) (by lia),Q3]
   have c3:cm (.lst ((names.drop c).map T.str)) (aA (m:Int)) aB=aA (.lst ((names.drop (c+m)).map T.str)):=by
    show aA (T.lst (dW _ (aA (m:Int)) aB))=_;rw[nY,zr (names.drop c) (by lia) (by rw[QY]; lia),Q3,List.drop_drop]
   have c4:(m:Int) - 1+1=m:=by lia
   have p1:bV (.lst (((ps.take p).map λk=>names.getD k jC).map T.str)) (.lst (((sh.map λk=>c+k).map λk=>names.getD k jC).map T.str))=aA (.lst (((ps.take p++sh.map λk=>c+k).map λk=>names.getD k jC).map T.str)):=by
    rw[ya (by simp; lia),<-jF,<-jF]
   have p2:bV (.lst (((ps.take p++sh.map λk=>c+k).map λk=>names.getD k jC).map T.str)) (.lst (((ps.drop p).map λk=>names.getD k jC).map T.str))=aA (.lst (((ps.take p++(sh.map λk=>c+k)++ps.drop p).map λk=>names.getD k jC).map T.str)):=by
    rw[ya (by simp; lia),<-jF,<-jF]
   refine aV (s':=[aA y2.t,aA (.lst (names.map T.str)),aA iA,aA (.lst (((ps.take p++(sh.map λk=>c+k)++ps.drop p).map λk=>names.getD k jC).map T.str)),aA (.lst ((names.drop c).map T.str)),aA (tL sh),aA (.int (p:Int))]) (by simp?[c1,l1,p1,c2,p2]) ?_
   refine ca (s':=[aA y2.t,aA (.lst (names.map T.str)),aA iA,aA (.lst (((ps.take p++(sh.map λk=>c+k)++ps.drop p).map λk=>names.getD k jC).map T.str)),aA (.lst ((names.drop (c+m)).map T.str)),aA (tL sh),aA (.int (p:Int))]) (by simp?[gm,c4,c3]) ⟨⟨y2,_,c+m,_,_,rfl,o2,hp.put hps,hcm⟩,?_⟩
   show ((names.drop (c+m)).map T.str).length < ((names.drop c).map T.str).length;rw[j4,j4,QY,QY];lia
  ·rintro s0 s' ⟨y,ps,c,a,b,rfl,oy,hp,hc⟩ hf;have hcc:c=names.length:=by
    have e:(dB (d2 iF (d1 bn (dV 4)) (dC (.int 0)))) [aA y.t,aA (.lst (names.map T.str)),aA iA,aA (.lst ((ps.map λk=>names.getD k jC).map T.str)),aA (.lst ((names.drop c).map T.str)),a,b]=aA (aE (0 < ((names.drop c).map T.str).length),[aA y.t,aA (.lst (names.map T.str)),aA iA,aA (.lst ((ps.map λk=>names.getD k jC).map T.str)),aA (.lst ((names.drop c).map T.str)),a,b]):=by
     simp?[]
     congr 3
     simp
    rw[e] at hf;have:=congrArg Up (jh hf);have:=of_decide_eq_false this;simp at this;lia
   subst hcc;have hs':s'=[aA y.t,aA (.lst (names.map T.str)),aA iA,aA (.lst ((ps.map λk=>names.getD k jC).map T.str)),aA (.lst ((names.drop names.length).map T.str)),a,b]:=by
    have e:(dB (d2 iF (d1 bn (dV 4)) (dC (.int 0)))) [aA y.t,aA (.lst (names.map T.str)),aA iA,aA (.lst ((ps.map λk=>names.getD k jC).map T.str)),aA (.lst ((names.drop names.length).map T.str)),a,b]=aA (aE (((0:Int) < ((names.drop names.length).map T.str).length)),[aA y.t,aA (.lst (names.map T.str)),aA iA,aA (.lst ((ps.map λk=>names.getD k jC).map T.str)),aA (.lst ((names.drop names.length).map T.str)),a,b]):=by simp?[]
    rw[e] at hf;exact(congrArg U5 (jh hf)).symm
   subst hs';have hg:=Fy hn rfl hd hN hp;refine⟨_,by simp?[]<;>rfl,_,_,_,rfl,_,_,rfl,rfl,hg,λx hx=>?_⟩
   obtain⟨k,hk,rfl⟩:=jz.mp hx;have hk':=hp.lt k hk;rw[qU hk']
   exact jU hk')
 exact⟨wd,y,e,gw⟩
def Ru(c:Int){names:aj}(hn:names.length<=30)(hd:names.Nodup)(hN:∀ x∈names,lK x):∃ wd:aj,zk [.int c,.lst (names.map T.str)]=aA (.lst (wd.map T.str))/\GoodWord wd/\∀ x∈wd,x∈names:=by
 have c8:∃ n8:aj,cm (.lst (names.map T.str)) aB (aA 8)=aA (.lst (n8.map T.str))/\n8.length<=30/\n8.Nodup/\(∀ x∈n8,x∈names):=by
  by_cases h8:8<=names.length
  ·refine⟨names.take 8,?_,by rw[Q2]; lia,hd.sublist (YW _ _),λx hx=>ZC hx⟩
   show aA (T.lst (dW _ aB (aA 8)))=_;rw[nY,yv names (by lia) (by lia)]; rfl
  ·refine⟨names,?_,hn,hd,λx hx=>hx⟩;show aA (T.lst (dW _ aB (aA 8)))=_;rw[nY,F9 names (by lia)]
 obtain⟨n8,e8,l8,d8,s8⟩:=c8;obtain⟨B,eb,ob⟩:=yu c;obtain⟨B2,eb2,ob2⟩:=yu (c / 2);obtain⟨w1,y1,e1,g1,s1⟩:=M1 ob l8 d8 (λx hx=>hN x (s8 x hx));obtain⟨w2,y2,e2,g2,s2⟩:=RP ob2 hn hd hN
 by_cases h:c%2=1
 ·refine⟨w1,?_,g1,λx hx=>s8 x (s1 x hx)⟩;refine eT ?_;show bG vn [aA (.int c),aA (.lst (names.map T.str))] _;exact w4 (s':=[aA (.int c),aA (.lst (names.map T.str))]) (by simp?[bB h,eb,e8,e1]) rfl
 ·refine⟨w2,?_,g2,s2⟩;refine eT ?_;show bG vn [aA (.int c),aA (.lst (names.map T.str))] _;refine aV (s':=[aA (.int c),aA (.lst (names.map T.str))]) (by simp?[bL h]) ?_
  exact f8 (s':=[aA (.int c),aA (.lst (names.map T.str))]) (by simp?[eb2,e2]) rfl
def iZ(l:aj):List (aL × T):=l.map λx=>(.inr x,.bl aC)
def dv(l:aj)(x:Str):dI (iZ l) (.inr x) (.bl aC)=iZ (dE l x):=by
 have ha:((iZ l).any λkv=>aE (kv.1=ZA x))=aE (x∈l):=by
  unfold iZ;rw[Jg]
  induction l with
  |nil=>rfl
  |cons y l ih=>
   rw[Zm,ih]
   by_cases h:y=x
   ·subst h; simp
   ·have:¬ x=y:=λq=>h q.symm;simp[h,this]
 unfold dI dE;rw[ha]
 by_cases h:x∈l
 ·rw[aI (by simpa using h),aI h]
  unfold iZ;rw[jP];refine Qq λy _=>?_;show (if (ZA y:aL)=ZA x then _ else _)=_
  split<;>rfl
 ·rw[aH (by simpa using h),aH h]
  unfold iZ;rw[jF]; rfl
def Ef(s:Sg):∀(wd acc:aj),lW [] [aB] (bK 0) dR (dV 0) (dC (.bl aC)) (wd.map T.str) (iZ acc) s=aA (iZ (wd.foldl dE acc),s)
 |[],acc=>rfl
 |x::wd,acc=>by
  show lW [] [aB] (bK 0) dR (dV 0) (dC (.bl aC)) (wd.map T.str) (dI (iZ acc) (.inr x) (.bl aC)) s=_;rw[dv,Ef s wd,QU]
def Fs{wd:aj}(h:wd.length<=1000):wa [aA (.lst (wd.map T.str))]=aA (.rt (.lst ((aK wd).map T.str)) [aA (.lst (wd.map T.str))]):=by
 have h1:=Ef [aA (.lst (wd.map T.str))] wd [];have hlc:wd.length<=zgq:=xu (by lia)
 have e0:iZ []=[]:=rfl;rw[e0] at h1;have l1:nP (.dct (iZ (aK wd)))=aA (.lst ((aK wd).map T.str)):=by
  show aA (T.lst ((iZ (aK wd)).map λkv=>kT kv.1))=_;unfold iZ;rw[jP]; rfl
 have h2:nq [] [aB] (bc (dV 0)) (bK 0) dR (dV 0) (dC (.bl aC)) [aA (.lst (wd.map T.str))]=aA (.dct (iZ (aK wd)),[aA (.lst (wd.map T.str))]):=by
  unfold nq
  simp?[hlc,h1]
  rfl
 unfold wa
 simp?[h2,l1]
def wI{wd:aj}(h:wd.length<=1000):n4 [.lst (wd.map T.str)]=aA (.lst ((aK wd).map T.str)):=by
 first
  |exact yX (Fs h)
  |exact EG (Fs h)
def GO{wd:aj}(h:wd.length<=1000)(x:Str):tz [.lst (wd.map T.str),.str x]=aA (.lst ((cJ wd x).map nT)):=by
 have e:=rL (M:=[]) (caps:=[aB,aB,aA 1]) (fi:=sL (aF (dV 0) aJ)) (dg:=fK [0,1]) (ft:=dB (d2 cK (dV 1) (dV 2))) (fe:=dV 0) (s:=[aA (.lst (wd.map T.str)),aA (.str x)]) wd.zipIdx (λp=>T.tup [.int (p.2:Nat),.str p.1]) (λp=>aE (p.1=x)) (λp=>nT p.2) (by simp?[Eg]) (by simp; lia) (by
  intro p hp
  refine⟨_,by simp?[]<;>rfl,by simp?[],λ_=>by simp?[],rfl⟩)
 have e2:(wd.zipIdx.filter λp=>aE (p.1=x)).map (λp=>nT p.2)=(cJ wd x).map nT:=by
  rw[show (fun(p:Str × Nat)=>nT p.2)=nT∘U5 from rfl,<-jP]
  congr 1
  unfold cJ;refine(?_:_=(j7 wd.length).filter _);have q:∀(l:aj) (n:Nat) (g:Nat->Bool),(∀ j (hj:j < l.length),g (n+j)=aE (l[j]=x))->((l.zipIdx n).filter λp=>aE (p.1=x)).map U5=((j7 l.length).map (n+·)).filter g:=by
   intro l
   induction l with
   |nil=>intro n g _; rfl
   |cons y l ih=>
    intro n g hg;have h0:=hg 0 (by simp)
    rw[Nv,Zt,jo,gV,jp,Zt];have hr:=ih (n+1) g (λj hj=>by have:=hg (j+1) (by simp; lia); rw[show n+1+j=n+(j+1) by lia]; simpa using this)
    have hm:(List.map (λx=>n+x) (List.map Nat.succ (j7 l.length)))=(j7 l.length).map (λx=>n+1+x):=by
     rw[jP]; refine Qq λj _=>?_;show n+(j+1)=n+1+j; lia
    rw[hm];have h0':g (n+0)=aE (y=x):=by simpa using h0
    simp only[Nat.add_zero] at h0' ⊢;rw[h0']
    by_cases hy:y=x
    ·simp only[hy,decide_true,if_true,jp,hr]
    ·simp only[hy,decide_false,Zf,if_false,hr]
  have:=q wd 0 (λj=>aE (wd[j]?=aA x)) (λj hj=>by rw[Z0,j3 hj]; simp)
  rw[this]
  congr 1
  simp
 rw[e2] at e;refine eT ?_;show bG wV [aA (.lst (wd.map T.str)),aA (.str x)] _;unfold wV;exact f8 (by simp?[e]<;>rfl) rfl
def TU{wd:aj}(h:wd.length<=1000){x:Str}{i j:Nat}(hp:cJ wd x=[i,j]):AO [.lst (wd.map T.str),.str x]=aA (.lst ((iY wd i j).map T.str)):=by
 have st:=GO h x;rw[hp] at st;obtain⟨h1,h2⟩:=qk hp;refine eT ?_;show bG wO [aA (.lst (wd.map T.str)),aA (.str x),aB,aB] _;unfold wO;refine aV (by simp?[st,jp,Zb]<;>rfl) ?_
 have c:=RT (wd.map T.str) (t:=(i:Int)+1) (u:=(j:Int)) (by lia) (by lia) (by simp; lia)
 have e1:((i:Int)+1).toNat=i+1:=by lia
 rw[e1,Q3] at c;refine f8 (by simp?[cm,iw,c]<;>rfl) ?_
 unfold iY;rw[WF,WE]
def GY{wd:aj}(h:wd.length<=1000){x:Str}{i j:Nat}(hp:cJ wd x=[i,j]):sG [.lst (wd.map T.str),.str x]=aA (.lst (((aK wd).filter (bT wd x)).map T.str)):=by
 have hb:=TU h hp;have hn:=wI h;have hf:=zj wd
 have e:=rL (M:=[]) (caps:=[aB,aA 2]) (fi:=bc (av n4 (aF (dV 0) aJ))) (dg:=bK 0) (ft:=dB (d2 cK (qu rJ (dV 1) (dV 0)) (dC (.int 1)))) (fe:=dV 0) (s:=[aA (.lst (wd.map T.str)),aA (.str x),aA (.lst ((iY wd i j).map T.str))]) (aK wd) T.str (bT wd x) T.str (by simp?[hn]) (by lia) (by
  intro y hy;refine⟨_,by simp?[]<;>rfl,?_,λ_=>by simp?[],rfl⟩
  have e1:aE (((((iY wd i j).count y:Nat):Int))=1)=aE ((iY wd i j).count y=1):=by
   by_cases q:(iY wd i j).count y=1
   ·rw[q]; rfl
   ·rw[bL q,bL (by lia)]
  simp?[e1,rH hp])
 have key:bG wp [aA (.lst (wd.map T.str)),aA (.str x),aB] λr=>∃ s,r=.rt (.lst (((aK wd).filter (bT wd x)).map T.str)) s:=by
  unfold wp;refine aV (by simp?[hb]<;>rfl) ?_
  exact f8 (by simp?[e]<;>rfl) rfl
 first
  |exact tD key
  |exact eT key
def c9(ns:aj)(adj:ag):T:=.fd (ns.map λx=>(ZA x,.lst ((cU ns adj x).map T.str)))
def oV{ns:aj}{adj:ag}{x:Str}(h:x∈ns):aM (c9 ns adj) (.str x)=aA (.lst ((cU ns adj x).map T.str)):=by
 unfold c9;rw[tQ,qZ,Ek h];rfl
def rg(ns:aj)(adj:ag)(s s':Sg)(f:DE)(h:f s=aA (c9 ns adj,s')):bc f s=aA (ns.map T.str,s'):=by
 unfold bc;rw[h];unfold c9;simp only[jb,jP];rfl
def yP{ns:aj}{adj:ag}(g:Gr ns adj)(x:Str):(cU ns adj x).length<=30:=Qc (Zw _ _) g.len
def oQ{ns:aj}{j:Nat}{z:T}(h:(ns.map T.str)[j]?=aA z):∃ x,ns[j]?=aA x/\z=.str x:=by
 rw[jf] at h;obtain⟨x,h1,h2⟩:=Qm h;exact⟨x,h1,h2.symm⟩
def lT{ns:aj}{P:Str->Prop}{j:Nat}{x:Str}(h:∀ y∈ns.take j,P y)(hx:ns[j]?=aA x)(p:P x):∀ y∈ns.take (j+1),P y:=by
 intro y hy;rw[ZT,hx] at hy;obtain hy |hy:=jn.mp hy
 ·exact h y hy
 ·have:y=x:=by simpa using hy
  rw[this]; exact p
def fN:Option Str->T
 |none=>.non
 |some x=>.str x
def Ut{ns:aj}{adj:ag}(g:Gr ns adj):∃ r:Option Str,Au [c9 ns adj]=aA (fN r)/\(∀ x,r=aA x->x∈ns/\(cU ns adj x).length%2=1)/\(r=aB->∀ x∈ns,(cU ns adj x).length%2=0):=by
 obtain⟨t,h,r,rfl,h1,h2⟩:=ir (n:=2) (d:=wc) (ts:=[c9 ns adj]) (Q:=λt=>∃ r:Option Str,t=fN r/\(∀ x,r=aA x->x∈ns/\(cU ns adj x).length%2=1)/\(r=aB->∀ x∈ns,(cU ns adj x).length%2=0)) (by
  unfold wc;refine zU (its:=ns.map T.str) (λj s=>(∀ y∈ns.take j,(cU ns adj y).length%2=0)/\∃ a,s=[aA (c9 ns adj),a]) (rg ns adj _ _ _ rfl) ⟨λy hy=>by simp at hy,_,rfl⟩ ?_ ?_
  ·rintro j z s hz ⟨hj,a,rfl⟩;obtain⟨x,hx,rfl⟩:=oQ hz;have hxn:=jy hx;refine⟨_,by simp?[]<;>rfl,?_⟩
   by_cases hp:(cU ns adj x).length%2=1
   ·have e1:aE ((((cU ns adj x).length:Nat):Int)%2=1)=aC:=bB (by lia)
    exact yp (by simp?[oV hxn,e1]<;>rfl) ⟨_,_,rfl,aA x,rfl,λy e=>by injection e with e; subst e; exact⟨hxn,hp⟩,λe=>by cases e⟩
   ·have e1:aE ((((cU ns adj x).length:Nat):Int)%2=1)=aD:=bL (by lia)
    exact tG (by simp?[oV hxn,e1]<;>rfl) ⟨lT hj hx (by lia),_,rfl⟩
  ·rintro s ⟨hj,a,rfl⟩;refine eF (by simp?[]<;>rfl) ⟨_,_,rfl,aB,rfl,λx e=>(by cases e),λ_ x hx=>hj x ?_⟩
   rw[j4,Qj]; exact hx)
 exact⟨r,h,h1,h2⟩
def FF:∀(l acc:aj),(acc++l).Nodup->l.foldl dE acc=acc++l
 |[],acc,_=>by simp
 |x::l,acc,h=>by
  rw[QU];have hx:x∉acc:=λz=>(jK.mp h).2.2 x z x (.head _) rfl;have e:dE acc x=acc++[x]:=by unfold dE; rw[aH hx]
  rw[e,FF l (acc++[x]) (by simpa using h)]
  simp
def Fx{l:aj}(h:l.Nodup):aK l=l:=by
 have:=FF l [] (by simpa using h)
 rwa [NW] at this
def RN{ns:aj}{adj:ag}(g:Gr ns adj)(x y:Str):ud (cU ns adj x) (cU ns adj y)=qo ns adj x y:=by
 unfold ud qo cU;rw[Fx (g.nd.filter _),Fx (g.nd.filter _)];rw[WM]
 congr 1
 refine N6 λz hz=>?_;rw[U6]
 congr 1
 simp[jQ,hz]
def G4:∀(l:aj),nL (l.map T.str)=aA l
 |[]=>rfl
 |k::l=>by show (nL (l.map T.str)).map (k::·)=_; rw[G4 l]; rfl
def Pm{a b:aj}(ha:a.length < 900)(hb:b.length < 900):vW (.lst (a.map T.str)) (.lst (b.map T.str))=aA (.int (ud a b:Nat)):=by
 simp only[vW,G4,jb];rw[aI ha,aI hb]
def FD{ns:aj}{adj:ag}(g:Gr ns adj){x y:Str}(hx:x∈ns)(hy:y∈ns):xD [c9 ns adj,.str x,.str y]=aA (.bl (bS ns adj x y)):=by
 have h1:=yP g x;have h2:=yP g y;refine eT ?_;show bG ww [aA (c9 ns adj),aA (.str x),aA (.str y)] _;unfold ww;refine f8 (by simp?[oV hx,oV hy,Pm (a:=cU ns adj x) (b:=cU ns adj y) (by lia) (by lia),RN g]<;>rfl) ?_
 unfold bS
 congr 1
 rw[decide_eq_decide];lia
def mem_mts{ns:aj}{adj:ag}{x y:Str}:y∈cU ns adj x↔y∈ns/\adj x y=aC:=by unfold cU; rw[jQ]
def nX(ns:aj)(adj:ag)(x y:Str):Prop:=x≠y/\adj x y=aD/\bS ns adj x y=aD
def Uu{ns:aj}{adj:ag}(g:Gr ns adj):∃ r:Option (Str × Str),Ah [c9 ns adj]=aA (match r with |none=>.non |some (x,y)=>.tup [.str x,.str y])/\(∀ x y,r=aA (x,y)->x∈ns/\y∈ns/\nX ns adj x y)/\(r=aB->∀ x∈ns,∀ y∈ns,¬ nX ns adj x y):=by
 obtain⟨t,h,r,rfl,h1,h2⟩:=ir (n:=4) (d:=we) (ts:=[c9 ns adj]) (Q:=λt=>∃ r:Option (Str × Str),t=(match r with | none=>.non | some (x,y)=>.tup [.str x,.str y])/\(∀ x y,r=aA (x,y)->x∈ns/\y∈ns/\nX ns adj x y)/\(r=aB->∀ x∈ns,∀ y∈ns,¬ nX ns adj x y)) (by
  unfold we;refine zU (its:=ns.map T.str) (λj s=>(∀ x∈ns.take j,∀ y∈ns,¬ nX ns adj x y)/\∃ a b c,s=[aA (c9 ns adj),a,b,c]) (rg ns adj _ _ _ rfl) ⟨λy hy=>by simp at hy,_,_,_,rfl⟩ ?_ ?_
  ·rintro j z s hz ⟨hj,a,b,c,rfl⟩;obtain⟨x,hx,rfl⟩:=oQ hz;have hxn:=jy hx;refine⟨_,by simp?[]<;>rfl,?_⟩
   refine GT (its:=ns.map T.str) (λj s=>(∀ y∈ns.take j,¬ nX ns adj x y)/\∃ b c,s=[aA (c9 ns adj),aA (.str x),b,c]) (rg ns adj _ _ _ rfl) ⟨λy hy=>by simp at hy,_,_,rfl⟩ ?_ ?_
   ·rintro i z s hz ⟨hi,b,c,rfl⟩;obtain⟨y,hy,rfl⟩:=oQ hz;have hyn:=jy hy;refine⟨_,by simp?[]<;>rfl,?_⟩
    have ev:=FD g hxn hyn;have e1:(aE (y∈cU ns adj x))=adj x y:=by
     rw[Ze,decide_eq_true_iff,mem_mts];exact⟨λh=>h.2,λh=>⟨hyn,h⟩⟩
    by_cases hxy:y=x
    ·subst hxy;refine aV (by simp?[]<;>rfl) ?_
     exact tG (by simp?[]<;>rfl) ⟨lT hi hy (λq=>q.1 rfl),_,_,rfl⟩
    ·have hxy':¬ x=y:=λe=>hxy e.symm;cases ha:adj x y with
     |true=>
      rw[ha] at e1;refine aV (by simp?[oV hxn,hxy,e1]<;>rfl) ?_
      refine tG (by simp?[]<;>rfl) ⟨lT hi hy (λq=>?_),_,_,rfl⟩
      rw[q.2.1] at ha; cases ha
     |false=>
      rw[ha] at e1;refine aV (by simp?[oV hxn,hxy,e1]<;>rfl) ?_
      cases hE:bS ns adj x y with
      |true=>
       rw[hE] at ev;refine tG (by simp?[ev]<;>rfl) ⟨lT hi hy (λq=>?_),_,_,rfl⟩
       rw[q.2.2] at hE; cases hE
      |false=>
       rw[hE] at ev;exact yp (by simp?[ev]<;>rfl) ⟨_,_,rfl,aA (x,y),rfl,λu v e=>by injection e with e; injection e with e1 e2; subst e1 e2; exact⟨hxn,hyn,hxy',ha,hE⟩,λe=>by cases e⟩
   ·rintro s ⟨hi,b,c,rfl⟩;rw[j4,Qj] at hi;exact⟨lT hj hx hi,_,_,_,rfl⟩
  ·rintro s ⟨hj,a,b,c,rfl⟩;rw[j4,Qj] at hj
   exact eF (by simp?[]<;>rfl) ⟨_,_,rfl,aB,rfl,λx y e=>(by cases e),λ_=>hj⟩)
 exact⟨r,h,h1,h2⟩
def Fu{ft:DT}{db:DS}{n:Nat}{s:Sg}{Q:Fl->Prop}(I:Sg->Prop)(μ:Sg->Nat)(hn:μ s < n)(h0:I s)(hs:∀ s,I s->∃ b s1,ft s=aA (b,s1)/\if b=aC then bG db s1 (sS λs2=>I s2/\μ s2 < μ s) else True)
  (k:∀ s0 s',I s0->ft s0=aA (aD,s')->Q (.nx s')):bG (fE ft db n) s Q:=by
 obtain⟨r,h1,h2⟩:=re (d:=bq) (Q:=λr=>∃ s',r=.nx s'/\∃ s0,I s0/\ft s0=aA (aD,s')) I μ hn h0 hs λs0 s' a b=>⟨_,rfl,s',rfl,s0,a,b⟩;obtain⟨s',rfl,s0,a,b⟩:=h2;refine⟨.nx s',?_,k s0 s' a b⟩;unfold aN at h1;obtain⟨r,h3,h4⟩:=Qb h1;cases r with
 |nx s2=>
  have h4:=h4;injection h4 with h4;injection h4 with h4;rw[h3,h4]
 |rt t s2=>cases h4
 |bk s2=>cases h4
 |ct s2=>cases h4
def rj:∀(l m:aj),l.Nodup->(∀ x∈l,x∈m)->l.length<=m.length
 |[],m,_,_=>QQ _
 |x::l,m,nd,h=>by
  obtain⟨n1,n2⟩:=Qh.mp nd;have hx:=h x (.head _);have ih:=rj l (m.erase x) n2 λy hy=>(gx (λe:y=x=>n1 (by rw[<-e]; exact hy))).mpr (h y (.tail _ hy))
  have:=ZI hx;have hp:=gY hx;rw[jo];lia
def zJ{c:DT}{f g:DS}{s s':Sg}{Q:Fl->Prop}(h:c s=aA (aC,s'))(k:bG f s' Q):bG (bj c f g) s Q:=by
 obtain⟨r,h1,h2⟩:=k;refine⟨r,?_,h2⟩;unfold bj;rw[h,jb];exact h1
def bd(O:eM):List (aL × T):=O.map λe=>(ZA e.1,fN e.2)
def S8{O:eM}:∀(x:Str),((O.find? λe=>aE ((ZA e.1:aL)=ZA x)).map λe=>fN e.2).isSome=aE (x∈ao O):=λx=>by
 rw[gh,Ze,N9,decide_eq_true_iff];constructor
 ·rintro⟨e,he,h⟩;have:=ZX (of_decide_eq_true h);rw[<-this]; exact oS he
 ·intro h;obtain⟨o,ho⟩:=On h;exact⟨_,ho,bB rfl⟩
def zb(O:eM)(x:Str):(bh (bd O) (.inr x)).isSome=aE (x∈ao O):=by
 unfold bd;rw[qZ,S8]
def yY{O:eM}(nd:(ao O).Nodup){x:Str}{o:Option Str}(h:(x,o)∈O):aM (.fd (bd O)) (.str x)=aA (fN o):=by
 rw[tQ];unfold bd;rw[qZ];cases hf:O.find? λe=>aE ((ZA e.1:aL)=ZA x) with
 |none=>exact absurd (bB rfl) (WP.mp hf _ h)
 |some e=>
  have h1:=List.mem_of_find?_eq_some hf;have h2:e.1=x:=by have:=JH hf; simpa using this
  obtain⟨x',o'⟩:=e;dsimp only at h2;subst h2;rw[t9 nd h h1];rfl
def EI{O:eM}{x:Str}{o:Option Str}(h:x∉ao O):dI (bd O) (.inr x) (fN o)=bd (O++[(x,o)]):=by
 rw[tI]
 ·unfold bd; rw[jF]; rfl
 ·unfold bd;rw[jP];intro hm;obtain⟨e,he,h2⟩:=jz.mp hm;exact h (ZX h2▸oS he)
def ub(w:aj)(x:Str):lY (.lst ((w++[x]).map T.str)) []=aA (.lst (w.map T.str),.str x):=by
 simp[lY]
def CM{a b:aj}(h:a.length+b.length<=1000000):o9 (.lst (a.map T.str)) [.lst (b.map T.str)]=aA (.lst ((a++b).map T.str),.non):=by
 have q:(a.map T.str).length+(b.map T.str).length<=ju:=nZ (by simpa using h)
 simp only[o9,q,if_true,jF]
def Xt:Sg->Nat
 |[_,aA (.dct kvs),_,aA (.lst w),_,_,_]=>2*(31 - kvs.length)+w.length
 |_=>0
def Vm{ns:aj}{adj:ag}(g:Gr ns adj):∃ O:eM,BE [c9 ns adj]=aA (.fd (bd O))/\Fo ns adj O/\∀ x∈ns,x∈ao O:=by
 obtain⟨t,h,O,rfl,h1,h2⟩:=ir (n:=7) (d:=wz) (ts:=[c9 ns adj]) (Q:=λt=>∃ O:eM,t=.fd (bd O)/\Fo ns adj O/\∀ x∈ns,x∈ao O) (by
  unfold wz;refine aV (by simp?[]<;>rfl) ?_
  refine fZ (its:=ns.map T.str) (λj s=>∃ O a b c d e,Fo ns adj O/\(∀ y∈ns.take j,y∈ao O)/\s=[aA (c9 ns adj),aA (.dct (bd O)),a,b,c,d,e]) (rg ns adj _ _ _ rfl) ⟨[],_,_,_,_,_,Fo.nil,λy hy=>by simp at hy,rfl⟩ ?_ ?_
  ·rintro j z s hz ⟨O0,a,b,c,d,e,F0,hj,rfl⟩;obtain⟨x,hx,rfl⟩:=oQ hz;have hxn:=jy hx;have bnd:∀ {O:eM},(ao O).Nodup->(∀ x∈ao O,x∈ns)->O.length<=30:=λ{O} h1 h2=>by
    have:=rj _ _ h1 h2;have:=g.len;unfold ao at *;simp at *;lia
   refine⟨_,by simp?[]<;>rfl,?_⟩
   by_cases hk:x∈ao O0
   ·have e1:aE (x∈ao O0)=aC:=bB hk;exact ca (by simp?[zb,e1]<;>rfl) ⟨O0,_,_,_,_,_,F0,lT hj hx hk,rfl⟩
   ·have e1:aE (x∈ao O0)=aD:=bL hk;have b0:=bnd F0.nd F0.sub;have l0:(bd O0).length < ju:=lE (by unfold bd; rw[j4]; lia)
    have D0:=Dfs.start F0 hxn hk;have hp:dI (bd O0) (.inr x) .non=bd (O0++[(x,aB)]):=EI (o:=aB) hk;refine zJ (by simp?[zb,e1]<;>rfl) ?_
    refine aV (by simp?[l0,d6,hp]<;>rfl) (aV (by simp?[]<;>rfl) ?_)
    refine Fu (λs=>∃ O wt c d e,Dfs ns adj x O0 O wt/\wt.length<=O.length/\x∈ao O/\s=[aA (c9 ns adj),aA (.dct (bd O)),aA (.str x),aA (.lst (wt.map T.str)),c,d,e]) Xt ?_ ⟨_,[x],_,_,_,D0,by simp,by rw[fH]; simp[ao],rfl⟩ ?_ ?_
    ·show 2*(31 - (bd (O0++[(x,aB)])).length)+1 < 100;lia
    ·rintro s ⟨O,wt,c,d,e,D,hw,hxO,rfl⟩;have bO:=bnd D.nd D.sub
     by_cases hwt:wt=[]
     ·subst hwt;exact⟨aD,_,by simp?[]<;>rfl,trivial⟩
     ·obtain⟨w',y,rfl⟩:∃ w' y,wt=w'++[y]:=⟨wt.dropLast,wt.getLast hwt,(Q7 hwt).symm⟩;obtain⟨hyk,hy0⟩:=D.ws y (by simp)
      have hyn:=D.sub y hyk
      refine⟨aC,[aA (c9 ns adj),aA (.dct (bd O)),aA (.str x),aA (.lst ((w'++[y]).map T.str)),c,d,e],by
       simp?[]
       simp,?_⟩
      have D1:=D.step g;have ml:=yP g y;generalize hfr:((cU ns adj y).filter λz=>aE (z∉ao O))=fr at D1;have frl:fr.length<=30:=by rw[<-hfr]; exact Qc (Zw _ _) ml
      have b1:=bnd D1.nd D1.sub;rw[jk,j4] at b1;rw[jk] at hw;rw[aI rfl]
      have elc:=rL (M:=[1,3]) (caps:=[aB,aA 1]) (fi:=bc (d2 aM (dV 0) (dV 4))) (dg:=bK 0) (ft:=dB (d2 eV (dV 0) (dV 1))) (fe:=dV 0) (s:=[aA (c9 ns adj),aA (.dct (bd O)),aA (.str x),aA (.lst (w'.map T.str)),aA (.str y),d,e]) (cU ns adj y) T.str (λz=>aE (z∉ao O)) T.str (by simp?[oV hyn]) (by lia) (by
       intro z hz
       exact⟨_,by simp?[]<;>rfl,by simp?[zb,decide_not],λ_=>by simp?[],rfl⟩)
      rw[hfr] at elc;refine aV (by simp?[ub]<;>rfl) (aV (by simp?[elc]<;>rfl) ?_)
      have frn:fr.Nodup:=by rw[<-hfr]; exact(g.nd.filter _).filter _
      have frk:∀ z∈fr,z∉ao O:=λz hz=>by rw[<-hfr] at hz; exact of_decide_eq_true (jQ.mp hz).2
      refine fZ (its:=fr.map T.str) (λi s=>∃ e,s=[aA (c9 ns adj),aA (.dct (bd (O++(fr.take i).map λz=>(z,aA y)))),aA (.str x),aA (.lst (w'.map T.str)),aA (.str y),aA (.lst (fr.map T.str)),e]) (by simp?[]<;>rfl) ⟨e,by simp⟩ ?_ ?_
      ·rintro i z s hz ⟨e,rfl⟩;obtain⟨u,hu,rfl⟩:=oQ hz;refine⟨_,by simp?[]<;>rfl,?_⟩
       have hun:u∉ao (O++(fr.take i).map λz=>(z,aA y)):=by
        rw[fH];intro hm;obtain hm |hm:=jn.mp hm
        ·exact frk u (jy hu) hm
        ·have hm:u∈fr.take i:=by
          unfold ao at hm;rw[jP] at hm;obtain⟨v,hv,rfl⟩:=jz.mp hm;exact hv
         obtain⟨k,hk1,hk2⟩:=Qw hm;rw[J8] at hk2;rw[Q2] at hk1;have hiu:=(j6.mp hu);obtain⟨hi1,hi2⟩:=hiu;have:=(gB frn).mp (hk2.trans hi2.symm);lia
       have ll:(bd (O++(fr.take i).map λz=>(z,aA y))).length < ju:=lE (by unfold bd; simp; lia)
       have hp:dI (bd (O++(fr.take i).map λz=>(z,aA y))) (.inr u) (.str y)=_:=EI (o:=aA y) hun;refine ca (by simp?[ll,d6,hp]<;>rfl) ⟨aA (.str u),?_⟩
       rw[ZT,hu];simp
      ·rintro s ⟨e,rfl⟩;rw[j4,Qj];refine ca (by simp?[CM (a:=w') (b:=fr) (by lia)]<;>rfl) ⟨⟨_,_,_,_,_,D1,?_,by rw[fH]; exact ji _ hxO,rfl⟩,?_⟩
       ·rw[jk,jk,j4];simp at hw;lia
       ·show 2*(31 - (bd (O++fr.map λz=>(z,aA y))).length)+((w'++fr).map T.str).length < 2*(31 - (bd O).length)+((w'++[y]).map T.str).length;unfold bd;simp;lia
    ·rintro s0 s' ⟨O,wt,c,d,e,D,hw,hxO,rfl⟩ hf
     by_cases hwt:wt=[]
     ·subst hwt;have hf:=hf;injection hf with hf;injection hf with _ hf;subst hf;have F1:=D.fin g F0;refine⟨O,_,_,_,_,_,F1,lT (λy hy=>?_) hx ?_,rfl⟩
      ·obtain⟨r,hr⟩:=D.pre;rw[hr,fH]; exact ji _ (hj y hy)
      ·exact hxO
     ·exfalso
      have h2:iJ (dV 3) [aA (c9 ns adj),aA (.dct (bd O)),aA (.str x),aA (.lst (wt.map T.str)),c,d,e]=aA (aC,[aA (c9 ns adj),aA (.dct (bd O)),aA (.str x),aA (.lst (wt.map T.str)),c,d,e]):=by
       simp?[]
       simp[hwt]
      rw[h2] at hf;cases hf
  ·rintro s ⟨O,a,b,c,d,e,F,hj,rfl⟩;rw[j4,Qj] at hj
   exact eF (by simp?[]<;>rfl) ⟨_,_,rfl,O,rfl,F,hj⟩)
 exact⟨O,h,h1,h2⟩
def bI(b:Bool):Int:=if b then 1 else 0
def Ga{ns:aj}{adj:ag}(g:Gr ns adj){x y:Str}(hx:x∈ns)(hy:y∈ns){S:T}{b:Bool}(hS:aM S (.str x)=aA (.int (bI b))):wu [c9 ns adj,S,.str x,.str y]=aA (.int (bI (bS ns adj x y != b))):=by
 have ev:=FD g hx hy;refine eT ?_;show bG x9 [aA (c9 ns adj),aA S,aA (.str x),aA (.str y)] _;unfold x9;cases hE:bS ns adj x y with
 |true=>
  rw[hE] at ev;refine f8 (by simp?[ev,hS]<;>rfl) ?_
  cases b<;>rfl
 |false=>
  rw[hE] at ev;refine f8 (by simp?[ev,hS]<;>rfl) ?_
  cases b<;>rfl
def fD(sd:ah)(l:aj):List (aL × T):=l.map λz=>(ZA z,.int (bI (sd z)))
def ve{sd:ah}{l:aj}{x:Str}(h:x∈l):bh (fD sd l) (.inr x)=aA (.int (bI (sd x))):=by
 unfold fD;rw[qZ,Ek h];rfl
def X8{ns:aj}{adj:ag}(g:Gr ns adj){O:eM}(F:Fo ns adj O):B8 [c9 ns adj,.fd (bd O)]=aA (.fd (fD (dO (bS ns adj) O) (ao O))):=by
 have bO:O.length<=30:=by
  have:=rj _ _ F.nd F.sub;have:=g.len;unfold ao at *;simp at *;lia
 refine eT ?_;show bG xA [aA (c9 ns adj),aA (.fd (bd O)),aB,aB,aB] _;unfold xA;refine aV (by simp?[]<;>rfl) ?_
 have it:bc (dV 1) [aA (c9 ns adj),aA (.fd (bd O)),aA (T.dct []),aB,aB]=aA (O.map λe=>T.str e.1,[aA (c9 ns adj),aA (.fd (bd O)),aA (T.dct []),aB,aB]):=by
  unfold bc bd
  simp?[]
  simp only[jP];rfl
 refine fZ (its:=O.map λe=>T.str e.1) (λj s=>∃ a b,s=[aA (c9 ns adj),aA (.fd (bd O)),aA (.dct (fD (dO (bS ns adj) O) (ao (O.take j)))),a,b]) it ⟨aB,aB,rfl⟩ ?_ ?_
 ·rintro j z s hz ⟨a,b,rfl⟩;rw[jf] at hz;obtain⟨⟨x,o⟩,hx,rfl⟩:=Qm hz;have hm:=jy hx;have hxn:=F.sub x (oS hm);have at1:=yY F.nd hm;have sd1:=F.side (bS ns adj) hx;have tk:O.take (j+1)=O.take j++[(x,o)]:=by rw[ZT,hx]; rfl
  have hnk:x∉ao (O.take j):=by
   have nd:=F.nd;rw[<-Zd (j+1) O,tk,fH,fH] at nd;intro h;exact(jK.mp (jK.mp nd).1).2.2 x h x (by simp[ao]) rfl
  have ll:(fD (dO (bS ns adj) O) (ao (O.take j))).length < ju:=lE (by unfold fD ao; simp; lia)
  have hp:dI (fD (dO (bS ns adj) O) (ao (O.take j))) (.inr x) (.int (bI (dO (bS ns adj) O x)))=fD (dO (bS ns adj) O) (ao (O.take (j+1))):=by
   rw[tI]
   ·rw[tk,fH]; unfold fD; rw[jF]; rfl
   ·unfold fD;rw[jP];intro hm;obtain⟨e,he,h2⟩:=jz.mp hm;exact hnk (ZX h2▸he)
  refine⟨_,by simp?[]<;>rfl,?_⟩
  cases o with
  |none=>
   dsimp only at sd1;rw[sd1] at hp;refine aV (by simp?[at1,fN]<;>rfl) ?_
   exact ca (by simp?[fN,oo,fo,d6,ll]; rw[show (T.int 0)=T.int (bI aD) from rfl,hp]) ⟨_,_,rfl⟩
  |some p=>
   dsimp only at sd1;obtain⟨_,hpk⟩:=F.ord j x p hx;have hpn:=F.sub p (by rw[<-Zd j O,fH]; exact ji _ hpk)
   have sb:=Ga g hpn hxn (S:=.dct (fD (dO (bS ns adj) O) (ao (O.take j)))) (b:=dO (bS ns adj) O p) (by rw[EQ]; exact ve hpk)
   rw[<-sd1] at sb;refine aV (by simp?[at1,fN]<;>rfl) ?_
   exact ca (by simp?[fN,oo,fo,sb,rB,d6,ll,hp]<;>rfl) ⟨_,_,rfl⟩
 ·rintro s ⟨a,b,rfl⟩;rw[j4,Qj];exact f8 (by simp?[]<;>rfl) rfl
def Vl{ns:aj}{adj:ag}(g:Gr ns adj){sd:ah}{l:aj}(hl:∀ x∈ns,x∈l):∃ r:Option (Str × Str),BF [c9 ns adj,.fd (fD sd l)]=aA (match r with |none=>.non |some (x,y)=>.tup [.str x,.str y])/\(∀ x y,r=aA (x,y)->x∈ns/\y∈ns/\adj x y=aC/\bS ns adj x y≠(sd x != sd y))/\(r=aB->∀ x∈ns,∀ y∈ns,adj x y=aC->bS ns adj x y=(sd x != sd y)):=by
 obtain⟨t,h,r,rfl,h1,h2⟩:=ir (n:=4) (d:=x3) (ts:=[c9 ns adj,.fd (fD sd l)]) (Q:=λt=>∃ r:Option (Str × Str),t=(match r with | none=>.non | some (x,y)=>.tup [.str x,.str y])/\(∀ x y,r=aA (x,y)->x∈ns/\y∈ns/\adj x y=aC/\bS ns adj x y≠(sd x != sd y))/\(r=aB->∀ x∈ns,∀ y∈ns,adj x y=aC->bS ns adj x y=(sd x != sd y))) (by
  unfold x3;refine zU (its:=ns.map T.str) (λj s=>(∀ x∈ns.take j,∀ y∈ns,adj x y=aC->bS ns adj x y=(sd x != sd y))/\∃ a b,s=[aA (c9 ns adj),aA (.fd (fD sd l)),a,b]) (rg ns adj _ _ _ rfl) ⟨λy hy=>by simp at hy,_,_,rfl⟩ ?_ ?_
  ·rintro j z s hz ⟨hj,a,b,rfl⟩;obtain⟨x,hx,rfl⟩:=oQ hz;have hxn:=jy hx;refine⟨_,by simp?[]<;>rfl,?_⟩
   refine GT (its:=(cU ns adj x).map T.str) (λj s=>(∀ y∈(cU ns adj x).take j,bS ns adj x y=(sd x != sd y))/\∃ b,s=[aA (c9 ns adj),aA (.fd (fD sd l)),aA (.str x),b]) (by simp?[oV hxn]<;>rfl) ⟨λy hy=>by simp at hy,_,rfl⟩ ?_ ?_
   ·rintro i z s hz ⟨hi,b,rfl⟩;obtain⟨y,hy,rfl⟩:=oQ hz;obtain⟨hyn,hyx⟩:=mem_mts.mp (jy hy);refine⟨_,by simp?[]<;>rfl,?_⟩
    have sb:=Ga g hxn hyn (S:=.fd (fD sd l)) (b:=sd x) (by rw[tQ]; exact ve (hl x hxn))
    have sy:aM (.fd (fD sd l)) (.str y)=aA (.int (bI (sd y))):=by rw[tQ]; exact ve (hl y hyn)
    have key:aE (bI (bS ns adj x y != sd x)=bI (sd y))=aE (bS ns adj x y=(sd x != sd y)):=by cases bS ns adj x y<;>cases sd x<;>cases sd y<;>rfl
    by_cases hE:bS ns adj x y=(sd x != sd y)
    ·rw[bB hE] at key;exact tG (by simp?[sb,sy,key]<;>rfl) ⟨lT hi hy hE,_,rfl⟩
    ·rw[bL hE] at key;exact yp (by simp?[sb,sy,key]<;>rfl) ⟨_,_,rfl,aA (x,y),rfl,λu v e=>by injection e with e; injection e with e1 e2; subst e1 e2; exact⟨hxn,hyn,hyx,hE⟩,λe=>by cases e⟩
   ·rintro s ⟨hi,b,rfl⟩;rw[j4,Qj] at hi;exact⟨lT hj hx λy hyn ha=>hi y (mem_mts.mpr ⟨hyn,ha⟩),_,_,rfl⟩
  ·rintro s ⟨hj,a,b,rfl⟩;rw[j4,Qj] at hj
   exact eF (by simp?[]<;>rfl) ⟨_,_,rfl,aB,rfl,λx y e=>(by cases e),λ_=>hj⟩)
 exact⟨r,h,h1,h2⟩
def EX{α:Type}{a b:List α}{z:α}{k:Int}(hk:k=-((b.length:Int)+1)):dU (a++z::b) k=aA z:=by
 unfold dU fS;have hl:(a++z::b).length=a.length+b.length+1:=by simp; lia
 rw[aH (by lia),aI (by rw[hl]; lia),jb]
 have:(k+((a++z::b).length:Int)).toNat=a.length:=by rw[hl]; lia
 rw[this];simp
def FW{a b:aj}{z:Str}{k:Int}(hk:k=-((b.length:Int)+1)):aM (.lst ((a++z::b).map T.str)) (.int k)=aA (.str z):=by
 have e:iE (.lst ((a++z::b).map T.str)) (.int k)=aA (.str z):=by
  rw[jF,jp];exact EX (by simpa using hk)
 unfold aM dk;rw[e]
def tX(a:aj)(z:Str):aM (.lst ((a++[z]).map T.str)) (.int (-1))=aA (.str z):=FW (b:=[]) (by simp)
def UA(a:aj)(z m:Str):aM (.lst (((a++[z])++[m]).map T.str)) (.int (-2))=aA (.str z):=by
 have:=FW (a:=a) (b:=[m]) (z:=z) (k:=-2) (by simp)
 rw[Qn];exact this
def Xq:Sg->Nat
 |[_,_,aA (.lst w)]=>40 - w.length
 |_=>0
def GK{ns:aj}{adj:ag}(g:Gr ns adj){O:eM}(F:Fo ns adj O){x:Str}{w:aj}(hw:Way O x w):wW [.fd (bd O),.str x]=aA (.lst (w.map T.str)):=by
 have wl:w.length<=30:=by
  have:=rj _ _ (hw.nodup F.nd) (λy hy=>F.sub y (hw.key y hy));have:=g.len;lia
 have key:bG wf [aA (.fd (bd O)),aA (.str x),aB] λr=>∃ s,r=.rt (.lst (w.map T.str)) s:=by
  unfold wf;refine aV (by simp?[]<;>rfl) ?_
  obtain⟨w0,rfl⟩:=hw.head;have at_:∀ {a:aj} {z:Str} {c:aj},x::w0=a++z::c->∃ o,aM (.fd (bd O)) (.str z)=aA (fN o)/\(match o with |none=>c=[] |some p=>∃ c',c=p::c'):=λ{a z c} e=>by
   have k:=hw.from e;cases k with
   |root h=>exact⟨aB,yY F.nd h,rfl⟩
   |step h k2=>
    obtain⟨t,ht⟩:=k2.head;exact⟨_,yY F.nd h,t,ht⟩
  refine re (λs=>∃ a z c,x::w0=a++z::c/\s=[aA (.fd (bd O)),aA (.str x),aA (.lst ((a++[z]).map T.str))]) Xq ?_ ⟨[],x,w0,rfl,rfl⟩ ?_ ?_
  ·show 40 - 1 < 100;lia
  ·rintro s ⟨a,z,c,e,rfl⟩;obtain⟨o,h1,h2⟩:=at_ e;have hl:(x::w0).length=a.length+c.length+1:=by rw[e]; simp; lia
   cases o with
   |none=>exact⟨aD,_,by simp?[tX,h1,fN,fF,fo]<;>rfl,trivial⟩
   |some p=>
    obtain⟨c',rfl⟩:=h2;refine⟨aC,_,by simp?[tX,h1,fN,fF,fo]<;>rfl,?_⟩
    rw[aI rfl];refine ca (by simp?[tX,h1,fN,DB (xs:=a++[z]) p (by simp; lia)]) ⟨⟨a++[z],p,c',by rw[e]; simp,rfl⟩,?_⟩
    show 40 - (((a++[z])++[p]).map T.str).length < 40 - ((a++[z]).map T.str).length;have hl3:a.length+(p::c').length+1<=30:=by rw[<-hl]; exact wl
    rw[jo] at hl3;have e9:(((a++[z])++[p]).map T.str).length=a.length+2:=by simp
    have e8:((a++[z]).map T.str).length=a.length+1:=by simp
    rw[e9,e8];lia
  ·rintro s0 s' ⟨a,z,c,e,rfl⟩ hf;obtain⟨o,h1,h2⟩:=at_ e;cases o with
   |none=>
    have h2:=h2;subst h2;have h3:dB (d2 fF (d2 aM (dV 0) (cC aM 2 (d1 l5 (dC (.int 1))))) (dC .non)) [aA (.fd (bd O)),aA (.str x),aA (.lst ((a++[z]).map T.str))]=aA (aD,[aA (.fd (bd O)),aA (.str x),aA (.lst ((a++[z]).map T.str))]):=by simp?[tX,h1,fN,fF,fo]<;>rfl
    rw[h3] at hf;injection hf with hf;injection hf with _ hf;subst hf;exact f8 (by simp?[]<;>rfl) (by rw[e])
   |some p=>
    have h3:dB (d2 fF (d2 aM (dV 0) (cC aM 2 (d1 l5 (dC (.int 1))))) (dC .non)) [aA (.fd (bd O)),aA (.str x),aA (.lst ((a++[z]).map T.str))]=aA (aC,[aA (.fd (bd O)),aA (.str x),aA (.lst ((a++[z]).map T.str))]):=by simp?[tX,h1,fN,fF,fo]<;>rfl
    rw[h3] at hf;cases hf
 first
  |exact tD key
  |exact eT key
def RE(n:aj)(m:Str):iw (.lst ((n++[m]).map T.str)) aB (aA (-1))=aA (.lst (n.map T.str)):=by
 refine congrArg aA (congrArg T.lst ?_);unfold dW HT.sIx;simp;have:(-1+((n.length:Int)+1)).toNat=n.length:=by lia
 rw[this];simp
def Sc(n:aj):uX (.lst (n.map T.str))=aA (.lst (n.reverse.map T.str)):=by
 show aA (T.lst (n.map T.str).reverse)=_;rw[List.map_reverse]
def BX(a:aj)(m:Str):aE ((1:Int) < (((a++[m]).length:Nat):Int))=!a.isEmpty:=by
 cases a with
 |nil=>rfl
 |cons c a=>rw[bB (by simp; lia)]; rfl
def Xs:Sg->Nat
 |[_,_,_,aA (.lst w),_]=>w.length
 |_=>0
def CU(f n:aj):Prop:=f=[]∨n=[]∨f.getLast?≠n.getLast?
def XA{ns:aj}{adj:ag}(g:Gr ns adj){O:eM}(F:Fo ns adj O){x y:Str}{w w':aj}(hw:Way O x w)(hw':Way O y w')(hl:w.getLast?=w'.getLast?) :
  ∃ f n c m,w=f++m::c/\w'=n++m::c/\CU f n/\BL [.fd (bd O),.str x,.str y]=aA (.lst ((f++m::n.reverse).map T.str)):=by
 have w1:=GK g F hw;have w2:=GK g F hw';have wl:∀ {z:Str} {u:aj},Way O z u->u.length<=30:=λ{z u} h=>by
  have:=rj _ _ (h.nodup F.nd) (λy hy=>F.sub y (h.key y hy));have:=g.len;lia
 have l1:=wl hw;have l2:=wl hw'
 obtain⟨t,h,f,n,c,m,h1,h2,h3,rfl⟩:=ir (n:=5) (d:=u0) (ts:=[.fd (bd O),.str x,.str y]) (Q:=λt=>∃ f n c m,w=f++m::c/\w'=n++m::c/\CU f n/\t=.lst ((f++m::n.reverse).map T.str)) (by
  show bG u0 [aA (.fd (bd O)),aA (.str x),aA (.str y),aB,aB] _;unfold u0;refine aV (by simp?[w1]<;>rfl) (aV (by simp?[w2]<;>rfl) ?_)
  have iU:∀(f n:aj) (m:Str),f.length+n.length<=100->(o5 (dB (d2 iF (d1 bn (dV 3)) (dC (.int 1)))) (o5 (dB (d2 iF (d1 bn (dV 4)) (dC (.int 1)))) (dB (d2 cK (cC aM 3 (d1 l5 (dC (.int 2)))) (cC aM 4 (d1 l5 (dC (.int 2)))))))) [aA (.fd (bd O)),aA (.str x),aA (.str y),aA (.lst ((f++[m]).map T.str)),aA (.lst ((n++[m]).map T.str))]=aA (!f.isEmpty&&(!n.isEmpty&&aE (f.getLast?=n.getLast?)),[aA (.fd (bd O)),aA (.str x),aA (.str y),aA (.lst ((f++[m]).map T.str)),aA (.lst ((n++[m]).map T.str))]):=by
   intro f n m hfn
   by_cases hf:f=[]
   ·subst hf
    simp?[BX]
    rfl
   ·obtain⟨f',u,rfl⟩:∃ f' u,f=f'++[u]:=⟨f.dropLast,f.getLast hf,(Q7 hf).symm⟩;have e1:(f'++[u]).isEmpty=aD:=by simp
    by_cases hn:n=[]
    ·subst hn
     simp?[BX,e1]
     rfl
    ·obtain⟨n',v,rfl⟩:∃ n' v,n=n'++[v]:=⟨n.dropLast,n.getLast hn,(Q7 hn).symm⟩;have e2:(n'++[v]).isEmpty=aD:=by simp
     have e3:aE ((f'++[u]).getLast?=(n'++[v]).getLast?)=aE (u=v):=by simp
     simp?[BX,e1,e2,e3,UA,U4]
  refine re (λs=>∃ f n c m,w=f++m::c/\w'=n++m::c/\s=[aA (.fd (bd O)),aA (.str x),aA (.str y),aA (.lst ((f++[m]).map T.str)),aA (.lst ((n++[m]).map T.str))]) Xs ?_ ?_ ?_ ?_
  ·show (w.map T.str).length < 100;rw[j4]; lia
  ·obtain⟨t,rfl⟩:=hw.head;obtain⟨t',rfl⟩:=hw'.head;have n1:x::t≠[]:=by simp
   have n2:y::t'≠[]:=by simp
   have e1:=(Q7 n1).symm;have e2:=(Q7 n2).symm;have e3:(x::t).getLast n1=(y::t').getLast n2:=by
    rw[Yf n1,Yf n2] at hl;exact jh hl
   rw[<-e3] at e2;exact⟨_,_,[],_,e1,e2,by rw[<-e1,<-e2]⟩
  ·rintro s ⟨f,n,c,m,e1,e2,rfl⟩;have hfn:f.length+n.length<=100:=by
    rw[e1] at l1;rw[e2] at l2;simp at l1 l2;lia
   refine⟨_,_,iU f n m hfn,?_⟩;split
   ·rename_i hb;rw[jJ,jJ] at hb;obtain⟨b1,b2,b3⟩:=hb;have hf:f≠[]:=by intro e; subst e; cases b1
    have hn:n≠[]:=by intro e; subst e; cases b2
    obtain⟨f',u,rfl⟩:∃ f' u,f=f'++[u]:=⟨f.dropLast,f.getLast hf,(Q7 hf).symm⟩;obtain⟨n',v,rfl⟩:∃ n' v,n=n'++[v]:=⟨n.dropLast,n.getLast hn,(Q7 hn).symm⟩;have:u=v:=by have:=of_decide_eq_true b3; simpa using this
    subst this;refine aV (by simp?[ub]<;>rfl) ?_
    refine ca (by simp?[ub]<;>rfl) ⟨⟨f',n',m::c,u,by rw[e1]; simp,by rw[e2]; simp,rfl⟩,?_⟩
    show ((f'++[u]).map T.str).length < (((f'++[u])++[m]).map T.str).length;simp
   ·trivial
  ·rintro s0 s' ⟨f,n,c,m,e1,e2,rfl⟩ hf;have hfn:f.length+n.length<=100:=by
    rw[e1] at l1;rw[e2] at l2;simp at l1 l2;lia
   rw[iU f n m hfn] at hf;injection hf with hf;injection hf with hf1 hf2;subst hf2;refine eF (by simp?[RE,Sc]<;>rfl) ⟨_,_,rfl,f,n,c,m,e1,e2,?_,by simp⟩
   by_cases q1:f=[]
   ·exact .inl q1
   ·by_cases q2:n=[]
    ·exact .inr (.inl q2)
    ·refine .inr (.inr λq3=>?_);have i1:f.isEmpty=aD:=by simpa using q1
     have i2:n.isEmpty=aD:=by simpa using q2
     rw[i1,i2,bB q3] at hf1
     cases hf1)
 exact⟨f,n,c,m,h1,h2,h3,h⟩
def CK(a b:T):aM (.tup [a,b]) (.int 0)=aA a:=rfl
def CL(a b:T):aM (.tup [a,b]) (.int 1)=aA b:=rfl
structure RingOk (ns:aj) (adj:ag) (r:aj):Prop where
 nd:r.Nodup
 sub:∀ x∈r,x∈ns
 len:3<=r.length
 chn:dL (λa b=>adj a b=aC) r
 ends:∃ x y,r.head?=aA x/\r.getLast?=aA y/\adj y x=aC/\((if bS ns adj y x then 1 else 0)+sJ (bS ns adj) r)%2=1
structure SidesOk (ns:aj) (adj:ag) (sd:ah):Prop where
 even:∀ x∈ns,(cU ns adj x).length%2=0
 pair:∀ x∈ns,∀ y∈ns,¬ nX ns adj x y
 fit:∀ x∈ns,∀ y∈ns,adj x y=aC->bS ns adj x y=(sd x != sd y)
inductive Told (ns:aj) (adj:ag):T->Prop
 |odd (x:Str) (hx:x∈ns) (h:(cU ns adj x).length%2=1):Told ns adj (.tup [.str "odd",.str x])
 |pair (x y:Str) (hx:x∈ns) (hy:y∈ns) (h:nX ns adj x y):Told ns adj (.tup [.str "pair",.str x,.str y])
 |ring (r:aj) (h:RingOk ns adj r):Told ns adj (.tup [.str "ring",.lst (r.map T.str)])
 |sides (sd:ah) (h:SidesOk ns adj sd):Told ns adj (.tup [.str "sides",.lst (ns.map λx=>.int (bI (sd x)))])
def XF{ns:aj}{adj:ag}(g:Gr ns adj)(he:∀ x∈ns,(cU ns adj x).length%2=0)(hp:∀ x∈ns,∀ y∈ns,¬ nX ns adj x y):∃ t,BQ [c9 ns adj]=aA t/\Told ns adj t:=by
 obtain⟨O,h1,F,hall⟩:=Vm g;have h2:=X8 g F;generalize hsd:dO (bS ns adj) O=sd at h2;obtain⟨r,h3,hr1,hr2⟩:=Vl g (sd:=sd) (l:=ao O) hall;refine ir (n:=4) (d:=u6) (ts:=[c9 ns adj]) (Q:=Told ns adj) ?_;show bG u6 [aA (c9 ns adj),aB,aB,aB] _;unfold u6;refine aV (by simp?[h1]<;>rfl) (aV (by simp?[h2]<;>rfl) ?_)
 cases r with
 |none=>
  have hfit:=hr2 rfl;refine aV (by simp?[h3]<;>rfl) (aV (by simp?[fF,fo]<;>rfl) ?_)
  have e:=iu (M:=[]) (caps:=[aB,aA 2]) (fi:=bc (dV 0)) (dg:=bK 0) (fe:=d2 aM (dV 1) (dV 0)) (s:=[aA (c9 ns adj),aA (.fd (bd O)),aA (.fd (fD sd (ao O))),aA .non]) ns T.str (λx=>.int (bI (sd x))) (rg ns adj _ _ _ rfl) (by have:=g.len; lia) (by
   intro x hx;have sx:aM (.fd (fD sd (ao O))) (.str x)=aA (.int (bI (sd x))):=by rw[tQ]; exact ve (hall x hx)
   exact⟨_,by simp?[]<;>rfl,by simp?[sx],rfl⟩)
  exact eF (by simp?[e]<;>rfl) ⟨_,_,rfl,.sides sd ⟨he,hp,hfit⟩⟩
 |some xy=>
  obtain⟨x,y⟩:=xy;obtain⟨hx,hy,ha,hw⟩:=hr1 x y rfl;obtain⟨w,hwx⟩:=F.way x (hall x hx);obtain⟨w',hwy⟩:=F.way y (hall y hy);have hl:=F.rt x (hall x hx) y (hall y hy) ha w w' hwx hwy;obtain⟨f,n,c,m,e1,e2,he3,h4⟩:=XA g F hwx hwy hl;rw[e1] at hwx;rw[e2] at hwy;have hyx:adj y x=aC:=by rw[<-g.sym x hx y hy]; exact ha
  have hw2:bS ns adj y x≠(sd y != sd x):=by
   rw[yh];intro q;apply hw;rw[q];cases sd x<;>cases sd y<;>rfl
  obtain⟨k1,k2,k3,k4,k5,k6,k7⟩:=R7 (adj:=adj) (ev:=bS ns adj) (sd:=sd) F.nd (λa b hab=>by rw[<-hsd]; exact F.edge g hab) hwx hwy he3 (g.irr x hx) hyx hw2 (yh _ _ _ _)
  refine aV (by simp?[h3]<;>rfl) (qT (by simp?[fF,fo,CK,CL,h4]<;>rfl) ⟨_,_,rfl,.ring _ ⟨k1,λz hz=>F.sub z (k2 z hz),k3,k4,x,y,k5,k6,hyx,k7⟩⟩)
def qW{wd:aj}(g:GoodWord wd):Gr (aK wd) (bT wd):=by
 refine⟨tu wd,λx hx y hy=>PF g (mem_firsts.mp hx) (mem_firsts.mp hy),λx hx=>RS g (mem_firsts.mp hx),?_⟩;have:=lD g.two;have:=g.len;lia
def Sm{wd:aj}(gw:GoodWord wd):∃ t,qi [.lst (wd.map T.str)]=aA t/\Told (aK wd) (bT wd) t:=by
 have g:=qW gw;have gl:=gw.len;have hn:=wI (wd:=wd) (by lia)
 obtain⟨r,h1,o1,o2⟩:=Ut g;obtain⟨r2,h2,p1,p2⟩:=Uu g;refine ir (n:=4) (d:=tj) (ts:=[.lst (wd.map T.str)]) (Q:=Told (aK wd) (bT wd)) ?_;show bG tj [aA (.lst (wd.map T.str)),aB,aB,aB] _;unfold tj;have hf:=zj wd
 have e:=Ln (M:=[]) (caps:=[aB,aA 0]) (fi:=bc (av n4 (aF (dV 0) aJ))) (dg:=bK 0) (fk:=dV 0) (fe:=av sG (aF (dV 1) (aF (dV 0) aJ))) (s:=[aA (.lst (wd.map T.str)),aB,aB,aB]) (aK wd) T.str T.str ZA (λx=>.lst ((cU (aK wd) (bT wd) x).map T.str)) (by simp?[hn]) (by lia) (gk.mpr ((tu wd).imp λh e=>h (ZX e))) (by
  intro x hx;obtain⟨i,j,hp⟩:=gw.places (mem_firsts.mp hx);have hc:=GY (wd:=wd) (by lia) hp
  refine⟨_,by simp?[]<;>rfl,by simp?[],rfl,?_,rfl⟩
  simp?[hc]
  rfl)
 refine aV (by simp?[e]<;>rfl) ?_
 have fz:T.fd ((aK wd).map λx=>((ZA x:aL),T.lst ((cU (aK wd) (bT wd) x).map T.str)))=c9 (aK wd) (bT wd):=rfl;cases r with
 |some x=>
  obtain⟨hx,ho⟩:=o1 x rfl;refine aV (by simp?[fz,h1]<;>rfl) (qT (by simp?[fN,fF,fo]<;>rfl) ⟨_,_,rfl,.odd x hx ho⟩)
 |none=>
  have ho:=o2 rfl;refine aV (by simp?[fz,h1]<;>rfl) (aV (by simp?[fN,fF,fo]<;>rfl) ?_)
  cases r2 with
  |some xy=>
   obtain⟨x,y⟩:=xy;obtain⟨hx,hy,hxy⟩:=p1 x y rfl;refine aV (by simp?[h2]<;>rfl) (qT (by simp?[fF,fo,CK,CL]<;>rfl) ⟨_,_,rfl,.pair x y hx hy hxy⟩)
  |none=>
   obtain⟨t,h3,tt⟩:=XF g ho (p2 rfl);refine aV (by simp?[h2]<;>rfl) (aV (by simp?[fF,fo]<;>rfl) ?_)
   exact eF (by simp?[h3]<;>rfl) ⟨_,_,rfl,tt⟩
def dy(r:ak):T:=.lst (r.map nT)
def cP(f:ai)(k s:Nat):ak:=(j7 k).map λi=>bf f i s
def sA(f:ai)(k s:Nat):cP f (k+1) s=cP f k s++[bf f k s]:=by unfold cP; rw[NX,jF]; rfl
def zw{f:ai}{k s:Nat}(h:bf f k s∈cP f k s):∀ m,bf f m s∈cP f k s:=by
 obtain⟨i,hi,e⟩:=jz.mp h;have hi:=je.mp hi;intro m
 induction m using Nat.strongRecOn with
 |_ m ih=>
  by_cases hm:m < k
  ·exact jz.mpr ⟨m,je.mpr hm,rfl⟩
  ·have e1:bf f m s=bf f (m - k+i) s:=by
    rw[rS,e,<-rS,show m - k+k=m by lia]
   rw[e1];exact ih _ (by lia)
def uc(f:ai)(s:Nat)(r:ak):Prop:=∃ k,r=cP f k s/\0 < k/\(cP f k s).Nodup/\bf f k s∈cP f k s
structure RowsL (f:ai) (rows:List (ak)) (L:ak) (s:Nat):Prop where
 len:rows.length=L.length
 lt:∀ x∈L,x < s
 srt:L.Pairwise λx y=>x < y
 row:∀(i x:Nat) (r:ak),L[i]?=aA x->rows[i]?=aA r->uc f x r
 le:∀ x,x < s->∃ t∈L,t<=x/\bu f t x
def RowsL.nil(f:ai):RowsL f [] [] 0:=⟨rfl,λx hx=>(by cases hx),.nil,λi x r h=>by simp at h,λx hx=>by lia⟩
def RowsL.skip{f:ai}{rows:List (ak)}{L:ak}{s:Nat}(h:RowsL f rows L s)(hs:∃ t∈L,bu f t s):RowsL f rows L (s+1):=
 ⟨h.len,λx hx=>QB (h.lt x hx),h.srt,h.row,λx hx=>by
  by_cases q:x=s
  ·obtain⟨t,ht,o⟩:=hs;exact⟨t,ht,by rw[q]; exact Z8 (h.lt t ht),by rw[q]; exact o⟩
  ·exact h.le x (by lia)⟩
def RowsL.snoc{f:ai}{rows:List (ak)}{L:ak}{s:Nat}{r:ak}(h:RowsL f rows L s)(hr:uc f s r):RowsL f (rows++[r]) (L++[s]) (s+1):=by
 refine⟨by rw[jk,jk,h.len]; rfl,λx hx=>?_,?_,λi x r' hx hr'=>?_,λx hx=>?_⟩
 ·obtain q |q:=jn.mp hx
  ·exact QB (h.lt x q)
  ·rw[j9.mp q]; exact Zj s
 ·rw[We];exact⟨h.srt,by simp,λx hx y hy=>by rw[j9.mp hy]; exact h.lt x hx⟩
 ·by_cases q:i < L.length
  ·rw[Q8 q] at hx;rw[Q8 (by rw[h.len]; exact q)] at hr'
   exact h.row i x r' hx hr'
  ·have hi:i=L.length:=by
    have:=(j6.mp hx).1;rw[jk,Zu] at this;lia
   subst hi;rw[Qe (jj _),Nat.sub_self] at hx;rw[<-h.len,Qe (jj _),Nat.sub_self] at hr';cases jh hx;cases jh hr';exact hr
 ·by_cases q:x=s
  ·exact⟨s,by simp,by lia,by rw[q]; exact bu.refl f s⟩
  ·obtain⟨t,ht,o⟩:=h.le x (by lia)
   exact⟨t,ji _ ht,o⟩
def uJ(n:Nat)(f:ai)(rows:List (ak)):Prop:=∃ L,Trav n (bu f) L/\RowsL f rows L n
structure Wkd (n:Nat) (f:ai) (S:Int->Bool) (m:Nat) (Wl L:ak) (s:Nat):Prop where
 set:∀ x:Nat,S (x:Int)=aC↔x∈Wl
 len:m=Wl.length
 nd:Wl.Nodup
 lt:∀ x∈Wl,x < n
 mem:∀ x,x∈Wl↔x < n/\∃ t∈L,bu f t x
 ltL:∀ x∈L,x < n
 one:L.Pairwise λx y=>¬ bu f x y
 all:∀ x,x < s->∃ t∈L,bu f t x
def HW:T->Nat
 |.lst xs=>xs.length
 |_=>0
def Im(s:Sg):Nat:=300 - HW ((s[4]?).join.getD .non) - 1
def MB{n:Nat}{f:ai}{x:Nat}(hx:x < n):aM (.lst (((j7 n).map f).map nT)) (.int (x:Int))=aA (.int (f x:Nat)):=by
 rw[ln,jf,jf,QL hx]; rfl
def Ti{n:Nat}{f:ai}(hf:Perm1 n f)(hn:n<=120):∃ rows:List (ak),AT [.lst (((j7 n).map f).map nT)]=aA (.lst (rows.map dy))/\uJ n f rows:=by
 obtain⟨t,e,rows,rfl,hT⟩:=ir (n:=6) (d:=wG) (ts:=[.lst (((j7 n).map f).map nT)]) (Q:=λt=>∃ rows:List (ak),t=.lst (rows.map dy)/\uJ n f rows) (by
  show bG _ [aA (.lst (((j7 n).map f).map nT)),aB,aB,aB,aB,aB] _;unfold wG;have la:(((j7 n).map f).map nT).length=n:=by simp
  generalize hA:(((j7 n).map f).map nT)=A at la;refine aV (by simp?[]<;>rfl) ?_
  refine aV (by simp?[]<;>rfl) ?_
  have r1:eN (n:Int)=aC:=qY (by lia) (by lia)
  refine fZ (its:=eO 0 n) (λs st=>∃(rows:List (ak)) (L Wl:ak) (S:Int->Bool) (m:Nat) (a b c:Option T),st=[aA (.lst A),aA (.lst (rows.map dy)),aA (.set S m),a,b,c]/\Wkd n f S m Wl L s/\RowsL f rows L s/\rows.length<=s)
   (by simp?[la,r1,Q3]<;>rfl) ⟨[],[],[],λ_=>aD,0,aB,aB,aB,rfl,⟨λx=>by simp,rfl,Zo,λx hx=>by simp at hx,λx=>by simp,λx hx=>by simp at hx,WW,λx hx=>by lia⟩,RowsL.nil f,jj _⟩ ?_ ?_
  ·rintro s z st hz ⟨rows,L,Wl,S,m,a,b,c,rfl,hW,hrl,hrs⟩;obtain⟨hs,rfl⟩:s < n/\z=.int (s:Int):=by
    obtain⟨h1,h2⟩:=Fb hz;exact⟨h1,by rw[h2,NJ]⟩
   refine⟨[aA (.lst A),aA (.lst (rows.map dy)),aA (.set S m),aA (.int (s:Int)),b,c],rfl,?_⟩;refine aV (by simp?[]<;>rfl) ?_
   refine aV (by simp?[]<;>rfl) ?_
   refine re (λst=>∃(k:Nat) (S':Int->Bool) (m':Nat),st=[aA (.lst A),aA (.lst (rows.map dy)),aA (.set S' m'),aA (.int (s:Int)),aA (.lst ((cP f k s).map nT)),aA (.int ((bf f k s:Nat):Int))]/\(∀ x:Nat,S' (x:Int)=aC↔x∈Wl++cP f k s)/\m'=(Wl++cP f k s).length/\(Wl++cP f k s).Nodup) Im ?_ ⟨0,S,m,rfl,by simpa[cP] using hW.set,by simpa[cP] using hW.len,by simpa[cP] using hW.nd⟩ ?_ ?_
   ·show 300 - 0 - 1 < 300;lia
   ·rintro st ⟨k,S',m',rfl,h1,h2,h3⟩;have hx:=hf.itr_lt k hs;have hlen:(Wl++cP f k s).length<=n:=by
     have:=tY (m:=j7 n) h3 λx hx=>by
      refine je.mpr ?_;obtain q |q:=jn.mp hx
      ·exact hW.lt x q
      ·obtain⟨i,_,rfl⟩:=jz.mp q;exact hf.itr_lt i hs
     rwa [QC] at this
    refine⟨!S' ((bf f k s:Nat):Int),[aA (.lst A),aA (.lst (rows.map dy)),aA (.set S' m'),aA (.int (s:Int)),aA (.lst ((cP f k s).map nT)),aA (.int ((bf f k s:Nat):Int))],by simp?[show rC (.int ((bf f k s:Nat):Int)) (.set S' m')=aA (.bl (!S' ((bf f k s:Nat):Int))) from rfl],?_⟩
    split
    ·rename_i hc;have hc':S' ((bf f k s:Nat):Int)=aD:=by simpa using hc
     have hni:bf f k s∉Wl++cP f k s:=λz=>by rw[(h1 _).mpr z] at hc'; cases hc'
     have hsl:(cP f k s).length=k:=by unfold cP; simp
     have hkn:k<=n:=by rw[jk,hsl] at hlen; lia
     refine aV (s':=[aA (.lst A),aA (.lst (rows.map dy)),aA (.set (λj=>S' j||aE (j=((bf f k s:Nat):Int))) (if S' ((bf f k s:Nat):Int) then m' else m'+1)),aA (.int (s:Int)),aA (.lst ((cP f k s).map nT)),aA (.int ((bf f k s:Nat):Int))]) (by
      simp?[show m' < 1000 by lia]) ?_
     refine aV (s':=[aA (.lst A),aA (.lst (rows.map dy)),aA (.set (λj=>S' j||aE (j=((bf f k s:Nat):Int))) (if S' ((bf f k s:Nat):Int) then m' else m'+1)),aA (.int (s:Int)),aA (.lst ((cP f (k+1) s).map nT)),aA (.int ((bf f k s:Nat):Int))]) (by
      simp?[ul,sA,jF,jp,Zb]<;>rfl) ?_
     have it:=MB (f:=f) hx;rw[hA] at it;refine ca (by simp?[it]<;>rfl) ⟨⟨k+1,_,_,rfl,λx=>?_,?_,?_⟩,?_⟩
     ·rw[QR,h1,decide_eq_true_iff,sA,<-Qn];constructor
      ·rintro(q |q)
       ·exact ji _ q
       ·exact jw _ (j9.mpr (by lia))
      ·intro q;obtain q |q:=jn.mp q
       ·exact .inl q
       ·exact .inr (by have:=j9.mp q; lia)
     ·rw[hc',aH (by simp),sA,<-Qn,jk,<-h2]; rfl
     ·rw[sA,<-Qn,jK];exact⟨h3,by simp,λx hx y hy e=>hni (by rw[j9] at hy; subst hy; exact e▸hx)⟩
     ·show 300 - ((cP f (k+1) s).map nT).length - 1 < 300 - ((cP f k s).map nT).length - 1;rw[j4,j4,sA,jk,hsl];simp;lia
    ·trivial
   ·rintro st0 st' ⟨k,S',m',rfl,h1,h2,h3⟩ hfalse;have hE:dB (d2 rC (dV 5) (dV 2)) [aA (.lst A),aA (.lst (rows.map dy)),aA (.set S' m'),aA (.int (s:Int)),aA (.lst ((cP f k s).map nT)),aA (.int ((bf f k s:Nat):Int))]=aA (!S' ((bf f k s:Nat):Int),[aA (.lst A),aA (.lst (rows.map dy)),aA (.set S' m'),aA (.int (s:Int)),aA (.lst ((cP f k s).map nT)),aA (.int ((bf f k s:Nat):Int))]):=by simp?[show rC (.int ((bf f k s:Nat):Int)) (.set S' m')=aA (.bl (!S' ((bf f k s:Nat):Int))) from rfl]
    rw[hE] at hfalse;injection hfalse with hfalse;injection hfalse with hb hst;subst hst;have hin:=(h1 _).mp (by simpa using hb)
    cases k with
    |zero=>
     have hsW:s∈Wl:=by simpa[cP,bf] using hin
     refine ca (by simp?[cP,NY,Zb]<;>rfl) ⟨rows,L,Wl,S',m',_,_,_,rfl,⟨by simpa[cP] using h1,by simpa[cP] using h2,hW.nd,hW.lt,hW.mem,hW.ltL,hW.one,λx hx=>?_⟩,hrl.skip ((hW.mem s).mp hsW).2,by lia⟩
     by_cases q:x=s
     ·rw[q]; exact((hW.mem s).mp hsW).2
     ·exact hW.all x (by lia)
    |succ k=>
     have hs0:s∈cP f (k+1) s:=jz.mpr ⟨0,by simp,rfl⟩
     have hsn:s∉Wl:=λz=>(jK.mp h3).2.2 s z s hs0 rfl;have hin2:bf f (k+1) s∈cP f (k+1) s:=by
      obtain q |q:=jn.mp hin
      ·exfalso
       obtain⟨_,t,ht,o⟩:=(hW.mem _).mp q;have o2:=bu.symm hf hs ⟨k+1,rfl⟩;exact hsn ((hW.mem s).mpr ⟨hs,t,ht,o.trans o2⟩)
      ·exact q
     have hall:=zw hin2;have hro:((cP f (k+1) s).map nT).isEmpty=aD:=by rw[sA]; simp
     refine ca (by simp?[hro,ul,jF,jp,Zb,dy]<;>rfl) ⟨rows++[cP f (k+1) s],L++[s],Wl++cP f (k+1) s,S',m',_,_,_,rfl,⟨h1,h2,h3,λx hx=>?_,λx=>?_,λx hx=>?_,?_,λx hx=>?_⟩,hrl.snoc ⟨k+1,rfl,Nat.succ_pos k,(jK.mp h3).2.1,hin2⟩,by rw[jk,Zu]; lia⟩
     ·obtain q |q:=jn.mp hx
      ·exact hW.lt x q
      ·obtain⟨i,_,rfl⟩:=jz.mp q;exact hf.itr_lt i hs
     ·rw[jn,hW.mem];constructor
      ·rintro(⟨q1,t,ht,o⟩ |q)
       ·exact⟨q1,t,ji _ ht,o⟩
       ·obtain⟨i,_,rfl⟩:=jz.mp q;exact⟨hf.itr_lt i hs,s,by simp,i,rfl⟩
      ·rintro⟨q1,t,ht,o⟩;obtain q |q:=jn.mp ht
       ·exact .inl ⟨q1,t,q,o⟩
       ·rw[j9.mp q] at o;obtain⟨i,rfl⟩:=o;exact .inr (hall i)
     ·obtain q |q:=jn.mp hx
      ·exact hW.ltL x q
      ·rw[j9.mp q]; exact hs
     ·rw[We];refine⟨hW.one,by simp,λx hx y hy o=>?_⟩
      rw[j9.mp hy] at o;exact hsn ((hW.mem s).mpr ⟨hs,x,hx,o⟩)
     ·by_cases q:x=s
      ·exact⟨s,by simp,by rw[q]; exact bu.refl f s⟩
      ·obtain⟨t,ht,o⟩:=hW.all x (by lia)
       exact⟨t,ji _ ht,o⟩
  ·rintro st ⟨rows,L,Wl,S,m,a,b,c,rfl,hW,hrl,hrs⟩;rw[Fc] at hW hrl;have q:bC [] (dV 1) [aA (.lst A),aA (.lst (rows.map dy)),aA (.set S m),a,b,c]=aA (.rt (.lst (rows.map dy)) [aA (.lst A),aA (.lst (rows.map dy)),aA (.set S m),a,b,c]):=by simp?[]
   exact eF q ⟨_,_,rfl,rows,rfl,L,⟨hW.ltL,hW.one,hW.all⟩,hrl⟩)
 exact⟨rows,e,hT⟩
def Ew(n w:Nat):Nat:=if w%2=1 then w - 1 else if w / 2+1=n then 1 else w+3
def Bw(n e:Nat):Nat:=if e%2=0 then e else if e=1 then 2*n - 1 else e - 2
def fl(w:Nat):Nat:=if w%2=0 then w+1 else w - 1
def sV{n w:Nat}(h:w < 2*n):Ew n w < 2*n:=by
 unfold Ew;split
 ·lia
 ·split<;>lia
def K3{n e:Nat}(h:e < 2*n):Bw n e < 2*n:=by
 unfold Bw;split
 ·lia
 ·split<;>lia
def CT(w:Nat):fl (fl w)=w:=by unfold fl; split<;>split<;>lia
def K6{n e:Nat}(h:e < 2*n):Ew n (fl (Bw n e))=e:=by
 by_cases h0:e%2=0
 ·have b:Bw n e=e:=aI h0;have f:fl e=e+1:=aI h0;rw[b,f];unfold Ew;rw[aI (by lia)]
  lia
 ·by_cases h1:e=1
  ·have b:Bw n e=2*n - 1:=by unfold Bw; rw[aH h0,aI h1]
   have f:fl (2*n - 1)=2*n - 2:=by unfold fl; rw[aH (by lia)]; lia
   rw[b,f];unfold Ew;rw[aH (by lia),aI (by lia),h1]
  ·have b:Bw n e=e - 2:=by unfold Bw; rw[aH h0,aH h1]
   have f:fl (e - 2)=e - 3:=by unfold fl; rw[aH (by lia)]; lia
   rw[b,f];unfold Ew;rw[aH (by lia),aH (by lia)]
   lia
def K2{n w:Nat}(h:w < 2*n):Bw n (Ew n w)=fl w:=by
 by_cases h0:w%2=1
 ·have b:Ew n w=w - 1:=aI h0;have f:fl w=w - 1:=aH (by lia)
  rw[b,f];exact aI (by lia)
 ·have f:fl w=w+1:=aI (by lia)
  by_cases h1:w / 2+1=n
  ·have b:Ew n w=1:=by unfold Ew; rw[aH h0,aI h1]
   rw[b,f];unfold Bw;rw[aH (by lia),aI rfl]
   lia
  ·have b:Ew n w=w+3:=by unfold Ew; rw[aH h0,aH h1]
   rw[b,f];unfold Bw;rw[aH (by lia),aH (by lia)]
   lia
def cb(wd:aj)(p:Nat):Nat:=match cJ wd (wd.getD p jC) with
 |[i,j]=>if p=i then j else i
 |_=>p
def Dr{wd:aj}(g:∀ x∈wd,wd.count x=2){p:Nat}(hp:p < wd.length):∃ i j,cJ wd wd[p]=[i,j]/\i < j/\j < wd.length/\wd[i]?=aA wd[p]/\wd[j]?=aA wd[p]/\((p=i/\cb wd p=j)∨(p=j/\cb wd p=i)):=by
 obtain⟨i,j,e⟩:=rm (g wd[p] (jU hp));obtain⟨h1,h2⟩:=qk e;have hm:p∈cJ wd wd[p]:=jQ.mpr ⟨je.mpr hp,bB (j3 hp)⟩;have ei:=og (wd:=wd) (x:=wd[p]) (k:=i) (by rw[e]; simp)
 have ej:=og (wd:=wd) (x:=wd[p]) (k:=j) (by rw[e]; simp)
 refine⟨i,j,e,h1,h2,ei,ej,?_⟩;have eq:cb wd p=if p=i then j else i:=by
  unfold cb;rw[jD,j3 hp];show (match cJ wd wd[p] with |[i,j]=>if p=i then j else i |_=>p)=_
  rw[e]
 rw[e] at hm;simp at hm;obtain rfl |rfl:=hm
 ·exact .inl ⟨rfl,by rw[eq,aI rfl]⟩
 ·exact .inr ⟨rfl,by rw[eq,aH (by lia)]⟩
def Ds{wd:aj}(g:∀ x∈wd,wd.count x=2){p:Nat}(hp:p < wd.length):cb wd p < wd.length/\cb wd p≠p/\cb wd (cb wd p)=p/\wd.getD (cb wd p) jC=wd.getD p jC:=by
 obtain⟨i,j,e,h1,h2,ei,ej,h3⟩:=Dr g hp;have gp:wd.getD p jC=wd[p]:=by rw[jD,j3 hp]; rfl
 have gi:wd.getD i jC=wd[p]:=by rw[jD,ei]; rfl
 have gj:wd.getD j jC=wd[p]:=by rw[jD,ej]; rfl
 have pi:cb wd i=j:=by
  unfold cb;rw[gi,e];exact aI rfl
 have pj:cb wd j=i:=by
  unfold cb;rw[gj,e];exact aH (by lia)
 obtain ⟨rfl,h3⟩ |⟨rfl,h3⟩:=h3
 ·rw[h3]; exact⟨h2,by lia,pj,by rw[gj,gp]⟩
 ·rw[h3]; exact⟨by lia,by lia,pi,by rw[gi,gp]⟩
def Aw(wd:aj)(hd:ah)(e:Nat):Nat:=2*cb wd (e / 2)+(if aE (e / 2 < cb wd (e / 2))=hd (wd.getD (e / 2) jC) then 1 - e%2 else e%2)
def xm{wd:aj}(g:∀ x∈wd,wd.count x=2)(hd:ah){e:Nat}(h:e < 2*wd.length):Aw wd hd e < 2*wd.length:=by
 have:=(Ds g (p:=e / 2) (by lia)).1
 unfold Aw;split<;>lia
def IY{wd:aj}(g:∀ x∈wd,wd.count x=2){hd he:ah}(hh:∀ x,he x=!hd x){e:Nat}(h:e < 2*wd.length):Aw wd he (Aw wd hd e)=e:=by
 obtain⟨h1,h2,h3,h4⟩:=Ds g (p:=e / 2) (by lia)
 generalize hb:(if aE (e / 2 < cb wd (e / 2))=hd (wd.getD (e / 2) jC) then 1 - e%2 else e%2)=b
 have b2:b < 2:=by rw[<-hb]; split<;>lia
 have q:Aw wd hd e=2*cb wd (e / 2)+b:=by unfold Aw; rw[hb]
 rw[q];unfold Aw;rw[show (2*cb wd (e / 2)+b) / 2=cb wd (e / 2) by lia,show (2*cb wd (e / 2)+b)%2=b by lia,h3,h4,hh]
 have low:aE (cb wd (e / 2) < e / 2)=!aE (e / 2 < cb wd (e / 2)):=by
  by_cases c:e / 2 < cb wd (e / 2)
  ·rw[bB c,bL (by lia)]; rfl
  ·rw[bL c,bB (by lia)]; rfl
 rw[low]
 by_cases c:aE (e / 2 < cb wd (e / 2))=hd (wd.getD (e / 2) jC)
 ·rw[aI c] at hb;rw[aI (by rw[c]),<-hb]
  lia
 ·rw[aH c] at hb;rw[aH (λz=>c (Bool.not_inj z)),<-hb];lia
def fw(wd:aj)(hd:ah)(w:Nat):Nat:=Bw wd.length (Aw wd hd (Ew wd.length w))
def EH{wd:aj}(g:∀ x∈wd,wd.count x=2){hd he:ah}(hh:∀ x,he x=!hd x){w:Nat}(h:w < 2*wd.length):fw wd he (fl (fw wd hd w))=fl w:=by
 unfold fw;rw[K6 (xm g hd (sV h)),IY g hh (sV h),K2 h]
def tE{wd:aj}(g:∀ x∈wd,wd.count x=2)(hd:ah):Perm1 (2*wd.length) (fw wd hd):=by
 refine⟨λw h=>K3 (xm g hd (sV h)),λx y hx hy e=>?_⟩;have a:=EH g (hd:=hd) (he:=λx=>!hd x) (λ_=>rfl) hx;have b:=EH g (hd:=hd) (he:=λx=>!hd x) (λ_=>rfl) hy;rw[e,b] at a;rw[<-CT x,<-a,CT]
def lR(p:aL × T)(r:List (aL × T))(k:aL):bh (p::r) k=if p.1=k then aA p.2 else bh r k:=by
 unfold bh;rw[Za]
 by_cases h:p.1=k
 ·rw[aI h,bB h]; rfl
 ·rw[aH h,bL h]
def tS(kvs:List (aL × T))(k k':aL)(v:T):bh (dI kvs k v) k'=if k=k' then aA v else bh kvs k':=by
 unfold dI;split
 ·rename_i h
  induction kvs with
  |nil=>simp at h
  |cons p r ih=>
   rw[jp]
   by_cases hp:p.1=k
   ·rw[aI hp,lR,lR]
    by_cases hk:k=k'
    ·rw[aI hk];rw[aI (hp.trans hk)]
    ·rw[aH hk];rw[aH (λz=>hk (hp.symm.trans z)),aH (λz=>hk (hp.symm.trans z))]
     clear ih h
     induction r with
     |nil=>rfl
     |cons q r ih2=>
      rw[jp]
      by_cases hq:q.1=k
      ·rw[aI hq,lR,lR];rw[aH (λz=>hk (hq.symm.trans z)),aH (λz=>hk (hq.symm.trans z)),ih2]
      ·rw[aH hq,lR,lR,ih2]
   ·rw[aH hp,lR,lR];have h2:(r.any λkv=>aE (kv.1=k))=aC:=by
     rwa [Zm,bL hp,WC] at h
    rw[ih h2]
    by_cases hk:k=k'
    ·simp only[aI hk,aH (λz:p.1=k'=>hp (z.trans hk.symm))]
    ·simp only[aH hk]
 ·rename_i h;have h':(kvs.any λkv=>aE (kv.1=k))=aD:=by rw[Bool.not_eq_true] at h; exact h
  clear h
  induction kvs with
  |nil=>
   show bh [(k,v)] k'=_;rw[lR]
  |cons p r ih=>
   rw[Zm,Bool.or_eq_false_iff] at h';have hp:=of_decide_eq_false h'.1;rw[Jr,lR,lR,ih h'.2]
   by_cases hk:k=k'
   ·simp only[aI hk,aH (λz:p.1=k'=>hp (z.trans hk.symm))]
   ·simp only[aH hk]
def ER(kvs:List (aL × T))(k:aL)(v:T):(dI kvs k v).length<=kvs.length+1:=by
 unfold dI;split
 ·rw[j4]; lia
 ·simp
def Mk{k n:Nat}(h:k < n):((k:Int)+1)%(n:Int)=((if k+1=n then 0 else k+1:Nat):Int):=by
 split
 ·rename_i e;rw[show (k:Int)+1=(n:Int) by lia,Int.emod_self]
  rfl
 ·rw[Na (by lia) (by lia)]; lia
def Mj{k n:Nat}(h:k < n):((k:Int) - 1)%(n:Int)=((if k=0 then n - 1 else k - 1:Nat):Int):=by
 split
 ·rename_i e;rw[e,<-Int.add_emod_right,Na (by lia) (by lia)]
  lia
 ·rw[Na (by lia) (by lia)]; lia
def T5{n w:Nat}(hn:n<=1000)(h:w < 2*n):wS [.int n,.int w]=aA (.int (Ew n w:Nat)):=by
 refine eT ?_;unfold A4;refine aV (s':=[aA (.int n),aA (.int w),aA (.int ((w / 2:Nat):Int))]) (by simp?[]<;>rfl) ?_
 have md:=Mk (k:=w / 2) (n:=n) (by lia)
 by_cases h1:w%2=1
 ·have hd:aE (((w:Nat):Int)%2=1)=aC:=bB (by lia)
  refine w4 (s':=[aA (.int n),aA (.int w),aA (.int ((w / 2:Nat):Int))]) (t':=.int (2*((w / 2:Nat):Int))) (by simp?[hd]) ?_
  unfold Ew;rw[aI h1];exact congrArg T.int (by lia)
 ·have hd:aE (((w:Nat):Int)%2=1)=aD:=bL (by lia)
  refine aV (s':=[aA (.int n),aA (.int w),aA (.int ((w / 2:Nat):Int))]) (by simp?[hd]) ?_
  refine f8 (s':=[aA (.int n),aA (.int w),aA (.int ((w / 2:Nat):Int))]) (t':=.int (2*((if w / 2+1=n then 0 else w / 2+1:Nat):Int)+1)) (by simp?[md]) ?_
  unfold Ew;rw[aH h1]
  by_cases h2:w / 2+1=n
  ·rw[aI h2,aI h2]; rfl
  ·rw[aH h2,aH h2];exact congrArg T.int (by lia)
def VN{n e:Nat}(hn:n<=1000)(h:e < 2*n):x5 [.int n,.int e]=aA (.int (Bw n e:Nat)):=by
 refine eT ?_;unfold Aq;refine aV (s':=[aA (.int n),aA (.int e),aA (.int ((e / 2:Nat):Int))]) (by simp?[]<;>rfl) ?_
 have md:=Mj (k:=e / 2) (n:=n) (by lia)
 by_cases h1:e%2=0
 ·have hd:aE (((e:Nat):Int)%2=0)=aC:=bB (by lia)
  refine w4 (s':=[aA (.int n),aA (.int e),aA (.int ((e / 2:Nat):Int))]) (t':=.int (2*((e / 2:Nat):Int))) (by simp?[hd]) ?_
  unfold Bw;rw[aI h1];exact congrArg T.int (by lia)
 ·have hd:aE (((e:Nat):Int)%2=0)=aD:=bL (by lia)
  refine aV (s':=[aA (.int n),aA (.int e),aA (.int ((e / 2:Nat):Int))]) (by simp?[hd]) ?_
  refine f8 (s':=[aA (.int n),aA (.int e),aA (.int ((e / 2:Nat):Int))]) (t':=.int (2*((if e / 2=0 then n - 1 else e / 2 - 1:Nat):Int)+1)) (by simp?[md]) ?_
  unfold Bw;rw[aH h1]
  by_cases h2:e=1
  ·rw[aI h2,aI (by lia)]
   exact congrArg T.int (by lia)
  ·rw[aH h2,aH (by lia)]
   exact congrArg T.int (by lia)
def fV(i j:Nat)(h:Bool):ak:=if h then [2*i,2*j,2*i+1,2*j+1] else [2*i,2*j+1,2*i+1,2*j]
def bU(c:Str × ak):T:=.tup [.str c.1,.lst (c.2.map nT)]
def Four(A:ai)(l:ak):Prop:=∃ a b c d,l=[a,b,c,d]/\A a=d/\A b=a/\A c=b/\A d=c
def Four.len{A:ai}{l:ak}(h:Four A l):l.length=4:=by obtain⟨a,b,c,d,rfl,_⟩:=h; rfl
def Knows(A:ai)(kvs:List (aL × T))(e:Nat):Prop:=bh kvs (.inl (e:Int))=aA (.int (A e:Nat))
def Knows.put{A:ai}{kvs:List (aL × T)}{e:Nat}(h:Knows A kvs e)(d:Nat):Knows A (dI kvs (.inl (d:Int)) (.int (A d:Nat))) e:=by
 unfold Knows;rw[tS]
 by_cases q:(d:Int)=(e:Int)
 ·rw[aI (congrArg gZ q),show d=e by lia]
 ·rw[aH (λz=>q (Y0 z))];exact h
def Knows.new{A:ai}{kvs:List (aL × T)}(d:Nat):Knows A (dI kvs (.inl (d:Int)) (.int (A d:Nat))) d:=by
 unfold Knows;rw[tS,aI rfl]
def Om(e:Nat):d6 (nT e)=aA (.inl (e:Int)):=rfl
def PR{A:ai}{l:ak}(h:Four A l){k:Nat}(hk:k < 4){e:Nat}(he:l[k]?=aA e):aM (.lst (l.map nT)) (.int ((k:Int) - 1))=aA (nT (A e)):=by
 obtain⟨a,b,c,d,rfl,h1,h2,h3,h4⟩:=h
 match k,hk with
 |0,_=>obtain rfl:a=e:=jh he; rw[h1]; rfl
 |1,_=>obtain rfl:b=e:=jh he; rw[h2]; rfl
 |2,_=>obtain rfl:c=e:=jh he; rw[h3]; rfl
 |3,_=>obtain rfl:d=e:=jh he; rw[h4]; rfl
def qf{α:Type}{l:List α}{k:Nat}{x:α}(h:l[k]?=aA x):l.take (k+1)=l.take k++[x]:=by rw[ZT,h]; rfl
def Vf{A:ai}{cs:List (Str × ak)}(h:∀ c∈cs,Four A c.2)(hl:cs.length<=100):∃ kvs,BD [.lst (cs.map bU)]=aA (.fd kvs)/\∀ c∈cs,∀ e∈c.2,Knows A kvs e:=by
 obtain⟨t,e,kvs,rfl,hk⟩:=ir (n:=6) (d:=tw) (ts:=[.lst (cs.map bU)]) (Q:=λt=>∃ kvs,t=.fd kvs/\∀ c∈cs,∀ e∈c.2,Knows A kvs e) (by
  show bG tw [aA (.lst (cs.map bU)),aB,aB,aB,aB,aB] _;unfold tw;refine aV (s':=[aA (.lst (cs.map bU)),aA (.dct []),aB,aB,aB,aB]) (by simp?[]) ?_
  refine fZ (its:=cs.map bU) (λj s=>∃ kvs a b c d,s=[aA (.lst (cs.map bU)),aA (.dct kvs),a,b,c,d]/\kvs.length<=4*j/\∀ c∈cs.take j,∀ e∈c.2,Knows A kvs e) (s1:=[aA (.lst (cs.map bU)),aA (.dct []),aB,aB,aB,aB]) (by simp?[]) ⟨[],_,_,_,_,rfl,by simp,by simp⟩ ?_ ?_
  ·rintro j z s hz ⟨kvs,a,b,c,d,rfl,hlen,hkn⟩;rw[jf] at hz;obtain⟨⟨x,es⟩,hj,rfl⟩:=Qm hz;have hF:Four A es:=h (x,es) (jy hj);have hjl:=(j6.mp hj).1;have hel:=hF.len;refine⟨[aA (.lst (cs.map bU)),aA (.dct kvs),aA (.str x),aA (.lst (es.map nT)),c,d],rfl,?_⟩;refine G9 (its:=es.zipIdx.map λp=>T.tup [.int (p.2:Nat),nT p.1]) (λk s=>∃ kvs c d,s=[aA (.lst (cs.map bU)),aA (.dct kvs),aA (.str x),aA (.lst (es.map nT)),c,d]/\kvs.length<=4*j+k/\(∀ c∈cs.take j,∀ e∈c.2,Knows A kvs e)/\∀ e∈es.take k,Knows A kvs e) (s1:=[aA (.lst (cs.map bU)),aA (.dct kvs),aA (.str x),aA (.lst (es.map nT)),c,d]) (by simp?[Eg]) ⟨kvs,_,_,rfl,by lia,hkn,by simp⟩ ?_ ?_
   ·rintro k z s hz ⟨kvs,c,d,rfl,l1,k1,k2⟩;rw[jf,List.getElem?_zipIdx] at hz;obtain⟨⟨e,k'⟩,hz',rfl⟩:=Qm hz;obtain⟨e',he,hz'⟩:=Qm hz';obtain⟨rfl,rfl⟩:e'=e/\0+k=k':=by
     injection hz' with q1 q2;exact⟨q1,q2⟩
    rw[Z0];have hk4:k < 4:=by have:=(j6.mp he).1; lia
    have it:=PR hF hk4 he;have sz:kvs.length < ju:=lE (by lia)
    have ky:=Om e';refine⟨[aA (.lst (cs.map bU)),aA (.dct kvs),aA (.str x),aA (.lst (es.map nT)),aA (.int (k:Nat)),aA (nT e')],rfl,?_⟩;refine ca (s':=[aA (.lst (cs.map bU)),aA (.dct (dI kvs (.inl (e':Int)) (.int (A e':Nat)))),aA (.str x),aA (.lst (es.map nT)),aA (.int (k:Nat)),aA (nT e')]) (by unfold nT at it ky ⊢; simp?[it,ky,sz]) ⟨_,_,_,rfl,?_,λc hc e he=>(k1 c hc e he).put _,λe hm=>?_⟩
    ·have:=ER kvs (.inl (e':Int)) (.int (A e':Nat));lia
    ·rw[qf he] at hm;obtain q |q:=jn.mp hm
     ·exact(k2 e q).put _
     ·rw[j9.mp q]; exact .new _
   ·rintro s ⟨kvs,c,d,rfl,l1,k1,k2⟩;rw[j4,List.length_zipIdx] at l1 k2;refine⟨kvs,_,_,_,_,rfl,by lia,λc hc e he=>?_⟩
    rw[qf hj] at hc;obtain q |q:=jn.mp hc
    ·exact k1 c q e he
    ·rw[j9.mp q] at he;exact k2 e (by rw[jZ (jj _)]; exact he)
  ·rintro s ⟨kvs,a,b,c,d,rfl,hlen,hkn⟩;rw[j4,jZ (jj _)] at hkn
   exact eF (r:=.rt (.fd kvs) [aA (.lst (cs.map bU)),aA (.fd kvs),a,b,c,d]) (by simp?[]) ⟨_,_,rfl,kvs,rfl,hkn⟩)
 exact⟨kvs,e,hk⟩
structure Crs (wd:aj) (hd:ah) (cs:List (Str × ak)):Prop where
 two:∀ x∈wd,wd.count x=2
 len:wd.length<=60
 cl:cs.length<=30
 four:∀ c∈cs,Four (Aw wd hd) c.2
 all:∀ e,e < 2*wd.length->∃ c∈cs,e∈c.2
def Pt(wd:aj)(hd:ah)(rows:List (ak)):Prop:=(wd=[]/\rows=[[],[]])∨(wd≠[]/\uJ (2*wd.length) (fw wd hd) rows)
def UJ{wd:aj}{hd:ah}{cs:List (Str × ak)}(h:Crs wd hd cs):∃ rows:List (ak),wm [.lst (wd.map T.str),.lst (cs.map bU)]=aA (.lst (rows.map dy))/\Pt wd hd rows:=by
 have hcl:=h.cl;have hlen:=h.len
 obtain⟨t,e,rows,rfl,hc⟩:=ir (n:=4) (d:=tm) (ts:=[.lst (wd.map T.str),.lst (cs.map bU)]) (Q:=λt=>∃ rows:List (ak),t=.lst (rows.map dy)/\Pt wd hd rows) (by
  show bG tm [aA (.lst (wd.map T.str)),aA (.lst (cs.map bU)),aB,aB] _;unfold tm
  by_cases h0:wd=[]
  ·subst h0;exact qT (t:=.lst [.lst [],.lst []]) (s':=[aA (.lst (([]:aj).map T.str)),aA (.lst (cs.map bU)),aB,aB]) (by simp?[]<;>rfl) ⟨_,_,rfl,[[],[]],rfl,.inl ⟨rfl,rfl⟩⟩
  ·have hp:=Z4.mpr h0;have hemp:(wd.map T.str).isEmpty=aD:=by
    cases wd with
    |nil=>exact absurd rfl h0
    |cons a l=>rfl
   obtain⟨kvs,ek,hk⟩:=Vf h.four (by lia)
   have N:=tE h.two hd;obtain⟨rows,er,hT⟩:=Ti N (by lia)
   refine aV (s':=[aA (.lst (wd.map T.str)),aA (.lst (cs.map bU)),aB,aB]) (by simp?[hemp]) ?_
   refine aV (s':=[aA (.lst (wd.map T.str)),aA (.lst (cs.map bU)),aA (.fd kvs),aB]) (by simp?[ek]) ?_
   refine aV (s':=[aA (.lst (wd.map T.str)),aA (.lst (cs.map bU)),aA (.fd kvs),aA (.int (wd.length:Nat))]) (by simp?[]) ?_
   have r1:eN (2*((wd.length:Nat):Int))=aC:=qY (by lia) (by lia)
   have tn:(2*((wd.length:Nat):Int)).toNat=2*wd.length:=by lia
   have e:=iu (M:=[]) (caps:=[aB,aA 3,aA 2]) (fi:=i7 (aF (d2 dN (dC (.int 2)) (dV 3)) aJ)) (dg:=bK 0) (fe:=av x5 (aF (dV 1) (aF (d2 aM (dV 2) (av wS (aF (dV 1) (aF (dV 0) aJ)))) aJ))) (s:=[aA (.lst (wd.map T.str)),aA (.lst (cs.map bU)),aA (.fd kvs),aA (.int (wd.length:Nat))]) (j7 (2*wd.length)) nT (λw=>nT (fw wd hd w)) (by simp?[r1,tn,qd]) (by simp; lia) (by
    intro w hw;have hw:=je.mp hw;have e1:=T5 (n:=wd.length) (by lia) hw
    obtain⟨c,hc,he⟩:=h.all _ (sV hw);have e2:aM (.fd kvs) (.int (Ew wd.length w:Nat))=aA (.int (Aw wd hd (Ew wd.length w):Nat)):=hk c hc _ he;have e3:=VN (n:=wd.length) (by lia) (xm h.two hd (sV hw))
    exact⟨[aA (.int w),aA (.int (wd.length:Nat)),aA (.fd kvs)],rfl,by unfold nT; simp?[e1,e2,e3]<;>rfl,rfl⟩)
   rw[show (j7 (2*wd.length)).map (λw=>nT (fw wd hd w))=((j7 (2*wd.length)).map (fw wd hd)).map nT by rw[jP]; rfl] at e
   have fl:(((j7 (2*wd.length)).map (fw wd hd)).map nT).all rB=aC:=by rw[Uc]; exact jB.mpr λ_ _=>rfl
   exact eF (r:=.rt (.lst (rows.map dy)) [aA (.lst (wd.map T.str)),aA (.lst (cs.map bU)),aA (.fd kvs),aA (.int (wd.length:Nat))]) (by simp?[e,er]) ⟨_,_,rfl,rows,rfl,.inr ⟨h0,hT⟩⟩)
 exact⟨rows,e,hc⟩
def lL(wd:aj)(x:Str)(h:Bool):ak:=match cJ wd x with
 |[i,j]=>fV i j h
 |_=>[]
def oX{wd:aj}{x:Str}{i j:Nat}(e:cJ wd x=[i,j])(h:Bool):lL wd x h=fV i j h:=by unfold lL; rw[e]
def bo(wd:aj)(hd:ah):List (Str × ak):=(aK wd).map λx=>(x,lL wd x (hd x))
def oH{wd:aj}{hd:ah}{p q:Nat}{x:Str}(hp:cb wd p=q)(hx:wd.getD p jC=x){b:Nat}(hb:b < 2):Aw wd hd (2*p+b)=2*q+(if aE (p < q)=hd x then 1 - b else b):=by
 unfold Aw;rw[show (2*p+b) / 2=p by lia,show (2*p+b)%2=b by lia,hp,hx]
def PH{wd:aj}(g:GoodWord wd)(hd:ah):Crs wd hd (bo wd hd):=by
 have tl:=lD g.two;have hl:=g.len;refine⟨g.two,hl,by unfold bo; rw[j4]; lia,λc hc=>?_,λe he=>?_⟩
 ·unfold bo at hc;obtain⟨x,hx,rfl⟩:=jz.mp hc;have hx:=mem_firsts.mp hx;obtain⟨i,j,e⟩:=rm (g.two x hx);obtain⟨h1,h2⟩:=qk e;have ei:=og (wd:=wd) (x:=x) (k:=i) (by rw[e]; simp)
  have ej:=og (wd:=wd) (x:=x) (k:=j) (by rw[e]; simp)
  have gi:wd.getD i jC=x:=by rw[jD,ei]; rfl
  have gj:wd.getD j jC=x:=by rw[jD,ej]; rfl
  have pi:cb wd i=j:=by
   unfold cb;rw[gi,e];exact aI rfl
  have pj:cb wd j=i:=by
   unfold cb;rw[gj,e];exact aH (by lia)
  have dij:aE (i < j)=aC:=bB h1;have dji:aE (j < i)=aD:=bL (by lia)
  have i0:=oH (hd:=hd) pi gi (b:=0) (by lia)
  have i1:=oH (hd:=hd) pi gi (b:=1) (by lia)
  have j0:=oH (hd:=hd) pj gj (b:=0) (by lia)
  have j1:=oH (hd:=hd) pj gj (b:=1) (by lia)
  rw[dij] at i0 i1;rw[dji] at j0 j1;rw[oX e];cases hh:hd x with
  |true=>
   rw[hh] at i0 i1 j0 j1;rw[aI rfl] at i0 i1;rw[aH (by simp)] at j0 j1
   exact⟨2*i,2*j,2*i+1,2*j+1,rfl,i0,j0,i1,j1⟩
  |false=>
   rw[hh] at i0 i1 j0 j1;rw[aH (by simp)] at i0 i1
   rw[aI rfl] at j0 j1;exact⟨2*i,2*j+1,2*i+1,2*j,rfl,i0,j1,i1,j0⟩
 ·obtain⟨i,j,e1,h1,h2,ei,ej,h3⟩:=Dr g.two (p:=e / 2) (by lia)
  have hm:wd[e / 2]∈wd:=jU _;refine⟨(wd[e / 2],lL wd wd[e / 2] (hd wd[e / 2])),jz.mpr ⟨_,mem_firsts.mpr hm,rfl⟩,?_⟩;rw[oX e1];have h4:e=2*i∨e=2*i+1∨e=2*j∨e=2*j+1:=by
   obtain ⟨h3,_⟩ |⟨h3,_⟩:=h3<;>lia
  cases hd wd[e / 2] with
  |true=>
   show e∈[2*i,2*j,2*i+1,2*j+1];simp;lia
  |false=>
   show e∈[2*i,2*j+1,2*i+1,2*j];simp;lia
def SW{f:T->T->Option Bool}:∀ {xs:List T},(∀ x∈xs,f x x=aA aC)->fM f xs xs=aA aC:=by
 intro xs
 induction xs with
 |nil=>intro _; rfl
 |cons x xs ih=>
  intro h;unfold fM;rw[h x (by simp),ih λy hy=>h y (jA _ hy)]
  rfl
def T6{n:Nat}{xs:List T}(h:∀ x∈xs,bP n x x=aA aC):bP (n+1) (.lst xs) (.lst xs)=aA aC:=by
 show (if xs.length=xs.length then fM (bP n) xs xs else aA aD)=aA aC
 rw[aI rfl,SW h]
def bY(wd:aj)(x:Str):Nat:=(cJ wd x).getD 0 0
def bJ(wd:aj)(x:Str):Nat:=(cJ wd x).getD 1 0
def az(wd:aj)(v:Nat):Str:=(aK wd).getD v jC
def iN(wd:aj)(v:Nat):Nat:=bY wd (az wd v)
def jN(wd:aj)(v:Nat):Nat:=bJ wd (az wd v)
def hN(wd:aj)(hd:ah)(v:Nat):Bool:=hd (az wd v)
def dr(wd:aj)(p:Nat):Nat:=(aK wd).idxOf (wd.getD p jC)
def lO{wd:aj}{v:Nat}(hv:v < (aK wd).length):az wd v∈aK wd:=by
 unfold az;rw[jD,j3 hv];exact jU hv
def oT{wd:aj}{x:Str}(h:x∈aK wd):az wd ((aK wd).idxOf x)=x:=by
 unfold az;have:=Q4.mpr h;rw[jD,j3 this];exact WQ this
def vX{wd:aj}{v:Nat}(hv:v < (aK wd).length):(aK wd).idxOf (az wd v)=v:=by
 have h1:=lO hv;have h2:=Q4.mpr h1;have h3:(aK wd)[(aK wd).idxOf (az wd v)]=(aK wd)[v]:=by
  rw[WQ h2];unfold az;rw[jD,j3 hv]; rfl
 exact(gB (tu wd)).mp h3
def lI{wd:aj}{x:Str}(h:wd.count x=2):cJ wd x=[bY wd x,bJ wd x]/\bY wd x < bJ wd x/\bJ wd x < wd.length/\wd.getD (bY wd x) jC=x/\wd.getD (bJ wd x) jC=x:=by
 obtain⟨i,j,e⟩:=rm h;obtain⟨h1,h2⟩:=qk e;have ei:=og (wd:=wd) (x:=x) (k:=i) (by rw[e]; simp)
 have ej:=og (wd:=wd) (x:=x) (k:=j) (by rw[e]; simp)
 unfold bY bJ;rw[e];exact⟨rfl,h1,h2,by show wd.getD i _=x; rw[jD,ei]; rfl,by show wd.getD j _=x; rw[jD,ej]; rfl⟩
def oG{wd:aj}(g:∀ x∈wd,wd.count x=2):Ij (aK wd).length (iN wd) (jN wd) (dr wd):=by
 have hl:=lD g;have pl:∀ v,v < (aK wd).length->cJ wd (az wd v)=[bY wd (az wd v),bJ wd (az wd v)]/\bY wd (az wd v) < bJ wd (az wd v)/\bJ wd (az wd v) < wd.length/\wd.getD (bY wd (az wd v)) jC=(az wd v)/\wd.getD (bJ wd (az wd v)) jC=(az wd v):=λv hv=>lI (g _ (mem_firsts.mp (lO hv)));have hm:∀ p,p < 2*(aK wd).length->wd.getD p jC∈aK wd/\p∈cJ wd (wd.getD p jC):=λp hp=>by
  have hp:=hl▸hp;rw[jD,j3 hp];exact⟨mem_firsts.mpr (jU hp),jQ.mpr ⟨je.mpr hp,bB (j3 hp)⟩⟩
 refine⟨λv hv=>(pl v hv).2.1,λv hv=>hl▸(pl v hv).2.2.1,λv hv=>?_,λv hv=>?_,λp hp=>Q4.mpr (hm p hp).1,λp hp=>?_⟩
 ·unfold dr iN;rw[(pl v hv).2.2.2.1]; exact vX hv
 ·unfold dr jN;rw[(pl v hv).2.2.2.2]; exact vX hv
 ·obtain⟨h1,h2⟩:=hm p hp;have e:az wd (dr wd p)=wd.getD p jC:=oT h1;unfold iN jN;rw[e];rw[(lI (g _ (mem_firsts.mp h1))).1] at h2;exact(jx.mp h2).imp id j9.mp
def MQ{wd:aj}(g:∀ x∈wd,wd.count x=2){x:Str}(hx:x∈wd):cb wd (bY wd x)=bJ wd x/\cb wd (bJ wd x)=bY wd x:=by
 obtain⟨h1,h2,h3,h4,h5⟩:=lI (g x hx);unfold cb;rw[h4,h5,h1];exact⟨aI rfl,aH (by lia)⟩
def uo{wd:aj}(g:∀ x∈wd,wd.count x=2)(hd:ah):Wf (aK wd).length (aO (iN wd) (jN wd) (hN wd hd)) (bO (iN wd) (jN wd) (hN wd hd)) (fw wd hd):=by
 have hl:=lD g;have C:=(oG g).cd (hN wd hd);have AA:∀ v,v < (aK wd).length->∀ t,t < 2->Aw wd hd (2*aO (iN wd) (jN wd) (hN wd hd) v+t)=2*bO (iN wd) (jN wd) (hN wd hd) v+(1 - t)/\Aw wd hd (2*bO (iN wd) (jN wd) (hN wd hd) v+t)=2*aO (iN wd) (jN wd) (hN wd hd) v+t:=λv hv t ht=>by
  have hx:=mem_firsts.mp (lO hv);obtain⟨_,h2,h3,h4,h5⟩:=lI (g _ hx);obtain⟨p1,p2⟩:=MQ g hx;obtain ⟨a,b,z⟩ |⟨a,b,z⟩:=l6 (iN wd) (jN wd) (hN wd hd) v<;>rw[a,b]<;>unfold iN jN<;>unfold hN at z
  ·rw[oH p1 h4 ht,oH p2 h5 ht,z,bB h2,bL (Nat.lt_asymm h2)]; exact⟨rfl,rfl⟩
  ·rw[oH p1 h4 ht,oH p2 h5 ht,z,bB h2,bL (Nat.lt_asymm h2)]; exact⟨rfl,rfl⟩
 have Ee:∀ p,p < wd.length->Ew wd.length (2*bR (aK wd).length p)=2*p+1:=λp hp=>by
  unfold Ew bR
  by_cases q:p=0
  ·rw[aI q,aH (by lia),aI (by lia),q]
  ·rw[aH q,aH (by lia),aH (by lia)]; lia
 have Eo:∀ p,Ew wd.length (2*p+1)=2*p:=λp=>aI (by lia)
 have Be:∀ p,Bw wd.length (2*p)=2*p:=λp=>aI (by lia)
 have Bo:∀ p,p < wd.length->Bw wd.length (2*p+1)=2*bR (aK wd).length p+1:=λp hp=>by
  unfold Bw bR;rw[aH (by lia)]
  by_cases q:p=0
  ·rw[aI q,aI (by lia)]; lia
  ·rw[aH q,aH (by lia)]; lia
 have ha:∀ v,v < (aK wd).length->aO (iN wd) (jN wd) (hN wd hd) v < wd.length:=λv hv=>by rw[hl]; exact C.alt v hv
 have hb:∀ v,v < (aK wd).length->bO (iN wd) (jN wd) (hN wd hd) v < wd.length:=λv hv=>by rw[hl]; exact C.blt v hv
 refine⟨λv hv=>?_,λv hv=>?_,λv hv=>?_,λv hv=>?_⟩<;>unfold fw
 ·rw[Ee _ (ha v hv),(AA v hv 1 (by decide)).1]; exact Be _
 ·rw[Eo,show ∀ k,2*k=2*k+0 from λ_=>rfl,(AA v hv 0 (by decide)).1]; exact Bo _ (hb v hv)
 ·rw[Ee _ (hb v hv),(AA v hv 1 (by decide)).2]; exact Bo _ (ha v hv)
 ·rw[Eo,show ∀ k,2*k=2*k+0 from λ_=>rfl,(AA v hv 0 (by decide)).2]; exact Be _
def bF(b:Bool):F2:=if b then 1 else 0
def M5{b c:Bool}(h:bF b=bF c):b=c:=by revert h; cases b<;>cases c<;>decide
def xM{wd:aj}(g:∀ x∈wd,wd.count x=2){u v:Nat}(hu:u < (aK wd).length)(hv:v < (aK wd).length):cr (iN wd) (jN wd) u v=bF (bT wd (az wd u) (az wd v)):=by
 obtain⟨e1,h1,h2,_⟩:=lI (g _ (mem_firsts.mp (lO hu)));obtain⟨e3,_⟩:=lI (g _ (mem_firsts.mp (lO hv)));rw[rH e1,wF _ h1 h2,e3];unfold cr dQ nQ iN jN;generalize bY wd (az wd u)=i;generalize bJ wd (az wd u)=j;generalize bY wd (az wd v)=k;generalize bJ wd (az wd v)=l;have f:∀ k (r:ak),(JI (λk=>aE (i < k)&&aE (k < j)) (k::r))=if i < k/\k < j then k::JI (λk=>aE (i < k)&&aE (k < j)) r else JI (λk=>aE (i < k)&&aE (k < j)) r:=λk r=>by
  rw[Zt]
  by_cases q:i < k/\k < j
  ·rw[aI q,aI (by simpa using q)]
  ·rw[aH q,aH (by simpa using q)]
 rw[f,f]
 by_cases q:i < k/\k < j<;>by_cases q':i < l/\l < j
 ·rw[aI q,aI q',aI q,aI q']; rfl
 ·rw[aI q,aH q',aI q,aH q']; rfl
 ·rw[aH q,aI q',aH q,aI q']; rfl
 ·rw[aH q,aH q',aH q,aH q']; rfl
def TJ(p:Nat->Bool):∀ l:ak,sm l (λv=>bF (p v))=n2 (l.filter p).length:=λl=>by
 induction l with
 |nil=>rfl
 |cons k l ih=>
  rw[eW,ih];cases h:p k
  ·rw[List.filter_cons_of_neg (by simp[h])]
   show (0:F2)+_=_
   grind
  ·rw[List.filter_cons_of_pos h,jo,yQ];show (1:F2)+_=_+1
   grind
def T9(wd:aj):aK wd=(j7 (aK wd).length).map (az wd):=by
 refine Jp (by simp) λi h1 h2=>?_
 rw[Nw,ZW];unfold az;rw[jD,j3 h1]; rfl
def FQ(wd:aj)(p:ah):sm (j7 (aK wd).length) (λv=>bF (p (az wd v)))=n2 ((aK wd).filter p).length:=by
 rw[TJ];have e:(aK wd).filter p=((j7 (aK wd).length).filter λv=>p (az wd v)).map (az wd):=by
  conv=>lhs; rw[T9 wd]
  rw[NL]; rfl
 rw[e,j4]
def cj(wd:aj)(hd:ah)(x:Str):Bool:=aE (bY wd x%2=1) != !hd x
def Gu(wd:aj)(hd:ah)(v:Nat):nh (iN wd) (hN wd hd) v=bF (cj wd hd (az wd v)):=by
 unfold nh cj fq iN hN;have e2:n2 (bY wd (az wd v))=bF (aE (bY wd (az wd v)%2=1)):=by
  obtain q |q:=Q6 (bY wd (az wd v))
  ·rw[rM (k:=0) q,bL (by rw[q]; decide)]; rfl
  ·rw[rM (k:=1) q,bB q]; rfl
 rw[e2];cases hd (az wd v)<;>cases aE (bY wd (az wd v)%2=1)<;>rfl
def Fj{wd:aj}(g:∀ x∈wd,wd.count x=2)(hd:ah):(∀(l0 d0:F2) (x:Nat->F2),nA (aK wd).length (aO (iN wd) (jN wd) (hN wd hd)) (bO (iN wd) (jN wd) (hN wd hd)) (dr wd) l0 d0 x)↔SidesOk (aK wd) (bT wd) (cj wd hd):=by
 rw[T2 (oG g)];have hdeg:∀ v,v < (aK wd).length->lX (aK wd).length (iN wd) (jN wd) v=n2 (cU (aK wd) (bT wd) (az wd v)).length:=λv hv=>by
  unfold lX cU;rw[<-FQ];exact fG λu hu=>xM g hv (je.mp hu)
 have hshr:∀ u v,u < (aK wd).length->v < (aK wd).length->nG (aK wd).length (iN wd) (jN wd) u v=n2 (qo (aK wd) (bT wd) (az wd u) (az wd v)):=λu v hu hv=>by
  unfold nG qo;rw[<-FQ wd λz=>bT wd (az wd u) z&&bT wd (az wd v) z];refine fG λw hw=>?_;have hw:=je.mp hw;rw[xM g hu hw,xM g hv hw];cases bT wd (az wd u) (az wd w)<;>cases bT wd (az wd v) (az wd w)<;>rfl
 have hall:∀ {P:Str->Prop},(∀ x∈aK wd,P x)↔∀ v,v < (aK wd).length->P (az wd v):=λ{P}=>by
  constructor
  ·intro h v hv; exact h _ (lO hv)
  ·intro h x hx;rw[<-oT hx];exact h _ (Q4.mpr hx)
 have fit:∀ u v,u < (aK wd).length->v < (aK wd).length->(nG (aK wd).length (iN wd) (jN wd) u v+cr (iN wd) (jN wd) u v*(nh (iN wd) (hN wd hd) u+nh (iN wd) (hN wd hd) v+1)=0↔(bT wd (az wd u) (az wd v)=aD->bS (aK wd) (bT wd) (az wd u) (az wd v)=aC)/\(bT wd (az wd u) (az wd v)=aC->bS (aK wd) (bT wd) (az wd u) (az wd v)=(cj wd hd (az wd u) != cj wd hd (az wd v)))):=λu v hu hv=>by
  rw[hshr u v hu hv,xM g hu hv,Gu,Gu];unfold bS;obtain q |q:=Q6 (qo (aK wd) (bT wd) (az wd u) (az wd v))
  ·rw[rM (k:=0) q,bB q];cases bT wd (az wd u) (az wd v)<;>cases cj wd hd (az wd u)<;>cases cj wd hd (az wd v)<;>decide
  ·rw[rM (k:=1) q,bL (by lia)]
   cases bT wd (az wd u) (az wd v)<;>cases cj wd hd (az wd u)<;>cases cj wd hd (az wd v)<;>decide
 constructor
 ·rintro⟨h1,h2⟩;have key:∀ x∈aK wd,∀ y∈aK wd,x≠y->(bT wd x y=aD->bS (aK wd) (bT wd) x y=aC)/\(bT wd x y=aC->bS (aK wd) (bT wd) x y=(cj wd hd x != cj wd hd y)):=λx hx y hy hne=>by
   have h:=h2 _ _ (Q4.mpr hx) (Q4.mpr hy) λe=>hne (by rw[<-oT hx,e,oT hy])
   rwa [fit _ _ (Q4.mpr hx) (Q4.mpr hy),oT hx,oT hy] at h
  refine⟨hall.mpr λv hv=>?_,λx hx y hy ho=>?_,λx hx y hy ha=>?_⟩
  ·exact n2_zero.mp (by rw[<-hdeg v hv]; exact h1 v hv)
  ·have:=(key x hx y hy ho.1).1 ho.2.1;rw[ho.2.2] at this;cases this
  ·refine(key x hx y hy λe=>?_).2 ha;rw[<-e] at ha;have hm:=mem_firsts.mp hx;obtain⟨i,j,hp⟩:=rm (g x hm);rw[rH hp,G5 hp] at ha;cases ha
 ·intro h;refine⟨λv hv=>?_,λu v hu hv hne=>?_⟩
  ·rw[hdeg v hv]; exact n2_zero.mpr (h.even _ (lO hv))
  ·rw[fit u v hu hv];refine⟨λhf=>?_,λht=>h.fit _ (lO hu) _ (lO hv) ht⟩;cases q:bS (aK wd) (bT wd) (az wd u) (az wd v)
   ·refine absurd ⟨λe=>hne ?_,hf,q⟩ (h.pair _ (lO hu) _ (lO hv));rw[<-vX hu,e,vX hv]
   ·rfl
def Vv{wd:aj}(g:GoodWord wd){x:Str}(hx:x∈aK wd)(b:Bool):xB [.lst (wd.map T.str),.str x,.int (bI b)]=aA (.lst ((lL wd x (aE ((bI b+(bY wd x:Int))%2=0))).map nT)):=by
 have hm:=mem_firsts.mp hx;obtain⟨e,h1,h2,_⟩:=lI (g.two x hm);have hl:=g.len;have es:=GO (wd:=wd) (by lia) x
 rw[e] at es;rw[oX e];generalize bY wd x=i at es h1;generalize bJ wd x=j at es h1 h2;have es:tz [.lst (wd.map T.str),.str x]=aA (.lst [.int (i:Nat),.int (j:Nat)]):=es;generalize wd.map T.str=W at es;refine eT ?_;show bG wq [aA (.lst W),aA (.str x),aA (.int (bI b)),aB,aB] _;unfold wq;refine aV (s':=[aA (.lst W),aA (.str x),aA (.int (bI b)),aA (.int (i:Nat)),aA (.int (j:Nat))]) (by simp?[es]) ?_
 have two:∀ k:Nat,(2:Int)*(k:Int)=((2*k:Nat):Int):=λk=>by lia
 by_cases q:(bI b+(i:Int))%2=0
 ·rw[bB q];refine w4 (by simp?[bB q]<;>rfl) ?_
  rw[two,two]; rfl
 ·rw[bL q];refine aV (by simp?[bL q]<;>rfl) ?_
  refine f8 (by simp?[]<;>rfl) ?_
  rw[two,two]; rfl
def uE(wd:aj)(sd:ah)(x:Str):Bool:=aE ((bI (sd x)+(bY wd x:Int))%2=0)
def RC(wd:aj)(sd:ah):cj wd (uE wd sd)=sd:=by
 funext x
 unfold cj uE bI;cases sd x<;>obtain q |q:=Q6 (bY wd x)
 ·rw[bL (by lia),bB (by simp; lia)]; rfl
 ·rw[bB q,bL (by simp; lia)]; rfl
 ·rw[bL (by lia),bL (by simp; lia)]; rfl
 ·rw[bB q,bB (by simp; lia)]; rfl
def TR(ns:aj)(f:Str->T):qE (ns.map T.str) (ns.map f)=ns.map λx=>T.tup [.str x,f x]:=by
 unfold qE
 induction ns with
 |nil=>rfl
 |cons x ns ih=>rw[jp,jp,List.zip_cons_cons,jp,ih]; rfl
def Tp{wd:aj}(g:GoodWord wd){sd:ah}(e:qi [.lst (wd.map T.str)]=aA (.tup [.str "sides",.lst ((aK wd).map λx=>.int (bI (sd x)))])):iR [.lst (wd.map T.str)]=aA (.lst ((bo wd (uE wd sd)).map bU)):=by
 have hl:=g.len;have en:=wI (wd:=wd) (by lia)
 refine eT ?_;show bG oh [aA (.lst (wd.map T.str)),aB] _;unfold oh;generalize hW:wd.map T.str=W at e en;refine aV (s':=[aA (.lst W),aA (.tup [.str "sides",.lst ((aK wd).map λx=>.int (bI (sd x)))])]) (by simp?[e]) ?_
 have i0:aM (.tup [.str "sides",.lst ((aK wd).map λx=>.int (bI (sd x)))]) (.int 0)=aA (.str "sides"):=rfl;have i1:aM (.tup [.str "sides",.lst ((aK wd).map λx=>.int (bI (sd x)))]) (.int 1)=aA (.lst ((aK wd).map λx=>.int (bI (sd x)))):=rfl;have n0:dF (.str "sides") (.str "sides")=aA (.bl aD):=rfl;refine aV (by simp?[i0,n0]<;>rfl) ?_
 have e:=iu (M:=[]) (caps:=[aB,aB,aA 0]) (fi:=uW (aF (av n4 (aF (dV 0) aJ)) (aF (d2 aM (dV 1) (dC (.int 1))) aJ))) (dg:=fK [0,1]) (fe:=eZ (aF (dV 0) (aF (av xB (aF (dV 2) (aF (dV 0) (aF (dV 1) aJ)))) aJ))) (s:=[aA (.lst W),aA (.tup [.str "sides",.lst ((aK wd).map λx=>.int (bI (sd x)))])]) (aK wd) (λx=>T.tup [.str x,.int (bI (sd x))]) (λx=>bU (x,lL wd x (uE wd sd x))) (by simp?[en,i1,TR]) (by have:=zj wd; lia) (by
  intro x hx;have ee:=Vv g hx (sd x);rw[hW] at ee
  exact⟨[aA (.str x),aA (.int (bI (sd x))),aA (.lst W)],rfl,by simp?[ee]<;>rfl,rfl⟩)
 refine f8 (by simp?[e]<;>rfl) ?_
 unfold bo;rw[jP]; rfl
structure Part (n:Nat) (f:ai) (rows:List (ak)) (pn:ai):Prop where
 at_:∀ w,w < n->∃ r,rows[pn w]?=aA r/\w∈r
 one:∀ i r w,rows[i]?=aA r->w∈r->w < n/\pn w=i
 nd:∀ r∈rows,r.Nodup
 orb:∀ r∈rows,∀ w∈r,∀ w'∈r,∃ t,t < n/\bu f t w/\bu f t w'
def uJ.part{n:Nat}{f:ai}(hf:Perm1 n f){rows:List (ak)}(h:uJ n f rows):∃ pn,Part n f rows pn:=by
 obtain⟨L,hT,hR⟩:=h;have row:∀ i r,rows[i]?=aA r->∃ x,L[i]?=aA x/\x < n/\uc f x r:=λi r hr=>by
  have hi:i < L.length:=by rw[<-hR.len]; exact(j6.mp hr).1
  exact⟨L[i],j3 hi,hT.lt _ (jU hi),hR.row i _ _ (j3 hi) hr⟩
 have orb:∀ x r w,uc f x r->w∈r->bu f x w:=λx r w ⟨k,e,_⟩ hw=>by
  rw[e] at hw;obtain⟨m,_,rfl⟩:=jz.mp hw;exact⟨m,rfl⟩
 have ex:∀ w,w < n->∃ i r,rows[i]?=aA r/\w∈r:=λw hw=>by
  obtain⟨t,ht,_,m,em⟩:=hR.le w hw;obtain⟨i,hi,rfl⟩:=Qw ht;have hi':i < rows.length:=by rw[hR.len]; exact hi
  obtain⟨k,e,_,_,hk⟩:=hR.row i _ _ (j3 hi) (j3 hi');refine⟨i,rows[i],j3 hi',?_⟩;rw[e,<-em];exact zw hk m
 have uq:∀ i j r r' w,rows[i]?=aA r->rows[j]?=aA r'->w∈r->w∈r'->i=j:=λi j r r' w hr hr' hw hw'=>by
  obtain⟨x,hx,xn,ax⟩:=row i r hr;obtain⟨y,hy,yn,ay⟩:=row j r' hr';have ox:=orb x r w ax hw;have oy:=orb y r' w ay hw';have oxy:=ox.trans (bu.symm hf yn oy);obtain⟨hi,rfl⟩:=j6.mp hx;obtain⟨hj,rfl⟩:=j6.mp hy;have pw:=gA.mp hT.one;obtain q |q |q:=gq i j
  ·exact absurd oxy (pw i j hi hj q)
  ·exact q
  ·exact absurd (bu.symm hf xn oxy) (pw j i hj hi q)
 refine⟨λw=>if h:w < n then QJ (ex w h) else 0,λw hw=>?_,λi r w hr hw=>?_,λr hr=>?_,λr hr w hw w' hw'=>?_⟩
 ·rw[dif_pos hw];exact Zz (ex w hw)
 ·obtain⟨x,_,xn,ax⟩:=row i r hr;obtain⟨m,em⟩:=orb x r w ax hw;have hwn:=em▸hf.itr_lt m xn;refine⟨hwn,?_⟩;rw[dif_pos hwn];obtain⟨r',hr',hw'⟩:=Zz (ex w hwn);exact uq _ _ _ _ w hr' hr hw' hw
 ·obtain⟨i,hi,rfl⟩:=Qw hr;obtain⟨x,_,_,k,e,_,nd,_⟩:=row i _ (j3 hi);rw[e]; exact nd
 ·obtain⟨i,hi,rfl⟩:=Qw hr;obtain⟨x,_,xn,ax⟩:=row i _ (j3 hi);exact⟨x,xn,orb x _ w ax hw,orb x _ w' ax hw'⟩
def A8:∀(l m:ak),l.Nodup->(∀ x∈l,x∈m)->l.length<=m.length:=by
 intro l
 induction l with
 |nil=>intro m _ _; exact QQ _
 |cons a l ih=>
  intro m hn hs;obtain⟨h1,h2⟩:=Qh.mp hn;have ha:=hs a (jV ..);have:=ih (m.erase a) h2 (λx hx=>(gx (λe:x=a=>h1 (e▸hx))).mpr (hs x (jA _ hx)));rw[ZI ha] at this;have:=gY ha;rw[jo];lia
def Pt.part{wd:aj}{hd:ah}(g:∀ x∈wd,wd.count x=2){rows:List (ak)}(h:Pt wd hd rows):∃ pn,Part (2*wd.length) (fw wd hd) rows pn:=by
 obtain ⟨rfl,rfl⟩ |⟨_,h⟩:=h
 ·have no:∀(r:ak) (w:Nat),r∈[[],[]]->w∈r->False:=λr w hr hw=>by
   obtain rfl |hr:=jx.mp hr
   ·cases hw
   ·rw[j9.mp hr] at hw; cases hw
  exact⟨λ_=>0,λw hw=>absurd hw (Zc _),λi r w hr hw=>(no r w (jy hr) hw).elim,λr hr=>by
   obtain rfl |hr:=jx.mp hr
   ·exact Zo
   ·rw[j9.mp hr]; exact Zo,λr hr w hw=>(no r w hr hw).elim⟩
 ·exact h.part (tE g hd)
def RH:∀ {L:ak} {lo s:Nat},L.Pairwise (λx y=>x < y)->(∀ x∈L,lo<=x/\x < s)->lo<=s->L.length+lo<=s:=by
 intro L
 induction L with
 |nil=>intro lo s _ _ h; simpa using h
 |cons a l ih=>
  intro lo s hp h hs;obtain⟨h1,h2⟩:=YH.mp hp;have ha:=h a (jV ..);have:=ih (lo:=a+1) h2 (λx hx=>⟨h1 x hx,(h x (jA _ hx)).2⟩) ha.2;rw[jo];lia
def Pt.len{wd:aj}{hd:ah}{rows:List (ak)}(h:Pt wd hd rows)(hl:wd.length<=60):rows.length<=122:=by
 obtain ⟨_,rfl⟩ |⟨_,L,ht,hR⟩:=h
 ·decide
 ·have:=RH (lo:=0) hR.srt (λx hx=>⟨QQ _,hR.lt x hx⟩) (QQ _);rw[hR.len];lia
def A5{wd:aj}{t:T}{x:Str}(e:qi [.lst (wd.map T.str)]=aA t)(e0:aM t (.int 0)=aA (.str x))(hx:aE (x=("sides":Str))=aD):iR [.lst (wd.map T.str)]=aB/\sD [.lst (wd.map T.str)]=aC:=by
 constructor
 ·show bZ 2 oh [.lst (wd.map T.str)]=aB;unfold bZ;have:oh (dZ 2 [.lst (wd.map T.str)])=aB:=by
   show oh [aA (.lst (wd.map T.str)),aB]=aB;unfold oh
   simp?[e,e0,hx]
   rfl
  rw[this]
 ·show wg [aA (.lst (wd.map T.str)),aB]=aC;have h1:aZ 1 (av qi (aF (dV 0) aJ)) [aA (.lst (wd.map T.str)),aB]=aA (.nx [aA (.lst (wd.map T.str)),aA t]):=by simp?[e]
  have h2:dB (d2 dF (d2 aM (dV 1) (dC (.int 0))) (dC (.str "sides"))) [aA (.lst (wd.map T.str)),aA t]=aA (aC,[aA (.lst (wd.map T.str)),aA t]):=by simp?[e0,hx]
  unfold wg rA;rw[h1];unfold sN;dsimp only;rw[h2];rfl
def Tq{wd:aj}(g:GoodWord wd):(∃ hd:ah,iR [.lst (wd.map T.str)]=aA (.lst ((bo wd hd).map bU))/\SidesOk (aK wd) (bT wd) (cj wd hd))∨(iR [.lst (wd.map T.str)]=aB/\sD [.lst (wd.map T.str)]=aC):=by
 obtain⟨t,e,ht⟩:=Sm g;cases ht with
 |odd x hx h=>exact .inr (A5 e rfl (by decide))
 |pair x y hx hy h=>exact .inr (A5 e rfl (by decide))
 |ring r h=>exact .inr (A5 e rfl (by decide))
 |sides sd h=>exact .inl ⟨uE wd sd,Tp g e,by rw[RC]; exact h⟩
def cH(E:List (Str × Bool)):List (aL × T):=E.map λe=>(ZA e.1,T.int (bI e.2))
def cB(E:List (Str × Bool)):aj:=E.map (·.1)
def tP(E:List (Str × Bool))(x:Str):(bh (cH E) (.inr x)).isSome=aE (x∈cB E):=by
 unfold cH cB;rw[qZ,gh,Ze,N9,decide_eq_true_iff];constructor
 ·rintro⟨e,he,h⟩;have:=ZX (of_decide_eq_true h);rw[<-this]; exact jz.mpr ⟨e,he,rfl⟩
 ·intro h;obtain⟨e,he,rfl⟩:=jz.mp h;exact⟨e,he,bB rfl⟩
def LL{E:List (Str × Bool)}{x:Str}(h:x∈cB E):∃ b:Bool,bh (cH E) (.inr x)=aA (.int (bI b)):=by
 have q:=tP E x;rw[bB h] at q;obtain⟨v,hv⟩:=ZG.mp q;have hv':=hv;unfold cH at hv;rw[qZ] at hv;obtain⟨e,_,rfl⟩:=Qm hv;exact⟨e.2,hv'⟩
def DY{E:List (Str × Bool)}{x:Str}(b:Bool)(h:x∉cB E):dI (cH E) (.inr x) (.int (bI b))=cH (E++[(x,b)]):=by
 rw[tI]
 ·unfold cH; rw[jF]; rfl
 ·unfold cH;rw[jP];intro hm;obtain⟨e,he,h2⟩:=jz.mp hm;exact h (ZX h2▸jz.mpr ⟨e,he,rfl⟩)
def Xr:Sg->Nat
 |[_,_,_,aA (.dct kvs),_,_,aA (.lst w),_,_,_]=>31*(30 - kvs.length)+w.length
 |_=>0
structure Tn (wd:aj) (E:List (Str × Bool)):Prop where
 nd:(cB E).Nodup
 sub:∀ x∈cB E,x∈aK wd
def Tn.le{wd:aj}{E:List (Str × Bool)}(h:Tn wd E)(hl:(aK wd).length<=30):E.length<=30:=by
 have:=rj _ _ h.nd h.sub;unfold cB at this;rw[j4] at this;lia
def Tn.snoc{wd:aj}{E:List (Str × Bool)}(h:Tn wd E){x:Str}(b:Bool)(hx:x∉cB E)(hf:x∈aK wd):Tn wd (E++[(x,b)]):=by
 have e:cB (E++[(x,b)])=cB E++[x]:=by unfold cB; rw[jF]; rfl
 refine⟨?_,λy hy=>?_⟩
 ·rw[e];refine jK.mpr ⟨h.nd,by simp,λa ha b hb=>?_⟩
  cases j9.mp hb;exact λz=>hx (z▸ha)
 ·rw[e] at hy;obtain hy |hy:=jn.mp hy
  ·exact h.sub y hy
  ·rw[j9.mp hy]; exact hf
def vg(E:List (Str × Bool))(x:Str)(b:Bool):cB (E++[(x,b)])=cB E++[x]:=by unfold cB; rw[jF]; rfl
def iK(E:List (Str × Bool))(x:Str):Bool:=match bh (cH E) (.inr x) with
 |some (.int i)=>aE (i=1)
 |_=>aD
def yD{E:List (Str × Bool)}{x:Str}{b:Bool}(h:bh (cH E) (.inr x)=aA (.int (bI b))):iK E x=b:=by
 unfold iK;rw[h];cases b<;>rfl
def EO{E:List (Str × Bool)}{y:Str}(b:Bool)(hy:y∉cB E)(x:Str):iK (E++[(y,b)]) x=if y=x then b else iK E x:=by
 have h:=tS (cH E) (.inr y) (.inr x) (.int (bI b));rw[DY b hy] at h
 by_cases e:y=x
 ·subst e;rw[aI rfl] at h;rw[aI rfl,yD h]
 ·rw[aH (λz=>e (ZX z))] at h;rw[aH e];unfold iK;rw[h]
def uN(wd:aj)(E:List (Str × Bool)):Prop:=∀ x∈cB E,∀ y∈aK wd,bT wd x y=aC->y∈cB E/\iK E y=iK E x
structure Wh (wd:aj) (sb:Bool) (E E':List (Str × Bool)) (wt:aj):Prop where
 old:∀ x∈cB E,x∈cB E'/\iK E' x=iK E x
 new:∀ x∈cB E',x∉cB E->iK E' x=sb
 nb:∀ x∈cB E',x∉cB E->∀ y∈aK wd,bT wd x y=aC->y∈cB E'∨y∈wt
def Wh.put{wd:aj}{sb:Bool}{E E':List (Str × Bool)}{w':aj}{y:Str}(h:Wh wd sb E E' (w'++[y]))(hy:y∉cB E'):Wh wd sb E (E'++[(y,sb)]) (w'++(aK wd).filter (bT wd y)):=by
 refine⟨λx hx=>?_,λx hx hn=>?_,λx hx hn z hz hc=>?_⟩
 ·obtain⟨h1,h2⟩:=h.old x hx;rw[vg,EO sb hy,aH (λe:y=x=>hy (e▸h1))];exact⟨ji _ h1,h2⟩
 ·rw[EO sb hy]
  by_cases e:y=x
  ·rw[aI e]
  ·rw[aH e];rw[vg] at hx;obtain hx |hx:=jn.mp hx
   ·exact h.new x hx hn
   ·exact absurd (j9.mp hx).symm e
 ·rw[vg] at hx ⊢;obtain hx |hx:=jn.mp hx
  ·obtain q |q:=h.nb x hx hn z hz hc
   ·exact .inl (ji _ q)
   ·obtain q |q:=jn.mp q
    ·exact .inr (ji _ q)
    ·exact .inl (jw _ q)
  ·cases j9.mp hx;exact .inr (jw _ (jQ.mpr ⟨hz,hc⟩))
def Wh.pop{wd:aj}{sb:Bool}{E E':List (Str × Bool)}{w':aj}{y:Str}(h:Wh wd sb E E' (w'++[y]))(hy:y∈cB E'):Wh wd sb E E' w':=
 ⟨h.old,h.new,λx hx hn z hz hc=>by
  obtain q |q:=h.nb x hx hn z hz hc
  ·exact .inl q
  ·obtain q |q:=jn.mp q
   ·exact .inr q
   ·rw[j9.mp q]; exact .inl hy⟩
def Wh.fin{wd:aj}(g:GoodWord wd){sb:Bool}{E E':List (Str × Bool)}(h:Wh wd sb E E' [])(hE:uN wd E)(ht:Tn wd E'):uN wd E':=by
 intro x hx y hy hc
 by_cases hn:x∈cB E
 ·obtain⟨h1,h2⟩:=hE x hn y hy hc;exact⟨(h.old y h1).1,by rw[(h.old y h1).2,(h.old x hn).2,h2]⟩
 ·have hyE:y∉cB E:=λz=>hn (by
   have hs:=(qW g).sym x (ht.sub x hx) y hy
   exact(hE y z x (ht.sub x hx) (hs▸hc)).1)
  obtain q |q:=h.nb x hx hn y hy hc
  ·exact⟨q,by rw[h.new y q hyE,h.new x hx hn]⟩
  ·cases q
def Mh(i j:Nat)(h:Bool):∃ a b c d:Nat,fV i j h=[a,b,c,d]/\fV i j (!h)=[a,d,c,b]:=by cases h<;>exact⟨_,_,_,_,rfl,rfl⟩
def Rr{wd:aj}(g:GoodWord wd){x:Bag2}(hx:x.Ok)(L:T)(Q:Fl->Prop){d:DS}(k:∀(b:Bag2) (E:List (Str × Bool)) (a4 a5 a6 a7:Option T),b.Ok->(∀ y∈aK wd,y∈cB E)->uN wd E->bG d [aA b.t,aA (.lst (wd.map T.str)),aA L,aA (.dct (cH E)),a4,a5,a6,a7,aB,aB] Q) :
  bG (aN (cM (bc (av n4 (aF (dV 1) aJ))) (bK 4)
  (bj (dB (d2 eV (dV 4) (dV 3))) (aN (aZ 5 (nO nc 0 (aF (dC (.int 2)) aJ)))
  (aN (aZ 6 (cf (aF (dV 4) aJ)))
  (fE (dB (d2 iF (d1 bn (dV 6)) (dC (.int 0))))
  (aN (aZ 7 (eR lY 6 aJ))
  (bj (dB (d2 eV (dV 7) (dV 3))) (aN (im 3 (dV 7) (dV 5))
  (iX (eR o9 6 (aF (av sG (aF (dV 1) (aF (dV 7) aJ))) aJ)))) bq)) 1000))) bq)) d) [aA x.t,aA (.lst (wd.map T.str)),aA L,aA (.dct []),aB,aB,aB,aB,aB,aB] Q:=by
 have hl:=g.len;have hf:=(qW g).len;have en:=wI (wd:=wd) (by lia)
 generalize hW:T.lst (wd.map T.str)=W at *;refine fZ (its:=(aK wd).map T.str) (λj s=>∃(b:Bag2) (E:List (Str × Bool)) (a4 a5 a6 a7:Option T),b.Ok/\(Tn wd E/\uN wd E)/\(∀ y∈(aK wd).take j,y∈cB E)/\s=[aA b.t,aA W,aA L,aA (.dct (cH E)),a4,a5,a6,a7,aB,aB]) (by simp?[en]<;>rfl) ⟨x,[],aB,aB,aB,aB,hx,⟨⟨Zo,λy hy=>by cases hy⟩,λy hy=>by cases hy⟩,λy hy=>by simp at hy,rfl⟩ ?_ ?_
 ·rintro j z s hz ⟨b,E,a4,a5,a6,a7,hb,⟨tn,cle⟩,hj,rfl⟩;obtain⟨nm,hnm,rfl⟩:=oQ hz;have hnf:=jy hnm;have bE0:=tn.le hf;refine⟨[aA b.t,aA W,aA L,aA (.dct (cH E)),aA (.str nm),a5,a6,a7,aB,aB],by simp?[],?_⟩
  by_cases hk:nm∈cB E
  ·have e1:aE (nm∈cB E)=aC:=bB hk;exact ca (by simp?[tP,e1]<;>rfl) ⟨b,E,_,_,_,_,hb,⟨tn,cle⟩,lT hj hnm hk,rfl⟩
  ·have e1:aE (nm∈cB E)=aD:=bL hk;obtain⟨sz,b1,edr,hb1,z0,z1⟩:=vQ hb 2 (by lia) (by lia)
   obtain⟨sb,rfl⟩:∃ sb:Bool,sz=bI sb:=by
    rcases(show sz=0∨sz=1 by lia) with rfl |rfl
    ·exact⟨aD,rfl⟩
    ·exact⟨aC,rfl⟩
   refine zJ (s':=[aA b.t,aA W,aA L,aA (.dct (cH E)),aA (.str nm),a5,a6,a7,aB,aB]) (by simp?[tP,e1]) ?_
   refine aV (s':=[aA b1.t,aA W,aA L,aA (.dct (cH E)),aA (.str nm),aA (.int (bI sb)),a6,a7,aB,aB]) (by simp?[edr]) ?_
   refine aV (by simp?[]<;>rfl) ?_
   refine Fu (λs=>∃(E':List (Str × Bool)) (wt:aj) (c7:Option T),Tn wd E'/\Wh wd sb E E' wt/\(∀ y∈wt,y∈aK wd)/\(nm∈wt∨nm∈cB E')/\31*(30 - E'.length)+wt.length<=931/\s=[aA b1.t,aA W,aA L,aA (.dct (cH E')),aA (.str nm),aA (.int (bI sb)),aA (.lst (wt.map T.str)),c7,aB,aB]) Xr ?_ ⟨E,[nm],a7,tn,⟨λ_ h=>⟨h,rfl⟩,λ_ h n=>absurd h n,λ_ h n=>absurd h n⟩,λy hy=>by rw[j9.mp hy]; exact hnf,.inl (j9.mpr rfl),by show 31*(30 - E.length)+1<=931; lia,rfl⟩ ?_ ?_
   ·show 31*(30 - (cH E).length)+1 < 1000;lia
   ·rintro s ⟨E',wt,c7,tn',hsub,hwf,hin,hm,rfl⟩;have bE:=tn'.le hf
    by_cases hwt:wt=[]
    ·subst hwt;exact⟨aD,_,by simp?[]<;>rfl,trivial⟩
    ·obtain⟨w',y,rfl⟩:∃ w' y,wt=w'++[y]:=⟨wt.dropLast,wt.getLast hwt,(Q7 hwt).symm⟩;have hyf:=hwf y (by simp)
     rw[jk] at hm;have hm:=hm;have pos:aE ((0:Int) < (((w'++[y]).map T.str).length:Nat))=aC:=bB (by rw[j4,jk]; show (0:Int) < ((w'.length+1:Nat):Int); lia)
     refine⟨aC,[aA b1.t,aA W,aA L,aA (.dct (cH E')),aA (.str nm),aA (.int (bI sb)),aA (.lst ((w'++[y]).map T.str)),c7,aB,aB],by simp?[pos,jk]; simp,?_⟩
     rw[aI rfl];refine aV (s':=[aA b1.t,aA W,aA L,aA (.dct (cH E')),aA (.str nm),aA (.int (bI sb)),aA (.lst (w'.map T.str)),aA (.str y),aB,aB]) (by simp?[ub]) ?_
     by_cases hy:y∈cB E'
     ·have e2:aE (y∈cB E')=aC:=bB hy;refine ca (by simp?[tP,e2]<;>rfl) ⟨⟨E',w',_,tn',hsub.pop hy,λz hz=>hwf z (ji _ hz),?_,by lia,rfl⟩,?_⟩
      ·obtain hin |hin:=hin
       ·obtain hin |hin:=jn.mp hin
        ·exact .inl hin
        ·rw[j9.mp hin]; exact .inr hy
       ·exact .inr hin
      ·show 31*(30 - (cH E').length)+(w'.map T.str).length < 31*(30 - (cH E').length)+((w'++[y]).map T.str).length;rw[j4,j4,jk];show _ < _+(w'.length+1);lia
     ·have e2:aE (y∈cB E')=aD:=bL hy;have hp:=DY sb hy;have tn2:=tn'.snoc sb hy hyf;have bE2:=tn2.le hf;rw[jk] at bE2;have bE2:E'.length+1<=30:=bE2;have ll:(cH E').length < ju:=lE (by unfold cH; rw[j4]; lia)
      obtain⟨pi,pj,hpl⟩:=rm (g.two y (mem_firsts.mp hyf));have ec:=GY (wd:=wd) (by lia) hpl
      rw[hW] at ec;have cl:((aK wd).filter (bT wd y)).length<=30:=Qc (Zw _ _) hf;generalize hcw:(aK wd).filter (bT wd y)=cw at ec cl;refine zJ (s':=[aA b1.t,aA W,aA L,aA (.dct (cH E')),aA (.str nm),aA (.int (bI sb)),aA (.lst (w'.map T.str)),aA (.str y),aB,aB]) (by simp?[tP,e2]) ?_
      refine aV (s':=[aA b1.t,aA W,aA L,aA (.dct (cH (E'++[(y,sb)]))),aA (.str nm),aA (.int (bI sb)),aA (.lst (w'.map T.str)),aA (.str y),aB,aB]) (by simp?[ll,d6,hp]) ?_
      refine ca (s':=[aA b1.t,aA W,aA L,aA (.dct (cH (E'++[(y,sb)]))),aA (.str nm),aA (.int (bI sb)),aA (.lst ((w'++cw).map T.str)),aA (.str y),aB,aB]) (by simp?[ec,CM (a:=w') (b:=cw) (by lia)]) ⟨⟨_,w'++cw,_,tn2,hcw▸hsub.put hy,λz hz=>?_,?_,?_,rfl⟩,?_⟩
      ·obtain hz |hz:=jn.mp hz
       ·exact hwf z (ji _ hz)
       ·rw[<-hcw] at hz;exact(jQ.mp hz).1
      ·rw[vg];obtain hin |hin:=hin
       ·obtain hin |hin:=jn.mp hin
        ·exact .inl (ji _ hin)
        ·rw[j9.mp hin]; exact .inr (jw _ (j9.mpr rfl))
       ·exact .inr (ji _ hin)
      ·rw[jk,jk];show 31*(30 - (E'.length+1))+_<=_;lia
      ·show 31*(30 - (cH (E'++[(y,sb)])).length)+((w'++cw).map T.str).length < 31*(30 - (cH E').length)+((w'++[y]).map T.str).length;unfold cH;rw[j4,j4,j4,j4,jk,jk,jk];show 31*(30 - (E'.length+1))+_ < _+(w'.length+1);lia
   ·rintro s0 s' ⟨E',wt,c7,tn',hsub,hwf,hin,hm,rfl⟩ h0
    by_cases hwt:wt=[]
    ·subst hwt;have h0:=h0;injection h0 with h0;injection h0 with _ h0;subst h0;refine⟨b1,E',_,_,_,_,hb1,⟨tn',hsub.fin g cle tn'⟩,lT (λy hy=>(hsub.old y (hj y hy)).1) hnm ?_,rfl⟩;obtain hin |hin:=hin
     ·cases hin
     ·exact hin
    ·exfalso
     have pos:aE ((0:Int) < (wt.length:Nat))=aC:=bB (by have:=Z4.mpr hwt; lia)
     have h2:dB (d2 iF (d1 bn (dV 6)) (dC (.int 0))) [aA b1.t,aA W,aA L,aA (.dct (cH E')),aA (.str nm),aA (.int (bI sb)),aA (.lst (wt.map T.str)),c7,aB,aB]=aA (aC,[aA b1.t,aA W,aA L,aA (.dct (cH E')),aA (.str nm),aA (.int (bI sb)),aA (.lst (wt.map T.str)),c7,aB,aB]):=by simp?[pos]
     rw[h2] at h0;cases h0
 ·rintro s ⟨b,E,a4,a5,a6,a7,hb,⟨tn,cle⟩,hj,rfl⟩;rw[j4,Qj] at hj;exact k b E a4 a5 a6 a7 hb hj cle
def UO{wd:aj}{hd hd':ah}{E:List (Str × Bool)}(h:SidesOk (aK wd) (bT wd) (cj wd hd))(e:∀ x,hd' x=if iK E x then !hd x else hd x)(c:uN wd E)(hall:∀ y∈aK wd,y∈cB E):SidesOk (aK wd) (bT wd) (cj wd hd'):=by
 have q:∀ x,cj wd hd' x=(cj wd hd x != iK E x):=λx=>by
  unfold cj;rw[e];cases iK E x<;>cases hd x<;>cases aE (bY wd x%2=1)<;>rfl
 refine⟨h.even,h.pair,λx hx y hy hc=>?_⟩;rw[h.fit x hx y hy hc,q,q,(c x (hall x hx) y hy hc).2];cases cj wd hd x<;>cases cj wd hd y<;>cases iK E x<;>rfl
def CO{wd:aj}{hd:ah}{j:Nat}{z:T}(h:((bo wd hd).map bU)[j]?=aA z):∃ x,(aK wd)[j]?=aA x/\z=.tup [.str x,.lst ((lL wd x (hd x)).map nT)]:=by
 unfold bo at h;rw[jP,jf] at h;obtain⟨x,hx,rfl⟩:=Qm h;exact⟨x,hx,rfl⟩
def VH{wd:aj}(g:GoodWord wd){x:Bag2}(hx:x.Ok):∃ y:Bag2,y.Ok/\((∃ hd:ah,wj [x.t,.lst (wd.map T.str)]=aA (.lst ((bo wd hd).map bU),y.t)/\SidesOk (aK wd) (bT wd) (cj wd hd)/\∃ hd0:ah,iR [.lst (wd.map T.str)]=aA (.lst ((bo wd hd0).map bU)))∨wj [x.t,.lst (wd.map T.str)]=aA (.non,y.t)):=by
 have hf:=(qW g).len;obtain ⟨hd,ed,hsd⟩ |⟨en,er⟩:=Tq g
 ·obtain⟨t,u,e,y,hy,rfl,hd',rfl,hsd'⟩:=vT (n:=10) (d:=sF) (ts:=[x.t,.lst (wd.map T.str)]) (Q:=λt u=>∃ y:Bag2,y.Ok/\u=y.t/\∃ hd':ah,t=.lst ((bo wd hd').map bU)/\SidesOk (aK wd) (bT wd) (cj wd hd')) (by
   unfold sF;have tr:qH [0] 1 sD (aF (dV 1) aJ) (aZ 2 (av iR (aF (dV 1) aJ))) [aA x.t,aA (.lst (wd.map T.str)),aB,aB,aB,aB,aB,aB,aB,aB]=aA (.nx [aA x.t,aA (.lst (wd.map T.str)),aA (.lst ((bo wd hd).map bU)),aB,aB,aB,aB,aB,aB,aB]):=by
    have q:aZ 2 (av iR (aF (dV 1) aJ)) [aA x.t,aA (.lst (wd.map T.str)),aB,aB,aB,aB,aB,aB,aB,aB]=aA (.nx [aA x.t,aA (.lst (wd.map T.str)),aA (.lst ((bo wd hd).map bU)),aB,aB,aB,aB,aB,aB,aB]):=by simp?[ed]
    unfold qH;rw[q]
   refine aV tr ?_;refine aV (s':=[aA x.t,aA (.lst (wd.map T.str)),aA (.lst ((bo wd hd).map bU)),aA (.dct []),aB,aB,aB,aB,aB,aB]) (by simp?[]) ?_
   refine Rr g hx _ _ λb E a4 a5 a6 a7 hb hall cle=>?_;obtain⟨hd',hd1⟩:∃ hd':ah,∀ x,hd' x=if iK E x then !hd x else hd x:=⟨_,λ_=>rfl⟩
   refine aV (s':=[aA b.t,aA (.lst (wd.map T.str)),aA (.lst ((bo wd hd).map bU)),aA (.dct (cH E)),a4,a5,a6,a7,aA (.lst []),aB]) (by simp?[]) ?_
   refine fZ (its:=(bo wd hd).map bU) (λj s=>∃ a4 a9:Option T,s=[aA b.t,aA (.lst (wd.map T.str)),aA (.lst ((bo wd hd).map bU)),aA (.dct (cH E)),a4,a5,a6,a7,aA (.lst (((bo wd hd').take j).map bU)),a9]) (by simp?[]<;>rfl) ⟨a4,aB,rfl⟩ ?_ ?_
   ·rintro j z s hz ⟨b4,b9,rfl⟩;obtain⟨nm,hnm,rfl⟩:=CO hz;have hnf:=jy hnm;obtain⟨bb,hbb⟩:=LL (hall nm hnf);obtain⟨pi,pj,hpl⟩:=rm (g.two nm (mem_firsts.mp hnf));obtain⟨a,b',c,d,e1,e2⟩:=Mh pi pj (hd nm);have jl:=(j6.mp hnm).1;have tl:(((bo wd hd').take j).map bU).length<=1000000:=by rw[j4,Q2]; lia
    have nxt:(bo wd hd').take (j+1)=(bo wd hd').take j++[(nm,lL wd nm (hd' nm))]:=by
     refine qf ?_;unfold bo;rw[jf,hnm]; rfl
    rw[oX hpl,e1];refine⟨[aA b.t,aA (.lst (wd.map T.str)),aA (.lst ((bo wd hd).map bU)),aA (.dct (cH E)),aA (.str nm),a5,a6,a7,aA (.lst (((bo wd hd').take j).map bU)),aA (.lst ([a,b',c,d].map nT))],rfl,?_⟩;have ll:∀ l:List T,nP (.lst l)=aA (.lst l):=λ_=>rfl;have i0:aM (.lst ([a,b',c,d].map nT)) (.int 0)=aA (nT a):=rfl;have i1:aM (.lst ([a,b',c,d].map nT)) (.int 1)=aA (nT b'):=rfl;have i2:aM (.lst ([a,b',c,d].map nT)) (.int 2)=aA (nT c):=rfl;have i3:aM (.lst ([a,b',c,d].map nT)) (.int 3)=aA (nT d):=rfl;cases bb with
    |true=>
     have hh:hd' nm=!hd nm:=by rw[hd1,yD hbb]; rfl
     refine aV (by simp?[hbb,show (bI aC)=1 from rfl,i0,i1,i2,i3]<;>rfl) ?_
     refine ca (s':=[aA b.t,aA (.lst (wd.map T.str)),aA (.lst ((bo wd hd).map bU)),aA (.dct (cH E)),aA (.str nm),a5,a6,a7,aA (.lst (((bo wd hd').take (j+1)).map bU)),aA (.lst ([a,d,c,b'].map nT))]) ?_ ⟨_,_,rfl⟩;rw[nxt,hh,oX hpl,e2,jF]
     simp?[ll,ul _ tl]
     rfl
    |false=>
     have hh:hd' nm=hd nm:=by rw[hd1,yD hbb]; rfl
     refine aV (by simp?[hbb,show (bI aD)=0 from rfl]<;>rfl) ?_
     refine ca (s':=[aA b.t,aA (.lst (wd.map T.str)),aA (.lst ((bo wd hd).map bU)),aA (.dct (cH E)),aA (.str nm),a5,a6,a7,aA (.lst (((bo wd hd').take (j+1)).map bU)),aA (.lst ([a,b',c,d].map nT))]) ?_ ⟨_,_,rfl⟩;rw[nxt,hh,oX hpl,e1,jF]
     simp?[ll,ul _ tl]
     rfl
   ·rintro s ⟨b4,b9,rfl⟩;have tk:(bo wd hd').take ((bo wd hd).map bU).length=bo wd hd':=by
     rw[j4];refine jZ ?_;unfold bo;rw[j4,j4];exact jj _
    rw[tk]
    exact eF (by simp?[]<;>rfl) ⟨_,_,_,rfl,b,hb,rfl,hd',rfl,UO hsd hd1 cle hall⟩)
  exact⟨y,hy,.inl ⟨hd',e,hsd',hd,ed⟩⟩
 ·obtain⟨t,u,e,rfl,rfl⟩:=vT (n:=10) (d:=sF) (ts:=[x.t,.lst (wd.map T.str)]) (Q:=λt u=>t=.non/\u=x.t) (by
   unfold sF;have tr:qH [0] 1 sD (aF (dV 1) aJ) (aZ 2 (av iR (aF (dV 1) aJ))) [aA x.t,aA (.lst (wd.map T.str)),aB,aB,aB,aB,aB,aB,aB,aB]=aA (.rt .non [aA x.t,aA (.lst (wd.map T.str)),aB,aB,aB,aB,aB,aB,aB,aB]):=by
    have q:aZ 2 (av iR (aF (dV 1) aJ)) [aA x.t,aA (.lst (wd.map T.str)),aB,aB,aB,aB,aB,aB,aB,aB]=aB:=by simp?[en]<;>rfl
    have q2:(aF (dV 1) aJ) [aA x.t,aA (.lst (wd.map T.str)),aB,aB,aB,aB,aB,aB,aB,aB]=aA ([.lst (wd.map T.str)],[aA x.t,aA (.lst (wd.map T.str)),aB,aB,aB,aB,aB,aB,aB,aB]):=by simp?[]
    unfold qH;rw[q,q2];dsimp only;rw[er];rfl
   exact qT tr ⟨_,_,_,rfl,rfl,rfl⟩)
  exact⟨x,hx,.inr e⟩
def bg(pn:ai)(k:Nat):T:=.tup [.int (pn (2*k):Nat),.int (pn (2*k+1):Nat)]
def PM{xs:List T}{j:Nat}{z:T}(h:(l7 xs)[j]?=aA z):∃ x,xs[j]?=aA x/\z=.tup [.int (j:Int),x]:=by
 unfold l7 at h;rw[jf] at h;obtain⟨i,hi,rfl⟩:=Qm h;obtain⟨h1,h2⟩:=j6.mp hi;rw[ZW] at h2;subst h2;have hj:j < xs.length:=by simpa using h1
 exact⟨xs[j],j3 hj,by rw[jD,j3 hj]; rfl⟩
def RX(xs:List T):(l7 xs).length=xs.length:=by unfold l7; simp
def TV{wd:aj}(hl:wd.length<=60){Lc:T}{rows:List (ak)}(hr:rows.length<=122)(ep:wm [.lst (wd.map T.str),Lc]=aA (.lst (rows.map dy))){f pn:ai}(P:Part (2*wd.length) f rows pn):sC [.lst (wd.map T.str),Lc]=aA (.lst ((j7 wd.length).map (bg pn))):=by
 first |refine tD ?_ |refine eT ?_
 show bG wP [aA (.lst (wd.map T.str)),aA Lc,aB,aB,aB,aB] _;unfold wP;refine aV (s':=[aA (.lst (wd.map T.str)),aA Lc,aA (.dct []),aB,aB,aB]) (by simp?[]) ?_
 refine fZ (its:=l7 (rows.map dy)) (λj s=>∃(kvs:List (aL × T)) (a3 a4 a5:Option T),kvs.length<=200*j/\(∀ i,i < j->∀ r,rows[i]?=aA r->∀ w∈r,bh kvs (.inl (w:Int))=aA (.int (i:Int)))/\s=[aA (.lst (wd.map T.str)),aA Lc,aA (.dct kvs),a3,a4,a5]) (by simp?[ep]) ⟨[],aB,aB,aB,QQ _,λi hi=>absurd hi (Zc _),rfl⟩ ?_ ?_
 ·rintro j z s hz ⟨kvs,a3,a4,a5,hk,hw,rfl⟩;obtain⟨x,hx,rfl⟩:=PM hz;rw[jf] at hx;obtain⟨r,hrj,rfl⟩:=Qm hx;have jl:=(j6.mp hrj).1;have rl:r.length<=120:=by
   have:=A8 r (j7 (2*wd.length)) (P.nd r (jy hrj)) λw hw=>je.mpr (P.one j r w hrj hw).1;rw[QC] at this;lia
  refine⟨[aA (.lst (wd.map T.str)),aA Lc,aA (.dct kvs),aA (.int (j:Int)),aA (dy r),a5],rfl,?_⟩;refine G9 (its:=r.map nT) (λm s=>∃(kv:List (aL × T)) (a5:Option T),kv.length<=200*j+m/\(∀ i,i < j->∀ r,rows[i]?=aA r->∀ w∈r,bh kv (.inl (w:Int))=aA (.int (i:Int)))/\(∀ w∈r.take m,bh kv (.inl (w:Int))=aA (.int (j:Int)))/\s=[aA (.lst (wd.map T.str)),aA Lc,aA (.dct kv),aA (.int (j:Int)),aA (dy r),a5]) (by unfold dy; simp?[]) ⟨kvs,a5,by lia,hw,λw hw=>by simp at hw,rfl⟩ ?_ ?_
  ·rintro m z s hz ⟨kv,b5,hkl,ho,hn,rfl⟩;rw[jf] at hz;obtain⟨w,hwm,rfl⟩:=Qm hz;have hwr:=jy hwm;have ml:=(j6.mp hwm).1;have ll:kv.length < ju:=lE (by lia)
   have pl:=ER kv (.inl (w:Int)) (.int (j:Int));have inj:∀ w':Nat,((.inl (w:Int):aL)=.inl (w':Int))->w=w':=λw' e=>by have:=Y0 e; lia
   refine⟨[aA (.lst (wd.map T.str)),aA Lc,aA (.dct kv),aA (.int (j:Int)),aA (dy r),aA (.int (w:Int))],rfl,?_⟩;refine ca (s':=[aA (.lst (wd.map T.str)),aA Lc,aA (.dct (dI kv (.inl (w:Int)) (.int (j:Int)))),aA (.int (j:Int)),aA (dy r),aA (.int (w:Int))]) (by simp?[ll,d6]) ⟨_,_,by lia,λi hi r' hr' w' hw'=>?_,λw' hw'=>?_,rfl⟩
   ·rw[tS,aH λe=>?_]
    ·exact ho i hi r' hr' w' hw'
    ·have:=inj w' e;subst this;have:=(P.one i r' w hr' hw').2;have:=(P.one j r w hrj hwr).2;lia
   ·rw[tS]
    by_cases e:w=w'
    ·rw[aI (by rw[e])]
    ·rw[aH λz=>e (inj w' z)];rw[qf hwm] at hw';obtain q |q:=jn.mp hw'
     ·exact hn w' q
     ·exact absurd (j9.mp q).symm e
  ·rintro s ⟨kv,b5,hkl,ho,hn,rfl⟩;rw[j4] at hkl hn;rw[Qj] at hn;refine⟨kv,_,_,_,by lia,λi hi r' hr' w hw=>?_,rfl⟩
   by_cases e:i=j
   ·subst e;rw[hrj] at hr';cases jh hr';exact hn w hw
   ·exact ho i (by lia) r' hr' w hw
 ·rintro s ⟨kvs,a3,a4,a5,hk,hw,rfl⟩;rw[RX,j4] at hw;have look:∀ w,w < 2*wd.length->bh kvs (.inl (w:Int))=aA (.int (pn w:Nat)):=λw hwl=>by
   obtain⟨r,hr',hwr⟩:=P.at_ w hwl;exact hw _ (j6.mp hr').1 r hr' w hwr
  have e:=iu (M:=[2]) (caps:=[aB,aA 2]) (fi:=i7 (aF (d1 bn (dV 0)) aJ)) (dg:=bK 0) (fe:=eZ (aF (cC aM 1 (d2 dN (dC (.int 2)) (dV 0))) (aF (cC aM 1 (d2 bV (d2 dN (dC (.int 2)) (dV 0)) (dC (.int 1)))) aJ))) (s:=[aA (.lst (wd.map T.str)),aA Lc,aA (.dct kvs),a3,a4,a5]) (j7 wd.length) nT (bg pn) (by simp?[uA (k:=wd.length) (by lia),Q3,qd]) (by simp; lia) (by
   intro k hk;have hk:=je.mp hk;have e1:bh kvs (.inl (2*(k:Int)))=aA (.int (pn (2*k):Nat)):=by rw[show (2*(k:Int))=((2*k:Nat):Int) by lia]; exact look _ (by lia)
   have e2:bh kvs (.inl (2*(k:Int)+1))=aA (.int (pn (2*k+1):Nat)):=by rw[show (2*(k:Int)+1)=((2*k+1:Nat):Int) by lia]; exact look _ (by lia)
   exact⟨[aA (.int (k:Int)),aA (.dct kvs)],rfl,by simp?[e1,e2]<;>rfl,rfl⟩)
  exact eF (by simp?[e]<;>rfl) ⟨_,rfl⟩
def yM{b nm:ai}(k:Nat):Dd b nm (0:F2) (λ_=>0) k=0:=by
 rw[xo,oU (λk _=>by split<;>rfl)]
 rfl
def Lx{a b nm:ai}(l0:F2):∀ k,La a b nm l0 0 (λ_=>0) k=l0:=λk=>by
 induction k with
 |zero=>rfl
 |succ k ih=>
  show La a b nm l0 0 (λ_=>0) k+Cc a b nm 0 (λ_=>0) k=l0;rw[ih];unfold Cc;rw[yM,yM];split<;>(generalize l0=z; revert z; decide)
def HP{wd:aj}(g:∀ x∈wd,wd.count x=2){hd:ah}{G:Nat->F2}(hG:∀ w,w < 2*wd.length->G (fw wd hd w)=G w)(h2:∀ k,k < wd.length->G (2*k)=G (2*k+1)):∃ z,∀ w,w < 2*wd.length->G w=z:=by
 have hl:=lD g;have C:=(oG g).cd (hN wd hd);have cor:=DJ C (uo g hd) (G:=G) λw hw=>hG w (by lia)
 have dz:∀ k,k < 2*(aK wd).length->dG G k=0:=λk hk=>by
  unfold dG;rw[h2 k (by lia)]
  generalize G (2*k+1)=z
  revert z
  decide
 refine⟨n9 (aK wd).length G,λw hw=>?_⟩;have pv:∀ {k:Nat},k < 2*(aK wd).length->bR (aK wd).length k < 2*(aK wd).length:=λh=>t7 h;have xz:∀ v,v < (aK wd).length->xG (aK wd).length (aO (iN wd) (jN wd) (hN wd hd)) G v=0:=λv hv=>by
  have ha:=C.alt v hv;unfold xG;rw[dz _ ha,dz _ (pv ha)];rfl
 rw[xY C cor w (by lia),dz _ (pv (by lia)),E5 C xz (by lia)]
 unfold Gg;rw[Lx,yM];split
 ·rfl
 ·generalize n9 _ _=z
  revert z
  decide
def zi{wd:aj}(g:∀ x∈wd,wd.count x=2){hd:ah}{rows:List (ak)}(h:Pt wd hd rows)(hs:SidesOk (aK wd) (bT wd) (cj wd hd)):rows.length=(aK wd).length+2:=by
 have hl:=lD g;obtain ⟨rfl,rfl⟩ |⟨hne,L,hT,hR⟩:=h
 ·rfl
 ·have hp:=tE g hd;have e4:2*wd.length=4*(aK wd).length:=by lia
  have hn:0 < (aK wd).length:=by have:=Z4.mpr hne; lia
  rw[e4] at hp hT;obtain⟨r,hc⟩:=DF hp hT;have C:=(oG g).cd (hN wd hd);have W:=uo g hd;have h1:=(Fg (M:=2) C W hn hc).1;have h2:=Tj (M:=2) C W hp hn hc ((Fj g hd).mpr hs);rw[hR.len];exact Nat.pow_right_inj (a:=2) (by lia) |>.mp (NR h1 h2)
def Si(b nm:ai):Nat->Int
 |0=>0
 |k+1=>Si b nm k+if k=b (nm k) then 1 else -1
def Hw(b nm:ai)(w:Nat):Int:=if w%2=0 then Si b nm (w / 2+1) else Si b nm (w / 2+1) - 1
def vJ(b nm:ai)(k:Nat):Si b nm (k+1)=Si b nm k+if k=b (nm k) then 1 else -1:=rfl
def uv(b nm:ai):∀ k:Nat,-(k:Int)<=Si b nm k/\Si b nm k<=k:=λk=>by
 induction k with
 |zero=>exact⟨Int.le_refl _,Int.le_refl _⟩
 |succ k ih=>
  rw[vJ];split<;>lia
def Lw(b nm:ai)(w:Nat):-((w / 2:Nat):Int) - 2<=Hw b nm w/\Hw b nm w<=((w / 2:Nat):Int)+1:=by
 have:=uv b nm (w / 2+1);unfold Hw;split<;>lia
abbrev FK:=Fin 1000
def cF(z:Int):FK:=⟨(z%1000).toNat,by lia⟩
def yN{x y:Int}(h:cF x=cF y)(hx:-100<=x/\x<=100)(hy:-100<=y/\y<=100):x=y:=by
 have:=congrArg Fin.val h;unfold cF at this;have:(x%1000).toNat=(y%1000).toNat:=this;lia
def Le(z:Int):cF (z+1)=cF z+1:=by
 refine JG ?_;rw[Fin.val_add];show ((z+1)%1000).toNat=((z%1000).toNat+1)%1000;lia
def Ld(z:Int):cF (z+-1)=cF z+-1:=by
 refine JG ?_;rw[Fin.val_add];show ((z+-1)%1000).toNat=((z%1000).toNat+999)%1000;lia
def Lf(z:Int):cF (z - 1)=cF z - 1:=by
 refine JG ?_;rw[Fin.sub_def];show ((z - 1)%1000).toNat=((1000 - 1)+(z%1000).toNat)%1000;lia
def Xo{M:Nat}[NeZero M]{l:ak}{h:Nat->Fin M}(e:∀ k∈l,h k=0):sm l h=0:=by
 rw[fG (h':=λ_=>0) e]; exact zM l
def Bl{b nm:ai}(k:Nat):Dd b nm (1:FK) (λ_=>0) k=1:=by
 rw[xo,Xo (λk _=>by split<;>rfl)]
 rfl
def xR{a b nm:ai}:∀ k,La a b nm (0:FK) 1 (λ_=>0) k=cF (Si b nm k):=λk=>by
 induction k with
 |zero=>rfl
 |succ k ih=>
  show La a b nm (0:FK) 1 (λ_=>0) k+Cc a b nm 1 (λ_=>0) k=_;rw[ih];unfold Cc;rw[Bl,Bl,vJ]
  by_cases q:k=b (nm k)
  ·rw[aI q,aI q,Le]
  ·rw[aH q,aH q,Ld]
def HG{a b nm:ai}(w:Nat):Gg a b nm (0:FK) 1 (λ_=>0) w=cF (Hw b nm w):=by
 unfold Gg Hw;rw[xR,Bl]
 by_cases q:w%2=0
 ·rw[aI q,aI q]
 ·rw[aH q,aH q,Lf]
def hW(wd:aj)(hd:ah):Nat->Int:=Hw (bO (iN wd) (jN wd) (hN wd hd)) (dr wd)
def M7(wd:aj)(hd:ah)(k:Nat):hW wd hd (2*k)=hW wd hd (2*k+1)+1:=by
 unfold hW Hw;rw[aI (by lia),aH (by lia),show (2*k+1) / 2=2*k / 2 by lia]
 lia
def DP{wd:aj}(hd:ah)(hl:wd.length<=60){w:Nat}(hw:w < 2*wd.length):-100<=hW wd hd w/\hW wd hd w<=100:=by
 have:=Lw (bO (iN wd) (jN wd) (hN wd hd)) (dr wd) w;unfold hW;lia
def E6{wd:aj}(g:∀ x∈wd,wd.count x=2){hd:ah}{rows:List (ak)}(h:Pt wd hd rows)(hs:SidesOk (aK wd) (bT wd) (cj wd hd))(hne:wd≠[]):∀(l0 d0:FK) (x:Nat->FK),nA (aK wd).length (aO (iN wd) (jN wd) (hN wd hd)) (bO (iN wd) (jN wd) (hN wd hd)) (dr wd) l0 d0 x:=by
 have hl:=lD g;have hr:=zi g h hs;obtain ⟨e,_⟩ |⟨hne,L,hT,hR⟩:=h
 ·exact absurd e hne
 ·have hp:=tE g hd;have e4:2*wd.length=4*(aK wd).length:=by lia
  have hn:0 < (aK wd).length:=by have:=Z4.mpr hne; lia
  rw[e4] at hp hT;obtain⟨r,hc⟩:=DF hp hT;rw[hR.len] at hr;rw[hr] at hc;exact(Fg ((oG g).cd (hN wd hd)) (uo g hd) hn hc).2 rfl
def Lv{wd:aj}(g:∀ x∈wd,wd.count x=2)(h60:wd.length<=60){hd:ah}{rows:List (ak)}(h:Pt wd hd rows)(hs:SidesOk (aK wd) (bT wd) (cj wd hd)){t w w':Nat}(ht:t < 2*wd.length)(h1:bu (fw wd hd) t w)(h2:bu (fw wd hd) t w')(hw:w < 2*wd.length)(hw':w' < 2*wd.length):hW wd hd w=hW wd hd w':=by
 have hl:=lD g;have C:=(oG g).cd (hN wd hd);have hne:wd≠[]:=λe=>by rw[e] at ht; exact absurd ht (Zc _)
 have cor:=DH C (E6 g h hs hne 0 1 λ_=>0);have inv:=DV C (uo g hd) cor;have hp:=tE g hd;rw[show 2*wd.length=4*(aK wd).length by lia] at hp ht
 have e:=(vZ hp inv ht h1).trans (vZ hp inv ht h2).symm;rw[HG,HG] at e;exact yN e (DP hd h60 hw) (DP hd h60 hw')
def IZ{wd:aj}(g:∀ x∈wd,wd.count x=2)(h60:wd.length<=60){hd:ah}{rows:List (ak)}(h:Pt wd hd rows)(hs:SidesOk (aK wd) (bT wd) (cj wd hd)){pn:ai}(P:Part (2*wd.length) (fw wd hd) rows pn):∃ hv:Nat->Int,∀ w,w < 2*wd.length->hv (pn w)=hW wd hd w - hW wd hd 0:=by
 classical
 refine⟨λp=>if e:∃ w,w < 2*wd.length/\pn w=p then hW wd hd (QJ e) - hW wd hd 0 else 0,λw hw=>?_⟩
 have e:∃ w',w' < 2*wd.length/\pn w'=pn w:=⟨w,hw,rfl⟩;show (if e:∃ w',w' < 2*wd.length/\pn w'=pn w then hW wd hd (QJ e) - hW wd hd 0 else 0)=_
 rw[dif_pos e];obtain⟨h1,h2⟩:=Zz e;generalize QJ e=w' at h1 h2 ⊢;obtain⟨r,hr,m⟩:=P.at_ w hw;obtain⟨r',hr',m'⟩:=P.at_ w' h1;rw[h2,hr] at hr';cases jh hr';obtain⟨t,ht,o1,o2⟩:=P.orb r (jy hr) _ m' _ m;rw[Lv g h60 h hs ht o1 o2 h1 hw]
def Lj{wd:aj}(g:∀ x∈wd,wd.count x=2){hd:ah}{rows:List (ak)}{pn:ai}(h:Pt wd hd rows)(P:Part (2*wd.length) (fw wd hd) rows pn)(S:Nat->Bool)(h2:∀ k,k < wd.length->S (pn (2*k))=S (pn (2*k+1)))(h0:S (pn 0)=aC):∀ w,w < 2*wd.length->S (pn w)=aC:=by
 have stay:∀ w,w < 2*wd.length->pn (fw wd hd w)=pn w:=λw hw=>by
  obtain ⟨e,_⟩ |⟨_,L,hT,hR⟩:=h
  ·rw[e] at hw; exact absurd hw (Zc _)
  ·obtain⟨r,hr,m⟩:=P.at_ w hw;have hi:pn w < L.length:=by rw[<-hR.len]; exact(j6.mp hr).1
   obtain⟨k,e,_,_,hk⟩:=hR.row _ _ _ (j3 hi) hr;refine(P.one (pn w) r _ hr ?_).2;rw[e] at m ⊢;obtain⟨j,_,ej⟩:=jz.mp m;have:=zw hk (j+1)
   rwa [show bf (fw wd hd) (j+1) L[pn w]=fw wd hd w from congrArg (fw wd hd) ej] at this
 obtain⟨z,hz⟩:=HP g (hd:=hd) (G:=λw=>bF (S (pn w))) (λw hw=>by rw[stay w hw]) (λk hk=>by rw[h2 k hk])
 intro w hw;have e:=(hz w hw).trans (hz 0 (by lia)).symm
 rw[M5 e,h0]
def bH(hv:Nat->Int)(L:ak):List (aL × T):=L.map fun(p:Nat)=>(gZ (p:Int),T.int (hv p))
def tF(hv:Nat->Int)(L:ak)(p:Nat):bh (bH hv L) (.inl (p:Int))=if p∈L then aA (.int (hv p)) else aB:=by
 unfold bH;rw[qZ]
 by_cases h:p∈L
 ·rw[aI h];have:(L.find? fun(x:Nat)=>aE ((gZ (x:Int):aL)=.inl (p:Int))).isSome:=N9.mpr ⟨p,h,bB rfl⟩;obtain⟨y,hy⟩:=ZG.mp this;have e:=JH hy;have e:=Y0 (of_decide_eq_true e);rw[hy,show y=p by lia]; rfl
 ·rw[aH h,WP.mpr]
  ·rfl
  ·intro x hx e;have e:=Y0 (of_decide_eq_true e);exact h (by rw[<-show x=p by lia]; exact hx)
def v5(hv:Nat->Int)(L:ak)(p:Nat):dI (bH hv L) (.inl (p:Int)) (.int (hv p))=bH hv (if p∈L then L else L++[p]):=by
 by_cases h:p∈L
 ·rw[aI h];unfold dI bH;rw[aI]
  ·rw[jP];refine Qq λx hx=>?_;show (if (gZ (x:Int):aL)=.inl (p:Int) then ((gZ (x:Int):aL),T.int (hv p)) else (gZ (x:Int),T.int (hv x)))=_
   split
   ·next e=>rw[show x=p by have:=Y0 e; lia]
   ·rfl
  ·exact Ye.mpr ⟨(gZ (p:Int),T.int (hv p)),jz.mpr ⟨p,h,rfl⟩,bB rfl⟩
 ·rw[aH h,tI]
  ·unfold bH; rw[jF]; rfl
  ·unfold bH;rw[jP];intro hm;obtain⟨x,hx,e⟩:=jz.mp hm;exact h (by rw[<-show x=p by have:=Y0 e; lia]; exact hx)
def Gz:Sg->Nat
 |[_,aA (.dct kvs),aA (.lst w),_,_]=>if w.isEmpty then 0 else 33 - kvs.length
 |_=>0
structure Ht (R:Nat) (L:ak):Prop where
 nd:L.Nodup
 lt:∀ p∈L,p < R
def Ht.len{R:Nat}{L:ak}(h:Ht R L):L.length<=R:=by
 have:=A8 L (j7 R) h.nd λx hx=>je.mpr (h.lt x hx);rw[QC] at this; exact this
def Ht.put{R:Nat}{L:ak}(h:Ht R L){p:Nat}(hp:p < R):Ht R (if p∈L then L else L++[p]):=by
 by_cases q:p∈L
 ·rw[aI q]; exact h
 ·rw[aH q];refine⟨jK.mpr ⟨h.nd,by simp,λa ha b hb=>?_⟩,λx hx=>?_⟩
  ·rw[j9.mp hb]; exact λe=>q (e▸ha)
  ·obtain hx |hx:=jn.mp hx
   ·exact h.lt x hx
   ·rw[j9.mp hx]; exact hp
structure Tr (pn:ai) (L L':ak) (js:ak):Prop where
 sub:∀ p∈L,p∈L'
 or_:L.length < L'.length∨(L'=L/\∀ k∈js,(pn (2*k)∈L↔pn (2*k+1)∈L))
def Tr.put{pn:ai}{L L' js:ak}(h:Tr pn L L' js){p k:Nat}(hs:p∈L'->(pn (2*k)∈L'/\pn (2*k+1)∈L')):Tr pn L (if p∈L' then L' else L'++[p]) (js++[k]):=by
 by_cases q:p∈L'
 ·rw[aI q];refine⟨h.sub,h.or_.imp id fun⟨e,hh⟩=>⟨e,λj hj=>?_⟩⟩;obtain hj |hj:=jn.mp hj
  ·exact hh j hj
  ·rw[j9.mp hj,<-e];exact⟨λ_=>(hs q).2,λ_=>(hs q).1⟩
 ·rw[aH q];refine⟨λx hx=>ji _ (h.sub x hx),.inl ?_⟩;rw[jk];obtain z |⟨e,_⟩:=h.or_
  ·exact Nat.lt_add_right _ z
  ·rw[e]; exact Zj _
def Tr.no{pn:ai}{L L' js:ak}(h:Tr pn L L' js){k:Nat}(h1:pn (2*k)∉L')(h2:pn (2*k+1)∉L'):Tr pn L L' (js++[k]):=
 ⟨h.sub,h.or_.imp id fun⟨e,hh⟩=>⟨e,λj hj=>by
  obtain hj |hj:=jn.mp hj
  ·exact hh j hj
  ·rw[j9.mp hj,<-e]
   exact⟨λz=>absurd z h1,λz=>absurd z h2⟩⟩⟩
def Gj{N:Nat}(hN:0 < N)(h60:N<=60){pn:ai}{R:Nat}(hR:R<=32)(lt:∀ w,w < 2*N->pn w < R){hv:Nat->Int}(h0:hv (pn 0)=0)(hs:∀ k,k < N->hv (pn (2*k))=hv (pn (2*k+1))+1)(cn:∀ S:Nat->Bool,(∀ k,k < N->S (pn (2*k))=S (pn (2*k+1)))->S (pn 0)=aC->∀ w,w < 2*N->S (pn w)=aC) :
  ∃ L:ak,Ht R L/\(∀ w,w < 2*N->pn w∈L)/\xE [.lst ((j7 N).map (bg pn))]=aA (.fd (bH hv L)):=by
 have hInA:∀(x:Int) (kvs:List (aL × T)),nE (.int x) (.dct kvs)=aA (.bl (bh kvs (.inl x)).isSome):=λ_ _=>rfl;have hNotA:∀(x:Int) (kvs:List (aL × T)),eV (.int x) (.dct kvs)=aA (.bl (!(bh kvs (.inl x)).isSome)):=λ_ _=>rfl;have some_in:∀(L:ak) (p:Nat),(bh (bH hv L) (.inl (p:Int))).isSome=aE (p∈L):=λL p=>by
  rw[tF]; by_cases h:p∈L
  ·rw[aI h,bB h]; rfl
  ·rw[aH h,bL h]; rfl
 generalize hA:T.lst ((j7 N).map (bg pn))=A
 obtain⟨t,e,L,hL,hall,rfl⟩:=ir (n:=5) (d:=u5) (ts:=[A]) (Q:=λt=>∃ L:ak,Ht R L/\(∀ w,w < 2*N->pn w∈L)/\t=.fd (bH hv L)) (by
  show bG u5 [aA A,aB,aB,aB,aB] _;unfold u5;have i0:aM A (.int 0)=aA (bg pn 0):=by
   rw[<-hA,show (0:Int)=((0:Nat):Int) from rfl,ln,jf,QL hN]; rfl
  have i1:aM (bg pn 0) (.int 0)=aA (.int (pn 0:Nat)):=rfl;have d0:bH hv [pn 0]=[(.inl (pn 0:Int),.int 0)]:=by unfold bH; rw[jp,h0]; rfl
  refine aV (s':=[aA A,aA (.dct (bH hv [pn 0])),aB,aB,aB]) (by rw[d0]; simp?[i0,i1,d6]<;>rfl) ?_
  refine aV (s':=[aA A,aA (.dct (bH hv [pn 0])),aA A,aB,aB]) (by simp?[]) ?_
  have hl1:Ht R [pn 0]:=⟨by simp,λp hp=>by rw[j9.mp hp]; exact lt 0 (by lia)⟩
  refine re (λs=>∃(L ks:ak) (a3 a4:Option T),Ht R L/\pn 0∈L/\(∀ k∈ks,k < N)/\(∀ k,k < N->k∉ks->pn (2*k)∈L/\pn (2*k+1)∈L)/\ks.length<=60/\s=[aA A,aA (.dct (bH hv L)),aA (.lst (ks.map (bg pn))),a3,a4]) Gz ?_ ⟨[pn 0],j7 N,aB,aB,hl1,by simp,λk hk=>je.mp hk,λk hk hn=>absurd (je.mpr hk) hn,by simpa using h60,by rw[hA]⟩ ?_ ?_
  ·rw[<-hA];unfold Gz;show (if _ then 0 else 33 - _) < 100
   split
   ·decide
   ·exact gO (Nat.sub_le _ _) (by decide)
  ·rintro s ⟨L,ks,a3,a4,hL,hp0,hk,hout,hkl,rfl⟩
   by_cases hz:ks=[]
   ·subst hz;exact⟨aD,_,by simp?[]<;>rfl,trivial⟩
   have hne:(ks.map (bg pn)).isEmpty=aD:=by cases ks<;>simp at hz ⊢
   refine⟨aC,[aA A,aA (.dct (bH hv L)),aA (.lst (ks.map (bg pn))),a3,a4],by simp?[hne]<;>rfl,?_⟩
   rw[aI rfl];refine fZ (its:=ks.map (bg pn)) (λj s=>∃(L':ak) (a3 a4:Option T),Ht R L'/\Tr pn L L' (ks.take j)/\s=[aA A,aA (.dct (bH hv L')),aA (.lst (ks.map (bg pn))),a3,a4]) (by simp?[]) ⟨L,a3,a4,hL,⟨λ_ h=>h,.inr ⟨rfl,λk hk=>by simp at hk⟩⟩,rfl⟩ ?_ ?_
   ·rintro j z s hz ⟨L',b3,b4,hL',tr,rfl⟩;rw[jf] at hz;obtain⟨k,hkj,rfl⟩:=Qm hz;have kN:=hk k (jy hkj);have tk:=qf hkj;have hsk:=hs k kN;have lp:=lt (2*k) (by lia)
    have lq:=lt (2*k+1) (by lia)
    have hS:(bH hv L').length < ju:=lE (by unfold bH; rw[j4]; have:=hL'.len; lia)
    refine⟨[aA A,aA (.dct (bH hv L')),aA (.lst (ks.map (bg pn))),aA (.int (pn (2*k):Nat)),aA (.int (pn (2*k+1):Nat))],rfl,?_⟩;rw[tk];generalize hp:pn (2*k)=p at *;generalize hq:pn (2*k+1)=q at *;have lkp:=tF hv L' p;have lkq:=tF hv L' q
    by_cases c1:p∈L'
    ·rw[aI c1] at lkp;refine ca (s':=[aA A,aA (.dct (bH hv (if q∈L' then L' else L'++[q]))),aA (.lst (ks.map (bg pn))),aA (.int (p:Nat)),aA (.int (q:Nat))]) ?_ ⟨_,_,_,hL'.put lq,tr.put (λz=>by rw[hp,hq]; exact⟨c1,z⟩),rfl⟩
     have pt:=v5 hv L' q;rw[show hv q=hv p - 1 by lia] at pt
     simp?[hInA,some_in,bB c1,lkp,hS,d6,pt]<;>rfl
    ·by_cases c2:q∈L'
     ·rw[aI c2] at lkq;refine ca (s':=[aA A,aA (.dct (bH hv (if p∈L' then L' else L'++[p]))),aA (.lst (ks.map (bg pn))),aA (.int (p:Nat)),aA (.int (q:Nat))]) ?_ ⟨_,_,_,hL'.put lp,tr.put (λz=>absurd z c1),rfl⟩
      have pt:=v5 hv L' p;rw[hsk] at pt
      simp?[hInA,some_in,bL c1,bB c2,lkq,hS,d6,pt]<;>rfl
     ·refine ca (s':=[aA A,aA (.dct (bH hv L')),aA (.lst (ks.map (bg pn))),aA (.int (p:Nat)),aA (.int (q:Nat))]) ?_ ⟨_,_,_,hL',tr.no (by rw[hp]; exact c1) (by rw[hq]; exact c2),rfl⟩
      simp?[hInA,some_in,bL c1,bL c2]
   ·rintro s ⟨L',b3,b4,hL',tr,rfl⟩;rw[j4,Qj] at tr
    have lc:=rL (M:=[1]) (caps:=[aB,aB,aA 1]) (fi:=bc (dV 2)) (dg:=fK [0,1]) (ft:=sK (dB (d2 eV (dV 0) (dV 2))) (dB (d2 eV (dV 1) (dV 2)))) (fe:=eZ (aF (dV 0) (aF (dV 1) aJ))) (s:=[aA A,aA (.dct (bH hv L')),aA (.lst (ks.map (bg pn))),b3,b4]) ks (bg pn) (λk=>!aE (pn (2*k)∈L')||!aE (pn (2*k+1)∈L')) (bg pn) (by simp?[]) (by lia) (by
     intro k hk;refine⟨[aA (.int (pn (2*k):Nat)),aA (.int (pn (2*k+1):Nat)),aA (.dct (bH hv L'))],rfl,?_,λ_=>by simp?[]<;>rfl,rfl⟩
     by_cases c1:pn (2*k)∈L'
     ·simp?[hNotA,some_in,bB c1]<;>rfl
     ·simp?[hNotA,some_in,bL c1]<;>rfl)
    refine ca (s':=[aA A,aA (.dct (bH hv L')),aA (.lst ((ks.filter λk=>!aE (pn (2*k)∈L')||!aE (pn (2*k+1)∈L')).map (bg pn))),b3,b4]) (by simp?[lc]) ⟨⟨L',_,b3,b4,hL',tr.sub _ hp0,λk hk'=>hk k (jQ.mp hk').1,λk kN hn=>?_,Qc (Zw _ _) hkl,rfl⟩,?_⟩
    ·by_cases m:k∈ks
     ·have:¬ (!aE (pn (2*k)∈L')||!aE (pn (2*k+1)∈L'))=aC:=λz=>hn (jQ.mpr ⟨m,z⟩)
      by_cases c1:pn (2*k)∈L'<;>by_cases c2:pn (2*k+1)∈L'<;>simp[c1,c2] at this ⊢
     ·obtain⟨h1,h2⟩:=hout k kN m;exact⟨tr.sub _ h1,tr.sub _ h2⟩
    ·have l1:=hL.len;have l2:=hL'.len;have e1:(bH hv L).length=L.length:=by unfold bH; rw[j4]
     have e2:(bH hv L').length=L'.length:=by unfold bH; rw[j4]
     show (if Uf _=aC then 0 else 33 - (bH hv L').length) < if Uf _=aC then 0 else 33 - (bH hv L).length
     rw[aH (c:=(ks.map (bg pn)).isEmpty=aC) (by rw[hne]; decide),e1,e2]
     obtain z |⟨e,hh⟩:=tr.or_
     ·split<;>lia
     ·have all:=cn (λp=>aE (p∈L)) (λk kN=>by
       by_cases m:k∈ks
       ·exact decide_eq_decide.mpr (hh k m)
       ·obtain⟨h1,h2⟩:=hout k kN m
        rw[bB h1,bB h2]) (bB hp0)
      rw[aI]
      ·lia
      ·rw[List.isEmpty_iff,List.map_eq_nil_iff,ZU];intro k hk';have kN:=hk k hk';have a1:=of_decide_eq_true (all (2*k) (by lia))
       have a2:=of_decide_eq_true (all (2*k+1) (by lia))
       rw[e];simp[a1,a2]
  ·rintro s s1 ⟨L,ks,a3,a4,hL,hp0,hk,hout,hkl,rfl⟩ hf
   by_cases hz:ks=[]
   ·subst hz;have e:iJ (dV 2) [aA A,aA (.dct (bH hv L)),aA (.lst (([]:ak).map (bg pn))),a3,a4]=aA (aD,[aA A,aA (.dct (bH hv L)),aA (.lst (([]:ak).map (bg pn))),a3,a4]):=by simp?[]<;>rfl
    cases (Uo (jh (e.symm.trans hf))).2;refine eF (r:=.rt (.fd (bH hv L)) [aA A,aA (.fd (bH hv L)),aA (.lst (([]:ak).map (bg pn))),a3,a4]) (by simp?[]<;>rfl) ⟨_,_,rfl,L,hL,λw hw=>?_,rfl⟩
    obtain⟨h1,h2⟩:=hout (w / 2) (by lia) (by simp)
    obtain q |q:=Q6 w
    ·rw[show 2*(w / 2)=w by lia] at h1; exact h1
    ·rw[show 2*(w / 2)+1=w by lia] at h2; exact h2
   ·have hne:(ks.map (bg pn)).isEmpty=aD:=by cases ks<;>simp at hz ⊢
    have e:iJ (dV 2) [aA A,aA (.dct (bH hv L)),aA (.lst (ks.map (bg pn))),a3,a4]=aA (aC,[aA A,aA (.dct (bH hv L)),aA (.lst (ks.map (bg pn))),a3,a4]):=by simp?[hne]<;>rfl
    cases (Uo (jh (e.symm.trans hf))).1)
 exact⟨L,hL,hall,e⟩
def Pt.row{wd:aj}{hd:ah}{rows:List (ak)}(h:Pt wd hd rows)(hne:wd≠[]){pn:ai}(P:Part (2*wd.length) (fw wd hd) rows pn){p:Nat}(hp:p < rows.length):∃ w,w < 2*wd.length/\pn w=p:=by
 obtain ⟨e,_⟩ |⟨_,L,hT,hR⟩:=h
 ·exact absurd e hne
 ·have hi:p < L.length:=by rw[<-hR.len]; exact hp
  obtain⟨k,e,hk,_⟩:=hR.row p _ _ (j3 hi) (j3 hp);have m:L[p]∈rows[p]:=by
   rw[e]; exact jz.mpr ⟨0,je.mpr hk,rfl⟩
  exact⟨_,P.one p _ _ (j3 hp) m⟩
def Pt.first{wd:aj}{hd:ah}{rows:List (ak)}(h:Pt wd hd rows)(hne:wd≠[]){pn:ai}(P:Part (2*wd.length) (fw wd hd) rows pn):pn 0=0:=by
 obtain ⟨e,_⟩ |⟨_,L,hT,hR⟩:=h
 ·exact absurd e hne
 ·have hl:=Z4.mpr hne;obtain⟨t,ht,h0,_⟩:=hR.le 0 (by lia)
  obtain⟨i,hi,e⟩:=Qw ht;have i0:i=0:=by
   obtain q |q:=Nat.eq_zero_or_pos i
   ·exact q
   ·have:=(gA.mp hR.srt) 0 i (by lia) hi q
    lia
  subst i0;have hp:0 < rows.length:=by rw[hR.len]; exact hi
  obtain⟨k,e',hk,_⟩:=hR.row 0 _ _ (j3 hi) (j3 hp);refine(P.one 0 _ 0 (j3 hp) ?_).2;rw[e',e,show t=0 by lia]
  exact jz.mpr ⟨0,je.mpr hk,rfl⟩
def BW:DE:=qt (iJ (dV 0)) (av sC (aF (dV 0) (aF (dV 1) aJ))) (cf (aF (eZ (aF (dC (.int 0)) (aF (dC (.int 1)) aJ))) aJ))
def Fz{W Lc A:T}{hv:Nat->Int}{L:ak}{R:Nat}(hR:R<=32)(hL:Ht R L)(all:∀ p,p < R->p∈L)(eh:∀ o:T,BW [aA W,aA Lc,aA o,aB,aB]=aA (A,[aA W,aA Lc,aA o,aB,aB]))(ea:xE [A]=aA (.fd (bH hv L))){o:Nat}(ho:o < R):qj [W,Lc,.int (o:Nat)]=aA (.lst ((j7 R).map λp=>.int (hv p - hv o))):=by
 have ll:L.length=R:=NR hL.len (by
  have:=A8 (j7 R) L ZS λx hx=>all x (je.mp hx)
  rw[QC] at this; exact this)
 refine eT ?_;show bG wR [aA W,aA Lc,aA (.int (o:Nat)),aB,aB] _;unfold wR;have eh:=eh (.int (o:Nat));refine aV (by show aZ 3 BW _=_; rw[Cv,eh]; rfl) ?_
 refine aV (s':=[aA W,aA Lc,aA (.int (o:Nat)),aA A,aA (.fd (bH hv L))]) (by simp?[ea]) ?_
 have hd:(bH hv L).length=R:=by unfold bH; rw[j4,ll]
 have it:∀ p,p < R->aM (.fd (bH hv L)) (.int (p:Int))=aA (.int (hv p)):=λp hp=>by
  show bh (bH hv L) (.inl (p:Int))=_;rw[tF,aI (all p hp)]
 have lc:=iu (M:=[]) (caps:=[aB,aA 4,aA 2]) (fi:=i7 (aF (d1 bn (dV 4)) aJ)) (dg:=bK 0) (fe:=d2 ij (d2 aM (dV 1) (dV 0)) (d2 aM (dV 1) (dV 2))) (s:=[aA W,aA Lc,aA (.int (o:Nat)),aA A,aA (.fd (bH hv L))]) (j7 R) nT (λp=>.int (hv p - hv o)) (by simp?[KY,hd,uA (k:=R) (by lia),Q3,qd]) (by simp; lia) (by
  intro p hp
  exact⟨[aA (.int (p:Int)),aA (.fd (bH hv L)),aA (.int (o:Nat))],rfl,by simp?[it p (je.mp hp),it o ho],rfl⟩)
 exact eF (by simp?[lc]<;>rfl) ⟨_,rfl⟩
structure cc (wd:aj) (hd:ah) (pn:ai) (hv:Nat->Int):Prop where
 at_:∀ w,w < 2*wd.length->hv (pn w)=hW wd hd w - hW wd hd 0
 nil:wd=[]->hv 0=0/\hv 1=-1
def Tx{wd:aj}(gw:GoodWord wd){Lc:T}{hd:ah}(hs:SidesOk (aK wd) (bT wd) (cj wd hd)){rows:List (ak)}(h:Pt wd hd rows){pn:ai}(P:Part (2*wd.length) (fw wd hd) rows pn)(eb:sC [.lst (wd.map T.str),Lc]=aA (.lst ((j7 wd.length).map (bg pn)))):∃ hv:Nat->Int,cc wd hd pn hv/\∀ o,o < rows.length->qj [.lst (wd.map T.str),Lc,.int (o:Nat)]=aA (.lst ((j7 rows.length).map λp=>.int (hv p - hv o))):=by
 have hlen:=gw.len;have hrl:=zi gw.two h hs;have hf:=(qW gw).len
 by_cases hne:wd=[]
 ·subst hne;have hr:=hrl
  obtain⟨L,hL,hall,ea⟩:=Gj (N:=1) (by decide) (by decide) (pn:=id) (R:=2) (by decide) (λw hw=>hw) (hv:=λp=>-(p:Int)) rfl (λk hk=>by rw[show k=0 by lia]; rfl) (λS h2 h0 w hw=>by
   have e:=h2 0 (by decide)
   have h0:S 0=aC:=h0;have e:S 0=S 1:=e;rcases(show w=0∨w=1 by lia) with rfl |rfl
   ·exact h0
   ·show S 1=aC; rw[<-e,h0])
  refine⟨λp=>-(p:Int),⟨λw hw=>absurd hw (Zc _),λ_=>⟨rfl,rfl⟩⟩,λo ho=>?_⟩;rw[hr] at ho ⊢;exact Fz (hv:=λp=>-(p:Int)) (by decide) hL (λp hp=>hall p hp) (λo=>rfl) ea ho
 ·have hp:=Z4.mpr hne;obtain⟨hv,hhv⟩:=IZ gw.two hlen h hs P;have plt:∀ w,w < 2*wd.length->pn w < rows.length:=λw hw=>by
   obtain⟨r,hr,_⟩:=P.at_ w hw;exact(j6.mp hr).1
  obtain⟨L,hL,hall,ea⟩:=Gj hp hlen (pn:=pn) (R:=rows.length) (by lia) plt (hv:=hv) (by rw[hhv 0 (by lia)]; lia) (λk hk=>by rw[hhv _ (by lia),hhv _ (by lia),M7]; lia) (Lj gw.two h P)
  refine⟨hv,⟨hhv,λe=>absurd e hne⟩,λo ho=>Fz (by lia) hL (λp hp=>?_) (λo=>?_) ea ho⟩
  ·obtain⟨w,hw,rfl⟩:=h.row hne P hp;exact hall w hw
  ·have ht:(wd.map T.str).isEmpty=aD:=by cases wd<;>simp at hne ⊢
   unfold BW
   simp?[ht,eb]<;>rfl
def Dg(wd:aj)(u:T):Prop:=(∃ hd:ah,u=.lst ((bo wd hd).map bU)/\SidesOk (aK wd) (bT wd) (cj wd hd)/\∃ hd0:ah,iR [.lst (wd.map T.str)]=aA (.lst ((bo wd hd0).map bU)))∨u=.non
def To(ns:am):∃(wd:aj) (t:T),GoodWord wd/\AS [.scr ns]=aA (.tup [.lst (wd.map T.str),t])/\Dg wd t:=by
 have c0:lQ [.scr ns,.int 0]=aA (.int (ns.getD 0 0)):=vL ns 0;have c1:lQ [.scr ns,.int 1]=aA (.int (ns.getD 1 0)):=vL ns 1;have c2:lQ [.scr ns,.int 2]=aA (.int (ns.getD 2 0)):=vL ns 2;have c3:lQ [.scr ns,.int 3]=aA (.int (ns.getD 3 0)):=vL ns 3;generalize ns.getD 0 0=v0 at c0;generalize ns.getD 1 0=v1 at c1;generalize ns.getD 2 0=v2 at c2;generalize ns.getD 3 0=v3 at c3;have hm:(v1%13).toNat<=30:=by lia
 obtain⟨names,en,nl,nd,nN⟩:=Sq v0 hm;rw[Wu (by lia)] at en
 obtain⟨wd,ew,gw,_⟩:=Ru v2 (names:=names) (by lia) nd nN
 obtain⟨b,eb,hb⟩:=yu v3;obtain⟨y,hy,hd⟩:=VH gw hb
 obtain⟨t,e,u,rfl,ht⟩:=ir (n:=3) (d:=tf) (ts:=[.scr ns]) (Q:=λt=>∃ u:T,t=.tup [.lst (wd.map T.str),u]/\Dg wd u) (by
  show bG tf [aA (.scr ns),aB,aB] _;unfold tf;refine aV (s':=[aA (.scr ns),aA (.lst (names.map T.str)),aB]) (by simp?[c0,c1,en]) ?_
  refine aV (s':=[aA (.scr ns),aA (.lst (names.map T.str)),aA (.lst (wd.map T.str))]) (by simp?[c2,ew]) ?_
  obtain ⟨hd,ed,hsd⟩ |ed:=hd
  ·exact eF (by simp?[c3,eb,ed]<;>rfl) ⟨_,_,rfl,_,rfl,.inl ⟨hd,rfl,hsd⟩⟩
  ·exact eF (by simp?[c3,eb,ed]<;>rfl) ⟨_,_,rfl,_,rfl,.inr rfl⟩)
 exact⟨wd,u,gw,e,ht⟩
def UF{wd:aj}(g:∀ x∈wd,wd.count x=2){hd:ah}(hs:SidesOk (aK wd) (bT wd) (cj wd hd)){x:Str}(hx:x∈aK wd):(bY wd x+bJ wd x)%2=1:=by
 have h:=((EC (oG g)).mp ((Fj g hd).mpr hs)).1 ((aK wd).idxOf x) (Q4.mpr hx);unfold iN jN at h
 rwa [oT hx] at h
def wk(wd:aj)(e:Nat):Nat:=if e%2=0 then e else 2*bR (aK wd).length (e / 2)+1
def D3{wd:aj}(g:∀ x∈wd,wd.count x=2){e:Nat}(h:e < 2*wd.length):wk wd e < 2*wd.length:=by
 have hl:=lD g;unfold wk;have:=t7 (n:=(aK wd).length) (k:=e / 2) (by lia)
 split<;>lia
def PP{wd:aj}(g:∀ x∈wd,wd.count x=2)(h60:wd.length<=60){hd:ah}{rows:List (ak)}(h:Pt wd hd rows)(hs:SidesOk (aK wd) (bT wd) (cj wd hd))(hne:wd≠[]){x:Str}(hx:x∈aK wd) :
  ∃ s:Int,(fV (bY wd x) (bJ wd x) (hd x)).map (λe=>hW wd hd (wk wd e))=if hd x then [s,s+1,s,s - 1] else [s+1,s,s - 1,s]:=by
 have hl:=lD g;have C:=(oG g).cd (hN wd hd);have cnd:=E6 g h hs hne 0 1 λ_=>0;have hv:=Q4.mpr hx;generalize hvv:(aK wd).idxOf x=v at hv;have hn:az wd v=x:=by rw[<-hvv]; exact oT hx
 have e1:=cnd.1;have e2:=cnd.2 v hv;rw[xR] at e1;rw[xR,xR] at e2;have b1:=C.alt v hv;have b2:=C.blt v hv;have na:=C.na v hv;have nb:=C.nb v hv;have ne:=C.ne v hv;have ha:aO (iN wd) (jN wd) (hN wd hd) v=if hd x then bY wd x else bJ wd x:=by unfold aO iN jN hN; rw[hn]; cases hd x<;>rfl
 have hb:bO (iN wd) (jN wd) (hN wd hd) v=if hd x then bJ wd x else bY wd x:=by unfold bO iN jN hN; rw[hn]; cases hd x<;>rfl
 have ev:∀ p,hW wd hd (wk wd (2*p))=Si (bO (iN wd) (jN wd) (hN wd hd)) (dr wd) (p+1):=λp=>by
  rw[show wk wd (2*p)=2*p from aI (by lia)]
  unfold hW Hw;rw[aI (by lia),show 2*p / 2=p by lia]
 have od:∀ p,p < wd.length->hW wd hd (wk wd (2*p+1))=Si (bO (iN wd) (jN wd) (hN wd hd)) (dr wd) p - 1:=λp hp=>by
  rw[show wk wd (2*p+1)=2*bR (aK wd).length p+1 by unfold wk; rw[aH (by lia),show (2*p+1) / 2=p by lia]]
  unfold hW Hw;rw[aH (by lia),show (2*bR (aK wd).length p+1) / 2=bR (aK wd).length p by lia]
  unfold bR
  by_cases q:p=0
  ·rw[aI q,show 2*(aK wd).length - 1+1=2*(aK wd).length by lia,q]
   have a:=uv (bO (iN wd) (jN wd) (hN wd hd)) (dr wd) (2*(aK wd).length);have:=yN (x:=Si (bO (iN wd) (jN wd) (hN wd hd)) (dr wd) (2*(aK wd).length)) (y:=0) (e1.trans rfl) (by lia) (by lia)
   rw[this]; rfl
  ·rw[aH q,show p - 1+1=p by lia]
 have sa:=vJ (bO (iN wd) (jN wd) (hN wd hd)) (dr wd) (aO (iN wd) (jN wd) (hN wd hd) v);have sb:=vJ (bO (iN wd) (jN wd) (hN wd hd)) (dr wd) (bO (iN wd) (jN wd) (hN wd hd) v);rw[na,aH ne] at sa;rw[nb,aI rfl] at sb;have aa:=uv (bO (iN wd) (jN wd) (hN wd hd)) (dr wd) (aO (iN wd) (jN wd) (hN wd hd) v);have ab:=uv (bO (iN wd) (jN wd) (hN wd hd)) (dr wd) (bO (iN wd) (jN wd) (hN wd hd) v+1);have e2:=yN e2 (by lia) (by lia)
 refine⟨Si (bO (iN wd) (jN wd) (hN wd hd)) (dr wd) (bO (iN wd) (jN wd) (hN wd hd) v),?_⟩;unfold fV;cases hh:hd x
 ·rw[hh] at ha hb;rw[aH (by decide),aH (by decide)]
  rw[show aO (iN wd) (jN wd) (hN wd hd) v=bJ wd x from ha] at sa e2 b1;rw[show bO (iN wd) (jN wd) (hN wd hd) v=bY wd x from hb] at sb e2 b2 ⊢;simp only[jp,Zb,ev,od _ (show bY wd x < wd.length by lia),od _ (show bJ wd x < wd.length by lia)]
  generalize Si (bO (iN wd) (jN wd) (hN wd hd)) (dr wd) (bY wd x+1)=y1 at sb e2 ⊢;generalize Si (bO (iN wd) (jN wd) (hN wd hd)) (dr wd) (bJ wd x+1)=y2 at sa ⊢;generalize Si (bO (iN wd) (jN wd) (hN wd hd)) (dr wd) (bY wd x)=y3 at sb ⊢;generalize Si (bO (iN wd) (jN wd) (hN wd hd)) (dr wd) (bJ wd x)=y4 at sa e2 ⊢;obtain rfl:y4=y3+1:=by lia
  obtain rfl:y1=y3+1:=by lia
  obtain rfl:y2=y3:=by lia
  rw[show y2+1 - 1=y2 by lia]
 ·rw[hh] at ha hb;rw[aI rfl,aI rfl];rw[show aO (iN wd) (jN wd) (hN wd hd) v=bY wd x from ha] at sa e2 b1;rw[show bO (iN wd) (jN wd) (hN wd hd) v=bJ wd x from hb] at sb e2 b2 ⊢;simp only[jp,Zb,ev,od _ (show bY wd x < wd.length by lia),od _ (show bJ wd x < wd.length by lia)]
  generalize Si (bO (iN wd) (jN wd) (hN wd hd)) (dr wd) (bJ wd x+1)=y1 at sb e2 ⊢;generalize Si (bO (iN wd) (jN wd) (hN wd hd)) (dr wd) (bY wd x+1)=y2 at sa ⊢;generalize Si (bO (iN wd) (jN wd) (hN wd hd)) (dr wd) (bJ wd x)=y3 at sb ⊢;generalize Si (bO (iN wd) (jN wd) (hN wd hd)) (dr wd) (bY wd x)=y4 at sa e2 ⊢;obtain rfl:y4=y3+1:=by lia
  obtain rfl:y1=y3+1:=by lia
  obtain rfl:y2=y3:=by lia
  rw[show y2+1 - 1=y2 by lia]
def CY{N:Nat}{pn:ai}{p:Nat}(hp:p < N):aM (.lst ((j7 N).map (bg pn))) (.int (p:Nat))=aA (bg pn p):=by
 rw[ln,jf,QL hp]; rfl
def M6{n:Nat}{pn:ai}{p:Nat}(hp:p < 2*n):aM (.lst ((j7 (2*n)).map (bg pn))) (.int ((p:Int) - 1))=aA (bg pn (bR n p)):=by
 unfold bR
 by_cases q:p=0
 ·rw[aI q,q];have e:iE (.lst ((j7 (2*n)).map (bg pn))) (.int (((0:Nat):Int) - 1))=aA (bg pn (2*n - 1)):=by
   rw[show (j7 (2*n)).map (bg pn)=(j7 (2*n - 1)).map (bg pn)++bg pn (2*n - 1)::[] by
    conv=>lhs; rw[show 2*n=(2*n - 1)+1 by lia,NX,jF]
    rfl]
   exact EX (by simp)
  unfold aM dk;rw[e]
 ·rw[aH q,show (p:Int) - 1=((p - 1:Nat):Int) by lia]
  exact CY (by lia)
def SV{wd:aj}(g:∀ x∈wd,wd.count x=2){pn:ai}{es:ak}(h4:es.length=4)(hlt:∀ e∈es,e < 2*wd.length):rf [.lst (es.map nT),.lst ((j7 wd.length).map (bg pn))]=aA (.lst ((es.map λe=>pn (wk wd e)).map nT)):=by
 have hl:=lD g;have bp:∀ p,p < wd.length->aM (.lst ((j7 wd.length).map (bg pn))) (.int ((p:Int) - 1))=aA (bg pn (bR (aK wd).length p)):=λp hp=>by rw[hl] at hp ⊢; exact M6 hp
 have ba:∀ p,p < wd.length->aM (.lst ((j7 wd.length).map (bg pn))) (.int (p:Int))=aA (bg pn p):=λp hp=>CY hp;have i0:∀ k,aM (bg pn k) (.int 0)=aA (.int (pn (2*k):Nat)):=λ_=>rfl;have i1:∀ k,aM (bg pn k) (.int 1)=aA (.int (pn (2*k+1):Nat)):=λ_=>rfl;generalize hS:T.lst ((j7 wd.length).map (bg pn))=S at bp ba;refine eT ?_;show bG wA [aA (.lst (es.map nT)),aA S,aB,aB] _;unfold wA;refine aV (s':=[aA (.lst (es.map nT)),aA S,aA (.lst []),aB]) (by simp?[]) ?_
 refine fZ (its:=es.map nT) (λj s=>∃ a3:Option T,s=[aA (.lst (es.map nT)),aA S,aA (.lst (((es.take j).map λe=>pn (wk wd e)).map nT)),a3]) (by simp?[]<;>rfl) ⟨aB,rfl⟩ ?_ ?_
 ·rintro j z s hz ⟨a3,rfl⟩;rw[jf] at hz;obtain⟨e,he,rfl⟩:=Qm hz;have hj:=(j6.mp he).1;have hlt:=hlt e (jy he);have tl:((es.take j).map λe=>pn (wk wd e)).length<=1000000:=by rw[j4,Q2]; lia
  have nx:(es.take (j+1)).map (λe=>pn (wk wd e))=(es.take j).map (λe=>pn (wk wd e))++[pn (wk wd e)]:=by rw[qf he,jF]; rfl
  refine⟨[aA (.lst (es.map nT)),aA S,aA (.lst (((es.take j).map λe=>pn (wk wd e)).map nT)),aA (.int (e:Int))],rfl,?_⟩;refine ca (s':=[aA (.lst (es.map nT)),aA S,aA (.lst (((es.take (j+1)).map λe=>pn (wk wd e)).map nT)),aA (.int (e:Int))]) ?_ ⟨_,rfl⟩;rw[nx];have ap:=D9 (pn (wk wd e)) tl;have d2:((e:Int) / 2)=((e / 2:Nat):Int):=by lia
  by_cases q:e%2=0
  ·have dq:aE ((e:Int)%2=0)=aC:=bB (by lia)
   have w:wk wd e=2*(e / 2):=by unfold wk; rw[aI q]; lia
   rw[w] at ap ⊢
   simp?[dq,d2,ba _ (show e / 2 < wd.length by lia),i0,ap]<;>rfl
  ·have dq:aE ((e:Int)%2=0)=aD:=bL (by lia)
   have w:wk wd e=2*bR (aK wd).length (e / 2)+1:=by unfold wk; rw[aH q]
   rw[w] at ap ⊢
   simp?[dq,d2,bp _ (show e / 2 < wd.length by lia),i1,ap]<;>rfl
 ·rintro s ⟨a3,rfl⟩;rw[j4,Qj];exact eF (by simp?[]<;>rfl) ⟨_,rfl⟩
def Op(xs:am):dF (.lst (xs.map T.int)) (.lst (xs.map T.int))=aA (.bl aD):=by
 show (bP 8 _ _).map (λb=>T.bl (!b))=_;rw[T6 λx hx=>?_]
 ·rfl
 ·obtain⟨k,_,rfl⟩:=jz.mp hx;show cz (.int _) (.int _)=aA aC;simp[cz]
def Sf{s:Int}:sw (.lst [.int s,.int (s+1),.int s,.int (s - 1)]) (.int (s+1))=aA (.int 1)/\sw (.lst [.int (s+1),.int s,.int (s - 1),.int s]) (.int (s+1))=aA (.int 0):=by
 have e0:∀ i j:Int,dt (.int i) (.int j)=aE (i=j):=λi j=>Ze.mpr (by simp[dt])
 constructor
 ·show ((([V.int s,V.int (s+1),V.int s,V.int (s - 1)]:List V).findIdx? λu=>dt u (.int (s+1))).map fun(j:Nat)=>T.int j)=_;rw[YL,e0,bL (by lia),YL,e0,bB rfl]; rfl
 ·show ((([V.int (s+1),V.int s,V.int (s - 1),V.int s]:List V).findIdx? λu=>dt u (.int (s+1))).map fun(j:Nat)=>T.int j)=_;rw[YL,e0,bB rfl]; rfl
def FL(l:am):lH (l.map T.int)=aA l:=by
 induction l with
 |nil=>rfl
 |cons a l ih=>
  rw[jp];show (lH (l.map T.int)).map _=_;rw[ih]; rfl
def EM{l:am}{s:Int}(h:([s - 1,s,s,s+1]:am).Perm l)(hl:l.length < 64):rR (.lst (l.map T.int))=aA (.lst ([s - 1,s,s,s+1].map T.int)):=by
 have e:=GN h (by simp; lia)
 match l,h with
 |[],h=>cases h.length_eq
 |a::l,h=>
  show ((lH ((a::l).map T.int)).bind λns=>if ns.length < 64 then aA (T.lst ((nK ns).map T.int)) else aB)=_
  rw[show lH ((a::l).map T.int)=aA (a::l) from FL _];rw[jb,aI hl,e]
def Rp{ends sides high:T}{ps:ak}(i j:Nat){s:Int}(h:Bool)(he:ends=.lst ((fV i j h).map nT))(er:rf [ends,sides]=aA (.lst (ps.map nT))){hp:Nat->Int}(hi:∀ p∈ps,aM high (.int (p:Nat))=aA (.int (hp p)))(hl:ps.length<=4)(hs:ps.map hp=if h then [s,s+1,s,s - 1] else [s+1,s,s - 1,s]):B7 [ends,sides,high]=aA (.bl aC):=by
 refine eT ?_;show bG x8 [aA ends,aA sides,aA high,aB,aB] _;unfold x8
 have lc:=iu (M:=[]) (caps:=[aB,aA 2]) (fi:=bc (av rf (aF (dV 0) (aF (dV 1) aJ)))) (dg:=bK 0) (fe:=d2 aM (dV 1) (dV 0)) (s:=[aA ends,aA sides,aA high,aB,aB]) ps nT (λp=>.int (hp p)) (by simp?[er]) (by lia) (by
  intro p hp
  exact⟨[aA (.int (p:Int)),aA high],rfl,by simp?[hi p hp],rfl⟩)
 rw[show (ps.map λp=>T.int (hp p))=(ps.map hp).map T.int by rw[jP]; rfl,hs] at lc
 have a1:s - 1+1=s:=by lia
 have a2:s - 1+2=s+1:=by lia
 have ne:=Op [s - 1,s,s,s+1];obtain⟨x1,x2⟩:=Sf (s:=s);have n0:dF (.int (s - 1)) (.int (s - 1))=aA (.bl aD):=by rw[CN,bB rfl]; rfl
 have sl:([s - 1,s,s,s+1]:am).map T.int=[.int (s - 1),.int s,.int s,.int (s+1)]:=rfl;rw[sl] at ne;cases h
 ·have so:=EM (l:=[s+1,s,s - 1,s]) (s:=s) ((J9 _).symm.trans (.cons _ (.cons _ (.swap _ _ _)))) (by simp)
  have mn:oF (.lst [.int (s+1),.int s,.int (s - 1),.int s])=aA (.int (s - 1)):=by
   show aA (T.int (ot [s+1,s,s - 1,s]))=_;rw[ym (m:=s - 1) (by simp) (by simp; lia)]
  have mx:oE (.lst [.int (s+1),.int s,.int (s - 1),.int s])=aA (.int (s+1)):=by
   show aA (T.int (qD [s+1,s,s - 1,s]))=_;rw[zN (m:=s+1) (by simp) (by simp; lia)]
  rw[aH (by decide)] at lc
  rw[sl] at so;have so:rR (.lst [.int (s+1),.int s,.int (s - 1),.int s])=_:=so;have lc:_=aA (T.lst [.int (s+1),.int s,.int (s - 1),.int s],_):=lc;refine aV (s':=[aA ends,aA sides,aA high,aA (.lst [.int (s+1),.int s,.int (s - 1),.int s]),aB]) (by simp?[lc]) ?_
  refine aV (by simp?[so,mn,a1,a2,ne]<;>rfl) ?_
  refine aV (by simp?[mx,x2]<;>rfl) ?_
  have it:aM (.lst [.int (s+1),.int s,.int (s - 1),.int s]) (.int (0 - 2))=aA (.int (s - 1)):=rfl;refine aV (by simp?[it,mn,n0]<;>rfl) ?_
  have g0:aM ends (.int 0)=aA (.int ((2*i:Nat):Int)):=by rw[he]; rfl
  have g1:aM ends (.int (1%4))=aA (.int ((2*j+1:Nat):Int)):=by rw[he]; rfl
  have d0:aE (((2*i:Nat):Int)%2=0)=aC:=bB (by lia)
  have d1:aE (((2*j+1:Nat):Int)%2=1)=aC:=bB (by lia)
  exact f8 (by simp?[g0,g1,d0,d1]<;>rfl) rfl
 ·have so:=EM (l:=[s,s+1,s,s - 1]) (s:=s) ((J9 _).symm.trans (.swap _ _ _)) (by simp)
  have mn:oF (.lst [.int s,.int (s+1),.int s,.int (s - 1)])=aA (.int (s - 1)):=by
   show aA (T.int (ot [s,s+1,s,s - 1]))=_;rw[ym (m:=s - 1) (by simp) (by simp; lia)]
  have mx:oE (.lst [.int s,.int (s+1),.int s,.int (s - 1)])=aA (.int (s+1)):=by
   show aA (T.int (qD [s,s+1,s,s - 1]))=_;rw[zN (m:=s+1) (by simp) (by simp; lia)]
  rw[aI rfl] at lc;rw[sl] at so;have so:rR (.lst [.int s,.int (s+1),.int s,.int (s - 1)])=_:=so;have lc:_=aA (T.lst [.int s,.int (s+1),.int s,.int (s - 1)],_):=lc;refine aV (s':=[aA ends,aA sides,aA high,aA (.lst [.int s,.int (s+1),.int s,.int (s - 1)]),aB]) (by simp?[lc]) ?_
  refine aV (by simp?[so,mn,a1,a2,ne]<;>rfl) ?_
  refine aV (by simp?[mx,x1]<;>rfl) ?_
  have it:aM (.lst [.int s,.int (s+1),.int s,.int (s - 1)]) (.int (1 - 2))=aA (.int (s - 1)):=rfl;refine aV (by simp?[it,mn,n0]<;>rfl) ?_
  have g0:aM ends (.int 1)=aA (.int ((2*j:Nat):Int)):=by rw[he]; rfl
  have g1:aM ends (.int ((1+1)%4))=aA (.int ((2*i+1:Nat):Int)):=by rw[he]; rfl
  have d0:aE (((2*j:Nat):Int)%2=0)=aC:=bB (by lia)
  have d1:aE (((2*i+1:Nat):Int)%2=1)=aC:=bB (by lia)
  exact f8 (by simp?[g0,g1,d0,d1]<;>rfl) rfl
def eL(wd:aj)(x:Str):Nat:=if bY wd x%2=0 then bY wd x else bJ wd x
def fI(wd:aj)(x:Str):Nat:=if bY wd x%2=0 then bJ wd x else bY wd x
def ik(wd:aj)(x:Str):T:=.tup [.str x,.int (eL wd x:Nat),.int (fI wd x:Nat)]
def Uz{wd:aj}(gw:GoodWord wd){hd:ah}(ed:iR [.lst (wd.map T.str)]=aA (.lst ((bo wd hd).map bU))):At [.lst (wd.map T.str)]=aA (.lst ((aK wd).map (ik wd))):=by
 have hf:=(qW gw).len;unfold bo at ed;rw[jP] at ed;refine eT ?_;generalize T.lst (wd.map T.str)=W at ed;show bG wZ [aA W] _;unfold wZ
 have lc:=iu (M:=[]) (caps:=[aB,aB]) (fi:=bc (av iR (aF (dV 0) aJ))) (dg:=fK [0,1]) (fe:=av xF (aF (dV 0) (aF (d2 dM (d2 aM (dV 1) (dC (.int 0))) (dC (.int 2))) (aF (d2 dM (d2 aM (dV 1) (dC (.int 1))) (dC (.int 2))) aJ)))) (s:=[aA W]) (aK wd) (bU∘λx=>(x,lL wd x (hd x))) (ik wd) (by simp?[ed]) (by lia) (by
  intro x hx;obtain⟨e,_⟩:=lI (gw.two x (mem_firsts.mp hx));refine⟨[aA (.str x),aA (.lst ((lL wd x (hd x)).map nT))],rfl,?_,rfl⟩;rw[oX e];unfold ik eL fI;generalize bY wd x=i;generalize bJ wd x=j;have i0:aM (.lst ((fV i j (hd x)).map nT)) (.int 0)=aA (.int ((2*i:Nat):Int)):=by cases hd x<;>rfl
  have d0:((2*i:Nat):Int) / 2=((i:Nat):Int):=by lia
  obtain⟨e1,i1,d1⟩:∃ e1:Nat,aM (.lst ((fV i j (hd x)).map nT)) (.int 1)=aA (.int (e1:Int))/\(e1:Int) / 2=((j:Nat):Int):=by
   cases hd x
   ·exact⟨2*j+1,rfl,by lia⟩
   ·exact⟨2*j,rfl,by lia⟩
  have ou:xF [.str x,.int (i:Nat),.int (j:Nat)]=aA (.tup [.str x,.int ((if i%2=0 then i else j:Nat):Int),.int ((if i%2=0 then j else i:Nat):Int)]):=by
   refine eT ?_;show bG xC [aA (.str x),aA (.int (i:Nat)),aA (.int (j:Nat))] _;unfold xC
   by_cases q:i%2=0
   ·have dq:aE ((i:Int)%2=0)=aC:=bB (by lia)
    rw[aI q,aI q];exact f8 (by simp?[dq]<;>rfl) rfl
   ·have dq:aE ((i:Int)%2=0)=aD:=bL (by lia)
    rw[aH q,aH q];exact f8 (by simp?[dq]<;>rfl) rfl
  simp?[i0,d0,i1,d1,ou])
 exact f8 (by simp?[lc]<;>rfl) rfl
def eX(p:Nat):Int:=if p%2=0 then 1 else 0
def EJ{wd:aj}{x:Str}(hx:x∈aK wd)(g:∀ x∈wd,wd.count x=2)(ho:(bY wd x+bJ wd x)%2=1):eL wd x%2=0/\fI wd x%2=1/\wd.getD (eL wd x) jC=x/\wd.getD (fI wd x) jC=x/\eL wd x≠fI wd x/\(∀ p,p < wd.length->wd.getD p jC=x->p=eL wd x∨p=fI wd x):=by
 have hm:=mem_firsts.mp hx;obtain⟨h1,h2,h3,h4,h5⟩:=lI (g x hm);have all:∀ p,p < wd.length->wd.getD p jC=x->p=bY wd x∨p=bJ wd x:=λp hp e=>by
  have:p∈cJ wd x:=by
   rw[jD,j3 hp] at e;refine jQ.mpr ⟨je.mpr hp,bB ?_⟩;rw[j3 hp];exact congrArg aA e
  rw[h1] at this;exact(jx.mp this).imp id j9.mp
 unfold eL fI
 by_cases q:bY wd x%2=0
 ·rw[aI q,aI q];exact⟨q,by lia,h4,h5,by lia,all⟩
 ·rw[aH q,aH q];exact⟨by lia,by lia,h5,h4,by lia,λp hp e=>(all p hp e).symm⟩
structure Gs (wd:aj) (j:Nat) (L:ak):Prop where
 nd:L.Nodup
 len:L.length=2*j
 lt:∀ p∈L,p < wd.length/\wd.getD p jC∈(aK wd).take j
 all:∀ p,p < wd.length->wd.getD p jC∈(aK wd).take j->p∈L
def Gs.next{wd:aj}{j:Nat}{L:ak}(h:Gs wd j L){x:Str}(hx:(aK wd)[j]?=aA x)(g:∀ x∈wd,wd.count x=2)(ho:(bY wd x+bJ wd x)%2=1):eL wd x∉L/\fI wd x∉L++[eL wd x]/\Gs wd (j+1) (L++[eL wd x]++[fI wd x]):=by
 have hm:=jy hx;obtain⟨_,_,a1,a2,ne,al⟩:=EJ hm g ho;obtain⟨_,p1,p2,_⟩:=lI (g x (mem_firsts.mp hm));have lo:eL wd x < wd.length:=by unfold eL; split<;>lia
 have lu:fI wd x < wd.length:=by unfold fI; split<;>lia
 have nx:x∉(aK wd).take j:=λz=>by
  obtain⟨k,hk,e⟩:=Qw z;rw[J8] at e;obtain⟨hj,e2⟩:=j6.mp hx;have:=(gB (tu wd)).mp (e.trans e2.symm);rw[Q2] at hk;lia
 have n1:eL wd x∉L:=λz=>nx (a1▸(h.lt _ z).2);have n2:fI wd x∉L:=λz=>nx (a2▸(h.lt _ z).2);have n3:fI wd x∉L++[eL wd x]:=λz=>by
  obtain z |z:=jn.mp z
  ·exact n2 z
  ·exact ne (j9.mp z).symm
 have tk:=qf hx;refine⟨n1,n3,⟨?_,?_,λp hp=>?_,λp hp hp2=>?_⟩⟩
 ·refine jK.mpr ⟨jK.mpr ⟨h.nd,by simp,λa ha b hb=>?_⟩,by simp,λa ha b hb=>?_⟩
  ·rw[j9.mp hb]; exact λe=>n1 (e▸ha)
  ·rw[j9.mp hb]; exact λe=>n3 (e▸ha)
 ·rw[jk,jk,h.len]; simp; lia
 ·rw[tk];obtain hp |hp:=jn.mp hp
  ·obtain hp |hp:=jn.mp hp
   ·exact⟨(h.lt p hp).1,ji _ (h.lt p hp).2⟩
   ·rw[j9.mp hp,a1]; exact⟨lo,jw _ (j9.mpr rfl)⟩
  ·rw[j9.mp hp,a2]; exact⟨lu,jw _ (j9.mpr rfl)⟩
 ·rw[tk] at hp2;obtain hp2 |hp2:=jn.mp hp2
  ·exact ji _ (ji _ (h.all p hp hp2))
  ·obtain e |e:=al p hp (j9.mp hp2)
   ·exact ji _ (jw _ (j9.mpr e))
   ·exact jw _ (j9.mpr e)
def Rb{c:Int}:∀ n:Nat,0 < n->i8 (QP n c)=[c]:=λn hn=>by
 have key:∀ m,(QP m c).foldl ip [c]=[c]:=λm=>by
  induction m with
  |zero=>rfl
  |succ m ih=>
   rw[Wv,QU,show ip [c] c=[c] from aI (j9.mpr rfl)];exact ih
 obtain⟨m,rfl⟩:∃ m,n=m+1:=⟨n - 1,by lia⟩
 unfold i8;rw[Wv,QU];exact key m
def cN(hv:Nat->Int)(p:Nat):Nat:=(hv p%2).toNat
def TX{W Lc:T}{hv:Nat->Int}{R:Nat}(hR:R<=32)(h0:hv 0=0)(eh:qj [W,Lc,.int 0]=aA (.lst ((j7 R).map λp=>.int (hv p - hv 0)))):AQ [W,Lc]=aA (.lst (((j7 R).map (cN hv)).map nT)):=by
 first |refine tD ?_ |refine eT ?_
 show bG wQ [aA W,aA Lc] _;unfold wQ;rw[h0] at eh
 have lc:=iu (M:=[]) (caps:=[aB]) (fi:=bc (av qj (aF (dV 0) (aF (dV 1) (aF (dC (.int 0)) aJ))))) (dg:=bK 0) (fe:=d2 bv (dV 0) (dC (.int 2))) (s:=[aA W,aA Lc]) (j7 R) (λp=>.int (hv p - 0)) (λp=>nT (cN hv p)) (by simp?[eh]) (by simp; lia) (by
  intro p hp;refine⟨[aA (.int (hv p - 0))],rfl,?_,rfl⟩;have e:(hv p - 0)%2=((cN hv p:Nat):Int):=by unfold cN; lia
  simp?[e])
 rw[jP];exact eF (by simp?[lc]<;>rfl) ⟨_,rfl⟩
def Mf(ns:am):Lr [.scr ns]=aA (.bl aC):=by
 obtain⟨wd,u,gw,es,hu⟩:=To ns;have hlen:=gw.len;have hf:=(qW gw).len;have h2:=lD gw.two;refine eT ?_;show bG ug [aA (.scr ns),aB,aB,aB,aB,aB,aB,aB,aB,aB,aB,aB,aB,aB,aB] _;unfold ug;refine aV (by simp?[es]<;>rfl) ?_
 have gW:bn (.lst (wd.map T.str))=aA (.int (wd.length:Nat)):=by rw[um,j4]
 have hu:=hu;obtain rfl |⟨hd,rfl,hsd,hd0,ed0⟩:=hu.symm
 ·exact qT (t:=.bl aC) (s':=[aA (.scr ns),aA (.lst (wd.map T.str)),aA .non,aB,aB,aB,aB,aB,aB,aB,aB,aB,aB,aB,aB]) rfl ⟨_,rfl⟩
 have isn:oo (.lst ((bo wd hd).map bU)) .non=aA (.bl aD):=rfl
 by_cases hne:wd=[]
 ·have e0:aE (((wd.length:Nat):Int)=0)=aC:=bB (by rw[hne]; rfl)
  exact qT (t:=.bl aC) (s':=[aA (.scr ns),aA (.lst (wd.map T.str)),aA (.lst ((bo wd hd).map bU)),aB,aB,aB,aB,aB,aB,aB,aB,aB,aB,aB,aB]) (by simp?[isn,gW,e0]<;>rfl) ⟨_,rfl⟩
 have hpos:=Z4.mpr hne;have e0:aE (((wd.length:Nat):Int)=0)=aD:=bL (by lia)
 refine aV (by simp?[isn,gW,e0]<;>rfl) ?_
 have ck:=PH gw hd;obtain⟨rows,ep,hP⟩:=UJ ck;have hrl:=zi gw.two hP hsd;obtain⟨pn,P⟩:=hP.part gw.two;have eb:=TV hlen (hP.len hlen) ep P;obtain⟨hv,ok,eh⟩:=Tx gw hsd hP P eb;have plt:∀ w,w < 2*wd.length->pn w < rows.length:=λw hw=>by
  obtain⟨r,hr,_⟩:=P.at_ w hw;exact(j6.mp hr).1
 have h0:hv 0=0:=by
  have:=ok.at_ 0 (by lia)
  rw[hP.first hne P] at this
  lia
 have ec:=TX (by lia) h0 (eh 0 (by lia))
 have et:=Uz gw ed0;have cl:(bo wd hd).length<=100:=by
  unfold bo;rw[j4];lia
 have rnd:∀ es:ak,es.length=4->(∀ e∈es,e < 2*wd.length)->rf [.lst (es.map nT),.lst ((j7 wd.length).map (bg pn))]=aA (.lst ((es.map λe=>pn (wk wd e)).map nT)):=λes a b=>SV gw.two a b;have cs:∀(j:Nat) (z:T),((bo wd hd).map bU)[j]?=aA z->∃ x,(aK wd)[j]?=aA x/\z=.tup [.str x,.lst ((lL wd x (hd x)).map nT)]:=λj z=>CO;generalize hWW:T.lst (wd.map T.str)=W at *;generalize hSd:T.lst ((j7 wd.length).map (bg pn))=Sd at *;generalize hCC:(bo wd hd).map bU=Cs at *;generalize hC:(j7 rows.length).map (cN hv)=C at ec;have hCl:C.length=rows.length:=by rw[<-hC]; simp
 have cAt:∀ p,p < rows.length->aM (.lst (C.map nT)) (.int (p:Nat))=aA (.int (cN hv p:Nat)):=λp hp=>by
  rw[ln,jf,<-hC,jf,QL hp]; rfl
 refine aV (s':=[aA (.scr ns),aA W,aA (.lst Cs),aA Sd,aB,aB,aB,aB,aB,aB,aB,aB,aB,aB,aB]) (by simp?[eb]) ?_
 refine aV (s':=[aA (.scr ns),aA W,aA (.lst Cs),aA Sd,aA (.lst (C.map nT)),aB,aB,aB,aB,aB,aB,aB,aB,aB,aB]) (by simp?[ec]) ?_
 refine fZ (its:=(j7 rows.length).map nT) (λj s=>∃ a5 a6 a7 a8 a9:Option T,s=[aA (.scr ns),aA W,aA (.lst Cs),aA Sd,aA (.lst (C.map nT)),a5,a6,a7,a8,a9,aB,aB,aB,aB,aB]) (by simp?[hCl,uA (k:=rows.length) (by lia),Q3,qd]) ⟨aB,aB,aB,aB,aB,rfl⟩ ?_ ?_
 ·rintro j z s hz ⟨a5,a6,a7,a8,a9,rfl⟩;rw[jf] at hz;obtain⟨o,ho,rfl⟩:=Qm hz;obtain⟨k1,k2⟩:=j6.mp ho;rw[ZW] at k2;subst k2;have jl:j < rows.length:=by simpa using k1
  have eo:=eh j jl;have hAt:∀ p,p < rows.length->aM (.lst ((j7 rows.length).map λp=>.int (hv p - hv j))) (.int (p:Nat))=aA (.int (hv p - hv j)):=λp hp=>by
   rw[ln,jf,QL hp]; rfl
  generalize T.lst ((j7 rows.length).map λp=>.int (hv p - hv j))=Hh at eo hAt;refine⟨[aA (.scr ns),aA W,aA (.lst Cs),aA Sd,aA (.lst (C.map nT)),aA (.int (j:Int)),a6,a7,a8,a9,aB,aB,aB,aB,aB],rfl,?_⟩;refine aV (s':=[aA (.scr ns),aA W,aA (.lst Cs),aA Sd,aA (.lst (C.map nT)),aA (.int (j:Int)),aA Hh,a7,a8,a9,aB,aB,aB,aB,aB]) (by simp?[eo]) ?_
  refine fZ (its:=Cs) (λi s=>∃ a7 a8:Option T,s=[aA (.scr ns),aA W,aA (.lst Cs),aA Sd,aA (.lst (C.map nT)),aA (.int (j:Int)),aA Hh,a7,a8,a9,aB,aB,aB,aB,aB]) (by simp?[]) ⟨a7,a8,rfl⟩ ?_ ?_
  ·rintro i z s hz ⟨b7,b8,rfl⟩;obtain⟨x,hx,rfl⟩:=cs i z hz;have hxf:=jy hx;obtain⟨pe,p1,p2,_⟩:=lI (gw.two x (mem_firsts.mp hxf));obtain⟨s0,hs0⟩:=PP gw.two hlen hP hsd hne hxf;have elt:∀ e∈fV (bY wd x) (bJ wd x) (hd x),e < 2*wd.length:=λe he=>by
    unfold fV at he;split at he<;>simp at he<;>lia
   have e4:(fV (bY wd x) (bJ wd x) (hd x)).length=4:=by unfold fV; split<;>rfl
   have er:=rnd _ e4 elt;rw[oX pe]
   have st:=Rp (ends:=.lst ((fV (bY wd x) (bJ wd x) (hd x)).map nT)) (sides:=Sd) (high:=Hh) (s:=s0 - hW wd hd 0 - hv j) (bY wd x) (bJ wd x) (hd x) rfl er (hp:=λp=>hv p - hv j) (λp hp=>by
    obtain⟨e,he,rfl⟩:=jz.mp hp;exact hAt _ (plt _ (D3 gw.two (elt e he)))) (by rw[j4,e4]; exact jj _) (by
    have e1:((fV (bY wd x) (bJ wd x) (hd x)).map λe=>pn (wk wd e)).map (λp=>hv p - hv j)=((fV (bY wd x) (bJ wd x) (hd x)).map λe=>hW wd hd (wk wd e)).map λy=>y - hW wd hd 0 - hv j:=by
     rw[jP,jP];refine Qq λe he=>?_;show hv (pn (wk wd e)) - hv j=hW wd hd (wk wd e) - hW wd hd 0 - hv j;rw[ok.at_ _ (D3 gw.two (elt e he))]
    rw[e1,hs0];cases hd x
    ·show [s0+1 - hW wd hd 0 - hv j,s0 - hW wd hd 0 - hv j,s0 - 1 - hW wd hd 0 - hv j,s0 - hW wd hd 0 - hv j]=[s0 - hW wd hd 0 - hv j+1,s0 - hW wd hd 0 - hv j,s0 - hW wd hd 0 - hv j - 1,s0 - hW wd hd 0 - hv j];rw[show s0+1 - hW wd hd 0 - hv j=s0 - hW wd hd 0 - hv j+1 by lia,show s0 - 1 - hW wd hd 0 - hv j=s0 - hW wd hd 0 - hv j - 1 by lia]
    ·show [s0 - hW wd hd 0 - hv j,s0+1 - hW wd hd 0 - hv j,s0 - hW wd hd 0 - hv j,s0 - 1 - hW wd hd 0 - hv j]=[s0 - hW wd hd 0 - hv j,s0 - hW wd hd 0 - hv j+1,s0 - hW wd hd 0 - hv j,s0 - hW wd hd 0 - hv j - 1]
     rw[show s0+1 - hW wd hd 0 - hv j=s0 - hW wd hd 0 - hv j+1 by lia,show s0 - 1 - hW wd hd 0 - hv j=s0 - hW wd hd 0 - hv j - 1 by lia])
   generalize (fV (bY wd x) (bJ wd x) (hd x)).map nT=Es at st;refine⟨[aA (.scr ns),aA W,aA (.lst Cs),aA Sd,aA (.lst (C.map nT)),aA (.int (j:Int)),aA Hh,aA (.str x),aA (.lst Es),a9,aB,aB,aB,aB,aB],rfl,?_⟩;exact ca (by simp?[st]<;>rfl) ⟨_,_,rfl⟩
  ·rintro s ⟨b7,b8,rfl⟩
   have lc:=iu (M:=[]) (caps:=[aB,aA 6,aA 4]) (fi:=i7 (aF (d1 bn (dV 4)) aJ)) (dg:=bK 0) (fe:=d2 bv (d2 ij (d2 aM (dV 1) (dV 0)) (d2 aM (dV 2) (dV 0))) (dC (.int 2))) (s:=[aA (.scr ns),aA W,aA (.lst Cs),aA Sd,aA (.lst (C.map nT)),aA (.int (j:Int)),aA Hh,b7,b8,a9,aB,aB,aB,aB,aB]) (j7 rows.length) nT (λp=>.int ((-hv j)%2)) (by simp?[hCl,uA (k:=rows.length) (by lia),Q3,qd]) (by simp; lia) (by
    intro p hp;have hp:=je.mp hp;refine⟨[aA (.int (p:Int)),aA Hh,aA (.lst (C.map nT))],rfl,?_,rfl⟩;have em:(hv p - hv j - ((cN hv p:Nat):Int))%2=(-hv j)%2:=by unfold cN; lia
    simp?[hAt p hp,cAt p hp,em])
   rw[List.map_const',QC] at lc;have ls:zZ (.lst (QP rows.length (.int ((-hv j)%2))))=aA (.int 1):=by
    rw[show QP rows.length (T.int ((-hv j)%2))=(QP rows.length ((-hv j)%2)).map T.int by rw[YK]]
    show ((lH _).bind λns=>if ns.length < 1000 then aA (T.int (i8 ns).length) else aB)=_
    rw[FL,jb,aI (by simp; lia),Rb _ (by lia)]; rfl
   have n1:dF (.int 1) (.int 1)=aA (.bl aD):=rfl;refine aV (s':=[aA (.scr ns),aA W,aA (.lst Cs),aA Sd,aA (.lst (C.map nT)),aA (.int (j:Int)),aA Hh,b7,b8,aA (.lst (QP rows.length (.int ((-hv j)%2)))),aB,aB,aB,aB,aB]) (by simp?[lc]) ?_
   exact ca (by simp?[ls,n1]<;>rfl) ⟨_,_,_,_,_,rfl⟩
 ·rintro s ⟨a5,a6,a7,a8,a9,rfl⟩;refine aV (s':=[aA (.scr ns),aA W,aA (.lst Cs),aA Sd,aA (.lst (C.map nT)),a5,a6,a7,a8,a9,aA (.lst ((aK wd).map (ik wd))),aB,aB,aB,aB]) (by simp?[et]) ?_
  refine aV (s':=[aA (.scr ns),aA W,aA (.lst Cs),aA Sd,aA (.lst (C.map nT)),a5,a6,a7,a8,a9,aA (.lst ((aK wd).map (ik wd))),aA (.dct (bH eX [])),aB,aB,aB]) (by simp?[]<;>rfl) ?_
  refine fZ (its:=(aK wd).map (ik wd)) (λj s=>∃(L:ak) (a7 a12 a13:Option T),Gs wd j L/\s=[aA (.scr ns),aA W,aA (.lst Cs),aA Sd,aA (.lst (C.map nT)),a5,a6,a7,a8,a9,aA (.lst ((aK wd).map (ik wd))),aA (.dct (bH eX L)),a12,a13,aB]) (by simp?[]) ⟨[],a7,aB,aB,⟨Zo,rfl,(λp hp=>absurd hp QZ),(λp _ hp=>absurd hp QZ)⟩,rfl⟩ ?_ ?_
  ·rintro j z s hz ⟨L,b7,b12,b13,G,rfl⟩;rw[jf] at hz;obtain⟨x,hx,rfl⟩:=Qm hz;have jl:=(j6.mp hx).1;have ho:=UF gw.two hsd (jy hx);obtain⟨n1,n2,G'⟩:=G.next hx gw.two ho
   obtain⟨m1,m2,_⟩:=EJ (jy hx) gw.two ho;have p1:=v5 eX L (eL wd x);have p2:=v5 eX (L++[eL wd x]) (fI wd x);rw[aH n1,show eX (eL wd x)=1 from aI m1] at p1;rw[aH n2,show eX (fI wd x)=0 from aH (by lia)] at p2
   have hS1:(bH eX L).length < ju:=lE (by unfold bH; rw[j4,G.len]; lia)
   have hS2:(bH eX (L++[eL wd x])).length < ju:=lE (by unfold bH; rw[j4,jk,G.len]; simp; lia)
   refine⟨[aA (.scr ns),aA W,aA (.lst Cs),aA Sd,aA (.lst (C.map nT)),a5,a6,aA (.str x),a8,a9,aA (.lst ((aK wd).map (ik wd))),aA (.dct (bH eX L)),aA (.int (eL wd x:Nat)),aA (.int (fI wd x:Nat)),aB],rfl,?_⟩;refine aV (s':=[aA (.scr ns),aA W,aA (.lst Cs),aA Sd,aA (.lst (C.map nT)),a5,a6,aA (.str x),a8,a9,aA (.lst ((aK wd).map (ik wd))),aA (.dct (bH eX (L++[eL wd x]))),aA (.int (eL wd x:Nat)),aA (.int (fI wd x:Nat)),aB]) (by simp?[hS1,d6,p1]) ?_
   exact ca (s':=[aA (.scr ns),aA W,aA (.lst Cs),aA Sd,aA (.lst (C.map nT)),a5,a6,aA (.str x),a8,a9,aA (.lst ((aK wd).map (ik wd))),aA (.dct (bH eX (L++[eL wd x]++[fI wd x]))),aA (.int (eL wd x:Nat)),aA (.int (fI wd x:Nat)),aB]) (by simp?[hS2,d6,p2]) ⟨_,_,_,_,G',rfl⟩
  ·rintro s ⟨L,b7,b12,b13,G,rfl⟩;rw[j4] at G
   have inL:∀ p,p < wd.length->p∈L:=λp hp=>G.all p hp (by
    rw[Qj];refine mem_firsts.mpr ?_;rw[jD,j3 hp]
    exact jU hp)
   have lk:∀ p:Nat,p < wd.length->bh (bH eX L) (.inl (p:Int))=aA (.int (eX p)):=λp hp=>by rw[tF,aI (inL p hp)]
   have hr:r6 (aF (dC (.int 1)) (aF (d1 bn (dV 1)) aJ)) [aA (.scr ns),aA W,aA (.lst Cs),aA Sd,aA (.lst (C.map nT)),a5,a6,b7,a8,a9,aA (.lst ((aK wd).map (ik wd))),aA (.dct (bH eX L)),b12,b13,aB]=aA ((j7 (wd.length - 1)).map λk=>T.int ((k+1:Nat):Int),[aA (.scr ns),aA W,aA (.lst Cs),aA Sd,aA (.lst (C.map nT)),a5,a6,b7,a8,a9,aA (.lst ((aK wd).map (ik wd))),aA (.dct (bH eX L)),b12,b13,aB]):=by
    have r1:eN 1=aC:=rfl;have r2:eN ((wd.length:Nat):Int)=aC:=by unfold eN; exact NV (by lia)
    have er:eO 1 (((wd.length:Nat):Int) - 1).toNat=(j7 (wd.length - 1)).map λk=>T.int ((k+1:Nat):Int):=by
     unfold eO;rw[show (((wd.length:Nat):Int) - 1).toNat=wd.length - 1 by lia]
     refine Qq λk _=>?_;rw[show (1:Int)+(k:Int)=((k+1:Nat):Int) by lia]
    simp?[gW,r1,r2,and_self,er]
   refine fZ (its:=(j7 (wd.length - 1)).map λk=>T.int ((k+1:Nat):Int)) (λj s=>∃ a14:Option T,s=[aA (.scr ns),aA W,aA (.lst Cs),aA Sd,aA (.lst (C.map nT)),a5,a6,b7,a8,a9,aA (.lst ((aK wd).map (ik wd))),aA (.dct (bH eX L)),b12,b13,a14]) hr ⟨aB,rfl⟩ ?_ ?_
   ·rintro j z s hz ⟨b14,rfl⟩;rw[jf] at hz;obtain⟨k,hk,rfl⟩:=Qm hz;have hk:=je.mp (jy hk);have l1:=lk (k+1) (by lia)
    have l2:=lk k (by lia)
    have dn:aE (eX (k+1)=eX k)=aD:=bL (by unfold eX; split<;>split<;>lia)
    have em:((k+1:Nat):Int) - 1=(k:Int):=by lia
    refine⟨[aA (.scr ns),aA W,aA (.lst Cs),aA Sd,aA (.lst (C.map nT)),a5,a6,b7,a8,a9,aA (.lst ((aK wd).map (ik wd))),aA (.dct (bH eX L)),b12,b13,aA (.int ((k+1:Nat):Int))],rfl,?_⟩;exact ca (by simp?[em,d6,l1,l2,Option.getD_some,dn]<;>rfl) ⟨_,rfl⟩
   ·rintro s ⟨b14,rfl⟩;have dl:(bH eX L).length=wd.length:=by unfold bH; rw[j4,G.len]; lia
    exact f8 (by simp?[dl,gW,bB rfl]<;>rfl) rfl
end Dw
namespace Dw
open PySem PySem.Spec PyProof.Rows L2 L3
set_option maxHeartbeats 1000000 in
def M0{l:Yx}{w:Qf}{K:jd}{h:QN}{mg:Str->Option j8}{fa:jv}(X:K.In h)(G:h.Ns jX mg)(hfa:mg "law"=aA (.ref fa)){kDrawError kNotDrawn:jv}
  (a1:Fd K "_law_names" zt)
  (a2:Fd K "_law_draw" zW)
  (a3:Fd K "_law_built_word" Av)
  (a4:Fd K "_law_any_word" Ab)
  (a5:Fd K "_law_bag" zL)
  (a6:Fd K "_law_word" zX)
  (a7:Fd K "_law_cell" zV)
  (a8:Fd K "names_of" Ad)
  (a9:Fd K "odd_name" Ae)
  (a10:Fd K "evenly_shared" BM)
  (a11:Fd K "odd_pair" Af)
  (a12:Fd K "found_from" Az)
  (a13:Fd K "side_beside" B3)
  (a14:Fd K "sides_along" B4)
  (a15:Fd K "wrong_step" B0)
  (a16:Fd K "way_back" Ag)
  (a17:Fd K "ring_through" BH)
  (a18:Fd K "sides_or_ring" BO)
  (a19:Fd K "standings" Ai)
  (a20:Fd K "between" AW)
  (a21:Fd K "crossed_with" B9)
  (a22:Fd K "looked" AC)
  (a23:Fd K "ends_by_side" BG)
  (a24:Fd K "drawing" wK)
  (a25:Fd K "_law_drawing" AV)
  (a26:Fd K "_law_set_up" A9)
  (a27:Fd K "ends_ahead" Ay)
  (a28:Fd K "rounds" AD)
  (a29:Fd K "walker_by" Aj)
  (a30:Fd K "end_of" AB)
  (a31:Fd K "patches" Aa)
  (a32:Fd K "borders" AX)
  (a33:Fd K "heights_along" BN)
  (a34:Fd K "heights" AZ)
  (a35:Fd K "colours" AY)
  (a36:Fd K "over_and_under" BR)
  (a37:Fd K "by_turns" Ac)
  (a38:Fd K "_law_round" zu)
  (a39:Fd K "_law_steps_round" B1)
  (a40:Fd K "law" yK)
  (z1:Qy K jX "range"=aA aB)
  (z2:Qy K jX "len"=aA aB)
  (z3:Qy K jX "list"=aA aB)
  (z4:Qy K jX "max"=aA aB)
  (z5:Qy K jX "set"=aA aB)
  (z6:Qy K jX "enumerate"=aA aB)
  (z7:Qy K jX "zip"=aA aB)
  (z8:Qy K jX "min"=aA aB)
  (z9:Qy K jX "sorted"=aA aB)
  (xDrawError:Qy K jX "DrawError"=aA (aA (.ref kDrawError)))
  (xNotDrawn:Qy K jX "NotDrawn"=aA (aA (.ref kNotDrawn)))
  (xnd:∀ h:QN,K.In h->∃ bm,L2.XClsI K h kNotDrawn kDrawError bm)
  : ∃ fd:Zl,(∀(s:jc) (v:j8),Wn s fd ⟨[v],[]⟩ [("_law_script",v)])/\∀ base:QN,K.In base->base.Ns jX mg->FnOk l.prog w K mg base fC 9 fa fd ["_law_script"] (L3.rF K):=by
 have m_range:=QD X G z1;have m_len:=QD X G z2;have m_list:=QD X G z3;have m_max:=QD X G z4;have m_set:=QD X G z5;have m_enumerate:=QD X G z6;have m_zip:=QD X G z7;have m_min:=QD X G z8;have m_sorted:=QD X G z9;refine Rh (M':=[]) (Mb:=[]) X G hfa a40 E1 (λ_ _ _ _ _ _ _=>rfl) (by decide) Mf λbase KB GB=>?_
 letI:TheK:=⟨K⟩
 let v:Ev:=⟨l.prog,w,mg,base⟩
 let a:Ax:=⟨kNotDrawn,kDrawError,kNotDrawn,kNotDrawn,kNotDrawn,kNotDrawn⟩
 have m2:v.mg "NotDrawn"=aA (.ref a.r2):=WL X G xNotDrawn;have nd:Nd v a:=xnd base KB;have kP:=a1.here X G (ps:=["_law_cell_here","_law_many"]) (fL λ_ _ _ _ _ _ _ _=>rfl);have pD:=a2.here X G (ps:=["_law_bag_here","_law_many"]) (fL λ_ _ _ _ _ _ _ _=>rfl);have k9:=a3.here X G (ps:=["_law_bag_here","_law_names_here"]) (fL λ_ _ _ _ _ _ _ _=>rfl);have mL:=a4.here X G (ps:=["_law_bag_here","_law_names_here"]) (fL λ_ _ _ _ _ _ _ _=>rfl);have kJ:=a5.here X G (ps:=["_law_cell_here"]) (iy λ_ _ _ _ _ _ _=>rfl);have mq:=a6.here X G (ps:=["_law_cell_here","_law_names_here"]) (fL λ_ _ _ _ _ _ _ _=>rfl);have mO:=a7.here X G (ps:=["_law_script","_law_k"]) (fL λ_ _ _ _ _ _ _ _=>rfl);have de:=a8.here X G (ps:=["word"]) (iy λ_ _ _ _ _ _ _=>rfl);have ma:=a9.here X G (ps:=["mates"]) (iy λ_ _ _ _ _ _ _=>rfl);have mJ:=a10.here X G (ps:=["mates","one","other"]) (sM λ_ _ _ _ _ _ _ _ _=>rfl);have mr:=a11.here X G (ps:=["mates"]) (iy λ_ _ _ _ _ _ _=>rfl);have mj:=a12.here X G (ps:=["mates"]) (iy λ_ _ _ _ _ _ _=>rfl);have pV:=a13.here X G (ps:=["mates","sides","name","mate"]) (Xv λ_ _ _ _ _ _ _ _ _ _=>rfl);have kb:=a14.here X G (ps:=["mates","origins"]) (fL λ_ _ _ _ _ _ _ _=>rfl);have kR:=a15.here X G (ps:=["mates","sides"]) (fL λ_ _ _ _ _ _ _ _=>rfl);have me:=a16.here X G (ps:=["origins","name"]) (fL λ_ _ _ _ _ _ _ _=>rfl);have kz:=a17.here X G (ps:=["origins","one","other"]) (sM λ_ _ _ _ _ _ _ _ _=>rfl);have m6:=a18.here X G (ps:=["mates"]) (iy λ_ _ _ _ _ _ _=>rfl);have mR:=a19.here X G (ps:=["word","name"]) (fL λ_ _ _ _ _ _ _ _=>rfl);have kM:=a20.here X G (ps:=["word","name"]) (fL λ_ _ _ _ _ _ _ _=>rfl);have ku:=a21.here X G (ps:=["word","name"]) (fL λ_ _ _ _ _ _ _ _=>rfl);have km:=a22.here X G (ps:=["word"]) (iy λ_ _ _ _ _ _ _=>rfl);have p7:=a23.here X G (ps:=["word","name","side"]) (sM λ_ _ _ _ _ _ _ _ _=>rfl);have pN:=a24.here X G (ps:=["word"]) (iy λ_ _ _ _ _ _ _=>rfl);have kE:=a25.here X G (ps:=["_law_bag_here","_law_word_here"]) (fL λ_ _ _ _ _ _ _ _=>rfl);have kK:=a26.here X G (ps:=["_law_script"]) (iy λ_ _ _ _ _ _ _=>rfl);have kI:=a27.here X G (ps:=["crossings"]) (iy λ_ _ _ _ _ _ _=>rfl);have hZ:=a28.here X G (ps:=["after"]) (iy λ_ _ _ _ _ _ _=>rfl);have kd:=a29.here X G (ps:=["size","end"]) (fL λ_ _ _ _ _ _ _ _=>rfl);have kF:=a30.here X G (ps:=["size","walker"]) (fL λ_ _ _ _ _ _ _ _=>rfl);have kh:=a31.here X G (ps:=["word","crossings"]) (fL λ_ _ _ _ _ _ _ _=>rfl);have ke:=a32.here X G (ps:=["word","crossings"]) (fL λ_ _ _ _ _ _ _ _=>rfl);have kQ:=a33.here X G (ps:=["hands"]) (iy λ_ _ _ _ _ _ _=>rfl);have pF:=a34.here X G (ps:=["word","crossings","outside"]) (sM λ_ _ _ _ _ _ _ _ _=>rfl);have kH:=a35.here X G (ps:=["word","crossings"]) (fL λ_ _ _ _ _ _ _ _=>rfl);have m9:=a36.here X G (ps:=["name","one","other"]) (sM λ_ _ _ _ _ _ _ _ _=>rfl);have hX:=a37.here X G (ps:=["word"]) (iy λ_ _ _ _ _ _ _=>rfl);have kY:=a38.here X G (ps:=["_law_ends","_law_sides"]) (fL λ_ _ _ _ _ _ _ _=>rfl);have mZ:=a39.here X G (ps:=["_law_ends","_law_sides","_law_high"]) (sM λ_ _ _ _ _ _ _ _ _=>rfl);have kB:zm v 1:=UG kP m_range m_len;have ph:tR v 1:=Su pD;have mC:Ak v 2:=Vy k9 ph.up m_list m_len m_max;have mQ:AJ v 2:=Vp mL ph.up m_list m_range m_len;have pL:vK v 1:=S7 kJ;have m7:zQ v 3:=Sv mq mQ.up pL.up mC.up;have kA:zP v 1:=Ss mO m_len;have pA:sB v 1:=Vr de m_list;have mB:AL v 1:=Vs ma m_len;have pP:wv v 1:=XH mJ m_len m_set;have pW:AM v 2:=Vt mr pP.up;have mV:Am v 1:=X0 mj;have pT:x6 v 2:=XC pV pP.up;have mz:BB v 3:=XD kb pT.up;have kl:An v 3:=X1 kR pT.up;have kS:AN v 1:=Vu me;have kG:B6 v 2:=XR kz kS.up m_len;have kn:BK v 4:=XJ m6 mV.up mz.up kl.up kG.up;have pM:wT v 1:=X4 mR m_enumerate;have ki:AF v 2:=VT kM pM.up;have pU:wo v 3:=XO ku ki.up pA.up;have pQ:wD v 5:=Ux km pA.up pU.up mB.up pW.up kn.up;have mh:B5 v 2:=XQ p7 pM.up;have pR:wM v 6:=VX pN pQ.up pA.up mh.up m_zip;have kj:AI v a 6:=Vo pN pQ.up m2 nd;have p0:AE v 7:=VS kE pR.up pA.up ph.up pU.up kj.up m_len m_list m2 nd;have ka:A0 v 8:=Uv kK kB.up kA.up m7.up p0.up pL.up;have mP:Al v 1:=Vz kI m_enumerate;have mo:A2 v 1:=Uy hZ m_set m_range m_len;have m8:Ao v 1:=X5 kd;have kC:A1 v 1:=Uw kF;have mI:AH v 2:=VZ kh mP.up mo.up m8.up kC.up m_len m_range;have pS:wL v 3:=VU ke mI.up m_enumerate m_range m_len;have mY:BJ v 1:=XI kQ;have pz:wN v 4:=VY pF pS.up mY.up m_range m_len;have ms:AG v 5:=VW kH pz.up;have p9:BP v 1:=XS m9;have mw:AK v 7:=Vq hX pR.up p9.up;have mD:zp v 1:=UH kY;have kZ:BA v 2:=XB mZ mD.up m_min m_sorted m_max;exact KA (v:=v) ka.up pS.up ms.up pz.up kZ.up mw.up m_len m_range m_set
end Dw
namespace PySem.W.Fast
def tw16464762782629944282:True:=⟨⟩
def tw18000533197634476051:True:=⟨⟩
def tw11758526169391759999:True:=⟨⟩
def tw7628936005438239229:True:=⟨⟩
def tw5172151554553158652:True:=⟨⟩
def tw3776787164044782402:True:=⟨⟩
def tw9388572771256780111:True:=⟨⟩
def tw10663428996421624204:True:=⟨⟩
def tw12610104257051781115:True:=⟨⟩
def tw10596145835041326512:True:=⟨⟩
def tw8475263881598027485:True:=⟨⟩
def tw14049213410445787523:True:=⟨⟩
def tw16984206501048289486:True:=⟨⟩
def tw13858213683307583274:True:=⟨⟩
def tw18011667532574367233:True:=⟨⟩
def tw7737622388970359491:True:=⟨⟩
def tw9120196631877828969:True:=⟨⟩
def tw2534797747356886197:True:=⟨⟩
def tw84361071160255572:True:=⟨⟩
def tw7823506813283036783:True:=⟨⟩
def tw17163619551210617768:True:=⟨⟩
def tw978113887961807557:True:=⟨⟩
def tw2688038099318888494:True:=⟨⟩
def tw3149380651373209674:True:=⟨⟩
def tw371260634827706737:True:=⟨⟩
def tw12488893451477791783:True:=⟨⟩
def tw4538577242817051028:True:=⟨⟩
def tw17766208045910469470:True:=⟨⟩
def tw18293350580799711594:True:=⟨⟩
def tw5842854973920793836:True:=⟨⟩
def tw14897659129548778858:True:=⟨⟩
def tw8456472434562592405:True:=⟨⟩
def tw9628683593321886135:True:=⟨⟩
def tw13856160378901676673:True:=⟨⟩
def tw8010058747663099629:True:=⟨⟩
def tw2928267751505249604:True:=⟨⟩
def tw3638279444300954077:True:=⟨⟩
def tw16206053787907488744:True:=⟨⟩
def tw17070049995914633640:True:=⟨⟩
def tw2638092200522462083:True:=⟨⟩
def tw16466311644049656134:True:=⟨⟩
def tw2849733905045002821:True:=⟨⟩
def tw3272356334351481960:True:=⟨⟩
def tw14972748235039747398:True:=⟨⟩
def tw664891396102546662:True:=⟨⟩
def tw6925274703898665316:True:=⟨⟩
def tw16457526294530564008:True:=⟨⟩
def tw13242030903754130057:True:=⟨⟩
def tw2281449006205404369:True:=⟨⟩
def tw13851218207218205793:True:=⟨⟩
def tw1478740770218889830:True:=⟨⟩
def tw11281646413987271879:True:=⟨⟩
def tw15285140465668711881:True:=⟨⟩
def tw17030259431015208485:True:=⟨⟩
def tw8195458173939993322:True:=⟨⟩
def tw4596430050914677154:True:=⟨⟩
def tw10775763103765232973:True:=⟨⟩
def tw16089605577188870748:True:=⟨⟩
def tw9841998126615182695:True:=⟨⟩
def tw1893659495035518211:True:=⟨⟩
def tw9702733781662403212:True:=⟨⟩
def tw15498290788284395967:True:=⟨⟩
def tw1960464934556397385:True:=⟨⟩
def tw580544213401572028:True:=⟨⟩
def tw7668598611474525356:True:=⟨⟩
def tw13908844769012542778:True:=⟨⟩
end PySem.W.Fast
open PySem PySem.W PyProof.Rows
set_option maxRecDepth 100000 in
set_option maxHeartbeats 0 in
theorem PySem.Challenge.cw_drawnword_k26_whole_round_each_crossing_holds : PySem.Challenge.rw_drawnword_k26_whole_round_each_crossing.Holds := by
 w_on; o_law; k_head; (case hw=>w_witness2)
 k_fill
 refine L3.Lb (l:=PySem.Challenge.rw_drawnword_k26_whole_round_each_crossing) (x:="_law_script") (k:=9) rfl rfl (by decide) (λw h Y=>PySem.W.kIn_of Y) ?F
 case F=>
  intro w mg fa h KX G hmg
  refine' Dw.M0 KX G hmg (.mk ?_ ?_ ?_ ?_) (.mk ?_ ?_ ?_ ?_) (.mk ?_ ?_ ?_ ?_) (.mk ?_ ?_ ?_ ?_) (.mk ?_ ?_ ?_ ?_) (.mk ?_ ?_ ?_ ?_) (.mk ?_ ?_ ?_ ?_) (.mk ?_ ?_ ?_ ?_) (.mk ?_ ?_ ?_ ?_) (.mk ?_ ?_ ?_ ?_) (.mk ?_ ?_ ?_ ?_) (.mk ?_ ?_ ?_ ?_) (.mk ?_ ?_ ?_ ?_) (.mk ?_ ?_ ?_ ?_) (.mk ?_ ?_ ?_ ?_) (.mk ?_ ?_ ?_ ?_) (.mk ?_ ?_ ?_ ?_) (.mk ?_ ?_ ?_ ?_) (.mk ?_ ?_ ?_ ?_) (.mk ?_ ?_ ?_ ?_) (.mk ?_ ?_ ?_ ?_) (.mk ?_ ?_ ?_ ?_) (.mk ?_ ?_ ?_ ?_) (.mk ?_ ?_ ?_ ?_) (.mk ?_ ?_ ?_ ?_) (.mk ?_ ?_ ?_ ?_) (.mk ?_ ?_ ?_ ?_) (.mk ?_ ?_ ?_ ?_) (.mk ?_ ?_ ?_ ?_) (.mk ?_ ?_ ?_ ?_) (.mk ?_ ?_ ?_ ?_) (.mk ?_ ?_ ?_ ?_) (.mk ?_ ?_ ?_ ?_) (.mk ?_ ?_ ?_ ?_) (.mk ?_ ?_ ?_ ?_) (.mk ?_ ?_ ?_ ?_) (.mk ?_ ?_ ?_ ?_) (.mk ?_ ?_ ?_ ?_) (.mk ?_ ?_ ?_ ?_) (.mk ?_ ?_ ?_ ?_) ?_ ?_ ?_ ?_ ?_ ?_ ?_ ?_ ?_ ?xDrawError ?xNotDrawn ?xnd
  (case xDrawError=>k_is)
  (case xNotDrawn=>k_is)
  case xnd=>
   intro h KX
   refine' ⟨_,L3.Rv KX ?xl ?xi ?xn ?xt ?lk ?hcd ?S ?l1 ?l2 ?d1 ?d2 ?hb ?c1 ?c2 ?c3 ?c4 ?c5⟩
   (case xl=>k_is)
   (case xi=>k_is)
   (case xn=>kernel_rfl)
   (case xt=>kernel_rfl)
   (case lk=>k_is)
   (case hcd=>k_is)
   (case S=>exact⟨rfl,rfl,rfl,by decide +kernel,rfl,by decide +kernel,by decide +kernel⟩)
   (case l1=>rfl)
   (case l2=>rfl)
   (case d1=>decide)
   (case d2=>decide)
   (case hb=>exact λus hl=>match us,hl with |[_,_],_=>rfl)
   (case c1=>k_is)
   (case c2=>rfl)
   (case c3=>rfl)
   (case c4=>k_is)
   (case c5=>k_is)
  all_goals try k_is
