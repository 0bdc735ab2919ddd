import PyProof.Rows.All
import Wide.All
import OpenK.AllK
import Wide.FinOn
import Lean
import PyProof.EqAt
import PyProof.EqKinds
import PyProof.TupleCall
import PyProof.EnumMake
import PyProof.EnumFor
import PyProof.NeKinds
import PyProof.EnumStmt
import PyProof.DictCompW
import KE.KDictList
import KE.KRevSl
import PyProof.ListRange
import PyProof.ConsumeWalk
import PyProof.SumWalk
import PyProof.MinMaxWalk
import PyProof.DictWalks
import PyProof.StrWalks
import PyProof.Rows.SortStr
import PyProof.Rows.SortShell
import PyProof.Rows.SortWalk
import PyProof.StrBlockG
import PyProof.StrLawsTight
import PyProof.Rows.RuleB_and
import PyProof.Rows.RuleB_or
import PyProof.Rows.SetFrom
import PyProof.SetRoads
import PyProof.Rows.SumAny
import KE.KRevIter
import PyProof.Rows.Range3
import KE.KDictLaws
import PyProof.ConsumeS
import PyProof.ZipIter
import PyProof.ListNew
import PyProof.Draws
import PyProof.SeqI3
import OpenK.KRaise
import PyProof.ExcBaseAll.ValueError
import PyProof.RulesAs
import OpenK.KDescr
import KE.KIsAll
import PyProof.ExcArgs
import PyProof.InstSpecial
import PyProof.ExcClass2
import PyProof.InstStore
import PyProof.InstStoreFacts
import PyProof.AutoSeq1
import PyProof.CallStr
import OpenK.KOwn
import PyProof.StrLawsChain
import PySem.Challenge.RW_drawnword_k22_patches_at_both_hands
open List renaming getElem?_eq_getElem->j3,range->j5,length_map->j6,getElem?_eq_some_iff->j7,mem_singleton->je,getElem?_map->jg,size_toArray->jh,mem_range->ji,length_append->jk,mem_append_left->jn,getElem?_set_ne->jo,length_cons->jp,map_cons->jt,mem_append->ju,mem_cons->jv,mem_cons_of_mem->jw,all_eq_true->jx,getD_eq_getElem?_getD->jy,mem_append_right->jz,mem_map->jA,mem_of_getElem?->jE,map_append->jF,nodup_append->jP,mem_filter->jQ,mem_cons_self->jT,getElem?_set_self->jU,map_map->jY,take_of_length_le->Q0,dropLast_concat_getLast->Q1,getElem?_append_left->Q3,getElem_mem->Q5,getElem?_append_right->Q7,length_take->Q9,length_set->Qd,nodup_cons->Qk,append_assoc->Qn,idxOf_lt_length_iff->Qo,append_nil->Qt,take_length->Qz,getElem_of_mem->QC,length_range->QH,getElem_range->QN,filter_append->QP,length_drop->QQ,reverse_cons->QU,map_congr_left->QY,find?_cons->Z2,take_append_drop->Z3,any_cons->Za,filter_cons->Zg,not_mem_nil->Zh,getElem_map->Zi,length_singleton->Zj,drop_eq_getElem_cons->Zn,nodup_nil->Zo,mem_of_mem_take->Zq,foldl_cons->Zv,length_erase_of_mem->Zw,map_nil->Zz,filterMap_cons->ZB,length->ZC,getElem?_range->ZF,lookup_cons->ZH,nodup_range->ZI,pairwise_lt_range->ZL,length_nil->ZR,count_cons->ZT,length_filter_le->ZW,mem_erase_of_ne->gc,take_succ->gd,mem_nil_iff->gg,ext_getElem->gh,getElem?_replicate->gB,count_eq_zero->gC,getElem?_cons_succ->gF,range_succ_eq_map->gJ,length_eq_one_iff->gK,filter_eq_nil_iff->gL,length_pos_of_mem->gM,pairwise_map->gR,replicate->gT,length_replicate->gV,getElem_inj->gZ,eq_nil_of_length_eq_zero->Y2,getLast?_eq_some_getLast->Y3,getLast?_append->Y7,all_cons->Yb,of_mem_zip->Yd,forIn_cons->Yf,range_succ->Yl,mem_filterMap->Yq,contains_cons->Yw,append_of_mem->Yx,mem_or_eq_of_mem_set->YB,getElem?_eq_none_iff->YC,take_sublist->YG,eq_of_mem_replicate->YK,filter_congr->YO,eraseIdx_cons_succ->YZ,sum_cons->N6,filter_cons_of_neg->N7,filter_cons_of_pos->N8,drop_length->N9,zipIdx_cons->Nf,any_eq_true->Ng,filter_map->Nw,dropLast_eq_take->Ny,getElem?_toArray->NB,nil_append->NF,range_zero->NG,map_set->NH,pairwise_append->NU,drop_zero->NZ,length_reverse->W5,length_pos_iff->W8,getElem?_take->Wn,map_drop->Wo,map_take->Wp,filter_filter->Wv,getElem?_drop->Ww,map_replicate->Wx,getElem_idxOf->Wy,foldl_append->WM,Nodup->WT,find?_isSome->WV,any_map->J1,countP_cons->J9,take_append->Jb,cons_append->Jc,zipIdx_nil->Jp,filter->Js,count_set->Jt,forIn_nil->Ju,range_add->Jw,all_map->U1
open PySem renaming wpAny_bind->j4,Value->j8,Shared->jc,starEach->jd,wpAny_pure->jq,sizeLine->jr,Addr->js,Program->jH,wpAny->jI,model->jM,mainGlobals->jO,wpAny_mono->jV,Expr->Q4,World->Qf,Around->Qg,wpAny_holding->Qi,bootBuiltins->Qp,assignEach->Qr,foldedSetIterable->Qu,behindInMarks->Qy,backTo->QF,Heap->QL,Stmt->QR,wpAny_loadPart_at->QX,FuncData->Z5,wpAny_standAt->Z9,compareOp->Zb,wpAny_setField_rec->Zk,wpAny_truthy_bool->Zs,wpAny_passesOwn->Zt,wpAny_comprehension_free->Zu,mem_of_lookup->ZD,wpAny_getItem_str_slice->ZE,sysModules->ZJ,wpAny_execs_nil->ZN,swapsWith->ZO,letOwnedTupleGo->ZP,sizeLine_eq->ZQ,wpAny_newFunctionEnv_cells->ZZ,wpAny_seqItems->ge,wpAny_field->gq,wpAny_isSubtype_exc->gr,IsPair->gy,binaryOp->gz,wpAny_Call_Name_kw->gA,scanBound->gD,cLine->gG,Scope->gN,wpAny_pyIter_list->gO,sliceBounds->gP,assign->gU,codeAny_call_function->gW,wpAny_execs_cons->Y0,holding->Y1,wpAny_loadName_local->Y4,wpAny_updateSeq_pair->Y5,GenState->Y9,bindArgs->Ya,codeAny->Yc,post_val_or_str->Yg,wpAny_setEntries_of->Yh,excClassObj->Yj,wpAny_pyIter_tuple->Yp,codeAny_mono->Yr,tupleKind_room_in1->Yt,wpAny_assign_Name->YF,slot_list_getitem->YH,wpAny_getItem_list_slice->YI,wpAny_setState_of->YL,NameKind->YW,attributeBase->YY,wpAny_onRaise->N3,wpAny_callSpecial?_slot->N4,wpAny_askSetting->Na,wpAny_call_entry->Nb,wpAny_isInstance->Nc,wpAny_pyNext_list_item->Nh,wpAny_getItem_list_neg->Nj,wpAny_isTrue_Compare1->No,wpAny_pyNext_list_end->Np,seqIndex_neg->Nq,exec_Assign_Name_used->Nt,codeAny_builtin->Nz,wpAny_setAddHashed_of->NA,wpAny_nextOf_list_end->NE,wpAny_Name->NJ,wpAny_newFunctionEnv->NP,codeAny_call_builtin->NR,pyNext->NV,recursionLimit->NY,BindsTo->W2,seqIndex_of->W3,subscripted->W4,tupleKind->Wb,cellsFrom->Wg,Arguments->Wi,evalPart_none->Wj,wpAny_forIn_array'->Wq,setWalkUnseen->Wr,IsZip->Ws,getItem->Wz,wpAny_call->WD,PlainAttrs->WF,call_meets->WG,valueAt->WH,callerA->WI,wpAny_newObj_type->WK,wpAny_pyIter_enum->WL,Builtin->WN,wpAny_setEpoch_of->WO,isInstance->WP,codeAny_func->WW,compEnvC->Je,SetTable->Jg,setItem->Jj,PassesOwn->Jk,noteFrame->Jn,wpAny_letGo->Jq,ClassData->Jr,boot_len->Jv,builtinsNs->Jz,isTrue->JA,Result->JC,typeLookup->JD,typeIs_str->JE,call->JF,wpAny_rule->JG,intKind->JJ,Operator->JK,relabel->JM,compPost->JO,Paired->JV,Within->JW,again->JY,atKey->U0,Model->U5,bindL->U7,bindC->U8,Draws->Ua
open Option renaming bind_some->j9,map_some->jR,isSome_iff_exists->gv,isSome_map->gQ,getD_none->J7
open PySem.Heap renaming get?_push_of_some->ja,lt_size->jj,get?_push_size->jG,SameBut->Qq,size_push->Zm,ExtBut->N0,get?_update_other->Nk,get?_update_self->Nr,get?_none_of_le->NM,get?_update_ne->W6,FlyingW->U2
open PySem.W renaming Frag->jb,fnOf->jX,keepIn->Q2,mg_none_of->Q6,nsIn->Qe,kia_one->Qw,codeIn->QZ,cellsFrom_some->gH,OpenLaw->Ye,codeRec_of->Ys,findIn->Yz,methodObj->YE,hideAll_get->N5,instObj->Nn,lookIn->NW,kitOne->NX,mg_of->Wu,kitx_list->WA,kitx_dict->WB,plainGet->J4,WalkO->JL
open Option.some renaming inj->jf
open Nat renaming le_refl->jm,ne_of_lt->jC,lt_of_lt_of_le->jW,lt_irrefl->jZ,mod_two_eq_zero_or_one->Q8,le_trans->Qc,lt_succ_of_lt->Qv,zero_le->QV,le_of_lt->Z1,zero_add->Z4,lt_succ_self->Z8,not_lt_zero->ZS,le_of_ble_eq_true->ZU,le_succ->gk,ne_of_gt->gs,lt_trichotomy->gS,min_eq_left->Yk,lt_of_le_of_lt->Yu,lt_or_ge->ND,le_succ_of_le->WS,lt_trans->WX,le_of_not_lt->J8,min_eq_right->Jd,le_antisymm->Jo
open PySem.Str renaming empty->jB,ofString->NC
open Or renaming inl->jD,inr->g9
open Bool renaming false_ne_true->jJ,and_eq_true->jL,false_eq_true->Z6,or_eq_true->Zc,eq_iff_iff->Zd,false_and->Yy,and_false->YA,and_eq_true_iff->NT,false_or->Wm,not_true->JQ,true_and->JS,and_comm->JU,true_or->JZ,or_true->U3
open PySem.PassesOwn renaming never->jK
open PySem.F renaming plainAttrs_list->jS,slot_list_append->QJ,type_list_append->QK,called_set->ZV,slot_list_pop->ZX,type_list_pop->ZY,excBase_ValueError->Y6,slot_zip_next->Yi,slot_list_extend->YQ,type_list_extend->YR,store_ValueError->Wt,args_zip_next_1->WQ,entry_zip_next->Ja
open Int renaming toNat_natCast->Qa,emod_lt_of_pos->Z7,emod_nonneg->Zy,toNat_of_nonneg->Ym,emod_eq_of_lt->YS,zero_add->Nu
open PySem.Value renaming ref->Qh,isStrOf->QM,str->ZG,none->YD,notImplemented->NS,isInt->W0,int->Jh,bool->Jx,type->Jy,float->U4
open PyProof.Rows renaming callWith_type1->Qj,envOfC->Zp,AllBare->YU,subscriptTail->YX,subscriptTail_builtinR->Ni,Subscript_->WE,IntsAre->Jm,boot_range->JB
open ForInStep renaming yield->Ql
open PySem.NameKind renaming free->Qs,cell->JN
open Array renaming length_toList->QB,getElem?_toList->gX,getElem?_eq_some_iff->Yo,getElem?_eq_none->Nm,find?_toList->Wd,toList->JX
open PySem.Builtin.SmallTypes renaming ownedTupleIsFree->QD,nextOf->Z0,ownedTupleHandOut->gf
open PySem.Builtin.Frozenset renaming unchanged->Ze,isAnySet->gb,addrOf->YN,slot1->N2,intersection->J0,updateFrom->Jf,baseOf->JH,sizeOf->JI
open False renaming elim->Zf
open Sum renaming inr->Zl,inl->W1
open Ne renaming symm->Zr
open List.Pairwise renaming imp_of_mem->Zx,sublist->Nx,nil->WJ,map->WU,imp->Uf
open Fin renaming mul_zero->ZA,zero_mul->gY,add_zero->J2,mul_comm->J3
open True renaming intro->ZK
open Sum.inr renaming inj->ZM
open PySem.Builtin.List renaming listTooLong->gx
open PyProof.Rows.F renaming plain_set_update_loop->gE,entry_set_update_loop->N1
open PySem.Challenge renaming pw_drawnword_k22_patches_at_both_hands->Y8
open PySem.Calls renaming Name_function_global->Yn,callWith_builtin->Nl,evalArgs_plain->NO,spliced_cons->We,spliced_nil->WC
open PySem.Code renaming quiet_builtin->Yv
open PySem.Txt renaming slice->YJ
open PySem.Heap.SetOf renaming typeIs->YM
open PySem.Paired renaming length->YT,snoc->U9
open PySem.Builtin.Range renaming rangeSize->YV
open List.Perm renaming append_left->Nv
open Classical renaming choose_spec->NI
open PySem.Obj renaming mapSeq->NK
open PUnit renaming unit->NL
open PySem.Around renaming frames_deeper->NN,under_plainId->NQ
open PySem.Builtin.Int renaming intBits->W7
open PySem.SeqAt.EqAt renaming int_str->W9,str_int->Wa
open PySem.Data renaming cell->Wc,fields->Jl,seq->Uc
open PySem.Heap.IsSliceOf renaming new->Wk
open PySem.Draws renaming list->WR
open Nat.succ renaming inj->WY
open PySem.pickOrder renaming go->WZ
open Sum.inl renaming inj->Ji
open PySem.Shared renaming TypeIs->JP
open PySem.Heap.UpToSlots renaming of_keeps->JR
open Prod renaming snd->JT,fst->Ud
open PySem.IsRange renaming new->U6
open PySem.Walks renaming tuple->Ub
open PySem.W.WShape renaming has->Ue
set_option Elab.async false
set_option linter.all false
set_option maxRecDepth 100000
theorem Qb{α β:Type _}{x:Option α}{f:α->Option β}{b:β}(h:x.bind f=some b):∃ a,x=some a/\f a=some b:=Option.bind_eq_some_iff.mp h
theorem Qm{α β:Type _}{x:Option α}{f:α->β}{b:β}(h:x.map f=some b):∃ a,x=some a/\f a=b:=Option.map_eq_some_iff.mp h
theorem Df_{p:Prop}[Decidable p](h:¬p):decide p=false:=decide_eq_false h
theorem Dt_{p:Prop}[Decidable p](h:p):decide p=true:=decide_eq_true h
theorem Ip_{c:Prop}{h:Decidable c}(hc:c){α:Sort _}{t e:α}:ite c t e=t:=if_pos hc
theorem In_{c:Prop}{h:Decidable c}(hc:¬c){α:Sort _}{t e:α}:ite c t e=e:=if_neg hc
namespace L2
open PySem PySem.Spec PyProof.Rows
variable {P:jH}{w:Qf}{H H':Hp}{h h':QL}{a:js}{X:Cx}{pc:List (js × Obj)}{s:jc}{b e:Q4}{ta tb:TE}{pos:Pos}{σ:St}{es:List Q4}{t:TA}
abbrev Key:=Sum Int Str
def zkb:Key->j8->Bool
 |.inl k,v=>W0 k v
 |.inr x,v=>QM x v
def zxU(w:Qf):Key->Int
 |.inl k=>hashInt k
 |.inr x=>hashStr w x
theorem zaA:∀ {k:Key} {v:j8},zkb k v=true->(∃ i t,k=W1 i/\v=Jh i t)∨(∃ x t,k=Zl x/\v=ZG x t)
 |.inl i,v,h=>by
  obtain⟨t,e⟩:=Value.isInt_shape (k:=i) (v:=v) h;exact .inl ⟨i,t,rfl,e⟩
 |.inr x,v,h=>by
  obtain⟨t,e⟩:=Value.isStrOf_shape (x:=x) (v:=v) h;exact .inr ⟨x,t,rfl,e⟩
theorem zni(i:Int)(t:Tok):zkb (.inl i) (.int i t)=true:=by simp[zkb,W0]
theorem znh(x:Str)(t:Tok):zkb (.inr x) (.str x t)=true:=by simp[zkb,QM]
theorem ztK(a b:Int):decide ((W1 a:Key)=W1 b)=(a == b):=by
 by_cases e:a=b
 ·subst e; simp
 ·have h:¬ (W1 a:Key)=W1 b:=fun q=>e (Ji q);rw[Df_ h];exact(beq_eq_false_iff_ne.mpr e).symm
theorem ztH(a b:Str):decide ((Zl a:Key)=Zl b)=decide (a=b):=by
 by_cases e:a=b
 ·subst e; simp
 ·have h:¬ (Zl a:Key)=Zl b:=fun q=>e (ZM q);rw[Df_ h,Df_ e]
theorem ztJ(a:Int)(b:Str):decide ((W1 a:Key)=Zl b)=false:=Df_ (fun q=>nomatch q)
theorem ztI(a:Str)(b:Int):decide ((Zl a:Key)=W1 b)=false:=Df_ (fun q=>nomatch q)
def zb6(prog:jH)(w:Qf):PySem.KeyKind prog w Key where
 is:=zkb
 hash:=zxU w
 inj:=fun v a b ha hb=>by
  rcases zaA ha with ⟨i,t,rfl,rfl⟩ |⟨x,t,rfl,rfl⟩
  ·rcases zaA hb with ⟨j,u,rfl,e⟩ |⟨y,u,rfl,e⟩
   ·injection e with e1 _; rw[e1]
   ·exact nomatch e
  ·rcases zaA hb with ⟨j,u,rfl,e⟩ |⟨y,u,rfl,e⟩
   ·exact nomatch e
   ·injection e with e1 _; rw[e1]
 byValue:=fun k v h=>by
  rcases zaA h with ⟨i,t,rfl,rfl⟩ |⟨x,t,rfl,rfl⟩<;>rfl
 pyHash:=fun hv h=>by
  rcases zaA hv with ⟨i,t,rfl,rfl⟩ |⟨x,t,rfl,rfl⟩
  ·exact wpAny_pyHash_int h
  ·exact wpAny_pyHash_str h
 eqBool:=fun hu hv h=>by
  rcases zaA hu with ⟨i,t,rfl,rfl⟩ |⟨x,t,rfl,rfl⟩
  ·rcases zaA hv with ⟨j,u,rfl,rfl⟩ |⟨y,u,rfl,rfl⟩
   ·rw[ztK] at h; exact wpAny_eqBool_int h
   ·rw[ztJ] at h; exact W9 i t y u _ _ _ _ h
  ·rcases zaA hv with ⟨j,u,rfl,rfl⟩ |⟨y,u,rfl,rfl⟩
   ·rw[ztI] at h; exact Wa x t j u _ _ _ _ h
   ·rw[ztH] at h; exact wpAny_eqBool_str h
 «strs»:=fun k x t v h=>by
  rcases zaA h with ⟨i,u,rfl,e⟩ |⟨y,u,rfl,e⟩
  ·exact nomatch e
  ·injection e with e1 _;subst e1;cases v<;>rfl
theorem zk3(prog:jH)(w:Qf)(i:Int)(t:Tok):(zb6 prog w).is (.inl i) (.int i t)=true:=zni i t
theorem zk2(prog:jH)(w:Qf)(x:Str)(t:Tok):(zb6 prog w).is (.inr x) (.str x t)=true:=znh x t
inductive V where
 |non |bl (b:Bool) |int (i:Int) |str (x:Str) |byt (b:Array UInt8) |flt (b:UInt64) |ref (a:js) |ty (n:String)
 deriving DecidableEq
def RelV:V->j8->Prop
 |.non,u=>u=YD
 |.bl b,u=>u=Jx b
 |.int i,u=>∃ t,u=Jh i t
 |.str x,u=>∃ t,u=ZG x t
 |.byt b,u=>∃ t,u=Value.bytes b t
 |.flt b,u=>∃ t,u=U4 b t
 |.ref a,u=>u=Qh a
 |.ty n,u=>u=Jy n
abbrev Vals:List V->List j8->Prop:=JV RelV
theorem Vals.length{xs:List V}{us:List j8}(r:Vals xs us):xs.length=us.length:=YT r
theorem Vals.get:∀ {xs:List V} {us:List j8} {i:Nat} {x:V},Vals xs us->xs[i]?=some x->∃ u,us[i]?=some u/\RelV x u
 |_,_,_,_,.nil,e=>by simp at e
 |_,_,0,_,.cons r _,e=>by simp at e; subst e; exact⟨_,rfl,r⟩
 |_,_,i+1,x,.cons _ t,e=>by
  obtain⟨u,h1,h2⟩:=Vals.get (i:=i) (x:=x) t (by simpa using e)
  exact⟨u,by simpa using h1,h2⟩
theorem Vals.set{x:V}{u:j8}(r:RelV x u):∀ {xs:List V} {us:List j8} (i:Nat),Vals xs us->Vals (xs.set i x) (us.set i u)
 |_,_,_,.nil=>.nil
 |_,_,0,.cons _ t=>.cons r t
 |_,_,i+1,.cons q t=>.cons q (Vals.set r i t)
theorem Vals.append:∀ {xs ys:List V} {us ws:List j8},Vals xs us->Vals ys ws->Vals (xs++ys) (us++ws)
 |_,_,_,_,.nil,s=>s
 |_,_,_,_,.cons r t,s=>.cons r (Vals.append t s)
theorem Vals.take:∀ {xs:List V} {us:List j8} (n:Nat),Vals xs us->Vals (xs.take n) (us.take n)
 |_,_,0,_=>.nil
 |_,_,_+1,.nil=>.nil
 |_,_,n+1,.cons r t=>.cons r (Vals.take n t)
theorem Vals.drop:∀ {xs:List V} {us:List j8} (n:Nat),Vals xs us->Vals (xs.drop n) (us.drop n)
 |_,_,0,r=>r
 |_,_,_+1,.nil=>.nil
 |_,_,n+1,.cons _ t=>Vals.drop n t
def RelO:Option V->Option j8->Prop
 |some v,some u=>RelV v u
 |none,none=>True
 |_,_=>False
def KV{κ:Type}:List (κ × V)->List (κ × j8)->Prop:=JV fun(p:κ × V) (q:κ × j8)=>p.1=q.1/\RelV p.2 q.2
def kV:Key->V
 |.inl i=>.int i
 |.inr x=>.str x
inductive HO where
 /-- a list -/
 |lst (xs:List V)
 /-- a tuple (never changes) -/
 |tup (xs:List V)
 /-- a dict whose keys are ints and texts; one whose keys are tuples of ints and texts (the empty one is both) -/
 |dK (kvs:List (Key × V)) |dT (kvs:List (List Key × V))
 /-- a set of ints: its members,its size -/
 |set (S:Int->Bool) (n:Nat)
 /-- an instance of the class at C,its dict at dx,its attributes -/
 |ins (C dx:js) (fs:List (Str × V))
 /-- the dict of the instance at x -/
 |own (x:js)
 /-- the dict of an exception -/
 |xd (fs:List (Str × V))
 /-- a bound method,f of x -/
 |met (f x:js)
 /-- a range object lo,lo+1,.. below hi -/
 |rng (lo hi:Int)
 /-- a thing that is known to the object (the script; a dict while a loop walks it): read,never written while it is so -/
 |frz (o:Obj) (u:HO)
 /-- a code object's table -/
 |tbl (ps:Array j8)
 /-- any other thing,by what is true of its one object (a def of one's own: SetO a S n:=HO.ext fun h=>..) -/
 |ext (φ:QL->Prop)
abbrev Hp:=js->Option HO
def upd(H:Hp)(a:js)(o:HO):Hp:=fun b=>if b=a then some o else H b
theorem zah{H:Hp}{a:js}{o:HO}:upd H a o a=some o:=by unfold upd; rw[Ip_ rfl]
theorem za8{H:Hp}{a b:js}{o:HO}(h:b≠a):upd H a o b=H b:=by unfold upd; rw[In_ h]
theorem zw3{H:Hp}{a b:js}{o u:HO}(h:H a=some o)(h':H b=some u)(d:o≠u):a≠b:=by
 intro e; subst e; rw[h] at h'; exact d (jf h')
theorem za9{H:Hp}{a b:js}{o:HO}(h:H a=some o)(h':H b=none):a≠b:=by
 intro e; subst e; rw[h] at h'; cases h'
section
variable (P:jH)(w:Qf)
def ObjOk(H:Hp)(h:QL)(a:js):HO->Prop
 |.lst xs=>xs.length<=jr/\∃(its:List j8) (n:Nat),Vals xs its/\h.get? a=some { cls:=.type "list",data:=.seq its.toArray n }
 |.tup xs=>xs.length<=jr/\∃ its:List j8,Vals xs its/\IsTup h a its.toArray
 |.dK kvs=>kvs.length<=jr/\(a == ZJ)=false/\∃ vs,KV kvs vs/\h.DictOf (zb6 P w) a vs
 |.dT kvs=>kvs.length<=jr/\(a == ZJ)=false/\∃ xs:List (List Key × js × j8),
   JV (fun(p:List Key × V) (q:List Key × js × j8)=>p.1=q.1/\H q.2.1=some (.tup (p.1.map kV))/\RelV p.2 q.2.2) kvs xs /\
   ∃ o es ep,h.get? a=some o/\o.ExactDict/\o.data=.dict es ep/\es.toList=xs.map (entryOfKey (Wb (zb6 P w)))/\(xs.map (·.1)).Nodup
 |.set S n=>h.SetOf (JJ P w) a S n
 |.ins C dx fs=>H dx=some (.own a)/\fs.length<=1000/\dx≠a/\h.get? a=some (Nn C dx) /\
   ∃ mA,h.Ns1 dx mA/\(∀ f,RelO (fs.lookup f) (mA f))/\JW mA (fs.map (·.1))
 |.own _=>∃ o,h.get? a=some o
 |.xd fs=>∃ mA,h.Ns1 a mA/\∀ f,RelO (fs.lookup f) (mA f)
 |.rng lo hi=>∃ t u v,h.get? a=some { cls:=.type "range",data:=.fields #[.int lo t,.int hi u,.int 1 v] }
 |.frz o u=>h.get? a=some o/\ObjOk H h a u
 |.tbl ps=>h.get? a=some { cls:=.none,data:=.fields ps }
 |.met f x=>h.get? a=some (YE (.ref f) (.ref x))
 |.ext φ=>φ h/\(∃ o,h.get? a=some o)/\∀ h1 h2:QL,φ h1->(∀ o,h1.get? a=some o->h2.get? a=some o)->φ h2
def HOk(H:Hp)(h:QL):Prop:=∀ a o,H a=some o->ObjOk P w H h a o
end
section
variable {o:HO}
theorem ObjOk.lt(x:ObjOk P w H h a o):a < h.objs.size:=by
 cases o with
 |lst xs=>obtain⟨_,_,_,_,e⟩:=x; exact jj e
 |tup xs=>obtain⟨_,_,_,p⟩:=x; exact p.lt
 |dK kvs=>obtain⟨_,_,_,_,o,_,_,e,_⟩:=x; exact jj e
 |dT kvs=>obtain⟨_,_,_,_,o,_,_,e,_⟩:=x; exact jj e
 |set S n=>obtain⟨o,_,_,_,e,_⟩:=x; exact jj e
 |ins C dx fs=>obtain⟨_,_,_,e,_⟩:=x; exact jj e
 |own y=>obtain⟨_,e⟩:=x; exact jj e
 |xd fs=>obtain⟨_,⟨_,_,_,e,_⟩,_⟩:=x; exact jj e
 |rng lo hi=>obtain⟨_,_,_,e⟩:=x; exact jj e
 |frz ob u=>obtain⟨e,_⟩:=x; exact jj e
 |tbl ps=>exact jj (show h.get? a=some _ from x)
 |met f y=>exact jj (show h.get? a=some _ from x)
 |ext φ=>obtain⟨_,⟨_,e⟩,_⟩:=x; exact jj e
theorem Paired.mapP{α β:Type}{F G:α->β->Prop}:∀ {l₁:List α} {l₂:List β},JV F l₁ l₂->(∀ a b,F a b->G a b)->JV G l₁ l₂
 |_,_,.nil,_=>.nil
 |_,_,.cons r t,f=>.cons (f _ _ r) (Paired.mapP t f)
theorem ObjOk.stay(x:ObjOk P w H h a o)(k:∀ b u,(b=a∨H b=some (.own a))->h.get? b=some u->h'.get? b=some u)
  (ho:∀ b,H b=some (.own a)->H' b=some (.own a)) (ht:∀ b xs,H b=some (.tup xs)->H' b=some (.tup xs)):ObjOk P w H' h' a o:=by
 induction o with
 |lst xs=>obtain⟨z,its,n,r,e⟩:=x; exact⟨z,its,n,r,k _ _ (.inl rfl) e⟩
 |tup xs=>obtain⟨z,its,r,ob,e,c⟩:=x; exact⟨z,its,r,ob,k _ _ (.inl rfl) e,c⟩
 |dK kvs=>obtain⟨z,y,vs,r,ob,es,ep,e,c⟩:=x; exact⟨z,y,vs,r,ob,es,ep,k _ _ (.inl rfl) e,c⟩
 |dT kvs=>
  obtain⟨z,y,xs,r,ob,es,ep,e,c⟩:=x;exact⟨z,y,xs,Paired.mapP r fun p q z=>⟨z.1,ht _ _ z.2.1,z.2.2⟩,ob,es,ep,k _ _ (.inl rfl) e,c⟩
 |set S n=>obtain⟨ob,es,ep,t,e,c⟩:=x; exact⟨ob,es,ep,t,k _ _ (.inl rfl) e,c⟩
 |ins C dx fs=>
  obtain⟨d,z,ne,e,mA,⟨od,es,ep,e2,c⟩,r⟩:=x;exact⟨ho _ d,z,ne,k _ _ (.inl rfl) e,mA,⟨od,es,ep,k _ _ (.inr d) e2,c⟩,r⟩
 |own y=>obtain⟨ob,e⟩:=x; exact⟨ob,k _ _ (.inl rfl) e⟩
 |xd fs=>obtain⟨mA,⟨od,es,ep,e,c⟩,r⟩:=x; exact⟨mA,⟨od,es,ep,k _ _ (.inl rfl) e,c⟩,r⟩
 |rng lo hi=>obtain⟨t,u,v,e⟩:=x; exact⟨t,u,v,k _ _ (.inl rfl) e⟩
 |frz ob u ih=>obtain⟨e,q⟩:=x; exact⟨k _ _ (.inl rfl) e,ih q⟩
 |tbl ps=>
  have e:h.get? a=some { cls:=.none,data:=.fields ps }:=x;show h'.get? a=some { cls:=.none,data:=.fields ps };exact k a _ (.inl rfl) e
 |met f y=>
  have e:h.get? a=some (YE (.ref f) (.ref y)):=x;show h'.get? a=some (YE (.ref f) (.ref y));exact k a _ (.inl rfl) e
 |ext φ=>obtain⟨p,⟨o,e⟩,st⟩:=x; exact⟨st _ _ p fun o q=>k _ _ (.inl rfl) q,⟨o,k _ _ (.inl rfl) e⟩,st⟩
theorem HOk.lt(x:HOk P w H h)(e:H a=some o):a < h.objs.size:=(x a o e).lt
theorem HOk.fresh(x:HOk P w H h)(e:h.objs.size<=a):H a=none:=by
 cases q:H a with
 |none=>rfl
 |some u=>exact absurd (jW (x.lt q) e) (jZ _)
theorem HOk.kept(x:HOk P w H h)(k:∀ b u,h.get? b=some u->h'.get? b=some u):HOk P w H h':=fun a o e=>
 (x a o e).stay (fun b u _ q=>k b u q) (fun _ q=>q) fun _ _ q=>q
theorem HOk.laid(x:HOk P w H h)(k:∀ b u,h.get? b=some u->h'.get? b=some u)(hp:h.objs.size<=a)(new:ObjOk P w (upd H a o) h' a o):HOk P w (upd H a o) h':=fun b u e=>by
 have hn:=x.fresh hp
 by_cases hb:b=a
 ·subst hb; rw[zah] at e; cases e; exact new
 ·rw[za8 hb] at e;exact(x b u e).stay (fun c v _ q=>k c v q) (fun c q=>by rw[za8 (za9 q hn)]; exact q) fun c xs q=>by rw[za8 (za9 q hn)]; exact q
end
def Rd(H:Hp)(a:js)(u:HO):Prop:=H a=some u∨∃ o,H a=some (.frz o u)
theorem Rd.ok{P:jH}{w:Qf}{H:Hp}{h:QL}{a:js}{u:HO}(r:Rd H a u)(x:HOk P w H h):ObjOk P w H h a u:=by
 rcases r with r |⟨o,r⟩
 ·exact x a u r
 ·obtain⟨_,q⟩:=x a _ r;exact q
def Mut:Option HO->Prop
 |some (.lst _)=>True
 |some (.dK _)=>True
 |some (.dT _)=>True
 |some (.set _ _)=>True
 |some (.ins _ _ _)=>True
 |some (.ext _)=>True
 |_=>False
section
variable {x e:js}{o':HO}
theorem HOk.write(ok:HOk P w H h)(mu:Mut (H x))(he:e=x∨H e=some (.own x))(k:∀ b u,b≠e->h.get? b=some u->h'.get? b=some u)(heo:∃ u,h'.get? e=some u)
  (new:ObjOk P w (upd H x o') h' x o'):HOk P w (upd H x o') h':=fun b u q=>by
 have nown:∀ c y,H c=some (.own y)->c≠x:=fun c y r z=>by subst z; rw[r] at mu; exact mu
 have ntup:∀ c xs,H c=some (.tup xs)->c≠x:=fun c xs r z=>by subst z; rw[r] at mu; exact mu
 by_cases hb:b=x
 ·subst hb; rw[zah] at q; cases q; exact new
 ·rw[za8 hb] at q
  by_cases hbe:b=e
  ·have q':H b=some (.own x):=by
    rcases he with z |z
    ·exact absurd (hbe.trans z) hb
    ·rw[hbe]; exact z
   rw[q] at q'; cases q';obtain⟨v,hv⟩:=heo;exact⟨v,by rw[hbe]; exact hv⟩
  ·refine(ok b u q).stay (fun c v hc r=>k c v ?_ r) (fun c r=>by rw[za8 (nown c b r)]; exact r) fun c xs r=>by rw[za8 (ntup c xs r)]; exact r
   rcases hc with rfl |hc
   ·exact hbe
   ·rintro rfl;rcases he with z |z
    ·exact nown c b hc z
    ·rw[hc] at z; cases z; exact hb rfl
end
structure Un (fs ex:List js) (H H':Hp) (h h':QL):Prop where
 keep:∀ b o,h.get? b=some o->H b=none->b∉fs->b∉ex->h'.get? b=some o
 slot:∀ b o,h.get? b=some o->H b=none->b∈fs->b∉ex->∃ sl,h'.get? b=some { o with slots:=sl }
 free:∀ b o,h.get? b=some o->H b=none->b∉ex->H' b=none
 there:∀ b o,h.get? b=some o->b∉ex->∃ o',h'.get? b=some o'
 tups:∀ b xs,H b=some (.tup xs)->H' b=some (.tup xs)
 frzs:∀ b o u,H b=some (.frz o u)->H' b=some (.frz o u)
 tbls:∀ b ps,H b=some (.tbl ps)->∃ more,H' b=some (.tbl (ps++more))
section
variable {fs fs' ex ex':List js}{H1 H2:Hp}{h1 h2:QL}{x e:js}{o:HO}
theorem Un.any(u:Un fs ex H H1 h h1){b:js}{ob:Obj}(q:h.get? b=some ob)(n:H b=none)(hx:b∉ex):∃ sl,h1.get? b=some { ob with slots:=sl }:=by
 by_cases hb:b∈fs
 ·exact u.slot b ob q n hb hx
 ·exact⟨ob.slots,u.keep b ob q n hb hx⟩
theorem Un.kept(k:∀ b u,h.get? b=some u->h'.get? b=some u):Un fs ex H H h h':=
 ⟨fun b ob q _ _ _=>k b ob q,fun b ob q _ _ _=>⟨ob.slots,k b ob q⟩,fun _ _ _ n _=>n,fun b ob q _=>⟨ob,k b ob q⟩,fun _ _ q=>q,fun _ _ _ q=>q,fun _ ps q=>⟨#[],by rw[q]; simp⟩⟩
theorem Un.refl:Un fs ex H H h h:=Un.kept fun _ _ q=>q
theorem Un.laid(k:∀ b u,h.get? b=some u->h'.get? b=some u)(hp:h.objs.size<=a)(hn:H a=none):Un fs ex H (upd H a o) h h' where
 keep:=fun b u q _ _ _=>k b u q
 slot:=fun b u q _ _ _=>⟨u.slots,k b u q⟩
 free:=fun b u q n _=>by rw[za8 (jC (jW (jj q) hp))]; exact n
 there:=fun b u q _=>⟨u,k b u q⟩
 tups:=fun b xs q=>by rw[za8 (za9 q hn)]; exact q
 frzs:=fun b u xs q=>by rw[za8 (za9 q hn)]; exact q
 tbls:=fun b ps q=>⟨#[],by rw[za8 (za9 q hn),q]; simp⟩
theorem Un.write(mu:Mut (H x))(he:e=x∨H e=some (.own x))(k:∀ b u,b≠e->h.get? b=some u->h'.get? b=some u)(heo:∃ u,h'.get? e=some u):Un fs ex H (upd H x o) h h':=by
 have hx:∀ b,H b=none->b≠x:=fun b n z=>by subst z; rw[n] at mu; exact mu
 have hb:∀ b,H b=none->b≠e:=fun b n z=>by
  subst z;rcases he with r |r
  ·exact hx b n r
  ·rw[n] at r; cases r
 have hm:∀ b u,H b=some u->¬ Mut (some u)->b≠x:=fun b u q nm z=>by subst z; rw[q] at mu; exact nm mu
 refine⟨fun b u q n _ _=>k b u (hb b n) q,fun b u q n _ _=>⟨u.slots,k b u (hb b n) q⟩,fun b u q n _=>by rw[za8 (hx b n)]; exact n,fun b u q _=>?_,
  fun b xs q=>by rw[za8 (hm b _ q fun z=>z)]; exact q,fun b u xs q=>by rw[za8 (hm b _ q fun z=>z)]; exact q,fun b ps q=>⟨#[],by rw[za8 (hm b _ q fun z=>z),q]; simp⟩⟩
 by_cases hbe:b=e
 ·subst hbe; exact heo
 ·exact⟨u,k b u hbe q⟩
end
def trk(h:QL)(H:Hp):List js:=(j5 h.objs.size).filter fun a=>(H a).isSome
def zoI(h:QL)(H:Hp):QL:=PySem.W.hideAll h (trk h H)
theorem znq(h:QL)(H:Hp):(zoI h H).objs.size=h.objs.size:=PySem.W.hideAll_size _ _
theorem zoH{h:QL}{H:Hp}{b:js}{o:Obj}(e:h.get? b=some o)(n:H b=none):(zoI h H).get? b=some o:=
 PySem.W.hideAll_get _ e fun hm=>by
  have q:(H b).isSome=true:=(jQ.mp hm).2;rw[n] at q; simp at q
theorem zr0{h:QL}{H:Hp}{b:js}{o:Obj}(e:(zoI h H).get? b=some o):h.get? b=some o/\H b=none:=by
 have e':h.get? b=some o:=PySem.W.of_hideAll (trk h H) e;refine⟨e',?_⟩;cases q:H b with
 |none=>rfl
 |some x=>
  have hm:b∈trk h H:=jQ.mpr ⟨ji.mpr (jj e'),by simp[q]⟩
  have z:(zoI h H).get? b=none:=PySem.W.hideAll_none (trk h H) hm;rw[z] at e; cases e
structure Mod (K:jb) (mg:Str->Option j8) (base:QL):Prop where
 kin:K.In base
 glob:base.Ns jO mg
 blt:∃ mb,base.Ns Jz mb/\∀ x:Str,x≠"__name__"->mb x=Qp x
 nolimit:base.NoLimit
structure Cx where
 prog:jH
 w:Qf
 K:jb
 mg:Str->Option j8
 base:QL
 A:Qg
 N:List Str
 s₀:jc
 H₀:Hp
 env:Env
 outer:List Env
 stack:List Env
 ex:List js
 fn:Str->Bool
 calm:Bool
 pn:List (js × Obj)
 xe:j8->jc->Prop
def frs(l:List Env):List js:=l.filterMap (·.frame)
abbrev Cx.fs(X:Cx):List js:=frs X.outer
def Vis(sc:gN)(x:Str):Prop:=sc.names.lookup x=some .local∨sc.names.lookup x=some .cell∨sc.names.lookup x=some .free
def Loc(sc:gN)(x:Str):Prop:=sc.names.lookup x=some .local∨sc.names.lookup x=some .cell
def zy2(env:Env)(h:QL)(m:Str->Option j8)(x:Str)(u:j8):Prop:=
 (env.kindOf x=some .local/\m x=some u)∨((env.kindOf x=some .cell∨env.kindOf x=some .free)/\∃ c,env.cells.lookup x=some c/\h.IsCell c (some u))
structure Cx.Ok (X:Cx):Prop where
 mod:Mod X.K X.mg X.base
 kind:X.env.scope.kind=.function
 glob:X.env.globals=jO
 blt:X.env.builtins=Jz
 above:X.s₀.heap.objs.size<=X.env.locals
 inj:∀ x y c,X.env.cells.lookup x=some c->X.env.cells.lookup y=some c->x=y
 has:∀ x,(X.env.kindOf x=some .cell∨X.env.kindOf x=some .free)->∃ c,X.env.cells.lookup x=some c
 cab:∀ x c,X.fn x=true->X.env.cells.lookup x=some c->X.s₀.heap.objs.size<=c
 hd:X.calm=true->X.A.handled=none
 frames:X.A.frames=some X.stack
 stk:X.stack=X.outer∨(X.stack=X.env::X.outer/\X.env.frame=some X.env.locals)
 exf:∀ b∈X.ex,b≠X.env.locals/\∀ x c,X.env.cells.lookup x=some c->c≠b
 bs:∀ b o,X.base.get? b=some o->X.s₀.heap.get? b=some o/\X.H₀ b=none
 bsz:X.base.objs.size<=X.s₀.heap.objs.size
 noex:∀ b o,X.base.get? b=some o->b∉X.ex
 exfs:∀ b∈X.ex,b∉X.fs
 funs:X.s₀.heap.FunFrames X.base X.outer
 frf:∀ b∈X.fs,X.H₀ b=none
structure Inv (X:Cx) (pc:List (js × Obj)) (σ:List (Option V)) (H:Hp) (s:jc):Prop where
 ok:X.Ok
 os:s.os=X.s₀.os
 bare:YU s.gens
 base:Un X.fs X.ex X.H₀ H X.s₀.heap s.heap
 loc:∃ m,s.heap.Ns X.env.locals m/\∀(i:Nat) (x:Str) (v:V),X.N[i]?=some x->σ[i]?=some (some v)->Vis X.env.scope x->∃ u,RelV v u/\zy2 X.env s.heap m x u
 cell:∀ x c,X.env.cells.lookup x=some c->∃ v,s.heap.IsCell c v
 free:H X.env.locals=none
 freeC:∀ x c,X.env.cells.lookup x=some c->H c=none
 pin:∀ p∈X.pn++pc,s.heap.get? p.1=some p.2/\H p.1=none/\p.1≠X.env.locals/\p.1∉X.fs/\∀ v,p.2.data≠.cell v
 hok:HOk X.prog X.w H s.heap
 len:σ.length=X.N.length
section
variable {σ:List (Option V)}
theorem Cx.Ok.nofr(ok:X.Ok){b:js}{o:Obj}(e:X.base.get? b=some o):b∉X.fs:=fun hb=>by
 have:=(ok.funs.mem hb).1;rw[e] at this; cases this
theorem Inv.bs(I:Inv X pc σ H s):∀ b o,X.base.get? b=some o->s.heap.get? b=some o/\H b=none:=fun b o e=>
 ⟨I.base.keep b o (I.ok.bs b o e).1 (I.ok.bs b o e).2 (I.ok.nofr e) (I.ok.noex b o e),I.base.free b o (I.ok.bs b o e).1 (I.ok.bs b o e).2 (I.ok.noex b o e)⟩
theorem Inv.bk(I:Inv X pc σ H s):∀ b o,X.base.get? b=some o->s.heap.get? b=some o:=fun b o e=>(I.bs b o e).1
theorem Inv.mod(I:Inv X pc σ H s):Mod X.K X.mg X.base:=I.ok.mod
theorem Inv.kIn(I:Inv X pc σ H s):X.K.In s.heap:=I.ok.mod.kin.keeps I.bk
theorem Inv.lt(I:Inv X pc σ H s):X.env.locals < s.heap.objs.size:=let ⟨_,hn,_⟩:=I.loc; hn.lt
theorem Inv.sz(I:Inv X pc σ H s):X.s₀.heap.objs.size<=s.heap.objs.size:=Qc I.ok.above (Z1 I.lt)
theorem Inv.nofs(I:Inv X pc σ H s){a:js}(h:s.heap.objs.size<=a):a∉X.fs:=fun hb=>by
 obtain⟨_,o,ho,_⟩:=I.ok.funs.mem hb;exact absurd (jW (jj ho) (Qc I.sz h)) (jZ _)
theorem Inv.cne(I:Inv X pc σ H s):∀ x c,X.env.cells.lookup x=some c->c≠X.env.locals:=fun x c e z=>by
 obtain⟨v,o,ho,hd⟩:=I.cell x c e;obtain⟨m,⟨o',es,ep,ho',hd',_⟩,_⟩:=I.loc;rw[z,ho'] at ho; cases ho; rw[hd'] at hd; cases hd
theorem Inv.funs(I:Inv X pc σ H s):s.heap.FunFrames X.base X.outer:=by
 have all:∀(l:List Env),(∀ b∈frs l,b∈X.fs)->X.s₀.heap.FunFrames X.base l->s.heap.FunFrames X.base l:=by
  intro l
  induction l with
  |nil=>intro _ _; trivial
  |cons env r ih=>
   intro hs hl;obtain⟨hk,⟨L,o,hf,hn,ho,hd⟩,hr⟩:=hl;have hL:L∈X.fs:=hs L (by unfold frs; rw[ZB,hf]; exact jT)
   obtain⟨sl,e⟩:=I.base.slot L o ho (I.ok.frf L hL) hL fun z=>I.ok.exfs L z hL;exact⟨hk,⟨L,_,hf,hn,e,hd⟩,ih (fun b hb=>hs b (by unfold frs; rw[ZB,hf]; exact jw _ hb)) hr⟩
 exact all X.outer (fun _ hb=>hb) I.ok.funs
theorem Inv.stack(I:Inv X pc σ H s):s.heap.FunFrames X.base X.stack:=by
 rcases I.ok.stk with e |⟨e,hf⟩
 ·rw[e]; exact I.funs
 ·rw[e];obtain⟨m,hn,_⟩:=I.loc;refine .cons (by rw[I.ok.kind]; decide) hf hn ?_ I.funs
  exact NM (Qc I.ok.bsz I.ok.above)
theorem Inv.stkSub(I:Inv X pc σ H s):∀ b∈frs X.stack,b∈X.env.locals::X.fs:=fun b hb=>by
 rcases I.ok.stk with e |⟨e,hf⟩
 ·rw[e] at hb; exact jw _ hb
 ·rw[e] at hb;unfold frs at hb;rw[ZB,hf] at hb;exact hb
theorem Inv.stkFree(I:Inv X pc σ H s):∀ b∈frs X.stack,H b=none:=fun b hb=>by
 rcases jv.mp (I.stkSub b hb) with e |hb
 ·rw[e]; exact I.free
 ·obtain⟨_,o,ho,_⟩:=I.ok.funs.mem hb;exact I.base.free b o ho (I.ok.frf b hb) fun z=>I.ok.exfs b z hb
theorem Inv.step{g':Array Y9}{t':Nat}{d':Drawn}{ch:List js}(I:Inv X pc σ H s)
  (hch:∀ b∈ch,(b∈X.ex∨X.s₀.heap.objs.size<=b)/\b≠X.env.locals/\(∀ x c,X.env.cells.lookup x=some c->c≠b)/\∀ p∈X.pn++pc,p.1≠b)
  (keep:∀ b o,b≠X.env.locals->b∉X.fs->b∉ch->s.heap.get? b=some o->H b=none->h'.get? b=some o)
  (slot:∀ b o,b≠X.env.locals->b∈X.fs->b∉ch->s.heap.get? b=some o->H b=none->∃ sl,h'.get? b=some { o with slots:=sl }) (free:∀ b o,b∉ch->s.heap.get? b=some o->H b=none->H' b=none)
  (there:∀ b o,b∉ch->s.heap.get? b=some o->∃ o',h'.get? b=some o')
  (tups:∀ b xs,H b=some (.tup xs)->H' b=some (.tup xs)) (frzs:∀ b o u,H b=some (.frz o u)->H' b=some (.frz o u)) (tbls:∀ b ps,H b=some (.tbl ps)->∃ more,H' b=some (.tbl (ps++more)))
  (ns:∀ m,s.heap.Ns X.env.locals m->h'.Ns X.env.locals m) (hok:HOk X.prog X.w H' h') (hg:YU g') :
  Inv X pc σ H' { s with heap:=h',gens:=g',drawn:=d',toks:=t' }:=by
 have neL:∀ b o,X.s₀.heap.get? b=some o->b≠X.env.locals:=fun b o e=>jC (jW (jj e) I.ok.above);have neC:∀ b o,X.s₀.heap.get? b=some o->b∉X.ex->b∉ch:=fun b o e hx hb=>by
  rcases(hch b hb).1 with z |z
  ·exact hx z
  ·exact absurd (jW (jj e) z) (jZ _)
 have cellK:∀ x c,X.env.cells.lookup x=some c->∀ v,s.heap.IsCell c v->h'.IsCell c v:=fun x c e v ⟨o,ho,hd⟩=>by
  have nch:c∉ch:=fun z=>(hch c z).2.2.1 x c e rfl
  by_cases hc:c∈X.fs
  ·obtain⟨sl,q⟩:=slot c o (I.cne x c e) hc nch ho (I.freeC x c e);exact⟨_,q,hd⟩
  ·exact⟨o,keep c o (I.cne x c e) hc nch ho (I.freeC x c e),hd⟩
 refine⟨I.ok,I.os,hg,⟨fun b o e n hb hx=>?_,fun b o e n hb hx=>?_,fun b o e n hx=>?_,fun b o e hx=>?_,fun b xs e=>tups b xs (I.base.tups b xs e),fun b o xs e=>frzs b o xs (I.base.frzs b o xs e),fun b ps e=>?_⟩,?_,fun x c e=>?_,?_,fun x c e=>?_,fun p hp=>?_,hok,I.len⟩
 ·exact keep b o (neL b o e) hb (neC b o e hx) (I.base.keep b o e n hb hx) (I.base.free b o e n hx)
 ·obtain⟨sl,e1⟩:=I.base.slot b o e n hb hx;obtain⟨sl',e2⟩:=slot b _ (neL b o e) hb (neC b o e hx) e1 (I.base.free b o e n hx);exact⟨sl',e2⟩
 ·obtain⟨o',e1⟩:=I.base.there b o e hx;exact free b o' (neC b o e hx) e1 (I.base.free b o e n hx)
 ·obtain⟨o',e1⟩:=I.base.there b o e hx;exact there b o' (neC b o e hx) e1
 ·obtain⟨m1,e1⟩:=I.base.tbls b ps e;obtain⟨m2,e2⟩:=tbls b _ e1;exact⟨m1++m2,by rw[e2,Array.append_assoc]⟩
 ·obtain⟨m,hn,hl⟩:=I.loc;refine⟨m,ns m hn,fun i x v e1 e2 e3=>?_⟩;obtain⟨u,r,l⟩:=hl i x v e1 e2 e3;refine⟨u,r,?_⟩;rcases l with l |⟨k,c,e,z⟩
  ·exact .inl l
  ·exact .inr ⟨k,c,e,cellK x c e _ z⟩
 ·obtain⟨v,z⟩:=I.cell x c e;exact⟨v,cellK x c e v z⟩
 ·obtain⟨m,⟨o,_,_,ho,_⟩,_⟩:=I.loc;exact free _ o (fun z=>(hch _ z).2.1 rfl) ho I.free
 ·obtain⟨v,o,ho,hd⟩:=I.cell x c e;exact free c o (fun z=>(hch c z).2.2.1 x c e rfl) ho (I.freeC x c e)
 ·obtain⟨e,n,ne,nf,d⟩:=I.pin p hp;have nch:p.1∉ch:=fun z=>(hch p.1 z).2.2.2 p hp rfl;exact⟨keep p.1 p.2 ne nf nch e n,free p.1 p.2 nch e n,ne,nf,d⟩
theorem Inv.un{t':Nat}(I:Inv X pc σ H s)(u:Un X.fs [] H H' s.heap h')(hok:HOk X.prog X.w H' h'):Inv X pc σ H' { s with heap:=h',toks:=t' }:=by
 obtain⟨m,⟨o,es,ep,ho,r⟩,_⟩:=id I.loc;obtain⟨sl,hL⟩:=u.any ho I.free (by simp)
 exact I.step (g':=s.gens) (d':=s.drawn) (ch:=[]) (fun _ z=>nomatch z) (fun b o _ hb _ e n=>u.keep b o e n hb (by simp)) (fun b o _ hb _ e n=>u.slot b o e n hb (by simp)) (fun b o _ e n=>u.free b o e n (by simp)) (fun b o _ e=>u.there b o e (by simp)) u.tups u.frzs u.tbls (fun m' hm=>by
  obtain⟨o',es',ep',ho',r'⟩:=hm;rw[ho] at ho'; cases ho'
  exact⟨_,es',ep',hL,r'⟩) hok I.bare
theorem Inv.call{g':Array Y9}{t':Nat}{d':Drawn}{ch:List js}(I:Inv X pc σ H s)(u:Un (frs X.stack) ch H H' s.heap h')(hok:HOk X.prog X.w H' h')(hg:YU g')
  (hch:∀ b∈ch,(b∈X.ex∨X.s₀.heap.objs.size<=b)/\b≠X.env.locals/\(∀ x c,X.env.cells.lookup x=some c->c≠b)/\∀ p∈X.pn++pc,p.1≠b) :
  Inv X pc σ H' { s with heap:=h',gens:=g',drawn:=d',toks:=t' }:=by
 obtain⟨m,⟨o,es,ep,ho,r⟩,_⟩:=id I.loc;obtain⟨sl,hL⟩:=u.any ho I.free fun z=>(hch _ z).2.1 rfl
 exact I.step (ch:=ch) hch (fun b o hL hb hc e n=>u.keep b o e n (fun z=>(jv.mp (I.stkSub b z)).elim hL hb) hc) (fun b o _ _ hc e n=>u.any e n hc) (fun b o hc e n=>u.free b o e n hc) (fun b o hc e=>u.there b o e hc) u.tups u.frzs u.tbls (fun m' hm=>by
  obtain⟨o',es',ep',ho',r'⟩:=hm;rw[ho] at ho'; cases ho'
  exact⟨_,es',ep',hL,r'⟩) hok hg
theorem Inv.turned{t':Nat}{it:js}(I:Inv X pc σ H s)(k:∀ b o,b≠it->s.heap.get? b=some o->h'.get? b=some o)(hn:H it=none)(hL:it≠X.env.locals)
  (h1:it∈X.ex∨X.s₀.heap.objs.size<=it) (h2:∀ x c,X.env.cells.lookup x=some c->c≠it) (h3:∀ p∈X.pn++pc,p.1≠it):Inv X pc σ H { s with heap:=h',toks:=t' }:=by
 have nit:∀ b u,H b=some u->b≠it:=fun b u e z=>by rw[z,hn] at e; cases e
 refine I.step (g':=s.gens) (d':=s.drawn) (ch:=[it]) (fun b hb=>?_) (fun b o _ _ hc e _=>k b o (fun z=>hc (by simp[z])) e) (fun b o _ _ hc e _=>⟨o.slots,k b o (fun z=>hc (by simp[z])) e⟩) (fun _ _ _ _ n=>n)
  (fun b o hc e=>⟨o,k b o (fun z=>hc (by simp[z])) e⟩) (fun _ _ e=>e) (fun _ _ _ e=>e) (fun b ps e=>⟨#[],by rw[e]; simp⟩) (fun m hm=>?_) (fun b u e=>?_) I.bare
 ·have e:b=it:=by simpa using hb
  subst e;exact⟨h1,hL,h2,h3⟩
 ·obtain⟨o,es,ep,ho,r⟩:=hm;exact⟨o,es,ep,k _ o (Zr hL) ho,r⟩
 ·refine(I.hok b u e).stay (fun c v hc q=>k c v ?_ q) (fun _ q=>q) fun _ _ q=>q;rcases hc with z |z
  ·rw[z]; exact nit b u e
  ·exact nit c _ z
theorem Inv.tok(I:Inv X pc σ H s)(t:Nat):Inv X pc σ H { s with toks:=t }:=I.un (h':=s.heap) (t':=t) Un.refl I.hok
theorem Inv.kept{t':Nat}(I:Inv X pc σ H s)(k:∀ b u,s.heap.get? b=some u->h'.get? b=some u):Inv X pc σ H { s with heap:=h',toks:=t' }:=I.un (Un.kept k) (I.hok.kept k)
theorem Inv.laid{a:js}{o:HO}{t':Nat}(I:Inv X pc σ H s)(k:∀ b u,s.heap.get? b=some u->h'.get? b=some u)(hp:s.heap.objs.size<=a)(new:ObjOk X.prog X.w (upd H a o) h' a o) :
  Inv X pc σ (upd H a o) { s with heap:=h',toks:=t' }:=I.un (Un.laid k hp (I.hok.fresh hp)) (I.hok.laid k hp new)
theorem Inv.write{x e:js}{o:HO}{t':Nat}(I:Inv X pc σ H s)(mu:Mut (H x))(he:e=x∨H e=some (.own x))(k:∀ b u,b≠e->s.heap.get? b=some u->h'.get? b=some u)(heo:∃ u,h'.get? e=some u)
  (new:ObjOk X.prog X.w (upd H x o) h' x o):Inv X pc σ (upd H x o) { s with heap:=h',toks:=t' }:=I.un (Un.write mu he k heo) (I.hok.write mu he k heo new)
theorem Inv.pins_of{pins':List (js × Obj)}(I:Inv X pc σ H s)(h:∀ p∈pins',s.heap.get? p.1=some p.2/\H p.1=none/\p.1≠X.env.locals/\p.1∉X.fs/\∀ v,p.2.data≠.cell v):Inv X pins' σ H s:=
 ⟨I.ok,I.os,I.bare,I.base,I.loc,I.cell,I.free,I.freeC,fun p hp=>(ju.mp hp).elim (fun z=>I.pin p (jn _ z)) (h p),I.hok,I.len⟩
theorem zkR{N:List Str}(hN:N.Nodup){i j:Nat}{x:Str}(a:N[i]?=some x)(b:N[j]?=some x):i=j:=by
 obtain⟨h1,e1⟩:=j7.mp a;obtain⟨h2,e2⟩:=j7.mp b;exact(gZ hN).mp (e1.trans e2.symm)
theorem zg8{M:U5}{A:Qg}{E:j8->jc->Prop}{i:Nat}{x:Str}{v:V}{u:j8}{Q:Unit->jc->Prop}(I:Inv X pc σ H s)(hN:X.N.Nodup)(hi:X.N[i]?=some x)(hx:Loc X.env.scope x)(r:RelV v u)
  (h:∀ s',Inv X pc (σ.set i (some v)) H s'->(∃ a,Qq a s.heap s'.heap/\(a=X.env.locals∨X.env.cells.lookup x=some a))->Q () s') (hf:X.fn x=true∨X.env.scope.names.lookup x=some .local:=by first |exact .inl rfl |exact .inr rfl |assumption):jI M A (storeName X.env x u) Q E s:=by
 obtain⟨m,hn,hl⟩:=id I.loc;have hcls:(X.env.scope.kind == .class||(X.env.scope.kind == .module&&X.env.locals != X.env.globals))=false:=by rw[I.ok.kind]; rfl
 have hiσ:i < σ.length:=by rw[I.len]; exact(j7.mp hi).1
 have cne:=I.cne;have tracked:∀ {a:js} {h':QL},(∃ o,s.heap.get? a=some o/\H a=none)->Qq a s.heap h'->HOk X.prog X.w H h':=fun {a h'} ha hs b ob e=>by
  obtain⟨_,_,hfree⟩:=ha;refine(I.hok b ob e).stay (fun c w' hc q=>(hs.2 c ?_).trans q) (fun _ q=>q) fun _ _ q=>q;rintro rfl;rcases hc with rfl |hc
  ·rw[hfree] at e; cases e
  ·rw[hfree] at hc; cases hc
 rcases hx with hk |hk
 ·refine wpAny_storeName_local hk hn (fun h' hn' hs=>?_) hcls;obtain⟨oL,_,_,hoL,_⟩:=id hn;refine h _ ⟨I.ok,I.os,I.bare,⟨fun b o e n hb hx=>?_,fun b o e n hb hx=>?_,I.base.free,fun b o e hx=>?_,I.base.tups,I.base.frzs,I.base.tbls⟩,⟨_,hn',fun j y v' e1 e2 e3=>?_⟩,fun y c e=>?_,I.free,I.freeC,fun p hp=>?_,tracked ⟨oL,hoL,I.free⟩ hs,by simpa using I.len⟩ ⟨_,hs,.inl rfl⟩
  ·exact(hs.2 b (jC (jW (jj e) I.ok.above))).trans (I.base.keep b o e n hb hx)
  ·obtain⟨sl,e1⟩:=I.base.slot b o e n hb hx;exact⟨sl,(hs.2 b (jC (jW (jj e) I.ok.above))).trans e1⟩
  ·obtain⟨o',e1⟩:=I.base.there b o e hx;exact⟨o',(hs.2 b (jC (jW (jj e) I.ok.above))).trans e1⟩
  ·by_cases hj:j=i
   ·subst hj;rw[hi] at e1; cases e1;rw[jU hiσ] at e2;cases e2;exact⟨u,r,.inl ⟨hk,by simp⟩⟩
   ·rw[jo (Zr hj)] at e2;obtain⟨u',r',q⟩:=hl j y v' e1 e2 e3;refine⟨u',r',?_⟩;rcases q with ⟨k,e⟩ |⟨k,c,e,z⟩
    ·refine .inl ⟨k,?_⟩;have:y≠x:=fun e=>hj (zkR hN e1 (e▸hi));simp[this,e]
    ·exact .inr ⟨k,c,e,z.sameBut hs (cne y c e)⟩
  ·obtain⟨w',z⟩:=I.cell y c e;exact⟨w',z.sameBut hs (cne y c e)⟩
  ·obtain⟨e,n,ne,nf,d⟩:=I.pin p hp;exact⟨(hs.2 p.1 ne).trans e,n,ne,nf,d⟩
 ·have hfn:X.fn x=true:=by
   rcases hf with z |z
   ·exact z
   ·rw[z] at hk; cases hk
  obtain⟨c,hc⟩:=I.ok.has x (.inl hk);obtain⟨w',z⟩:=I.cell x c hc;refine wpAny_storeName_cell I.ok.kind hk hc z (fun h' hc' hs=>?_);obtain⟨oc,hoc,hocd⟩:=id z;refine h { s with heap:=h' } ⟨I.ok,I.os,I.bare,⟨fun b o e n hb hx=>?_,fun b o e n hb hx=>?_,I.base.free,fun b o e hx=>?_,I.base.tups,I.base.frzs,I.base.tbls⟩,⟨m,hn.sameBut hs (Zr (cne x c hc)),fun j y v' e1 e2 e3=>?_⟩,fun y c' e=>?_,I.free,I.freeC,fun p hp=>?_,tracked ⟨oc,hoc,I.freeC x c hc⟩ hs,by simpa using I.len⟩ ⟨c,hs,.inr hc⟩
  ·exact(hs.2 b (jC (jW (jj e) (I.ok.cab x c hfn hc)))).trans (I.base.keep b o e n hb hx)
  ·obtain⟨sl,e1⟩:=I.base.slot b o e n hb hx;exact⟨sl,(hs.2 b (jC (jW (jj e) (I.ok.cab x c hfn hc)))).trans e1⟩
  ·obtain⟨o',e1⟩:=I.base.there b o e hx;exact⟨o',(hs.2 b (jC (jW (jj e) (I.ok.cab x c hfn hc)))).trans e1⟩
  ·by_cases hj:j=i
   ·subst hj;rw[hi] at e1; cases e1;rw[jU hiσ] at e2;cases e2;exact⟨u,r,.inr ⟨.inl hk,c,hc,hc'⟩⟩
   ·rw[jo (Zr hj)] at e2;obtain⟨u',r',q⟩:=hl j y v' e1 e2 e3;refine⟨u',r',?_⟩;rcases q with q |⟨k,c',e,z'⟩
    ·exact .inl q
    ·refine .inr ⟨k,c',e,z'.sameBut hs ?_⟩;rintro rfl;exact hj (zkR hN e1 (I.ok.inj _ _ _ e hc▸hi))
  ·by_cases hcc:c'=c
   ·subst hcc; exact⟨_,hc'⟩
   ·obtain⟨w2,z2⟩:=I.cell y c' e;exact⟨w2,z2.sameBut hs hcc⟩
  ·obtain⟨e,n,ne,nf,d⟩:=I.pin p hp;refine⟨(hs.2 p.1 ?_).trans e,n,ne,nf,d⟩;intro q;rw[q,hoc] at e;have q':oc=p.2:=jf e;exact d w' (by rw[<-q']; exact hocd)
theorem zkD{M:U5}{A:Qg}{E:j8->jc->Prop}{i:Nat}{x:Str}{v:V}{u:j8}{Q:Unit->jc->Prop}(I:Inv X pc σ H s)(hN:X.N.Nodup)(hi:X.N[i]?=some x)(hx:Loc X.env.scope x)(r:RelV v u)
  (h:∀ s',Inv X pc (σ.set i (some v)) H s'->Q () s') (hf:X.fn x=true∨X.env.scope.names.lookup x=some .local:=by first |exact .inl rfl |exact .inr rfl |assumption):jI M A (storeName X.env x u) Q E s:=
 zg8 I hN hi hx r (fun s' I' _=>h s' I') hf
theorem Inv.call'{s':jc}{ch:List js}(I:Inv X pc σ H s)(ho:s'.os=s.os)(u:Un (frs X.stack) ch H H' s.heap s'.heap)(hok:HOk X.prog X.w H' s'.heap)(hg:YU s'.gens)
  (hch:∀ b∈ch,(b∈X.ex∨X.s₀.heap.objs.size<=b)/\b≠X.env.locals/\(∀ x c,X.env.cells.lookup x=some c->c≠b)/\∀ p∈X.pn++pc,p.1≠b):Inv X pc σ H' s':=by
 obtain⟨h',g',d',t',o'⟩:=s';have e:o'=s.os:=ho;subst e;exact I.call (g':=g') (t':=t') (d':=d') u hok hg hch
end
abbrev XK:=j8->Option js->Hp->Prop
abbrev St:=List (Option V)
abbrev VK:=V->Hp->Prop
abbrev TE:=St->Hp->VK->Prop
abbrev TT:=St->Hp->(Bool->Hp->Prop)->Prop
abbrev TA:=St->Hp->(List V->Hp->Prop)->Prop
structure Ends where
 nx:St->Hp->Prop
 rt:VK
 bk:St->Hp->Prop:=fun _ _=>False
 ct:St->Hp->Prop:=fun _ _=>False
abbrev TS:=Ends->St->Hp->Prop
def EP(X:Cx)(pc:List (js × Obj))(σ:St)(Q:VK)(u:j8)(s':jc):Prop:=∃ v H',Inv X pc σ H' s'/\RelV v u/\Q v H'
def TP(X:Cx)(pc:List (js × Obj))(σ:St)(Q:Bool->Hp->Prop)(b:Bool)(s':jc):Prop:=∃ H',Inv X pc σ H' s'/\Q b H'
def AP(X:Cx)(pc:List (js × Obj))(σ:St)(Q:List V->Hp->Prop)(us:List j8)(s':jc):Prop:=∃ vs H',Inv X pc σ H' s'/\Vals vs us/\Q vs H'
def SP(X:Cx)(pc:List (js × Obj))(D:Ends)(f:Flow)(s':jc):Prop:=
 match f with
 |.next=>∃ σ' H',Inv X pc σ' H' s'/\D.nx σ' H'
 |.brk=>∃ σ' H',Inv X pc σ' H' s'/\D.bk σ' H'
 |.cont=>∃ σ' H',Inv X pc σ' H' s'/\D.ct σ' H'
 |.ret u=>∃ v σ' H',Inv X pc σ' H' s'/\RelV v u/\D.rt v H'
def PE(X:Cx)(e:Q4)(t:TE):Prop:=
 ∀(pc:List (js × Obj)) (s:jc) (σ:St) (H:Hp) (Q:VK),Inv X pc σ H s->t σ H Q->jI (jM X.prog X.w) X.A (eval e X.env) (EP X pc σ Q) X.xe s
def PT(X:Cx)(e:Q4)(t:TT):Prop:=
 ∀(pc:List (js × Obj)) (s:jc) (σ:St) (H:Hp) (Q:Bool->Hp->Prop),Inv X pc σ H s->t σ H Q->jI (jM X.prog X.w) X.A (JA e X.env (eval e X.env)) (TP X pc σ Q) X.xe s
def PW(X:Cx)(e:Q4)(t:TT):Prop:=
 ∀(whole:Sem j8) (pc:List (js × Obj)) (s:jc) (σ:St) (H:Hp) (Q:Bool->Hp->Prop),Inv X pc σ H s->t σ H Q->jI (jM X.prog X.w) X.A (JA e X.env whole) (TP X pc σ Q) X.xe s
theorem PW.pt{X:Cx}{e:Q4}{t:TT}(h:PW X e t):PT X e t:=h _
def PA(X:Cx)(es:List Q4)(t:TA):Prop:=
 ∀(pos:Pos) (pc:List (js × Obj)) (s:jc) (σ:St) (H:Hp) (Q:List V->Hp->Prop),Inv X pc σ H s->t σ H Q->jI (jM X.prog X.w) X.A (spliced (QF pos (jd es X.env))) (AP X pc σ Q) X.xe s
def PS(X:Cx)(st:QR)(t:TS):Prop:=
 ∀(pc:List (js × Obj)) (s:jc) (σ:St) (H:Hp) (D:Ends),Inv X pc σ H s->t D σ H->jI (jM X.prog X.w) X.A (exec st X.env) (SP X pc D) X.xe s
def PSs(X:Cx)(st:List QR)(t:TS):Prop:=
 ∀(pc:List (js × Obj)) (s:jc) (σ:St) (H:Hp) (D:Ends),Inv X pc σ H s->t D σ H->jI (jM X.prog X.w) X.A (execs st X.env) (SP X pc D) X.xe s
theorem thn{α:Type}{t:Sem α}{Q Q':α->jc->Prop}{M:U5}{A:Qg}{E:j8->jc->Prop}{s:jc}(h:jI M A t Q E s)(hQ:∀ a s,Q a s->Q' a s):jI M A t Q' E s:=jV h hQ fun _ _ x=>x
section
def ze3(i:Nat):TE:=fun σ H Q=>∃ v,σ[i]?=some (some v)/\Q v H
def tC(v:V):TE:=fun _ H Q=>Q v H
theorem zth{i:Nat}{x:Str}{pos:Pos}(hN:X.N[i]?=some x)(hv:Vis X.env.scope x)(hd:(x == ("__debug__":Str))=false:=by decide)(hcd:(x == ("__classdict__":Str))=false:=by decide):PE X (.Name x pos) (ze3 i):=by
 intro pc s σ H Q I h;obtain⟨v,e,h⟩:=h;obtain⟨m,hn,hl⟩:=I.loc;obtain⟨u,r,l⟩:=hl i x v hN e hv;have fin:EP X pc σ Q u s:=⟨v,H,I,r,h⟩;rcases l with ⟨hk,hm⟩ |⟨hk,c,hc,hcell⟩
 ·exact NJ (Y4 I.ok.kind hk hn hm fin) hd
 ·rcases hk with hk |hk
  ·exact NJ (wpAny_loadName_cell I.ok.kind hk hc hcell fin) hd
  ·exact NJ (wpAny_loadName_free I.ok.kind hk hc hcell fin hcd) hd
theorem zpq{i j pos}:PE X (.Constant (.int i) j pos) (tC (.int i)):=fun _ _ _ H _ I h=>wpAny_Constant_int ⟨.int i,H,I.tok _,⟨_,rfl⟩,h⟩
theorem zvY{b j pos}:PE X (.Constant (.bool b) j pos) (tC (.bl b)):=fun _ _ _ H _ I h=>Constant_bool ⟨.bl b,H,I,rfl,h⟩
theorem zpp{j pos}:PE X (.Constant .none j pos) (tC .non):=fun _ _ _ H _ I h=>Constant_none ⟨.non,H,I,rfl,h⟩
theorem ztj{x j pos}:PE X (.Constant (.str x) j pos) (tC (.str x)):=fun _ _ _ H _ I h=>Calls.Constant_str ⟨.str x,H,I.tok _,⟨_,rfl⟩,h⟩
def Gl(X:Cx)(x:Str):Prop:=X.env.kindOf x=some .globalImplicit
theorem zk9{E:j8->jc->Prop}{pc:List (js × Obj)}{s:jc}{σ:St}{H:Hp}{x:Str}{u:j8}{pos:Pos}{Q:j8->jc->Prop}(I:Inv X pc σ H s)(hg:Gl X x)(hm:X.mg x=some u)(h:Q u s)
  (hd:(x == ("__debug__":Str))=false:=by decide):jI (jM X.prog X.w) X.A (eval (.Name x pos) X.env) Q E s:=
 Yn I.ok.kind hg (Calls.loadGlobal_global (by rw[I.ok.glob]; exact I.mod.glob.keeps I.bk) hm h) hd
theorem zec{E:j8->jc->Prop}{pc:List (js × Obj)}{s:jc}{σ:St}{H:Hp}{x:Str}{u:j8}{pos:Pos}{Q:j8->jc->Prop}(I:Inv X pc σ H s)(hg:Gl X x)(hm:X.mg x=none)(hv:Qp x=some u)(h:Q u s)
  (hn:x≠"__name__":=by decide) (hd:(x == ("__debug__":Str))=false:=by decide):jI (jM X.prog X.w) X.A (eval (.Name x pos) X.env) Q E s:=by
 obtain⟨mb,h1,h2⟩:=I.mod.blt;exact Yn I.ok.kind hg (Calls.loadGlobal_builtin (by rw[I.ok.glob]; exact I.mod.glob.keeps I.bk) hm (by rw[I.ok.blt]; exact h1.keeps I.bk) ((h2 x hn).trans hv) h) hd
theorem zqU{x:Str}{v:V}{u:j8}{pos:Pos}(hg:Gl X x)(hm:X.mg x=none)(hv:Qp x=some u)(r:RelV v u)(hn:x≠"__name__":=by decide)(hd:(x == ("__debug__":Str))=false:=by decide):PE X (.Name x pos) (tC v):=
 fun _ _ _ H _ I h=>zec I hg hm hv ⟨v,H,I,r,h⟩ hn hd
variable {a:Q4}
def PC(X:Cx)(op:CmpOp)(a b:Q4)(t:TE):Prop:=
 ∀(pc:List (js × Obj)) (s:jc) (σ:St) (H:Hp) (Q:VK),Inv X pc σ H s->t σ H Q->
  jI (jM X.prog X.w) X.A (eval a X.env) (fun v s₁=>jI (jM X.prog X.w) X.A (eval b X.env) (fun u s₂=>jI (jM X.prog X.w) X.A (Zb op v u) (EP X pc σ Q) X.xe s₂) X.xe s₁) X.xe s
def tB(t:TE):TT:=fun σ H Q=>t σ H fun x H1=>∃ c,x=.bl c/\Q c H1
theorem ztp{op:CmpOp}{t:TE}(h:PC X op a b t)(h1:Qy op b=false:=by first |exact nobehind _ (by decide) (by decide) |rfl):PE X (.Compare a [op] [b] pos) t:=fun pc s σ H Q I hw=>wpAny_Compare1 (h pc s σ H Q I hw) h1
theorem zt8{op:CmpOp}{t:TE}(h:PC X op a b t)(h1:Qy op b=false:=by first |exact nobehind _ (by decide) (by decide) |rfl):PT X (.Compare a [op] [b] pos) (tB t):=by
 intro pc s σ H Q I hw;refine No (thn (h pc s σ H _ I hw) fun v s1 h1=>thn h1 fun u s2 h2=>thn h2 fun c s3 ⟨x,H1,I1,r1,q1⟩=>?_) h1;obtain⟨d,rfl,q⟩:=q1;cases r1;exact Zs ⟨H1,I1,q⟩
variable {tA tB':TT}{rest:List Q4}
def zxI(t u:TT):TT:=fun σ H Q=>t σ H fun c H1=>if c=true then u σ H1 Q else Q false H1
def tOr(t u:TT):TT:=fun σ H Q=>t σ H fun c H1=>if c=true then Q true H1 else u σ H1 Q
def zxE(t:TT):TT:=fun σ H Q=>t σ H fun c H1=>Q (!c) H1
theorem zqD(ha:PT X a tA):PW X (.BoolOp .And [a] pos) tA:=by
 intro wh pc s σ H Q I h;refine isTrue_and (thn (ha pc s σ H Q I h) fun c s1 e=>?_);cases c with
 |true=>exact isTrue_and_nil e
 |false=>exact e
theorem zt4(ha:PT X a tA):PW X (.BoolOp .Or [a] pos) tA:=by
 intro wh pc s σ H Q I h;refine isTrue_or (thn (ha pc s σ H Q I h) fun c s1 e=>?_);cases c with
 |false=>exact isTrue_or_nil e
 |true=>exact e
theorem zt5(ha:PT X a tA)(hb:PW X (.BoolOp .And (b::rest) pos) tB'):PW X (.BoolOp .And (a::b::rest) pos) (zxI tA tB'):=by
 intro wh pc s σ H Q I h;refine isTrue_and (thn (ha pc s σ H _ I h) fun c s1 h_=>?_); obtain⟨H1,I1,q1⟩:=h_;cases c with
 |true=>exact hb wh pc s1 σ H1 Q I1 q1
 |false=>exact⟨H1,I1,q1⟩
theorem zvR(ha:PT X a tA)(hb:PW X (.BoolOp .Or (b::rest) pos) tB'):PW X (.BoolOp .Or (a::b::rest) pos) (tOr tA tB'):=by
 intro wh pc s σ H Q I h;refine isTrue_or (thn (ha pc s σ H _ I h) fun c s1 h_=>?_); obtain⟨H1,I1,q1⟩:=h_;cases c with
 |true=>exact⟨H1,I1,q1⟩
 |false=>exact hb wh pc s1 σ H1 Q I1 q1
theorem zt7(ha:PT X a tA):PT X (.UnaryOp .Not a pos) (zxE tA):=by
 intro pc s σ H Q I h;exact isTrue_not (ha pc s σ H (fun c H1=>Q (!c) H1) I h)
def zvv(ta tb:TE):TE:=fun σ H Q=>ta σ H fun x H1=>∃ c,x=.bl c/\if c=true then tb σ H1 Q else Q (.bl false) H1
def zvr(ta:TE):TE:=fun σ H Q=>ta σ H fun x H1=>∃ c,x=.bl c/\Q (.bl (!c)) H1
theorem ztl{op}{t:TE}(h:PE X a t):PE X (.BoolOp op [a] pos) t:=fun pc s σ H Q I hw=>BoolOp_one (h pc s σ H Q I hw)
theorem ztr(ha:PE X a ta)(hb:PE X (.BoolOp .And (b::rest) pos) tb):PE X (.BoolOp .And (a::b::rest) pos) (zvv ta tb):=by
 intro pc s σ H Q I h;refine BoolOp_and (thn (ha pc s σ H _ I h) fun v s1 h_=>?_); obtain⟨x,H1,I1,r1,q1⟩:=h_;obtain⟨c,rfl,q1⟩:=q1;cases r1;refine Zs ?_;cases c with
 |true=>exact hb pc s1 σ H1 Q I1 q1
 |false=>exact⟨.bl false,H1,I1,rfl,q1⟩
theorem ztm(ha:PE X a ta):PE X (.UnaryOp .Not a pos) (zvr ta):=by
 intro pc s σ H Q I h;refine UnaryOp_ (thn (ha pc s σ H _ I h) fun v s1 h_=>?_); obtain⟨x,H1,I1,r1,q1⟩:=h_;obtain⟨c,rfl,q1⟩:=q1;cases r1;exact not_of (Zs ⟨.bl (!c),H1,I1,rfl,q1⟩)
def tIf(t:TT)(ta tb:TE):TE:=fun σ H Q=>t σ H fun c H1=>if c=true then ta σ H1 Q else tb σ H1 Q
theorem zox{c:Q4}(hc:PT X c tA)(ha:PE X a ta)(hb:PE X b tb):PE X (.IfExp c a b pos) (tIf tA ta tb):=by
 intro pc s σ H Q I h;refine wpAny_IfExp (thn (hc pc s σ H _ I h) fun d s1 h_=>?_); obtain⟨H1,I1,q1⟩:=h_;cases d with
 |true=>exact ha pc s1 σ H1 Q I1 q1
 |false=>exact hb pc s1 σ H1 Q I1 q1
end
def SqL(K:jb)(H:Hp)(a:js)(xs:List V):Prop:=
 Rd H a (.lst xs) ∨
  ∃(o:Obj) (its:Array j8) (n:Nat),K.lookup a=some o/\o.cls=.type "list"/\o.dict=none/\o.data=.seq its n/\its.size<=jr/\Vals xs its.toList
def SqT(K:jb)(H:Hp)(a:js)(xs:List V):Prop:=
 Rd H a (.tup xs) ∨
  ∃(o:Obj) (its:Array j8) (n:Nat),K.lookup a=some o/\o.cls=.type "tuple"/\o.data=.seq its n/\its.size<=jr/\Vals xs its.toList
def zy0:j8->Option V
 |.none=>some .non
 |.bool b=>some (.bl b)
 |.int i _=>some (.int i)
 |.str x _=>some (.str x)
 |.bytes b _=>some (.byt b)
 |.float b _=>some (.flt b)
 |.ref a=>some (.ref a)
 |.type n=>some (.ty n)
 |_=>none
theorem RelV.abs{x:V}{u:j8}(r:RelV x u):zy0 u=some x:=by
 cases x with
 |non=>cases r; rfl
 |bl _=>cases r; rfl
 |int _=>obtain⟨t,rfl⟩:=r; rfl
 |str _=>obtain⟨t,rfl⟩:=r; rfl
 |byt _=>obtain⟨t,rfl⟩:=r; rfl
 |flt _=>obtain⟨t,rfl⟩:=r; rfl
 |ref _=>cases r; rfl
 |ty _=>cases r; rfl
theorem RelV.inj{x y:V}{u:j8}(r:RelV x u)(q:RelV y u):x=y:=jf (r.abs.symm.trans q.abs)
theorem Vals.inj:∀ {xs ys:List V} {us:List j8},Vals xs us->Vals ys us->xs=ys
 |_,_,_,.nil,.nil=>rfl
 |_,_,_,.cons r t,.cons r' t'=>by rw[r.inj r',Vals.inj t t']
section
variable {xs ys:List V}
theorem SqL.of{K:jb}(h:H a=some (.lst xs)):SqL K H a xs:=.inl (.inl h)
theorem SqT.of{K:jb}(h:H a=some (.tup xs)):SqT K H a xs:=.inl (.inl h)
theorem Inv.list(I:Inv X pc σ H s)(h:SqL X.K H a xs):∃ its:List j8,Vals xs its/\PlainL s.heap a its.toArray/\xs.length<=jr:=by
 rcases h with h |⟨o,its,n,hk,hc,hd,hs,hz,r⟩
 ·obtain⟨z,its,n,r,e⟩:=h.ok I.hok;exact⟨its,r,⟨_,n,e,rfl,rfl,rfl⟩,z⟩
 ·refine⟨its.toList,r,⟨o,n,I.kIn a o hk,hc,hd,by simpa using hs⟩,?_⟩
  have e:=r.length;simp only[QB] at e;lia
theorem Inv.tuple(I:Inv X pc σ H s)(h:SqT X.K H a xs):∃ its:List j8,Vals xs its/\IsTup s.heap a its.toArray/\xs.length<=jr:=by
 rcases h with h |⟨o,its,n,hk,hc,hs,hz,r⟩
 ·obtain⟨z,its,r,p⟩:=h.ok I.hok;exact⟨its,r,p,z⟩
 ·refine⟨its.toList,r,⟨o,I.kIn a o hk,hc,n,by simpa using hs⟩,?_⟩
  have e:=r.length;simp only[QB] at e;lia
theorem Inv.list_inj(I:Inv X pc σ H s)(h:SqL X.K H a xs)(h':SqL X.K H a ys):xs=ys:=by
 obtain⟨its,r,⟨o,n,e,_,_,d⟩,_⟩:=I.list h;obtain⟨its',r',⟨o',n',e',_,_,d'⟩,_⟩:=I.list h';rw[e] at e'; cases e';rw[d] at d';injection d' with d1 _;have:its=its':=by simpa using congrArg JX d1
 subst this;exact r.inj r'
theorem Inv.tuple_inj(I:Inv X pc σ H s)(h:SqT X.K H a xs)(h':SqT X.K H a ys):xs=ys:=by
 obtain⟨its,r,⟨o,e,_,n,d⟩,_⟩:=I.tuple h;obtain⟨its',r',⟨o',e',_,n',d'⟩,_⟩:=I.tuple h';rw[e] at e'; cases e';rw[d] at d';injection d' with d1 _;have:its=its':=by simpa using congrArg JX d1
 subst this;exact r.inj r'
end
abbrev Cx.wish(X:Cx)(E:j8->jc->Prop):Cx:={ X with xe:=E }
abbrev Cx.nox(X:Cx):Cx:=X.wish fun _ _=>False
theorem Cx.Ok.wish{X:Cx}(ok:X.Ok)(E:j8->jc->Prop):(X.wish E).Ok:=
 ⟨ok.mod,ok.kind,ok.glob,ok.blt,ok.above,ok.inj,ok.has,ok.cab,ok.hd,ok.frames,ok.stk,ok.exf,ok.bs,ok.bsz,ok.noex,ok.exfs,ok.funs,ok.frf⟩
theorem Cx.Ok.unwish{X:Cx}{E:j8->jc->Prop}(ok:(X.wish E).Ok):X.Ok:=
 ⟨ok.mod,ok.kind,ok.glob,ok.blt,ok.above,ok.inj,ok.has,ok.cab,ok.hd,ok.frames,ok.stk,ok.exf,ok.bs,ok.bsz,ok.noex,ok.exfs,ok.funs,ok.frf⟩
section
variable {E:j8->jc->Prop}
theorem Inv.wish(I:Inv X pc σ H s)(E:j8->jc->Prop):Inv (X.wish E) pc σ H s:=⟨I.ok.wish E,I.os,I.bare,I.base,I.loc,I.cell,I.free,I.freeC,I.pin,I.hok,I.len⟩
theorem Inv.unwish(I:Inv (X.wish E) pc σ H s):Inv X pc σ H s:=⟨I.ok.unwish,I.os,I.bare,I.base,I.loc,I.cell,I.free,I.freeC,I.pin,I.hok,I.len⟩
theorem SP.unwish{D:Ends}{f:Flow}{s':jc}(h:SP (X.wish E) pc D f s'):SP X pc D f s':=by
 cases f with
 |next=>obtain⟨σ',H',I,q⟩:=h; exact⟨σ',H',I.unwish,q⟩
 |brk=>obtain⟨σ',H',I,q⟩:=h; exact⟨σ',H',I.unwish,q⟩
 |cont=>obtain⟨σ',H',I,q⟩:=h; exact⟨σ',H',I.unwish,q⟩
 |ret u=>obtain⟨v,σ',H',I,r,q⟩:=h; exact⟨v,σ',H',I.unwish,r,q⟩
theorem PSs.nox{st:List QR}{t:TS}(h:PSs X.nox st t):PSs X st t:=fun pc s σ H D I hw=>
 jV (h pc s σ H D (I.wish _) hw) (fun _ _ q=>q.unwish) fun _ _ z=>Zf z
end
section
variable {st:QR}{rest:List QR}{t u:TS}{te:TE}
def zvs:TS:=fun D σ H=>D.nx σ H
def zwO(t u:TS):TS:=fun D σ H=>t { D with nx:=u D } σ H
theorem zqG:PSs X [] zvs:=fun _ _ σ H _ I h=>ZN ⟨σ,H,I,h⟩
theorem zhT(h1:PS X st t)(h2:PSs X rest u):PSs X (st::rest) (zwO t u):=by
 intro pc s σ H D I h;refine Y0 (thn (h1 pc s σ H { D with nx:=u D } I h) fun f s1 q=>?_);cases f with
 |next=>
  obtain⟨σ',H',I',q⟩:=q;exact h2 pc s1 σ' H' D I' q
 |ret v=>exact q
 |brk=>exact q
 |cont=>exact q
theorem zgp(h1:PS X st t):PSs X [st] t:=by
 intro pc s σ H D I h;refine Y0 (thn (h1 pc s σ H D I h) fun f s1 q=>?_);cases f with
 |next=>exact ZN q
 |ret v=>exact q
 |brk=>exact q
 |cont=>exact q
theorem Inv.quiet{pc:List (js × Obj)}{σ:St}{H:Hp}{s:jc}(I:Inv X pc σ H s):interactive X.env=false:=by simp[interactive,I.ok.kind]
def zvt(te:TE):TS:=fun D σ H=>te σ H fun _ H1=>D.nx σ H1
theorem zqH(he:PE X e te)(hs:ZO e none pos.line X.env=pure false:=by rfl):PS X (.Expr e pos) (zvt te):=by
 intro pc s σ H D I h;exact wpAny_Expr_any (thn (he pc s σ H _ I h) fun v s1 ⟨x,H1,I1,r1,q1⟩=>⟨σ,H1,I1,q1⟩) I.quiet hs
def zwP(te:TE):TS:=fun D σ H=>te σ H D.rt
theorem zkP(he:PE X e te):PS X (.Return (some e) pos) (zwP te):=by
 intro pc s σ H D I h;exact wpAny_Return_some (thn (he pc s σ H _ I h) fun v s1 ⟨x,H1,I1,r1,q1⟩=>⟨x,σ,H1,I1,r1,q1⟩)
def zxH(c:TT)(t u:TS):TS:=fun D σ H=>c σ H fun b H1=>if b=true then t D σ H1 else u D σ H1
theorem zta{c:Q4}{a b:List QR}{tc:TT}(hc:PT X c tc)(ha:PSs X a t)(hb:PSs X b u):PS X (.If c a b pos) (zxH tc t u):=by
 intro pc s σ H D I h;refine wpAny_If (thn (hc pc s σ H _ I h) fun d s1 h_=>?_); obtain⟨H1,I1,q1⟩:=h_;cases d with
 |true=>exact ha pc s1 σ H1 D I1 q1
 |false=>exact hb pc s1 σ H1 D I1 q1
end
abbrev TG:=V->St->Hp->(St->Hp->Prop)->Prop
abbrev TGs:=List V->St->Hp->(St->Hp->Prop)->Prop
def PG(X:Cx)(target:Q4)(t:TG):Prop:=
 ∀(pc:List (js × Obj)) (s:jc) (σ:St) (H:Hp) (v:V) (u:j8) (Q:St->Hp->Prop),Inv X pc σ H s->RelV v u->t v σ H Q->
  jI (jM X.prog X.w) X.A (gU target X.env u) (fun _ s'=>∃ σ' H',Inv X pc σ' H' s'/\Q σ' H') X.xe s
def PGs(X:Cx)(ts:List Q4)(t:TGs):Prop:=
 ∀(pc:List (js × Obj)) (s:jc) (σ:St) (H:Hp) (vs:List V) (us:List j8) (Q:St->Hp->Prop),Inv X pc σ H s->Vals vs us->t vs σ H Q->
  jI (jM X.prog X.w) X.A (assignInOrder ((Qr ts X.env).map (·.2)) us) (fun _ s'=>∃ σ' H',Inv X pc σ' H' s'/\Q σ' H') X.xe s
abbrev zrP:=V->V->V->Hp->(Hp->Prop)->Prop
def zup(X:Cx)(t:zrP):Prop:=
 ∀(pc:List (js × Obj)) (s:jc) (σ:St) (H:Hp) (o i v:V) (ov iv u:j8) (Q:Hp->Prop),Inv X pc σ H s->RelV o ov->RelV i iv->RelV v u->t o i v H Q->
  jI (jM X.prog X.w) X.A (Jj ov iv u) (fun _ s'=>∃ H',Inv X pc σ H' s'/\Q H') X.xe s
abbrev TIp:=V->V->Hp->VK->Prop
def PIp(X:Cx)(op:JK)(t:TIp):Prop:=
 ∀(pc:List (js × Obj)) (s:jc) (σ:St) (H:Hp) (x y:V) (v u:j8) (Q:VK),Inv X pc σ H s->RelV x v->RelV y u->t x y H Q->
  jI (jM X.prog X.w) X.A (inplaceOp op v u) (EP X pc σ Q) X.xe s
section
def zcJ(i:Nat):TG:=fun v σ H Q=>Q (σ.set i (some v)) H
theorem zqT{i:Nat}{x:Str}(hN:X.N.Nodup)(hi:X.N[i]?=some x)(hx:Loc X.env.scope x)(hf:X.fn x=true∨X.env.scope.names.lookup x=some .local:=by first |exact .inl rfl |exact .inr rfl |assumption):PG X (.Name x pos) (zcJ i):=by
 intro pc s σ H v u Q I r h;exact YF (zkD I hN hi hx r (fun s' I'=>⟨_,H,I',h⟩) hf)
def zrh:TGs:=fun vs σ H Q=>vs=[]/\Q σ H
def zj8(t:TG)(u:TGs):TGs:=fun vs σ H Q=>∃ v r,vs=v::r/\t v σ H fun σ' H'=>u r σ' H' Q
theorem zqR:PGs X [] zrh:=by
 intro pc s σ H vs us Q I r h;obtain⟨e,h⟩:=h;subst e;cases r;exact assignInOrder_nil ⟨σ,H,I,h⟩
theorem zow{e:Q4}{es:List Q4}{t:TG}{u:TGs}(h1:PG X e t)(h2:PGs X es u)
  (hs:(Qr (e::es) X.env).map (·.2)=gU e X.env::(Qr es X.env).map (·.2):=by rfl):PGs X (e::es) (zj8 t u):=by
 intro pc s σ H vs us Q I r h;obtain⟨v,vr,e1,h⟩:=h;subst e1;cases r with
 |cons r rr=>
  rw[hs];refine assignInOrder_cons (thn (h1 pc s σ H _ _ _ I r h) fun _ s1 h_=>?_); obtain⟨σ1,H1,I1,q1⟩:=h_;exact h2 pc s1 σ1 H1 _ _ Q I1 rr q1
def zlP(K:jb)(n:Nat)(t:TGs):TG:=fun v σ H Q=>∃ a xs,v=.ref a/\SqT K H a xs/\xs.length=n/\t xs σ H Q
theorem zpo{es:List Q4}{k:Nat}{t:TGs}{n:Nat}(hc:X.calm=true)(h:PGs X es t)
  (hn:(Qr es X.env).length=n:=by rfl) (hst:(Qr es X.env).findIdx? (·.1)=none:=by rfl):PG X (.Tuple es k pos) (zlP X.K n t):=by
 intro pc s σ H v u Q I r hw;obtain⟨a,xs,e1,hq,hl,hw⟩:=hw;subst e1;cases r;obtain⟨its,rv,ht,hz⟩:=I.tuple hq;refine assign_Tuple_tuple (I.ok.hd hc) ht (by simp[hn,<-hl,rv.length]) hst fun h' hx=>?_
 have I1:Inv X pc σ H { s with heap:=h' }:=I.kept (t':=s.toks) fun b o e=>hx b o (jC (jj e)) e;exact h pc _ σ H xs _ Q I1 (by simpa using rv) hw
def zwk(to ti:TE)(t:zrP):TG:=fun v σ H Q=>to σ H fun o H1=>ti σ H1 fun i H2=>t o i v H2 fun H3=>Q σ H3
theorem ztf{o i:Q4}{to ti:TE}{t:zrP}(ho:PE X o to)(hi:PE X i ti)(hs:zup X t)
  (ha:∀ v,gU (.Subscript o i pos) X.env v=(do
   let ov <-Y1 [v] (eval o X.env)
   let iv <-Y1 [v,ov] (eval i X.env)
   standAt pos
   Y1 [v,ov,iv] (Jj ov iv v)
   release [v,ov,iv] []):=by intro _; rfl):PG X (.Subscript o i pos) (zwk to ti t):=by
 intro pc s σ H v u Q I r h;rw[ha];refine j4 (Qi (thn (ho pc s σ H _ I h) fun ov s1 h_=>?_)); obtain⟨x,H1,I1,r1,q1⟩:=h_;refine j4 (Qi (thn (hi pc s1 σ H1 _ I1 q1) fun iv s2 h_=>?_)); obtain⟨y,H2,I2,r2,q2⟩:=h_;refine j4 (Z9 (j4 (Qi (thn (hs pc s2 σ H2 x y v ov iv u _ I2 r1 r2 r q2) fun _ s3 h_=>?_)))); obtain⟨H3,I3,q3⟩:=h_;exact wpAny_release ⟨σ,H3,I3,q3⟩
def zh7(te:TE)(g:TG):TS:=fun D σ H=>te σ H fun x H1=>g x σ H1 D.nx
theorem ztc{tg e:Q4}{te:TE}{g:TG}(he:PE X e te)(hg:PG X tg g)(hs:swapsWithSole [tg] e pos.line X.env=pure false:=by rfl)(hw:swappedStores [tg] e X.env=pure none:=by rfl)
  (h1:(Qr [tg] X.env).map (·.2)=[gU tg X.env]:=by rfl):PS X (.Assign [tg] e pos) (zh7 te g):=by
 intro pc s σ H D I h;refine wpAny_Assign_stores (thn (he pc s σ H _ I h) fun v s1 ⟨x,H1,I1,r1,q1⟩=>?_) hs hw;rw[h1];exact thn (hg pc s1 σ H1 x v _ I1 r1 q1) fun _ s2 q=>q
theorem zpn{i:Nat}{x:Str}{e:Q4}{te:TE}{pos':Pos}(hN:X.N.Nodup)(hi:X.N[i]?=some x)(hx:Loc X.env.scope x)(he:PE X e te)(hs:ZO e (some (.Name x pos')) pos.line X.env=pure false:=by rfl)(hf:X.fn x=true∨X.env.scope.names.lookup x=some .local:=by first |exact .inl rfl |exact .inr rfl |assumption) :
  PS X (.Assign [.Name x pos'] e pos) (zh7 te (zcJ i)):=by
 intro pc s σ H D I h;refine wpAny_Assign_Name (thn (he pc s σ H _ I h) fun v s1 ⟨y,H1,I1,r1,q1⟩=>?_) hs;exact zkD I1 hN hi hx r1 (fun s2 I2=>⟨_,H1,I2,q1⟩) hf
def zqb(to ti te:TE)(tget:V->V->Hp->VK->Prop)(tip:TIp)(tset:zrP):TS:=fun D σ H=>to σ H fun o H1=>ti σ H1 fun i H2=>tget o i H2 fun x H3=>te σ H3 fun y H4=>tip x y H4 fun z H5=>tset o i z H5 fun H6=>D.nx σ H6
def zwD(X:Cx)(t:V->V->Hp->VK->Prop):Prop:=
 ∀(pc:List (js × Obj)) (s:jc) (σ:St) (H:Hp) (o i:V) (ov iv:j8) (Q:VK),Inv X pc σ H s->RelV o ov->RelV i iv->t o i H Q->
  jI (jM X.prog X.w) X.A (Wz ov iv) (EP X pc σ Q) X.xe s
theorem zqJ{o i e:Q4}{to ti te:TE}{tget:V->V->Hp->VK->Prop}{tip:TIp}{tset:zrP}{op:JK}{tpos:Pos}(ho:PE X o to)(hi:PE X i ti)(hg:zwD X tget)(he:PE X e te)(hp:PIp X op tip)(hs:zup X tset)
  (ha:∀ ov iv new,augStore i ov iv new=(do Y1 [new,ov,iv] (Jj ov iv new); release [new,ov,iv] []; pure .next):=by intros; rfl):PS X (.AugAssign (.Subscript o i tpos) op e pos) (zqb to ti te tget tip tset):=by
 intro pc s σ H D I h;refine wpAny_AugAssign_SubscriptAny (thn (ho pc s σ H _ I h) fun ov s1 ⟨x1,H1,I1,r1,q1⟩=>?_) ha;refine thn (hi pc s1 σ H1 _ I1 q1) fun iv s2 h_=>?_; obtain⟨x2,H2,I2,r2,q2⟩:=h_;refine thn (hg pc s2 σ H2 x1 x2 ov iv _ I2 r1 r2 q2) fun old s3 h_=>?_; obtain⟨x3,H3,I3,r3,q3⟩:=h_;refine thn (he pc s3 σ H3 _ I3 q3) fun v s4 h_=>?_; obtain⟨x4,H4,I4,r4,q4⟩:=h_;refine thn (hp pc s4 σ H4 x3 x4 old v _ I4 r3 r4 q4) fun new s5 h_=>?_; obtain⟨x5,H5,I5,r5,q5⟩:=h_;exact thn (hs pc s5 σ H5 x1 x2 x5 ov iv new _ I5 r1 r2 r5 q5) fun _ s6 ⟨H6,I6,q6⟩=>⟨σ,H6,I6,q6⟩
def ipI(f:Int->Int->Int):TIp:=fun x y H Q=>∃ i j,x=.int i/\y=.int j/\Q (.int (f i j)) H
theorem zpB:PIp X .Add (ipI fun i j=>i+j):=by
 intro pc s σ H x y v u Q I r1 r2 h;obtain⟨i,j,e1,e2,q⟩:=h;subst e1; subst e2;obtain⟨t,rfl⟩:=r1;obtain⟨t',rfl⟩:=r2;exact iadd_int ⟨.int _,H,I.tok _,⟨_,rfl⟩,q⟩
end
section
def zpd(c:TT)(tb:TS):TS:=fun D σ H=>∃ W:Nat->St->Hp->Prop,(∃ m,W m σ H)/\∀ m σ H,W m σ H->
 c σ H fun b H1=>if b=true then ∃ N:St->Hp->Prop,(∀ σ' H',N σ' H'->∃ m',m' < m/\W m' σ' H')/\tb { D with nx:=N,ct:=N,bk:=D.nx } σ H1 else D.nx σ H1
theorem zos{c:Q4}{body:List QR}{tc:TT}{tb:TS}(hp:Jk (jM X.prog X.w) X.A X.env X.xe)(hc:PT X c tc)(hb:PSs X body tb):PS X (.While c body [] pos) (zpd tc tb):=by
 intro pc s σ H D I h;obtain⟨W,⟨m0,w0⟩,turn⟩:=h;refine wpAny_While (codeAny_whileLoop (fun n s'=>∃ σ' H',Inv X pc σ' H' s'/\W n σ' H') ?_ m0 ⟨σ,H,I,w0⟩);rintro n s1 ⟨σ1,H1,I1,w1⟩;refine Zt hp (thn (hc pc s1 σ1 H1 _ I1 (turn n σ1 H1 w1)) fun b s2 h_=>?_); obtain⟨H2,I2,q2⟩:=h_;cases b with
 |true=>
  obtain⟨N,hN,q2⟩:=q2;rw[Ip_ rfl];refine Zt hp (thn (hb pc s2 σ1 H2 _ I2 q2) fun f s3 q3=>?_);cases f with
  |next=>
   obtain⟨σ3,H3,I3,n3⟩:=q3;obtain⟨m',hm,w3⟩:=hN σ3 H3 n3;exact⟨m',hm,σ3,H3,I3,w3⟩
  |cont=>
   obtain⟨σ3,H3,I3,n3⟩:=q3;obtain⟨m',hm,w3⟩:=hN σ3 H3 n3;exact⟨m',hm,σ3,H3,I3,w3⟩
  |brk=>exact q3
  |ret v=>exact q3
 |false=>
  rw[In_ jJ];exact ZN ⟨σ1,H2,I2,q2⟩
end
structure It where
 go:Nat->Hp->Prop
 yld:Nat->Hp->V->Hp->Prop
 stop:Nat->Hp->Prop
def zjz(X:Cx)(pc:List (js × Obj))(H:Hp)(b:js):Prop:=
 H b=none/\b≠X.env.locals/\b∉X.fs/\(b∈X.ex∨X.s₀.heap.objs.size<=b)/\(∀ x c,X.env.cells.lookup x=some c->c≠b)/\∀ p∈X.pn++pc,p.1≠b
theorem Inv.fpOk{X:Cx}{pc:List (js × Obj)}{σ:St}{H H':Hp}{s:jc}{b:js}(I:Inv X pc σ H s)(hb:s.heap.objs.size<=b)(hn:H' b=none):zjz X pc H' b:=by
 refine⟨hn,gs (jW I.lt hb),I.nofs hb,.inr (Qc I.sz hb),fun x c e z=>?_,fun p hp z=>?_⟩
 ·obtain⟨v,q⟩:=I.cell x c e;exact absurd (jW q.lt (by rw[z]; exact hb)) (jZ _)
 ·exact absurd (jW (jj (I.pin p hp).1) (by rw[z]; exact hb)) (jZ _)
structure Turn (P:jH) (w:Qf) (K:jb) (tg:Q4) (J:It) (fp:List js) (it:js) (tn:Nat->QL->Prop):Prop where
 mem:it∈fp
 obj:∀ i h,tn i h->∀ b∈fp,∃ o,h.get? b=some o/\∀ v,o.data≠.cell v
 keep:∀ i h h',tn i h->(∀ b∈fp,∀ o,h.get? b=some o->h'.get? b=some o)->tn i h'
 item:∀(X:Cx),X.prog=P->X.w=w->X.K=K->X.calm=true->∀(i:Nat) (pc:List (js × Obj)) (s:jc) (σ:St) (H:Hp) (E:j8->jc->Prop),Inv X pc σ H s->(∀ b∈fp,zjz X pc H b)->tn i s.heap->J.go i H->
  jI (jM P w) X.A (NV (.ref it)) (fun r s1=>∃ u,r=some u /\
   jI (jM P w) X.A (ZP tg (.ref it) u) (fun _ s2=>∃ x H',Inv X pc σ H' s2/\RelV x u/\J.yld i H x H'/\tn (i+1) s2.heap/\∀ b∈fp,H' b=none) E s1) E s
 done:∀(X:Cx),X.prog=P->X.w=w->X.K=K->X.calm=true->∀(i:Nat) (pc:List (js × Obj)) (s:jc) (σ:St) (H:Hp) (E:j8->jc->Prop),Inv X pc σ H s->(∀ b∈fp,zjz X pc H b)->tn i s.heap->J.stop i H->
  jI (jM P w) X.A (NV (.ref it)) (fun r s1=>r=none/\Inv X pc σ H s1) E s
 self:∀(A:Qg) (i:Nat) (s:jc) (Q:j8->jc->Prop) (E:j8->jc->Prop),tn i s.heap->Q (.ref it) s->jI (jM P w) A (pyIter (.ref it)) Q E s
abbrev TI:=St->Hp->(It->Hp->Prop)->Prop
def PIE(X:Cx)(pc:List (js × Obj))(σ:St)(tg:Q4)(R:It->Hp->Prop)(itv:j8)(s2:jc):Prop:=
 ∃(it:js) (fp:List js) (tn:Nat->QL->Prop) (J:It) (H':Hp),itv=.ref it/\Inv X pc σ H' s2/\Turn X.prog X.w X.K tg J fp it tn/\tn 0 s2.heap/\(∀ b∈fp,zjz X pc H' b)/\R J H'
def PI(X:Cx)(tg iter:Q4)(wi:TI):Prop:=
 ∀(pc:List (js × Obj)) (s:jc) (σ:St) (H:Hp) (R:It->Hp->Prop),Inv X pc σ H s->wi σ H R->
  jI (jM X.prog X.w) X.A (eval iter X.env) (fun v s1=>jI (jM X.prog X.w) X.A (pyIter v) (PIE X pc σ tg R) X.xe s1) X.xe s
theorem znr{M:U5}{A:Qg}{E:j8->jc->Prop}{s:jc}{tg:Q4}{it:js}{u:j8}{o:Obj}{n:String}{vs:Array j8}{Q:Unit->jc->Prop}(ho:s.heap.get? it=some o)(hc:o.cls=.type n)(hd:o.data=.fields vs)
    (hn:["enumerate","zip","dict_itemiterator","dict_reverseitemiterator","odict_iterator","itertools.zip_longest","itertools.pairwise"].contains n=false) (hQ:Q () s):jI M A (ZP tg (.ref it) u) Q E s:=by
  unfold ZP;cases tg<;>first
    |exact jq hQ
    | (cases u<;>first
        |exact jq hQ
        | (refine j4 (wpAny_load ho ?_)
           rw[hc,hd];show jI M A (if (["enumerate","zip","dict_itemiterator","dict_reverseitemiterator","odict_iterator","itertools.zip_longest","itertools.pairwise"].contains n&&vs[0]? == some (rawInt _))=true then _ else _) Q E s
           rw[In_ (by intro h; rw[hn,Yy] at h; cases h)]
           exact jq hQ))
def Itl(K:jb)(a:js):It:=
 ⟨fun i H=>∃ xs x,SqL K H a xs/\xs[i]?=some x,fun i H x H'=>H'=H/\∀ xs,SqL K H a xs->xs[i]?=some x,fun i H=>∃ xs,SqL K H a xs/\xs.length<=i⟩
def Itt(K:jb)(a:js):It:=
 ⟨fun i H=>∃ xs x,SqT K H a xs/\xs[i]?=some x,fun i H x H'=>H'=H/\∀ xs,SqT K H a xs->xs[i]?=some x,fun i H=>∃ xs,SqT K H a xs/\xs.length<=i⟩
def Itr(lo:Int)(n:Nat):It:=⟨fun i _=>i < n,fun i H x H'=>H'=H/\x=.int (lo+i),fun i _=>n<=i⟩
theorem zmg{P:jH}{w:Qf}{K:jb}{tg:Q4}(a it:js):Turn P w K tg (Itl K a) [it] it (fun i h=>h.IsListIter it a i) where
 mem:=by simp
 obj:=fun i h st b hb=>by
  have e:b=it:=by simpa using hb
  subst e;obtain⟨o,e,c,d⟩:=st;exact⟨o,e,fun v z=>by rw[d] at z; cases z⟩
 keep:=fun i h h' st k=>st.at fun o e=>k it (by simp) o e
 item:=by
  intro X hP hw hK hc i pc s σ H E I hf st hg;subst hP hw hK;obtain⟨xs,x,hq,hx⟩:=hg;obtain⟨its,rv,p,hz⟩:=I.list hq;obtain⟨u,hu,ru⟩:=rv.get hx;obtain⟨f0,f1,f2,f3,f4,f5⟩:=hf it (by simp)
  refine Nh st p.isList (x:=u) (by simpa using hu) fun h' st' sb=>?_
  have I1:Inv X pc σ H { s with heap:=h' }:=I.turned (t':=s.toks) (fun b o hb e=>(sb.2 b hb).trans e) f0 f1 f3 f4 f5;obtain⟨o,e,c,d⟩:=id st';exact⟨u,rfl,znr (s:={ s with heap:=h' }) e c d (by decide) ⟨x,H,I1,ru,⟨rfl,fun ys hy=>by rw[I.list_inj hy hq]; exact hx⟩,st',fun b hb=>(hf b hb).1⟩⟩
 done:=by
  intro X hP hw hK hc i pc s σ H E I hf st hg;subst hP hw hK;obtain⟨xs,hq,hx⟩:=hg;obtain⟨its,rv,p,hz⟩:=I.list hq;obtain⟨f0,f1,f2,f3,f4,f5⟩:=hf it (by simp)
  have hl:=rv.length;exact Np (I.ok.hd hc) st p.isList (by simp; lia) fun h' eb=>⟨rfl,I.turned (t':=s.toks) (fun b o hb e=>eb b o hb e) f0 f1 f3 f4 f5⟩
 self:=fun _ _ _ _ _ st h=>wpAny_pyIter_listiter st h
theorem zln{P:jH}{w:Qf}{K:jb}{tg:Q4}(a it:js):Turn P w K tg (Itt K a) [it] it (fun i h=>h.IsTupleIter it a i) where
 mem:=by simp
 obj:=fun i h st b hb=>by
  have e:b=it:=by simpa using hb
  subst e;obtain⟨o,e,c,d⟩:=st;exact⟨o,e,fun v z=>by rw[d] at z; cases z⟩
 keep:=fun i h h' st k=>st.at fun o e=>k it (by simp) o e
 item:=by
  intro X hP hw hK hc i pc s σ H E I hf st hg;subst hP hw hK;obtain⟨xs,x,hq,hx⟩:=hg;obtain⟨its,rv,p,hz⟩:=I.tuple hq;obtain⟨u,hu,ru⟩:=rv.get hx;obtain⟨f0,f1,f2,f3,f4,f5⟩:=hf it (by simp)
  refine wpAny_pyNext_tuple_item st (show s.heap.IsTuple a its.toArray from p) (x:=u) (by simpa using hu) fun h' st' sb=>?_
  have I1:Inv X pc σ H { s with heap:=h' }:=I.turned (t':=s.toks) (fun b o hb e=>(sb.2 b hb).trans e) f0 f1 f3 f4 f5;obtain⟨o,e,c,d⟩:=id st';exact⟨u,rfl,znr (s:={ s with heap:=h' }) e c d (by decide) ⟨x,H,I1,ru,⟨rfl,fun ys hy=>by rw[I.tuple_inj hy hq]; exact hx⟩,st',fun b hb=>(hf b hb).1⟩⟩
 done:=by
  intro X hP hw hK hc i pc s σ H E I hf st hg;subst hP hw hK;obtain⟨xs,hq,hx⟩:=hg;obtain⟨its,rv,p,hz⟩:=I.tuple hq;obtain⟨f0,f1,f2,f3,f4,f5⟩:=hf it (by simp)
  have hl:=rv.length;exact wpAny_pyNext_tuple_end (I.ok.hd hc) st (show s.heap.IsTuple a its.toArray from p) (by simp; lia) fun h' eb=>⟨rfl,I.turned (t':=s.toks) (fun b o hb e=>eb b o hb e) f0 f1 f3 f4 f5⟩
 self:=fun _ _ _ _ _ st h=>wpAny_pyIter_tupleiter st h
theorem zlo{P:jH}{w:Qf}{K:jb}{tg:Q4}(it:js)(lo:Int)(n:Nat):Turn P w K tg (Itr lo n) [it] it (fun i h=>IsRangeIter h it (lo+(i:Nat)*1) ((n:Int) - (i:Nat)) 1) where
 mem:=by simp
 obj:=fun i h st b hb=>by
  have e:b=it:=by simpa using hb
  subst e
  exact⟨_,st,fun v z=>by
   have z':Jl _=Wc v:=z
   cases z'⟩
 keep:=fun i h h' st k=>k it (by simp) _ st
 item:=by
  intro X hP hw hK hc i pc s σ H E I hf st hg;subst hP hw hK;obtain⟨f0,f1,f2,f3,f4,f5⟩:=hf it (by simp)
  have W:=Walks.range (prog:=X.prog) (w:=X.w) (I.ok.hd hc) it lo 1 n;refine W.item i s _ _ hg st fun v h' tk hv st' kk=>?_;obtain⟨t,rfl⟩:=hv;have I1:Inv X pc σ H { s with heap:=h',toks:=tk }:=I.turned (fun b o hb e=>kk b o (by simpa using hb) e) f0 f1 f3 f4 f5
  refine⟨_,rfl,znr (s:={ s with heap:=h',toks:=tk }) (n:="range_iterator") st' rfl rfl (by decide) ⟨.int (lo+i),H,I1,⟨t,?_⟩,⟨rfl,rfl⟩,st',fun b hb=>(hf b hb).1⟩⟩
  rw[Int.mul_one]
 done:=by
  intro X hP hw hK hc i pc s σ H E I hf st hg;subst hP hw hK;obtain⟨f0,f1,f2,f3,f4,f5⟩:=hf it (by simp)
  exact wpAny_pyNext_range_end (I.ok.hd hc) st (by have:n<=i:=hg; lia) fun h' eb=>⟨rfl,I.turned (t':=s.toks) (fun b o hb e=>eb b o hb e) f0 f1 f3 f4 f5⟩
 self:=fun _ _ _ _ _ st h=>wpAny_pyIter_rangeiter st h
section
variable {tg:Q4}
def ztU(K:jb)(tl:TE):TI:=fun σ H R=>tl σ H fun x H1=>∃ a,x=.ref a/\(∃ xs,SqL K H1 a xs)/\R (Itl K a) H1
def zxW(K:jb)(tl:TE):TI:=fun σ H R=>tl σ H fun x H1=>∃ a,x=.ref a/\(∃ xs,SqT K H1 a xs)/\R (Itt K a) H1
theorem zqO{l:Q4}{tl:TE}(hl:PE X l tl):PI X tg l (ztU X.K tl):=by
 intro pc s σ H R I h;refine thn (hl pc s σ H _ I h) fun v s1 h_=>?_; obtain⟨x,H1,I1,r1,q1⟩:=h_;obtain⟨a,e,⟨xs,hq⟩,q⟩:=q1;subst e;cases r1;obtain⟨its,rv,p,hz⟩:=I1.list hq;refine gO p.isList ?_;refine⟨s1.heap.objs.size,[s1.heap.objs.size],_,_,H1,rfl,I1.kept (t':=s1.toks) fun b o e=>ja _ e,zmg a _,⟨_,jG _ rfl,rfl,rfl⟩,fun b hb=>?_,q⟩;have e:b=s1.heap.objs.size:=by simpa using hb
 subst e;exact I1.fpOk (jm _) (I1.hok.fresh (jm _))
theorem ztd{l:Q4}{tl:TE}(hl:PE X l tl):PI X tg l (zxW X.K tl):=by
 intro pc s σ H R I h;refine thn (hl pc s σ H _ I h) fun v s1 h_=>?_; obtain⟨x,H1,I1,r1,q1⟩:=h_;obtain⟨a,e,⟨xs,hq⟩,q⟩:=q1;subst e;cases r1;obtain⟨its,rv,p,hz⟩:=I1.tuple hq;refine Yp (show s1.heap.IsTuple a its.toArray from p) ?_;refine⟨s1.heap.objs.size,[s1.heap.objs.size],_,_,H1,rfl,I1.kept (t':=s1.toks) fun b o e=>ja _ e,zln a _,⟨_,jG _ rfl,rfl,rfl⟩,fun b hb=>?_,q⟩;have e:b=s1.heap.objs.size:=by simpa using hb
 subst e;exact I1.fpOk (jm _) (I1.hok.fresh (jm _))
theorem zkH{pc:List (js × Obj)}{σ:St}{H:Hp}{s:jc}{R:It->Hp->Prop}{E:j8->jc->Prop}{lo hi:Int}{t u v:Tok}{tk:Nat}(I:Inv X pc σ H s)(h1:-(2 ^ 62)<=lo)(h2:lo < 2 ^ 62)(h3:-(2 ^ 62)<=hi)(h4:hi < 2 ^ 62)
  (q:R (Itr lo (hi - lo).toNat) H):jI (jM X.prog X.w) X.A (pyIter (.ref s.heap.objs.size)) (PIE X pc σ tg R) E { s with heap:=s.heap.push { cls:=.type "range",data:=.fields #[.int lo t,.int hi u,.int 1 v] },toks:=tk }:=by
 refine wpAny_pyIter_range (U6 ..) (small_one h1 h2 h3 h4) ?_;have I1:Inv X pc σ H { s with heap:=s.heap.push { cls:=.type "range",data:=.fields #[.int lo t,.int hi u,.int 1 v] },toks:=tk }:=I.kept fun b o e=>ja _ e
 refine⟨(s.heap.push { cls:=.type "range",data:=.fields #[.int lo t,.int hi u,.int 1 v] }).objs.size,[(s.heap.push { cls:=.type "range",data:=.fields #[.int lo t,.int hi u,.int 1 v] }).objs.size],_,_,H,rfl,
  I1.kept (t':=tk) fun b o e=>ja _ e,zlo _ lo (hi - lo).toNat,?_,fun b hb=>?_,q⟩
 ·have e1:lo+((0:Nat):Int)*1=lo:=by simp
  have e2:(((hi - lo).toNat:Nat):Int) - ((0:Nat):Int)=YV lo hi 1:=by rw[rangeSize_one]; split<;>lia
  show IsRangeIter _ _ (lo+((0:Nat):Int)*1) ((((hi - lo).toNat:Nat):Int) - ((0:Nat):Int)) 1;rw[e1,e2];exact jG _ rfl
 ·have e:b=(s.heap.push { cls:=.type "range",data:=.fields #[.int lo t,.int hi u,.int 1 v] }).objs.size:=by simpa using hb
  subst e;exact I1.fpOk (jm _) (I1.hok.fresh (jm _))
def zwg(ta:TA):TI:=fun σ H R=>ta σ H fun vs H1=>∃ j:Int,vs=[.int j]/\-(2 ^ 62)<=j/\j < 2 ^ 62/\R (Itr 0 j.toNat) H1
def zwf(ta:TA):TI:=fun σ H R=>ta σ H fun vs H1=>∃ i j:Int,vs=[.int i,.int j]/\(-(2 ^ 62)<=i/\i < 2 ^ 62/\-(2 ^ 62)<=j/\j < 2 ^ 62)/\R (Itr i (j - i).toNat) H1
theorem zmW{a:Q4}{ta:TA}{p pos:Pos}(hg:Gl X "range")(hm:X.mg "range"=none)(ha:PA X [a] ta)(hs:jd [a] X.env=[(false,eval a X.env)]:=by rfl):PI X tg (.Call (.Name "range" p) [a] [] pos) (zwg ta):=by
 intro pc s σ H R I h;refine Call_ (zec I hg hm JB (Qj (thn (ha pos pc s σ H _ I h) fun us s1 ⟨vs,H1,I1,r1,q1⟩=>?_) hs rfl));obtain⟨j,e,q1,q2,q⟩:=q1;subst e;cases r1 with
 |cons r rr=>
  cases rr;obtain⟨t,rfl⟩:=r;exact call_range_1 (zkH I1 (by lia) (by lia) q1 q2 (by simpa using q))
theorem zmV{a b:Q4}{ta:TA}{p pos:Pos}(hg:Gl X "range")(hm:X.mg "range"=none)(ha:PA X [a,b] ta)(hs:jd [a,b] X.env=[(false,eval a X.env),(false,eval b X.env)]:=by rfl)(hs2:jd [b] X.env=[(false,eval b X.env)]:=by rfl) :
  PI X tg (.Call (.Name "range" p) [a,b] [] pos) (zwf ta):=by
 intro pc s σ H R I h;refine Call_ (zec I hg hm JB (Qj (thn (ha pos pc s σ H _ I h) fun us s1 ⟨vs,H1,I1,r1,q1⟩=>?_) (by rw[hs,hs2]) (by rw[hs2]; rfl)))
 obtain⟨i,j,e,⟨q1,q2,q3,q4⟩,q⟩:=q1;subst e;cases r1 with
 |cons r rr=>
  cases rr with
  |cons r' rr=>
   cases rr;obtain⟨t,rfl⟩:=r;obtain⟨t',rfl⟩:=r';exact call_range_2 (zkH I1 q1 q2 q3 q4 q)
def zuy(wi:TI)(g:TG)(tb:TS):TS:=fun D σ H=>wi σ H fun J H1=>∃ W:Nat->Nat->St->Hp->Prop,(∃ m,W 0 m σ H1)/\∀ i m σ H,W i m σ H->
 (J.stop i H/\D.nx σ H)∨(J.go i H/\∃ N:St->Hp->Prop,(∀ σ' H',N σ' H'->∃ m',m' < m/\W (i+1) m' σ' H')/\∀ x H',J.yld i H x H'->g x σ H' fun σ2 H2=>tb { D with nx:=N,ct:=N,bk:=D.nx } σ2 H2)
def zhi(fp:List js)(h:QL):List (js × Obj):=fp.filterMap fun b=>(h.get? b).map fun o=>(b,o)
theorem zcc{fp:List js}{h:QL}{b:js}{o:Obj}(hb:b∈fp)(e:h.get? b=some o):(b,o)∈zhi fp h:=Yq.mpr ⟨b,hb,by rw[e]; rfl⟩
theorem zn7{fp:List js}{h:QL}{p:js × Obj}(hp:p∈zhi fp h):p.1∈fp/\h.get? p.1=some p.2:=by
 obtain⟨b,hb,e⟩:=Yq.mp hp;cases q:h.get? b with
 |none=>rw[q] at e; cases e
 |some o=>
  rw[q] at e;have e':(b,o)=p:=jf e;subst e';exact⟨hb,q⟩
theorem Inv.pinned{pc:List (js × Obj)}{σ:St}{H:Hp}{s:jc}{fp:List js}(I:Inv X pc σ H s)(hf:∀ b∈fp,zjz X pc H b)(ho:∀ b∈fp,∃ o,s.heap.get? b=some o/\∀ v,o.data≠.cell v):Inv X (pc++zhi fp s.heap) σ H s:=
 I.pins_of fun p hp=>(ju.mp hp).elim (fun z=>I.pin p (jz _ z)) fun z=>by
  obtain⟨hb,e⟩:=zn7 z;obtain⟨f0,f1,f2,_⟩:=hf p.1 hb;obtain⟨o,e',d⟩:=ho p.1 hb;rw[e] at e'; cases e';exact⟨e,f0,f1,f2,d⟩
theorem Inv.unpinned{pc pl:List (js × Obj)}{σ:St}{H:Hp}{s:jc}(I:Inv X (pc++pl) σ H s):Inv X pc σ H s:=I.pins_of fun p hp=>I.pin p (jz _ (jn _ hp))
theorem ztb{iter:Q4}{body:List QR}{wi:TI}{g:TG}{tb:TS}{pos:Pos}(hp:Jk (jM X.prog X.w) X.A X.env X.xe)(hc:X.calm=true)(hi:PI X tg iter wi)(hg:PG X tg g)(hb:PSs X body tb)
  (hs:∀ x,Qu iter X.env x=pure x:=by intro _; rfl):PS X (.For tg iter body [] pos) (zuy wi g tb):=by
 intro pc s σ H D I h;refine wpAny_For (thn (hi pc s σ H _ I h) fun v s1 h1=>thn h1 fun itv s2 h2=>?_) hs;obtain⟨it,fp,tn,J,H2,e,I2,T,st2,f2,W,⟨m0,w0⟩,turn⟩:=h2;subst e
 -- what stays true of the iterator's objects through the loop
 have stat:∀ {H':Hp},(∀ b∈fp,H' b=none)->∀ b∈fp,zjz X pc H' b:=fun hn b hb=>⟨hn b hb,(f2 b hb).2⟩;refine codeAny_forLoop_any (fun n s'=>∃ i σ' H',Inv X pc σ' H' s'/\tn i s'.heap/\(∀ b∈fp,H' b=none)/\W i n σ' H') ?_ m0 ⟨0,σ,H2,I2,st2,fun b hb=>(f2 b hb).1,w0⟩;rintro n s3 ⟨i,σ3,H3,I3,st3,fr3,w3⟩;rcases turn i n σ3 H3 w3 with ⟨stop,qn⟩ |⟨go,N,hN,step⟩
 ·refine Zt hp (thn (T.done X rfl rfl rfl hc i pc s3 σ3 H3 X.xe I3 (stat fr3) st3 stop) fun r s4 h_=>?_); obtain⟨hr,I4⟩:=h_;subst hr;exact ZN ⟨σ3,H3,I4,qn⟩
 ·refine Zt hp (thn (T.item X rfl rfl rfl hc i pc s3 σ3 H3 X.xe I3 (stat fr3) st3 go) fun r s4 h_=>?_); obtain⟨u,hr,h4⟩:=h_;subst hr;refine Zt hp (thn h4 fun _ s5 h_=>?_); obtain⟨x,H5,I5,r5,y5,st5,fr5⟩:=h_;have I5':=I5.pinned (stat fr5) (T.obj _ _ st5);refine Zt hp (thn (hg _ s5 σ3 H5 x u _ I5' r5 (step x H5 y5)) fun _ s6 h_=>?_); obtain⟨σ6,H6,I6,q6⟩:=h_;refine Zt hp (thn (hb _ s6 σ6 H6 _ I6 q6) fun f s7 q7=>?_);have JY:∀ {σ7:St} {H7:Hp},Inv X (pc++zhi fp s5.heap) σ7 H7 s7->N σ7 H7->∃ m,m < n/\∃ i σ' H',Inv X pc σ' H' s7/\tn i s7.heap/\(∀ b∈fp,H' b=none)/\W i m σ' H':=fun {σ7 H7} I7 n7=>by
   obtain⟨m',hm,w7⟩:=hN σ7 H7 n7;refine⟨m',hm,i+1,σ7,H7,I7.unpinned,T.keep _ _ _ st5 fun b hb o e=>(I7.pin (b,o) (jz _ (jz _ (zcc hb e)))).1,fun b hb=>?_,w7⟩;obtain⟨o,e,d⟩:=T.obj _ _ st5 b hb;exact(I7.pin (b,o) (jz _ (jz _ (zcc hb e)))).2.1
  cases f with
  |next=>obtain⟨σ7,H7,I7,n7⟩:=q7; exact JY I7 n7
  |cont=>obtain⟨σ7,H7,I7,n7⟩:=q7; exact JY I7 n7
  |brk=>obtain⟨σ7,H7,I7,q7⟩:=q7; exact⟨σ7,H7,I7.unpinned,q7⟩
  |ret v=>obtain⟨x7,σ7,H7,I7,r7,q7⟩:=q7; exact⟨x7,σ7,H7,I7.unpinned,r7,q7⟩
end
abbrev R2:=V->V->Hp->VK->Prop
def OpR(X:Cx)(f:j8->j8->Sem j8)(r:R2):Prop:=
 ∀(pc:List (js × Obj)) (s:jc) (σ:St) (H:Hp) (x y:V) (v u:j8) (Q:VK),Inv X pc σ H s->RelV x v->RelV y u->r x y H Q->
  jI (jM X.prog X.w) X.A (f v u) (EP X pc σ Q) X.xe s
def UnR(X:Cx)(f:j8->Sem j8)(r:V->Hp->VK->Prop):Prop:=
 ∀(pc:List (js × Obj)) (s:jc) (σ:St) (H:Hp) (x:V) (v:j8) (Q:VK),Inv X pc σ H s->RelV x v->r x H Q->
  jI (jM X.prog X.w) X.A (f v) (EP X pc σ Q) X.xe s
def CallR(X:Cx)(f:j8)(r:List V->Hp->VK->Prop):Prop:=
 ∀(pc:List (js × Obj)) (s:jc) (σ:St) (H:Hp) (xs:List V) (us:List j8) (Q:VK),Inv X pc σ H s->Vals xs us->r xs H Q->
  jI (jM X.prog X.w) X.A (call f us) (EP X pc σ Q) X.xe s
def zy1(X:Cx)(r:V->Hp->(Bool->Hp->Prop)->Prop):Prop:=
 ∀(pc:List (js × Obj)) (s:jc) (σ:St) (H:Hp) (x:V) (v:j8) (Q:Bool->Hp->Prop),Inv X pc σ H s->RelV x v->r x H Q->
  jI (jM X.prog X.w) X.A (truthy v) (TP X pc σ Q) X.xe s
def tOp(r:R2)(ta tb:TE):TE:=fun σ H Q=>ta σ H fun x H1=>tb σ H1 fun y H2=>r x y H2 Q
def tUn(r:V->Hp->VK->Prop)(ta:TE):TE:=fun σ H Q=>ta σ H fun x H1=>r x H1 Q
def rI(C:Int->Int->Prop)(g:Int->Int->V):R2:=fun x y H Q=>∃ i j,x=.int i/\y=.int j/\C i j/\Q (g i j) H
def rI0(g:Int->Int->V):R2:=fun x y H Q=>∃ i j,x=.int i/\y=.int j/\Q (g i j) H
def rU(g:Int->V):V->Hp->VK->Prop:=fun x H Q=>∃ i,x=.int i/\Q (g i) H
section
variable {a c:Q4}{tc:TE}
theorem zwy(ha:PE X a ta)(hb:PE X b tb){pc:List (js × Obj)}{s:jc}{σ:St}{H:Hp}{R:V->V->Hp->Prop}(I:Inv X pc σ H s)
  (h:ta σ H fun x H1=>tb σ H1 fun y H2=>R x y H2) {Q:j8->jc->Prop} {f:j8->j8->Sem j8}
  (hf:∀ v u s2 x y H2,Inv X pc σ H2 s2->RelV x v->RelV y u->R x y H2->jI (jM X.prog X.w) X.A (f v u) Q X.xe s2) :
  jI (jM X.prog X.w) X.A (eval a X.env) (fun v s₁=>jI (jM X.prog X.w) X.A (eval b X.env) (fun u s₂=>jI (jM X.prog X.w) X.A (f v u) Q X.xe s₂) X.xe s₁) X.xe s:=by
 refine thn (ha pc s σ H _ I h) fun v s1 h_=>?_; obtain⟨x,H1,I1,r1,q1⟩:=h_;refine thn (hb pc s1 σ H1 _ I1 q1) fun u s2 h_=>?_; obtain⟨y,H2,I2,r2,q2⟩:=h_;exact hf v u s2 x y H2 I2 r1 r2 q2
theorem zh2{op:JK}{r:R2}(ho:OpR X (gz op) r)(ha:PE X a ta)(hb:PE X b tb):PE X (.BinOp a op b pos) (tOp r ta tb):=by
 intro pc s σ H Q I h;exact wpAny_BinOp (zwy ha hb I h fun v u s2 x y H2 I2 rx ry q=>ho pc s2 σ H2 x y v u Q I2 rx ry q)
theorem zvU{op:UnaryOp}{r:V->Hp->VK->Prop}(ho:UnR X (unaryOp op) r)(ha:PE X a ta):PE X (.UnaryOp op a pos) (tUn r ta):=by
 intro pc s σ H Q I h;exact UnaryOp_ (thn (ha pc s σ H _ I h) fun v s1 ⟨x,H1,I1,r1,q1⟩=>ho pc s1 σ H1 x v Q I1 r1 q1)
theorem opI{f:j8->j8->Sem j8}{C:Int->Int->Prop}{g:Int->Int->Int}
  (rule:∀(i j:Int) (t u:Tok) (s:jc) (Q:j8->jc->Prop) (E:j8->jc->Prop),C i j->Q (.int (g i j) s.toks) { s with toks:=s.toks+1 }->jI (jM X.prog X.w) X.A (f (.int i t) (.int j u)) Q E s) :
  OpR X f (rI C fun i j=>.int (g i j)):=by
 intro pc s σ H x y v u Q I rx ry h;obtain⟨i,j,rfl,rfl,hc,q⟩:=h;obtain⟨t,rfl⟩:=rx;obtain⟨t',rfl⟩:=ry;exact rule i j t t' s _ _ hc ⟨.int (g i j),H,I.tok _,⟨_,rfl⟩,q⟩
theorem zwZ{f:j8->j8->Sem j8}{g:Int->Int->Int}
  (rule:∀(i j:Int) (t u:Tok) (s:jc) (Q:j8->jc->Prop) (E:j8->jc->Prop),Q (.int (g i j) s.toks) { s with toks:=s.toks+1 }->jI (jM X.prog X.w) X.A (f (.int i t) (.int j u)) Q E s) :
  OpR X f (rI0 fun i j=>.int (g i j)):=by
 intro pc s σ H x y v u Q I rx ry h;obtain⟨i,j,rfl,rfl,q⟩:=h;obtain⟨t,rfl⟩:=rx;obtain⟨t',rfl⟩:=ry;exact rule i j t t' s _ _ ⟨.int (g i j),H,I.tok _,⟨_,rfl⟩,q⟩
theorem zw1{f:j8->j8->Sem j8}{g:Int->Int->Bool}
  (rule:∀(i j:Int) (t u:Tok) (s:jc) (Q:j8->jc->Prop) (E:j8->jc->Prop),Q (.bool (g i j)) s->jI (jM X.prog X.w) X.A (f (.int i t) (.int j u)) Q E s) :
  OpR X f (rI0 fun i j=>.bl (g i j)):=by
 intro pc s σ H x y v u Q I rx ry h;obtain⟨i,j,rfl,rfl,q⟩:=h;obtain⟨t,rfl⟩:=rx;obtain⟨t',rfl⟩:=ry;exact rule i j t t' s _ _ ⟨.bl (g i j),H,I,rfl,q⟩
def zy8(i j:Int):Prop:=0 < j/\j < 1073741824
def zy7(i j:Int):Prop:=0<=j/\j<=1000000/\i.natAbs < 2 ^ 64
def CMul(i j:Int):Prop:=(-(2 ^ 64) < i/\i < 2 ^ 64)∨(-(2 ^ 64) < j/\j < 2 ^ 64)
theorem CMul.ok{i j:Int}(h:CMul i j):IntMulOk i j:=by
 rcases h with ⟨h1,h2⟩ |⟨h1,h2⟩
 ·exact .of_left (intBits_le_64 h1 h2)
 ·exact .of_right (intBits_le_64 h1 h2)
theorem op_add:OpR X (gz .Add) (rI0 fun i j=>.int (i+j)):=zwZ fun _ _ _ _ _ _ _ q=>add_int q
theorem zts:OpR X (gz .Sub) (rI0 fun i j=>.int (i - j)):=zwZ fun _ _ _ _ _ _ _ q=>sub_int q
theorem ztu:OpR X (gz .Mult) (rI CMul fun i j=>.int (i*j)):=opI fun _ _ _ _ _ _ _ hc q=>mul_int q hc.ok
theorem zqY:OpR X (gz .FloorDiv) (rI zy8 fun i j=>.int (i / j)):=opI fun i j _ _ _ _ _ hc q=>by
 have h1:(0:Int) < j:=hc.1;have h2:j < 1073741824:=hc.2;exact floordiv_int (by lia) (by rw[Int.fdiv_eq_ediv_of_nonneg i (by lia)]; exact q) (.inl (PyProof.noPylong_small (by lia)))
theorem ztv:OpR X (gz .Mod) (rI (fun _ j=>0 < j) fun i j=>.int (i%j)):=opI fun i j _ _ _ _ _ hc q=>by
 have h1:(0:Int) < j:=hc;exact mod_int' (by lia) (by rw[Int.fmod_eq_emod_of_nonneg i (by lia)]; exact q)
theorem ztt:OpR X (gz .Pow) (rI zy7 fun i j=>.int (i ^ j.toNat)):=opI fun _ _ _ _ _ _ _ hc q=>pow_int_small hc.1 hc.2.1 hc.2.2 q
theorem unI{f:j8->Sem j8}{g:Int->Int}
  (rule:∀(i:Int) (t:Tok) (s:jc) (Q:j8->jc->Prop) (E:j8->jc->Prop),Q (.int (g i) s.toks) { s with toks:=s.toks+1 }->jI (jM X.prog X.w) X.A (f (.int i t)) Q E s) :
  UnR X f (rU fun i=>.int (g i)):=by
 intro pc s σ H x v Q I rx h;obtain⟨i,rfl,q⟩:=h;obtain⟨t,rfl⟩:=rx;exact rule i t s _ _ ⟨.int (g i),H,I.tok _,⟨_,rfl⟩,q⟩
theorem zsn:UnR X (unaryOp .USub) (rU fun i=>.int (-i)):=unI fun _ _ _ _ _ q=>neg_int q
end
section
variable {a c:Q4}{tc:TE}
theorem zny{pc:List (js × Obj)}{σ:St}{H:Hp}{s:jc}{Q:VK}{k k':Bool}(I:Inv X pc σ H s)(q:Q (.bl k) H)(e:k=k'):EP X pc σ Q (.bool k') s:=by
 subst e;exact⟨.bl k,H,I,rfl,q⟩
theorem op_lt:OpR X (Zb .Lt) (rI0 fun i j=>.bl (decide (i < j))):=zw1 fun _ _ _ _ _ _ _ q=>lt_int q
theorem zvZ:OpR X (Zb .Gt) (rI0 fun i j=>.bl (decide (j < i))):=zw1 fun _ _ _ _ _ _ _ q=>gt_int q
theorem zw0:OpR X (Zb .GtE) (rI0 fun i j=>.bl (decide (j<=i))):=zw1 fun _ _ _ _ _ _ _ q=>ge_int q
theorem zn1:OpR X (Zb .Lt) (fun x y H Q=>∃ i j,x=.str i/\y=.str j/\Q (.bl (decide (i.cps.toList < j.cps.toList))) H):=by
 intro pc s σ H x y v u Q I rx ry h;obtain⟨i,j,rfl,rfl,q⟩:=h;obtain⟨t,rfl⟩:=rx;obtain⟨t',rfl⟩:=ry;exact lt_str (zny I q rfl)
theorem ztw:OpR X (Zb .Is) (fun x y H Q=>y=.non/\Q (.bl (decide (x=.non))) H):=by
 intro pc s σ H x y v u Q I rx ry h;obtain⟨rfl,q⟩:=h;cases ry;refine is_none_gen (zny I q ?_);cases x<;>first
  |(cases rx; rfl)
  |(obtain⟨t,rfl⟩:=rx; rfl)
theorem zqV:OpR X (Zb .IsNot) (fun x y H Q=>y=.non/\Q (.bl (!decide (x=.non))) H):=by
 intro pc s σ H x y v u Q I rx ry h;obtain⟨rfl,q⟩:=h;cases ry;refine isnot_none_gen (zny I q ?_);cases x<;>first
  |(cases rx; rfl)
  |(obtain⟨t,rfl⟩:=rx; rfl)
theorem OpR.or{f:j8->j8->Sem j8}{r r':R2}(h:OpR X f r)(h':OpR X f r'):OpR X f (fun x y H Q=>r x y H Q∨r' x y H Q):=by
 intro pc s σ H x y v u Q I rx ry q;rcases q with q |q
 ·exact h pc s σ H x y v u Q I rx ry q
 ·exact h' pc s σ H x y v u Q I rx ry q
theorem zeb(b:Q4){op:CmpOp}(h:op≠.In:=by decide)(h2:op≠.NotIn:=by decide):Qy op b=false:=by
 have e1:(op == CmpOp.In)=false:=by cases op<;>first |rfl |exact absurd rfl h
 have e2:(op == CmpOp.NotIn)=false:=by cases op<;>first |rfl |exact absurd rfl h2
 cases b<;>simp[Qy,e1,e2]
theorem zhV{op:CmpOp}{r:R2}(ho:OpR X (Zb op) r)(ha:PE X a ta)(hb:PE X b tb)(hm:Qy op b=false):PE X (.Compare a [op] [b] pos) (tOp r ta tb):=by
 intro pc s σ H Q I h;exact wpAny_Compare1 (zwy ha hb I h fun v u s2 x y H2 I2 rx ry q=>ho pc s2 σ H2 x y v u Q I2 rx ry q) hm
def zsr(t:TE):TT:=fun σ H Q=>t σ H fun x H'=>∃ k,x=.bl k/\Q k H'
theorem zd4{op:CmpOp}{r:R2}(ho:OpR X (Zb op) r)(ha:PE X a ta)(hb:PE X b tb)(hm:Qy op b=false):PT X (.Compare a [op] [b] pos) (zsr (tOp r ta tb)):=by
 intro pc s σ H Q I h
 refine No (thn (ha pc s σ H _ I h) fun v s1 ⟨x,H1,I1,r1,q1⟩=>thn (hb pc s1 σ H1 _ I1 q1) fun u s2 ⟨y,H2,I2,r2,q2⟩=>
  thn (ho pc s2 σ H2 x y v u _ I2 r1 r2 q2) fun c s3 ⟨z,H3,I3,r3,k,e,q3⟩=>?_) hm
 subst e;cases r3;exact Zs ⟨H3,I3,q3⟩
def zwA(K:jb)(x:V)(H:Hp)(k:Bool):Prop:=
 match x with
 |.non=>k=false
 |.bl b=>k=b
 |.int i=>k=(i != 0)
 |.str y=>y.length<=jr/\k=((y.length:Int) != 0)
 |.byt y=>y.size<=jr/\k=((y.size:Int) != 0)
 |.ref p=>(∃ xs,SqL K H p xs/\k=!xs.isEmpty)∨(∃ xs,SqT K H p xs/\k=!xs.isEmpty)∨∃ kvs,H p=some (.dK kvs)/\k=!kvs.isEmpty
 |_=>False
theorem zlN{κ:Type}{kvs:List (κ × V)}{vs:List (κ × j8)}(r:KV kvs vs):(!vs.isEmpty)=!kvs.isEmpty:=by
 cases r<;>rfl
theorem zhm{xs:List V}{its:List j8}(r:Vals xs its):(!its.toArray.isEmpty)=!xs.isEmpty:=by
 cases r<;>simp
theorem zfB:(jr:Nat) < 2 ^ 63:=by rw[ZQ]; decide
theorem zsp:zy1 X (fun x H Q=>∃ k,zwA X.K x H k/\Q k H):=by
 intro pc s σ H x v Q I rx h;obtain⟨k,e,q⟩:=h;have hl:=zfB;have hs:jr=16777216:=ZQ;cases x with
 |non=>
  cases rx;have e':k=false:=e;subst e';exact truthy_none ⟨H,I,q⟩
 |bl b=>
  cases rx;have e':k=b:=e;subst e';exact Zs ⟨H,I,q⟩
 |int i=>
  obtain⟨t,rfl⟩:=rx;have e':k=(i != 0):=e;subst e';exact PySem.P.truthy_int ⟨H,I,q⟩
 |str y=>
  obtain⟨t,rfl⟩:=rx;obtain⟨hy,e'⟩:y.length<=jr/\k=((y.length:Int) != 0):=e;subst e';exact PySem.P.truthy_str (by lia) ⟨H,I.tok _,q⟩
 |byt y=>
  obtain⟨t,rfl⟩:=rx;obtain⟨hy,e'⟩:y.size<=jr/\k=((y.size:Int) != 0):=e;subst e';exact PySem.W.truthy_bytes (by lia) ⟨H,I.tok _,q⟩
 |ref p=>
  cases rx;have e':(∃ xs,SqL X.K H p xs/\k=!xs.isEmpty)∨(∃ xs,SqT X.K H p xs/\k=!xs.isEmpty)∨∃ kvs,H p=some (.dK kvs)/\k=!kvs.isEmpty:=e;rcases e' with ⟨xs,hx,e'⟩ |⟨xs,hx,e'⟩ |⟨kvs,hx,e'⟩
  ·subst e';obtain⟨its,r,pl,hz⟩:=I.list hx;have hlen:=r.length;exact wpAny_truthy_list pl.isList (by simp only[jh]; lia) ⟨H,I.tok _,by rw[zhm r]; exact q⟩
  ·subst e';obtain⟨its,r,pl,hz⟩:=I.tuple hx;have hlen:=r.length;exact truthy_tuple pl (by simp only[jh]; lia) ⟨H,I.tok _,by rw[zhm r]; exact q⟩
  ·subst e';obtain⟨hz,hS,vs,r,m⟩:kvs.length<=jr/\(p == ZJ)=false/\∃ vs,KV kvs vs/\s.heap.DictOf (zb6 X.prog X.w) p vs:=I.hok p _ hx;have hlen:kvs.length=vs.length:=YT r;exact wpAny_truthy_dict hS m (by lia) ⟨H,I.tok _,by rw[zlN r]; exact q⟩
 |_=>exact(show False from e).elim
theorem zor(ha:PE X a ta)(he:∀ whole,JA a X.env whole=(do let v <-whole; standAt a.pos; Y1 [v] (truthy v))) :
  PT X a (fun σ H Q=>ta σ H fun x H'=>∃ k,zwA X.K x H' k/\Q k H'):=by
 intro pc s σ H Q I h;exact isTrue_plain (thn (ha pc s σ H _ I h) fun v s1 ⟨x,H1,I1,r1,q1⟩=>zsp pc s1 σ H1 x v Q I1 r1 q1) (he _)
theorem zlC:OpR X (gz .Add) (fun x y H Q=>∃ i j,x=.str i/\y=.str j/\i.length+j.length<=jr/\Q (.str (i++j)) H):=by
 intro pc s σ H x y v u Q I rx ry h;obtain⟨i,j,rfl,rfl,hz,q⟩:=h;obtain⟨t,rfl⟩:=rx;obtain⟨t',rfl⟩:=ry;exact add_str (fun t' tk=>⟨.str (i++j),H,I.tok _,⟨_,rfl⟩,q⟩) hz
theorem zm9{x:V}{us:List j8}(r:Vals [x] us):∃ u,us=[u]/\RelV x u:=by
 cases r with
 |cons r1 r2=>cases r2; exact⟨_,rfl,r1⟩
theorem zva{x y:V}{us:List j8}(r:Vals [x,y] us):∃ u w',us=[u,w']/\RelV x u/\RelV y w':=by
 cases r with
 |cons r1 r2=>
  cases r2 with
  |cons r3 r4=>cases r4; exact⟨_,_,rfl,r1,r3⟩
end
structure ObjM (h:QL) (x dx C:js) (mA:Str->Option j8):Prop where
 obj:h.get? x=some (Nn C dx)
 ns:h.Ns1 dx mA
 ne:dx≠x
theorem znf{h:QL}{dx:js}{mA:Str->Option j8}(n:h.Ns1 dx mA):∃ od,h.get? dx=some od/\∀ name,NW name od=some (mA name):=by
 obtain⟨o,es,ep,ho,hd,hk,_,hm⟩:=n;refine⟨o,ho,fun name=>?_⟩;have e:=hm name;unfold nsFind findBy at e;rw[<-Wd] at e;unfold NW;rw[hd];dsimp only;split
 ·rename_i y q;rw[q] at e;exact congrArg some e
 ·rename_i q;rw[q] at e;have a:es.toList.any (·.refKey)=false:=by
   rw[List.any_eq_false];intro y hy;obtain⟨z,t,hkey⟩:=hk y (Array.mem_toList_iff.mp hy);simp[DictEntry.refKey,hkey]
  have a':¬ es.toList.any (·.refKey)=true:=by rw[a]; exact jJ
  rw[In_ a'];exact congrArg some e
theorem ObjM.look{h:QL}{x dx C:js}{mA:Str->Option j8}(I:ObjM h x dx C mA):∃ od,PySem.W.InstAt h x (Nn C dx) C (some od)/\∀ name,NW name od=some (mA name):=
 let ⟨od,ho,hl⟩:=znf I.ns
 ⟨od,⟨I.obj,rfl,rfl,ho⟩,hl⟩
theorem RelO.some_of{v:V}{o:Option j8}(r:RelO (some v) o):∃ u,o=some u/\RelV v u:=by
 cases o with
 |none=>exact(show False from r).elim
 |some u=>exact⟨u,rfl,r⟩
section
variable {C dx:js}{fs fs':List (Str × V)}
theorem zrc(hok:HOk P w H h)(e:H a=some (.ins C dx fs)):∃ mA,ObjM h a dx C mA/\(∀ f,RelO (fs.lookup f) (mA f))/\JW mA (fs.map (·.1))/\fs.length<=1000/\H dx=some (.own a):=by
 obtain⟨d,z,ne,ob,mA,n,r,q⟩:=(show ObjOk P w H h a (.ins C dx fs) from hok a _ e);exact⟨mA,⟨ob,n,ne⟩,r,q,z,d⟩
end
structure Cls (K:jb) (C:js):Prop where
 pg:J4 K C jB=true
 hd:PySem.W.hasDictIn K C=true
 po:PySem.W.plainOver K C=true
 sa:Yz K (.ref C) "__setattr__"=some (some (.builtin "object.__setattr__"))
theorem Cls.get{K:jb}{C:js}(c:Cls K C)(f:Str):J4 K C f=true:=c.pg
section
variable {A:Qg}{E:j8->jc->Prop}{Q:j8->jc->Prop}{c:j8}{b:Bool}
inductive TyOf (K:jb) (H:Hp):V->j8->Prop where
 |non:TyOf K H .non (.type "NoneType")
 |bl (x:Bool):TyOf K H (.bl x) (.type "bool")
 |int (i:Int):TyOf K H (.int i) (.type "int")
 |str (x:Str):TyOf K H (.str x) (.type "str")
 |flt (x:UInt64):TyOf K H (.flt x) (.type "float")
 |lst {a:js} {xs:List V} (e:H a=some (.lst xs)):TyOf K H (.ref a) (.type "list")
 |frz {a:js} {o:Obj} {xs:List V} (e:H a=some (.frz o (.lst xs))):TyOf K H (.ref a) (.type "list")
 |tup {a:js} {xs:List V} (e:H a=some (.tup xs)):TyOf K H (.ref a) (.type "tuple")
 |dK {a:js} {kvs:List (Key × V)} (e:H a=some (.dK kvs)):TyOf K H (.ref a) (.type "dict")
 |dT {a:js} {kvs:List (List Key × V)} (e:H a=some (.dT kvs)):TyOf K H (.ref a) (.type "dict")
 |ins {a C dx:js} {fs:List (Str × V)} (e:H a=some (.ins C dx fs)) (cl:Cls K C) (ha:Yz K (.ref C) "__class__"=some (some (.builtin "object.__class__")))
   (hn:PySem.W.specialIn K (.builtin "object.__class__") "__get__"=some (some (.builtin "getset_descriptor.__get__"))) (htk:PySem.W.takesIn K (.builtin "object.__class__")=some true)
   (hm:PySem.W.mroIn K C (.type "object")=some true):TyOf K H (.ref a) (.ref C)
theorem znl{x:V}{u t:j8}(I:Inv X pc σ H s)(rx:RelV x u)(ty:TyOf X.K H x t)(e:NX X.K t c=some b)(h:∀ tk,Q (.bool b) { s with toks:=tk }) :
  jI (jM X.prog X.w) A (call (.builtin "isinstance") [u,c]) Q E s:=by
 cases ty with
 |non=>cases (show u=YD from rx); exact Qw PySem.W.kitx_none I.kIn ZK e (fun z=>nomatch z) h
 |bl y=>cases (show u=Jx y from rx); exact Qw PySem.W.kitx_bool I.kIn ZK e (fun z=>nomatch z) h
 |int i=>obtain⟨t,q⟩:=(show ∃ t,u=Jh i t from rx); cases q; exact Qw PySem.W.kitx_int I.kIn ZK e (fun z=>nomatch z) h
 |str y=>obtain⟨t,q⟩:=(show ∃ t,u=ZG y t from rx); cases q; exact Qw PySem.W.kitx_str I.kIn ZK e (fun z=>nomatch z) h
 |flt y=>obtain⟨t,q⟩:=(show ∃ t,u=U4 y t from rx); cases q; exact Qw PySem.W.kitx_float I.kIn ZK e (fun z=>nomatch z) h
 |@lst a xs ea=>
  cases (show u=Qh a from rx);obtain⟨_,_,n,_,h1⟩:=(show ObjOk X.prog X.w H s.heap a (.lst xs) from I.hok a _ ea);exact Qw WA I.kIn ⟨_,h1,rfl⟩ e (fun z=>nomatch z) h
 |@frz a ob xs ea=>
  cases (show u=Qh a from rx);obtain⟨_,_,_,n,_,h1⟩:=(show ObjOk X.prog X.w H s.heap a (.frz ob (.lst xs)) from I.hok a _ ea);exact Qw WA I.kIn ⟨_,h1,rfl⟩ e (fun z=>nomatch z) h
 |@tup a xs ea=>
  cases (show u=Qh a from rx);obtain⟨_,_,_,p⟩:=(show ObjOk X.prog X.w H s.heap a (.tup xs) from I.hok a _ ea);obtain⟨o,h1,h2,_⟩:=p;exact Qw PySem.W.kitx_tuple I.kIn ⟨o,h1,h2⟩ e (fun z=>nomatch z) h
 |@dK a kvs ea=>
  cases (show u=Qh a from rx);obtain⟨_,_,vs,_,p⟩:=(show ObjOk X.prog X.w H s.heap a (.dK kvs) from I.hok a _ ea);obtain⟨o,es,ep,h1,h2,_⟩:=p;exact Qw WB I.kIn ⟨o,h1,h2.1⟩ e (fun z=>nomatch z) h
 |@dT a kvs ea=>
  cases (show u=Qh a from rx);obtain⟨_,_,xs,_,o,es,ep,h1,h2,_⟩:=(show ObjOk X.prog X.w H s.heap a (.dT kvs) from I.hok a _ ea);exact Qw WB I.kIn ⟨o,h1,h2.1⟩ e (fun z=>nomatch z) h
 |@ins a C dx fs ea cl ha hn htk hm=>
  cases (show u=Qh a from rx);obtain⟨mA,O,_⟩:=zrc I.hok ea;obtain⟨od,J,_⟩:=O.look;exact Qw (PySem.W.kitx_own (cl.get _) cl.hd ha hn htk hm) I.kIn J e (fun z=>nomatch z) h
end
structure Room (k:Nat) (A:Qg):Prop where
 hd:A.handled=none
 dp:A.depth+3*k+5 < NY
 un:A.units+16*k+200 < gG
theorem Room.mono{j k:Nat}{A:Qg}(r:Room k A)(h:j<=k):Room j A:=⟨r.hd,by have:=r.dp; lia,by have:=r.un; lia⟩
theorem Room.deeper{k:Nat}{A:Qg}(r:Room (k+1) A)(env:Env):Room k (A.deeper env):=
 ⟨r.hd,by have:=r.dp; show A.depth+1+3*k+5 < _; lia,by have:=r.un; show A.units+3+16*k+200 < _; lia⟩
theorem zlI{A:Qg}{C:js}{us:List j8}{kw:List (Str × j8)}:(A.under (.builtin "type.__call__" ⟨.ref C::us,kw⟩)).depth=A.depth+1:=by
 first |rfl |simp[Around.under,Code.weight,Code.isCreation,Code.isGuard,Code.isCaller,Code.frames,Code.isFrame,guardIds]
theorem Room.depth{k:Nat}{A:Qg}(r:Room k A):A.depth < NY:=by have:=r.dp; lia
theorem Room.units{k:Nat}{A:Qg}(r:Room k A):A.units+64 < gG:=by have:=r.un; lia
def zod:TA:=fun _ H Q=>Q [] H
def zey(ta:TE)(tr:TA):TA:=fun σ H Q=>ta σ H fun x H1=>tr σ H1 fun xs H2=>Q (x::xs) H2
section
variable {te:TE}
theorem zcT:PA X [] zod:=fun _ _ _ _ H Q I h=>WC ⟨[],H,I,.nil,h⟩
theorem zaL(ha:PE X e te)(hr:PA X es t)(hs:jd (e::es) X.env=(false,eval e X.env)::jd es X.env:=by rfl):PA X (e::es) (zey te t):=by
 intro pos pc s σ H Q I h;rw[hs];show jI _ _ (spliced ((false,eval e X.env)::QF pos (jd es X.env))) _ _ s;refine We (thn (ha pc s σ H _ I h) fun u s1 h_=>?_); obtain⟨x,H1,I1,r1,q1⟩:=h_;exact thn (hr pos pc s1 σ H1 _ I1 q1) fun us s2 ⟨xs,H2,I2,r2,q2⟩=>⟨x::xs,H2,I2,.cons r1 r2,q2⟩
def zxC(t:TA):TE:=fun σ H Q=>t σ H fun xs H1=>xs.length<=jr/\∀ p,H1 p=none->Q (.ref p) (upd H1 p (.tup xs))
def zxF(t:TA):TE:=fun σ H Q=>t σ H fun xs H1=>xs.length<=jr/\∀ p,H1 p=none->Q (.ref p) (upd H1 p (.lst xs))
theorem zti{x1}(h:PA X es t):PE X (.Tuple es x1 pos) (zxC t):=by
 intro pc s σ H Q I hq;refine wpAny_Tuple_spliced (thn (h pos pc s σ H _ I hq) fun us s1 ⟨xs,H1,I1,r,z,q⟩=>⟨by rw[<-r.length]; exact z,?_⟩)
 have hf:H1 s1.heap.objs.size=none:=I1.hok.fresh (jm _);refine⟨.ref s1.heap.objs.size,upd H1 s1.heap.objs.size (.tup xs),I1.laid (t':=s1.toks) (fun b u e=>ja _ e) (jm _) ?_,rfl,q _ hf⟩;exact⟨z,us,r,⟨_,jG _ rfl,rfl,_,rfl⟩⟩
theorem ztn(h:PA X es t):PE X (.List es pos) (zxF t):=by
 intro pc s σ H Q I hq;refine wpAny_List_spliced (thn (h pos pc s σ H _ I hq) fun us s1 ⟨xs,H1,I1,r,z,q⟩=>⟨by rw[<-r.length]; exact z,?_⟩)
 have hf:H1 s1.heap.objs.size=none:=I1.hok.fresh (jm _);refine⟨.ref s1.heap.objs.size,upd H1 s1.heap.objs.size (.lst xs),I1.laid (t':=s1.toks) (fun b u e=>ja _ e) (jm _) ?_,rfl,q _ hf⟩;exact⟨z,us,0,r,jG _ rfl⟩
end
abbrev Sp:=List V->Hp->VK->XK->Prop
abbrev CXT:=List Env->Hp->jc->XK->j8->jc->Prop
structure Env0 (P:jH) (w:Qf) (K:jb) (mg:Str->Option j8) (base:QL) (A:Qg) (outer:List Env) (s:jc) (H:Hp):Prop where
 frames:A.frames=some outer
 mod:Mod K mg base
 bs:∀ b o,base.get? b=some o->s.heap.get? b=some o/\H b=none
 bsz:base.objs.size<=s.heap.objs.size
 funs:s.heap.FunFrames base outer
 frf:∀ b∈frs outer,H b=none
 hok:HOk P w H s.heap
 bare:YU s.gens
def CE(outer:List Env)(P:jH)(w:Qf)(H:Hp)(s:jc)(Q:VK)(u:j8)(s':jc):Prop:=
 ∃ v H',s'.os=s.os/\YU s'.gens/\Un (frs outer) [] H H' s.heap s'.heap/\HOk P w H' s'.heap/\RelV v u/\Q v H'
def CR(CX:CXT)(outer:List Env)(P:jH)(w:Qf)(H:Hp)(s:jc)(Q:VK)(E:XK)(r:JC)(s':jc):Prop:=
 match r with
 |.ok (.ret u)=>CE outer P w H s Q u s'
 |.ok _=>False
 |.error e=>CX outer H s E e s'
structure FnOk (P:jH) (w:Qf) (K:jb) (mg:Str->Option j8) (base:QL) (CX:CXT) (k:Nat) (f:js) (fd:Z5) (ps:List Str) (sp:Sp):Prop where
 len:∀ vs H Q E,sp vs H Q E->vs.length=ps.length
 run:∀(A:Qg) (outer:List Env) (s:jc) (H:Hp) (args:Args) (us:List j8) (vs:List V) (Q:VK) (E:XK),Room k A->Env0 P w K mg base A outer s H->W2 s fd args (ps.zip us)->Vals vs us->sp vs H Q E->
  Yc (jM P w) A (.call (.ref f) args) (CR CX outer P w H s Q E) s
theorem FnOk.mono{P:jH}{w:Qf}{K:jb}{mg:Str->Option j8}{base:QL}{CX:CXT}{j k:Nat}{f:js}{fd:Z5}{ps:List Str}{sp:Sp}(F:FnOk P w K mg base CX j f fd ps sp)(h:j<=k) :
  FnOk P w K mg base CX k f fd ps sp:=⟨F.len,fun A outer s H args us vs Q E hr=>F.run A outer s H args us vs Q E (hr.mono h)⟩
section
variable {s':jc}
theorem Inv.env0(I:Inv X pc σ H s):Env0 X.prog X.w X.K X.mg X.base X.A X.stack s H:=
 ⟨I.ok.frames,I.ok.mod,I.bs,Qc I.ok.bsz I.sz,I.stack,I.stkFree,I.hok,I.bare⟩
theorem Inv.after{Q:VK}{u:j8}(I:Inv X pc σ H s)(h:CE X.stack X.prog X.w H s Q u s'):EP X pc σ Q u s':=by
 obtain⟨v,H',os,bare,un,hok,r,q⟩:=h;obtain⟨hh,g,d,t,os'⟩:=s';obtain rfl:os'=s.os:=os;exact⟨v,H',I.call (h':=hh) (g':=g) (d':=d) (t':=t) (ch:=[]) un hok bare (fun b z=>absurd z (by simp)),r,q⟩
end
def zjI(sp:Sp)(dvs:List V)(E:XK)(t:TA):TE:=fun σ H Q=>t σ H fun vs H1=>sp (vs++dvs) H1 Q E
def Binds(K:jb)(fd:Z5)(ps:List Str)(ds:List j8):Prop:=
 ∀(s:jc) (us:List j8),K.In s.heap->(us++ds).length=ps.length->W2 s fd ⟨us,[]⟩ (ps.zip (us++ds))
theorem Binds.all{K:jb}{fd:Z5}{ps:List Str}(h:∀ us:List j8,us.length=ps.length->Ya fd ⟨us,[]⟩=pure (ps.zip us)):Binds K fd ps []:=fun s us _ hl=>by
 rw[Qt] at hl ⊢;exact .of_eq (h us hl)
def zfD(CX:CXT)(X:Cx)(E:XK):Prop:=∀(pc:List (js × Obj)) (σ:St) (H:Hp) (s:jc) (e:j8) (s':jc),Inv X pc σ H s->CX X.stack H s E e s'->X.xe e s'
section
variable {CX:CXT}{k:Nat}{f C:js}{fd:Z5}{ps:List Str}{sp:Sp}{dvs:List V}{ds:List j8}{E:XK}{x m:Str}{p apos:Pos}{o:Q4}
theorem zsM{pc:List (js × Obj)}{σ:St}{H:Hp}{s:jc}{Q:VK}{us:List j8}{vs:List V}(F:FnOk X.prog X.w X.K X.mg X.base CX k f fd ps sp)(hr:Room k X.A)(hb:Binds X.K fd ps ds)(hd:Vals dvs ds)(hx:zfD CX X E)
  (I:Inv X pc σ H s) (r:Vals vs us) (h:sp (vs++dvs) H Q E):jI (jM X.prog X.w) X.A (call (.ref f) us) (EP X pc σ Q) X.xe s:=by
 have r2:Vals (vs++dvs) (us++ds):=r.append hd;have hl:(us++ds).length=ps.length:=by rw[<-r2.length]; exact F.len _ _ _ _ h
 refine WD (Yr (F.run X.A X.stack s H ⟨us,[]⟩ (us++ds) (vs++dvs) Q E hr I.env0 (hb s us I.kIn hl) r2 h) fun r s' hq=>?_);cases r with
 |error e=>exact hx pc σ H s e s' I hq
 |ok fl=>
  cases fl with
  |ret u=>exact I.after hq
  |next=>exact Zf hq
  |brk=>exact Zf hq
  |cont=>exact Zf hq
theorem zel(F:FnOk X.prog X.w X.K X.mg X.base CX k f fd ps sp)(hr:Room k X.A)(hg:Gl X x)(hm:X.mg x=some (.ref f))(hk:Q2 X.K (.ref f)=true)(hb:Binds X.K fd ps ds)(hd:Vals dvs ds)(hx:zfD CX X E)
  (ha:PA X (e::es) t) (hdb:(x == ("__debug__":Str))=false:=by decide) (he:jd (e::es) X.env=(false,eval e X.env)::jd es X.env:=by rfl) (hpl:(QF pos (jd es X.env)).any (·.1)=false:=by rfl) :
  PE X (.Call (.Name x p) (e::es) [] pos) (zjI sp dvs E t):=by
 intro pc s σ H Q I h;refine gA (zk9 I hg hm ?_ hdb);refine PySem.W.callWith_K (h₀:=X.base) I.ok.mod.kin hk (thn (ha pos pc s σ H _ I h) fun us s1 ⟨vs,H1,I1,r,q⟩=>⟨I1.kIn,?_⟩) he hpl;exact zsM F hr hb hd hx I1 r q
end
structure FnScope (N P:List Str) (sc:gN):Prop where
 kind:sc.kind=.function
 co:sc.isCoroutine=false
 gen:sc.isGenerator=false
 nd:N.Nodup
 pre:N.take P.length=P
 par:∀ x∈P,sc.names.lookup x=some .local∨sc.names.lookup x=some .cell
 nofree:∀ y∈sc.names,y.2≠.free
theorem zju{kindOf:Str->Option YW}{x:Str}:∀ {binds:List (Str × j8)} {m:Str->Option j8},(∀ v,(x,v)∉binds)->U7 kindOf binds m x=m x
 |[],_,_=>rfl
 |(n,v)::r,m,h=>by
  unfold U7;rw[zju fun w hw=>h w (jw _ hw)];split
  ·have:x≠n:=by rintro rfl; exact h v jT
   simp[this]
  ·rfl
theorem zjv{kindOf:Str->Option YW}{x:Str}:∀ {binds:List (Str × j8)} {m:Str->Option j8},(∀ v,(x,v)∉binds)->U8 kindOf binds m x=m x
 |[],_,_=>rfl
 |(n,v)::r,m,h=>by
  unfold U8;rw[zjv fun w hw=>h w (jw _ hw)];split
  ·rfl
  ·have:x≠n:=by rintro rfl; exact h v jT
   simp[this]
theorem zeV{kindOf:Str->Option YW}{x:Str}{v:j8}:∀ {P:List Str} {vs:List j8} {i:Nat} {m:Str->Option j8},P.Nodup->P[i]?=some x->vs[i]?=some v->kindOf x=some .local->
  U7 kindOf (P.zip vs) m x=some v
 |[],_,_,_,_,h,_,_=>by simp at h
 |_::_,[],_,_,_,_,h,_=>by simp at h
 |p::P,w::vs,0,m,nd,h1,h2,hk=>by
  simp at h1 h2; subst h1; subst h2;show U7 kindOf ((p,w)::P.zip vs) m p=_;unfold U7;rw[zju fun v hv=>(Qk.mp nd).1 (Yd hv).1,Ip_ hk];simp
 |p::P,w::vs,i+1,m,nd,h1,h2,hk=>by
  show U7 kindOf ((p,w)::P.zip vs) m x=_;unfold U7;exact zeV (i:=i) (Qk.mp nd).2 (by simpa using h1) (by simpa using h2) hk
theorem zjw{kindOf:Str->Option YW}{x:Str}{v:j8}:∀ {P:List Str} {vs:List j8} {i:Nat} {m:Str->Option j8},P.Nodup->P[i]?=some x->vs[i]?=some v->kindOf x≠some .local->
  U8 kindOf (P.zip vs) m x=some v
 |[],_,_,_,_,h,_,_=>by simp at h
 |_::_,[],_,_,_,_,h,_=>by simp at h
 |p::P,w::vs,0,m,nd,h1,h2,hk=>by
  simp at h1 h2; subst h1; subst h2;show U8 kindOf ((p,w)::P.zip vs) m p=_;unfold U8;rw[zjv fun v hv=>(Qk.mp nd).1 (Yd hv).1,In_ hk];simp
 |p::P,w::vs,i+1,m,nd,h1,h2,hk=>by
  show U8 kindOf ((p,w)::P.zip vs) m x=_;unfold U8;exact zjw (i:=i) (Qk.mp nd).2 (by simpa using h1) (by simpa using h2) hk
def start(N:List Str)(vs:List V):St:=vs.map some++gT (N.length - vs.length) none
def zhr(CX:CXT)(P:jH)(w:Qf)(K:jb)(mg:Str->Option j8)(base:QL)(N:List Str)(qual:Str)(scope:gN)(f:js)(cd:j8)(A:Qg)(outer:List Env)(s:jc)(H:Hp)(E:XK):Cx where
 prog:=P
 w:=w
 K:=K
 mg:=mg
 base:=base
 A:=A.deeper (Zp qual scope s.heap.objs.size f cd)
 N:=N
 s₀:=s
 H₀:=H
 env:=Zp qual scope s.heap.objs.size f cd
 outer:=outer
 stack:=Zp qual scope s.heap.objs.size f cd::outer
 ex:=[]
 calm:=true
 fn:=fun _=>true
 pn:=[]
 xe:=fun e s'=>jI (jM P w) (A.deeper (Zp qual scope s.heap.objs.size f cd)) (leaving (Zp qual scope s.heap.objs.size f cd) e) (fun _ s''=>CX outer H s E e s'') (fun e' s''=>CX outer H s E e' s'') s'
theorem zle{sc:gN}{n:Nat}{x:Str}(h:sc.names.lookup x=some .cell):∃ c,(Wg n sc.names []).lookup x=some c:=by
 have q:=gH sc.names n [] (.inl h);exact gv.mp q
theorem zj5{CX:CXT}{P:jH}{w:Qf}{K:jb}{mg:Str->Option j8}{base:QL}{N ps:List Str}{qual:Str}{scope:gN}{f:js}{cd:j8}{A:Qg}{outer:List Env}{s s1:jc}{H:Hp}{E:XK}{us:List j8}{vs:List V}
  (S:FnScope N ps scope) (hd:A.handled=none) (e0:Env0 P w K mg base A outer s H) (hl:vs.length=ps.length) (r:Vals vs us)
  (x:InCallC s s.heap.objs.size (U7 (Zp qual scope s.heap.objs.size f cd).kindOf (ps.zip us) fun _=>none) (Wg (s.heap.objs.size+1) scope.names []) (U8 (Zp qual scope s.heap.objs.size f cd).kindOf (ps.zip us) fun _=>none) s1) :
  Inv (zhr CX P w K mg base N qual scope f cd A outer s H E) [] (start N vs) H s1:=by
 have hpl:ps.length<=N.length:=by have:=congrArg ZC S.pre; rw[Q9] at this; lia
 obtain⟨h1,tk,rfl,hk⟩:=x.done;have noA:∀ b:js,b∉(zhr CX P w K mg base N qual scope f cd A outer s H E).ex:=fun b z=>absurd (show b∈([]:List js) from z) (by simp)
 refine⟨⟨e0.mod,S.kind,rfl,rfl,jm _,fun y z c h1 h2=>?_,fun y hy=>?_,fun y c _ h=>?_,fun _=>hd,NN e0.frames,.inr ⟨rfl,rfl⟩,fun b z=>absurd z (noA b),e0.bs,e0.bsz,fun b _ _=>noA b,fun b z=>absurd z (noA b),e0.funs,e0.frf⟩,
  rfl,e0.bare,Un.kept hk,⟨_,x.toInCall.ns,fun i y v h1 h2 h3=>?_⟩,fun y c h=>⟨_,x.cell y c h⟩,e0.hok.fresh (jm _),fun y c h=>?_,fun p hp=>absurd (show p∈([]:List (js × Obj)) from hp) (by simp),e0.hok.kept hk,?_⟩
 ·exact name_of_addr x.apart (ZD h1) (ZD h2)
 ·have hy:scope.names.lookup y=some .cell∨scope.names.lookup y=some .free:=hy;rcases hy with hy |hy
  ·exact zle hy
  ·exact absurd rfl (S.nofree _ (ZD hy))
 ·exact Z1 (x.above y c (ZD h))
 ·have hi:i < vs.length:=by
   unfold start at h2
   by_cases hi:i < vs.length
   ·exact hi
   ·rw[Q7 (by simpa using hi)] at h2
    rw[gB] at h2;split at h2<;>cases h2
  have ha:vs[i]?=some v:=by
   unfold start at h2;rw[Q3 (by simpa using hi),jg] at h2
   cases e:vs[i]? with
   |none=>rw[e] at h2; cases h2
   |some a=>rw[e] at h2; cases h2; rfl
  obtain⟨u,hu,rv⟩:=r.get ha;have hp:ps[i]?=some y:=by
   rw[<-S.pre,List.getElem?_take_of_lt (by lia)]; exact h1
  have ndP:ps.Nodup:=by rw[<-S.pre]; exact S.nd.sublist (YG _ _)
  refine⟨u,rv,?_⟩;rcases S.par y (jE hp) with k |k
  ·exact .inl ⟨k,zeV ndP hp hu k⟩
  ·obtain⟨c,e⟩:=zle (n:=s.heap.objs.size+1) k;refine .inr ⟨.inl k,c,e,?_⟩;have q:=x.cell y c e;rw[zjw ndP hp hu (by show scope.names.lookup y≠_; rw[k]; decide)] at q
   exact q
 ·exact e0.hok.fresh (Z1 (x.above y c (ZD h)))
 ·unfold start;show _=N.length;rw[jk,j6,gV];lia
theorem zwn{CX:CXT}{P:jH}{w:Qf}{K:jb}{mg:Str->Option j8}{base:QL}{k:Nat}{f:js}{name qual:Str}{params:Wi}{body:List QR}{scope:gN}{dV kV doc pm cdv ct oc:j8}{an od:Option js}
  {osl:Array (Option j8)} {N ps:List Str} {sp:Sp} (lk:K.lookup f=some ⟨oc,od,.func (jX name qual params body scope dV kV doc pm an cdv ct),osl⟩) (hcd:QZ K cdv qual=true) (S:FnScope N ps scope)
  (len:∀ vs H Q E,sp vs H Q E->vs.length=ps.length)
  (hbody:∀(A:Qg) (outer:List Env) (s:jc) (H:Hp) (vs:List V) (Q:VK) (E:XK),Room k (A.deeper (Zp qual scope s.heap.objs.size f cdv))->sp vs H Q E->
   ∃ t,PSs (zhr CX P w K mg base N qual scope f cdv A outer s H E) body t/\t { nx:=fun _ H'=>Q .non H',rt:=Q } (start N vs) H) :
  FnOk P w K mg base CX (k+1) f (jX name qual params body scope dV kV doc pm an cdv ct) ps sp:=by
 refine⟨len,fun A outer s H args us vs Q E hr e0 hb r hsp=>?_⟩;have hl:=len _ _ _ _ hsp;have KX:K.In s.heap:=e0.mod.kin.keeps fun b o e=>(e0.bs b o e).1;have lim:s.heap.NoLimit:=e0.mod.nolimit.keeps fun b o e=>(e0.bs b o e).1;have hkind:∀ y∈ps.zip us,scope.names.lookup y.1=some .local∨(scope.names.lookup y.1=some .cell/\((Wg (s.heap.objs.size+1) scope.names []).lookup y.1).isSome=true):=fun⟨n,v⟩ hy=>by
  rcases S.par n (Yd hy).1 with q |q
  ·exact .inl q
  ·exact .inr ⟨q,gH _ _ _ (.inl q)⟩
 refine gW hr.depth (KX _ _ lk) rfl S.co S.gen rfl (Ys KX hcd) (hb _ _ _ _ ?_);refine ZZ S.kind hkind fun env he s1 x=>?_;subst he;refine⟨lim.keeps x.toInCall.keep,WW ?_⟩;obtain⟨t,ht,hq⟩:=hbody A outer s H vs Q E (hr.deeper _) hsp;have I:Inv (zhr CX P w K mg base N qual scope f cdv A outer s H E) [] (start N vs) H s1:=zj5 S hr.hd e0 hl r x;refine jV (ht [] s1 (start N vs) H _ I hq) (fun fl s' hs=>?_) fun e s' hs=>hs;have fin:∀ {σ':St} {H':Hp} {v:V} {u:j8},Inv (zhr CX P w K mg base N qual scope f cdv A outer s H E) [] σ' H' s'->RelV v u->Q v H'->CE outer P w H s Q u s':=
  fun {σ' H' v u} J rv q=>⟨v,H',J.os,J.bare,J.base,J.hok,rv,q⟩
 cases fl with
 |ret u=>
  obtain⟨v,σ',H',J,rv,q⟩:=hs;exact fin J rv q
 |next=>
  obtain⟨σ',H',J,q⟩:=hs;exact fin (v:=V.non) (u:=YD) J rfl q
 |brk=>
  obtain⟨_,_,_,q⟩:=hs;exact Zf q
 |cont=>
  obtain⟨_,_,_,q⟩:=hs;exact Zf q
section
variable {x:Str}{p:Pos}{id T:String}{r:List V->Hp->VK->Prop}
def tCB(r:List V->Hp->VK->Prop)(t:TA):TE:=fun σ H Q=>t σ H fun vs H1=>r vs H1 Q
theorem zd6(hc:CallR X (.builtin id) r)(hg:Gl X x)(hm:X.mg x=none)(hv:Qp x=some (.builtin id))(ha:PA X (e::es) t)(hn:x≠"__name__":=by decide)(hdb:(x == ("__debug__":Str))=false:=by decide)
  (he:jd (e::es) X.env=(false,eval e X.env)::jd es X.env:=by rfl) (hpl:(QF pos (jd es X.env)).any (·.1)=false:=by rfl):PE X (.Call (.Name x p) (e::es) [] pos) (tCB r t):=by
 intro pc s σ H Q I h;refine gA (zec I hg hm hv ?_ hn hdb);exact PyProof.Rows.callWith_builtin1 (thn (ha pos pc s σ H _ I h) fun us s1 ⟨vs,H1,I1,r1,q1⟩=>hc pc s1 σ H1 vs us Q I1 r1 q1) he hpl
theorem zgq(hc:CallR X (.type T) r)(hg:Gl X x)(hm:X.mg x=none)(hv:Qp x=some (.type T))(ha:PA X (e::es) t)(hn:x≠"__name__":=by decide)(hdb:(x == ("__debug__":Str))=false:=by decide)
  (he:jd (e::es) X.env=(false,eval e X.env)::jd es X.env:=by rfl) (hpl:(QF pos (jd es X.env)).any (·.1)=false:=by rfl):PE X (.Call (.Name x p) (e::es) [] pos) (tCB r t):=by
 intro pc s σ H Q I h;refine gA (zec I hg hm hv ?_ hn hdb);exact Qj (thn (ha pos pc s σ H _ I h) fun us s1 ⟨vs,H1,I1,r1,q1⟩=>hc pc s1 σ H1 vs us Q I1 r1 q1) he hpl
theorem zlz(hc:CallR X (.type T) r)(hg:Gl X x)(hm:X.mg x=none)(hv:Qp x=some (.type T))(hn:x≠"__name__":=by decide)(hdb:(x == ("__debug__":Str))=false:=by decide) :
  PE X (.Call (.Name x p) [] [] pos) (tCB r zod):=by
 intro pc s σ H Q I h;refine gA (zec I hg hm hv ?_ hn hdb);exact PyProof.Rows.callWith_type0 (hc pc s σ H [] [] Q I .nil h)
end
end L2
namespace HT
open PySem PyProof.Rows
section
variable {prog:jH}{w:Qf}{A:Qg}{E:j8->jc->Prop}{s:jc}
def sIx(n d:Nat):Option Int->Nat
 |none=>d
 |some v=>if v < 0 then (v+(n:Int)).toNat else min v.toNat n
end
end HT
namespace L2
open PySem PySem.Spec PyProof.Rows
variable {X:Cx}{e:Q4}{pos:Pos}{pc:List (js × Obj)}{σ:St}{H:Hp}{s:jc}{a:js}
abbrev TO:=St->Hp->(Option Int->Hp->Prop)->Prop
def PO(X:Cx)(e:Option Q4)(t:TO):Prop:=
 ∀(pc:List (js × Obj)) (s:jc) (σ:St) (H:Hp) (Q:Option Int->Hp->Prop),Inv X pc σ H s->t σ H Q->
  jI (jM X.prog X.w) X.A (evalPart e X.env) (fun u s'=>∃ o H',Inv X pc σ H' s'/\IsPart u o/\Q o H') X.xe s
def zq9:TO:=fun _ H Q=>Q none H
def zvq(t:TE):TO:=fun σ H Q=>t σ H fun x H1=>∃ i,x=.int i/\Q (some i) H1
section
variable {te:TE}{lo hi:Option Q4}{tl th:TO}{p2:Pos}
theorem zqL:PO X none zq9:=by
 intro pc s σ H Q I h;rw[Wj];exact jq ⟨none,H,I,.none,h⟩
theorem zqK(h:PE X e te):PO X (some e) (zvq te):=by
 intro pc s σ H Q I hw;rw[evalPart_some];refine thn (h pc s σ H _ I hw) fun u s1 h_=>?_; obtain⟨x,H1,I1,r1,q1⟩:=h_;obtain⟨i,rfl,q⟩:=q1;obtain⟨t,rfl⟩:=r1;exact⟨some i,H1,I1,.int i t,q⟩
def SlR(X:Cx)(r:V->Option Int->Option Int->Hp->VK->Prop):Prop:=
 ∀(pc:List (js × Obj)) (s:jc) (σ:St) (H:Hp) (x:V) (v vl vu:j8) (lo hi:Option Int) (sl:js) (Q:VK),Inv X pc σ H s->RelV x v->s.heap.IsSliceOf sl vl vu .none->IsPart vl lo->IsPart vu hi->r x lo hi H Q->
  ∃ T id,JD (.type T) "__getitem__"=pure (some (.builtin id))/\s.TypeIs v T/\jI (jM X.prog X.w) X.A (Wz v (.ref sl)) (EP X pc σ Q) X.xe s
def tSl(r:V->Option Int->Option Int->Hp->VK->Prop)(te:TE)(tl th:TO):TE:=fun σ H Q=>te σ H fun x H1=>tl σ H1 fun l H2=>th σ H2 fun u H3=>r x l u H3 Q
theorem zhU{r:V->Option Int->Option Int->Hp->VK->Prop}(hr:SlR X r)(he:PE X e te)(hl:PO X lo tl)(hu:PO X hi th):PE X (.Subscript e (.Slice lo hi none p2) pos) (tSl r te tl th):=by
 intro pc s σ H Q I h;refine WE (thn (he pc s σ H _ I h) fun v s1 h_=>?_); obtain⟨x,H1,I1,r1,q1⟩:=h_;refine wpAny_Slice (thn (hl pc s1 σ H1 _ I1 q1) fun vl s2 h_=>?_); obtain⟨l,H2,I2,pl,q2⟩:=h_; refine thn (hu pc s2 σ H2 _ I2 q2) fun vu s3 h_=>?_; obtain⟨u,H3,I3,pu,q3⟩:=h_;rw[Wj];refine jq ?_;have I4:Inv X pc σ H3 { s3 with heap:=s3.heap.push { cls:=.type "slice",data:=.fields #[vl,vu,.none] } }:=I3.kept (t':=s3.toks) fun b ob q=>ja _ q;obtain⟨T,id,hT,ht,hg⟩:=hr pc { s3 with heap:=s3.heap.push { cls:=.type "slice",data:=.fields #[vl,vu,.none] } } σ H3 x v vl vu l u s3.heap.objs.size Q I4 r1 (Wk ..) pl pu q3;show jI (jM X.prog X.w) X.A (YX e (.Slice lo hi none p2) v (.ref s3.heap.objs.size)) (EP X pc σ Q) X.xe { s3 with heap:=s3.heap.push { cls:=.type "slice",data:=.fields #[vl,vu,.none] } };exact tail_any (ops:=[.ref s3.heap.objs.size,v]) ht hT hg (by with_unfolding_all rfl)
def zpL(xs:List V)(lo hi:Option Int):List V:=(xs.drop (HT.sIx xs.length 0 lo)).take (HT.sIx xs.length xs.length hi - HT.sIx xs.length 0 lo)
theorem zks(xs:List V)(lo hi:Option Int):(zpL xs lo hi).length<=xs.length:=by
 unfold zpL;rw[Q9,QQ];lia
end
def ixN(n:Nat)(i:Int):Option Nat:=if 0<=i then (if i < n then some i.toNat else none) else if -(n:Int)<=i then some (i+n).toNat else none
def atI{α:Type}(xs:List α)(i:Int):Option α:=(ixN xs.length i).bind fun j=>xs[j]?
theorem znk{n:Nat}{i:Int}{j:Nat}(h:ixN n i=some j):seqIndex? i n=some j/\j < n/\-(n:Int)<=i/\i < n:=by
 unfold ixN at h
 by_cases h0:0<=i
 ·rw[Ip_ h0] at h
  by_cases h1:i < n
  ·rw[Ip_ h1] at h;have e:i.toNat=j:=jf h;exact⟨by rw[W3 h0 h1,e],by lia,by lia,h1⟩
  ·rw[In_ h1] at h; cases h
 ·rw[In_ h0] at h
  by_cases h1:-(n:Int)<=i
  ·rw[Ip_ h1] at h;have e:(i+n).toNat=j:=jf h;exact⟨by rw[Nq (by lia) h1,e],by lia,h1,by lia⟩
  ·rw[In_ h1] at h; cases h
theorem zin{α:Type}{xs:List α}{i:Int}{v:α}(h:atI xs i=some v):∃ j,seqIndex? i xs.length=some j/\xs[j]?=some v/\j < xs.length/\-(xs.length:Int)<=i/\i < xs.length:=by
 unfold atI at h;cases e:ixN xs.length i with
 |none=>rw[e] at h; cases h
 |some j=>
  rw[e] at h;obtain⟨h1,h2,h3,h4⟩:=znk e;exact⟨j,h1,h,h2,h3,h4⟩
theorem zrN{α:Type}{xs:List α}{j:Nat}{v:α}(h:xs[j]?=some v):atI xs (j:Int)=some v:=by
 have hj:j < xs.length:=(j7.mp h).1;have e:ixN xs.length (j:Int)=some j:=by
  unfold ixN;rw[Ip_ (by lia),Ip_ (by lia)]; simp
 unfold atI; rw[e]; exact h
def zgW(b:Q4):Prop:=∀ o i,W4 b false o i=operate [o,i] (Wz o i)
def IxR(X:Cx)(r:R2):Prop:=
 ∀(value slice:Q4) (pc:List (js × Obj)) (s:jc) (σ:St) (H:Hp) (x y:V) (v u:j8) (Q:VK),Inv X pc σ H s->RelV x v->RelV y u->r x y H Q->
  W4 slice false v u=operate [v,u] (Wz v u)->jI (jM X.prog X.w) X.A (YX value slice v u) (EP X pc σ Q) X.xe s
def MtR(X:Cx)(id:String)(r:V->List V->Hp->VK->Prop):Prop:=
 ∀(pc:List (js × Obj)) (s:jc) (σ:St) (H:Hp) (x:V) (xs:List V) (v:j8) (us:List j8) (Q:VK),Inv X pc σ H s->RelV x v->Vals xs us->r x xs H Q->
  jI (jM X.prog X.w) X.A (call (.builtin id) (v::us)) (EP X pc σ Q) X.xe s
section
variable {a b:Q4}{ta tb:TE}
theorem IxR.or{r r':R2}(h:IxR X r)(h':IxR X r'):IxR X (fun x y H Q=>r x y H Q∨r' x y H Q):=by
 intro value slice pc s σ H x y v u Q I rx ry q hs;rcases q with q |q
 ·exact h value slice pc s σ H x y v u Q I rx ry q hs
 ·exact h' value slice pc s σ H x y v u Q I rx ry q hs
theorem zto{r:R2}(hr:IxR X r)(ha:PE X a ta)(hb:PE X b tb)(hs:zgW b):PE X (.Subscript a b pos) (tOp r ta tb):=by
 intro pc s σ H Q I h;exact WE (zwy ha hb I h fun v u s2 x y H2 I2 rx ry q=>hr a b pc s2 σ H2 x y v u Q I2 rx ry q (hs _ _))
def zuA(K:jb):R2:=fun x y H Q=>∃ p xs i v,x=.ref p/\y=.int i/\SqL K H p xs/\atI xs i=some v/\Q v H
def zwV(K:jb):R2:=fun x y H Q=>∃ p xs i v,x=.ref p/\y=.int i/\SqT K H p xs/\atI xs i=some v/\Q v H
def zwW:R2:=fun x y H Q=>∃ z i c,x=.str z/\y=.int i/\z.length<=jr/\atI z.cps.toList i=some c/\Q (.str ⟨#[c]⟩) H
theorem ix_list:IxR X (zuA X.K):=by
 intro value slice pc s σ H x y v u Q I rx ry h hs;obtain⟨p,xs,i,z,rfl,rfl,hq,he,q⟩:=h;cases rx;obtain⟨t,rfl⟩:=ry;obtain⟨its,r,pl,hz⟩:=I.list hq;obtain⟨j,h1,h2,h3,h4,h5⟩:=zin he;obtain⟨w,ew,rw'⟩:=r.get h2;have hl:=r.length;have hn:=zfB;have fin:EP X pc σ Q w s:=⟨z,H,I,rw',q⟩
 by_cases h0:0<=i
 ·have hj:i.toNat=j:=by
   rw[W3 h0 h5] at h1;exact jf h1
  exact item_listR pl.isList h0 (by lia) (by rw[hj]; simpa using ew) fin hs
 ·have hj:(i+(its.toArray.size:Int)).toNat=j:=by
   rw[Nq (by lia) h4] at h1
   rw[jh,<-hl];exact jf h1
  exact Ni (x:=w) pl.isList.typeIs YH.lookup
   (Nj (Q:=fun r s'=>r=w/\EP X pc σ Q r s') pl.isList (by lia) (by rw[jh]<;>lia) (by lia) (by rw[hj]; simpa using ew) ⟨rfl,fin⟩) hs
theorem ix_tup:IxR X (zwV X.K):=by
 intro value slice pc s σ H x y v u Q I rx ry h hs;obtain⟨p,xs,i,z,rfl,rfl,hq,he,q⟩:=h;cases rx;obtain⟨t,rfl⟩:=ry;obtain⟨its,r,pl,hz⟩:=I.tuple hq;obtain⟨j,h1,h2,h3,h4,h5⟩:=zin he;obtain⟨w,ew,rw'⟩:=r.get h2;have hl:=r.length;have hn:=zfB;have fin:EP X pc σ Q w s:=⟨z,H,I,rw',q⟩;exact Ni (x:=w) pl.typeIs slot_tuple_getitem.lookup
  (getItem_tuple (j:=j) (Q:=fun r s'=>r=w/\EP X pc σ Q r s') pl (by lia) (by lia) (by rw[jh,<-hl]; exact h1) (by simpa using ew) ⟨rfl,fin⟩) hs
theorem ztM:IxR X zwW:=by
 intro value slice pc s σ H x y v u Q I rx ry h hs;obtain⟨z,i,c,rfl,rfl,hz,he,q⟩:=h;obtain⟨t,rfl⟩:=rx;obtain⟨t',rfl⟩:=ry;obtain⟨j,h1,h2,h3,h4,h5⟩:=zin he;have hl:z.cps.toList.length=z.length:=by simp[Str.length]
 rw[hl] at h1 h4 h5;have hn:=zfB
 exact tail_any (JE s z t) slot_str_getitem.lookup (getItem_str (c:=c) (by
  have e1:decide (i < -(2 ^ 63:Int))=false:=Df_ (by lia)
  have e2:decide (i≥2 ^ 63)=false:=Df_ (by lia)
  rw[e1,e2,Bool.or_false]) (by rw[h1]; simpa using h2) ⟨.str ⟨#[c]⟩,H,I.tok _,⟨_,rfl⟩,q⟩) hs
def rIx(K:jb):R2:=fun x y H Q=>zuA K x y H Q∨zwV K x y H Q∨zwW x y H Q
theorem zpx:IxR X (rIx X.K):=ix_list.or (ix_tup.or ztM)
theorem zlH(its:List j8)(n j:Nat)(u:j8):NK (·.setIfInBounds j u) { cls:=.type "list",data:=.seq its.toArray n }={ cls:=.type "list",data:=.seq (its.set j u).toArray n }:=by
 simp[NK]
theorem Inv.lst{pc:List (js × Obj)}{σ:St}{H:Hp}{s:jc}{p:js}{xs:List V}(I:Inv X pc σ H s)(h:H p=some (.lst xs)) :
  ∃(its:List j8) (n:Nat),Vals xs its/\s.heap.get? p=some { cls:=.type "list",data:=.seq its.toArray n }/\xs.length<=jr:=by
 obtain⟨z,its,n,r,e⟩:=I.hok p _ h;exact⟨its,n,r,e,z⟩
theorem Inv.lstUpd{pc:List (js × Obj)}{σ:St}{H:Hp}{s:jc}{p:js}{xs ys:List V}{its its':List j8}{n n':Nat}{f:Obj->Obj}(I:Inv X pc σ H s)(h:H p=some (.lst xs))
  (ho:s.heap.get? p=some { cls:=.type "list",data:=.seq its.toArray n }) (hf:f { cls:=.type "list",data:=.seq its.toArray n }={ cls:=.type "list",data:=.seq its'.toArray n' }) (r:Vals ys its') (hz:ys.length<=jr) (t:Nat) :
  Inv X pc σ (upd H p (.lst ys)) { s with heap:=s.heap.update p f,toks:=t }:=by
 have e:(s.heap.update p f).get? p=some { cls:=.type "list",data:=.seq its'.toArray n' }:=by
  rw[Nr f ho (by rw[hf]<;>rfl),hf]
 refine I.write (x:=p) (e:=p) (by rw[h]; trivial) (.inl rfl) (fun b u hb q=>(Nk _ _ (Zr hb)).trans q) ⟨_,e⟩ ?_
 exact⟨hz,its',n',r,e⟩
def zqq:V->V->V->Hp->(Hp->Prop)->Prop:=fun o i v H Q=>∃ p xs k j,o=.ref p/\i=.int k/\H p=some (.lst xs)/\ixN xs.length k=some j/\Q (upd H p (.lst (xs.set j v)))
theorem zdS:zup X zqq:=by
 intro pc s σ H o i v ov iv u Q I ro ri rv h;obtain⟨p,xs,k,j,rfl,rfl,hp,hj,q⟩:=h;cases ro;obtain⟨t,rfl⟩:=ri;obtain⟨its,n,r,ho,hz⟩:=I.lst hp;obtain⟨h1,h2,h3,h4⟩:=znk hj;have hl:=r.length;have hn:=zfB;have I':Inv X pc σ (upd H p (.lst (xs.set j v))) { s with heap:=s.heap.update p (NK (·.setIfInBounds j u)) }:=
  I.lstUpd hp ho (zlH its n j u) (r.set rv j) (by rw[Qd]; exact hz) s.toks
 by_cases h0:0<=k
 ·have hk:k.toNat=j:=by
   rw[W3 h0 h4] at h1;exact jf h1
  exact PySem.W.ki_setAt ho h0 (by lia) (by rw[jh,<-hl]; exact h4) (by rw[hk]; exact⟨_,I',q⟩)
 ·have hk:(k+(its.toArray.size:Int)).toNat=j:=by
   rw[Nq (by lia) h3] at h1
   rw[jh,<-hl];exact jf h1
  exact PySem.W.ki_setBack ho (by lia) (by rw[jh,<-hl]; exact h3) (by lia) (by rw[hk]; exact⟨_,I',q⟩)
theorem ziG(lo hi:Option Int)(n:Nat):(gP lo hi none n).1=((HT.sIx n 0 lo:Nat):Int)/\(gP lo hi none n).2.1=((HT.sIx n n hi:Nat):Int)/\(gP lo hi none n).2.2=1:=by
 refine⟨?_,?_,rfl⟩
 ·cases lo with
  |none=>simp[gP,HT.sIx]
  |some i=>
   simp only[gP,HT.sIx,J7,show (1:Int) > 0 by decide,if_true]
   by_cases h:i < 0
   ·simp only[h,if_true]<;>lia
   ·simp only[h,if_false]<;>lia
 ·cases hi with
  |none=>simp[gP,HT.sIx]
  |some i=>
   simp only[gP,HT.sIx,J7,show (1:Int) > 0 by decide,if_true]
   by_cases h:i < 0
   ·simp only[h,if_true]<;>lia
   ·simp only[h,if_false]<;>lia
theorem zhC(its:List j8)(lo hi:Option Int):slicePick its.toArray lo hi none=((its.drop (HT.sIx its.length 0 lo)).take (HT.sIx its.length its.length hi - HT.sIx its.length 0 lo)).toArray:=by
 obtain⟨h1,h2,h3⟩:=ziG lo hi its.toArray.size;unfold slicePick;rw[h1,h2,h3];simp only[sliceRange_one,pick_run,jh]<;>rfl
def zwU(K:jb):V->Option Int->Option Int->Hp->VK->Prop:=fun x lo hi H Q=>∃ a xs,x=.ref a/\SqL K H a xs/\∀ p,H p=none->Q (.ref p) (upd H p (.lst (zpL xs lo hi)))
theorem zmp:SlR X (zwU X.K):=by
 intro pc s σ H x v vl vu lo hi sl Q I rx hs pl pu h;obtain⟨a,xs,rfl,hx,q⟩:=h;cases rx;obtain⟨its,r,ht,hz⟩:=I.list hx;have hlen:=r.length;refine⟨"list",_,YH.lookup,ht.isList.typeIs,?_⟩;refine YI ht.isList hs pl pu .none (by simp) ?_ (by rw[jh]<;>lia)
 rw[zhC,<-hlen];refine⟨.ref s.heap.objs.size,_,I.laid (t':=s.toks) (o:=.lst (zpL xs lo hi)) (fun b ob q=>ja _ q) (jm _) ?_,rfl,q _ (I.hok.fresh (jm _))⟩;exact⟨Qc (zks xs lo hi) hz,_,0,(r.drop (HT.sIx xs.length 0 lo)).take (HT.sIx xs.length xs.length hi - HT.sIx xs.length 0 lo),jG _ rfl⟩
def zfi:V->Bool
 |.non=>true
 |.bl _=>true
 |.int _=>true
 |.str _=>true
 |_=>false
def eqV:V->V->Bool
 |.non,.non=>true
 |.bl a,.bl b=>a == b
 |.bl a,.int b=>(if a then 1 else 0) == b
 |.int a,.bl b=>a == (if b then 1 else 0)
 |.int a,.int b=>a == b
 |.str a,.str b=>a == b
 |_,_=>false
theorem zu4{A:Qg}{s:jc}{y x:V}{u v:j8}(ry:RelV y u)(rx:RelV x v)(fy:zfi y=true)(fx:zfi x=true):SeqAt.EqAt A s u v (eqV y x):=by
 cases y with
 |non=>
  cases ry;cases x with
  |non=>cases rx; exact SeqAt.EqAt.same _
  |bl b=>cases rx; exact SeqAt.EqAt.none_bool b
  |int b=>obtain⟨t,rfl⟩:=rx; exact SeqAt.EqAt.none_int b t
  |str b=>obtain⟨t,rfl⟩:=rx; exact SeqAt.EqAt.none_str b t
  |_=>exact absurd (show false=true from fx) jJ
 |bl a=>
  cases ry;cases x with
  |non=>cases rx; exact SeqAt.EqAt.bool_none a
  |bl b=>cases rx; exact SeqAt.EqAt.bool_bool a b
  |int b=>obtain⟨t,rfl⟩:=rx; exact SeqAt.EqAt.bool_int a b t
  |str b=>obtain⟨t,rfl⟩:=rx; exact SeqAt.EqAt.bool_str a b t
  |_=>exact absurd (show false=true from fx) jJ
 |int a=>
  obtain⟨t',rfl⟩:=ry;cases x with
  |non=>cases rx; exact SeqAt.EqAt.int_none a t'
  |bl b=>cases rx; exact SeqAt.EqAt.int_bool a t' b
  |int b=>obtain⟨t,rfl⟩:=rx; exact SeqAt.EqAt.int_int a t' b t
  |str b=>obtain⟨t,rfl⟩:=rx; exact W9 a t' b t
  |_=>exact absurd (show false=true from fx) jJ
 |str a=>
  obtain⟨t',rfl⟩:=ry;cases x with
  |non=>cases rx; exact SeqAt.EqAt.str_none a t'
  |bl b=>cases rx; exact SeqAt.EqAt.str_bool a t' b
  |int b=>obtain⟨t,rfl⟩:=rx; exact Wa a t' b t
  |str b=>obtain⟨t,rfl⟩:=rx; exact SeqAt.EqAt.str_str a t' b t
  |_=>exact absurd (show false=true from fx) jJ
 |_=>exact absurd (show false=true from fy) jJ
def eqU(x:V)(u:j8):Bool:=match u with
 |.none=>eqV .non x
 |.bool b=>eqV (.bl b) x
 |.int i _=>eqV (.int i) x
 |.str z _=>eqV (.str z) x
 |_=>false
theorem znC{x y:V}{u:j8}(r:RelV y u)(f:zfi y=true):eqU x u=eqV y x:=by
 cases y with
 |non=>cases r; rfl
 |bl b=>cases r; rfl
 |int i=>obtain⟨t,rfl⟩:=r; rfl
 |str z=>obtain⟨t,rfl⟩:=r; rfl
 |_=>exact absurd (show false=true from f) jJ
theorem zky{x:V}:∀ {xs:List V} {us:List j8},Vals xs us->xs.all zfi=true->us.any (eqU x)=xs.any fun y=>eqV y x
 |_,_,.nil,_=>rfl
 |y::xs,u::us,.cons r t,f=>by
  rw[Yb,jL] at f;rw[Za,Za,znC r f.1,zky t f.2]
theorem zfW{A:Qg}{s:jc}{x:V}{v:j8}(rx:RelV x v)(fx:zfi x=true):∀ {xs:List V} {us:List j8},Vals xs us->xs.all zfi=true->∀ u∈us,SeqAt.EqAt A s u v (eqU x u)
 |_,_,.nil,_=>fun u hu=>by cases hu
 |y::xs,u::us,.cons r t,f=>fun u' hu=>by
  rw[Yb,jL] at f;rcases jv.mp hu with rfl |hu
  ·rw[znC r f.1]; exact zu4 r rx f.1 fx
  ·exact zfW rx fx t f.2 u' hu
def inV(x:V)(xs:List V):Bool:=xs.any fun y=>eqV y x
def rIn(K:jb)(neg:Bool):R2:=fun x y H Q=>∃ p xs,y=.ref p/\(SqL K H p xs∨SqT K H p xs)/\zfi x=true/\xs.all zfi=true/\Q (.bl (if neg then !inV x xs else inV x xs)) H
theorem zfz:OpR X (Zb .NotIn) (rIn X.K true):=by
 intro pc s σ H x y v u Q I rx ry h;obtain⟨p,xs,rfl,hq,fx,fs,q⟩:=h;cases ry;rcases hq with hq |hq
 ·obtain⟨its,r,pl,hz⟩:=I.list hq;refine SeqAt.notIn_listAt (eqU x) pl.isList (fun w hw=>zfW rx fx r fs w (by simpa using hw)) ⟨.bl _,H,I,rfl,?_⟩
  rw[show its.toArray.any (eqU x)=its.any (eqU x) by simp,zky r fs]
  exact q
 ·obtain⟨its,r,pl,hz⟩:=I.tuple hq;refine SeqAt.notIn_tupleAt (eqU x) pl (fun w hw=>zfW rx fx r fs w (by simpa using hw)) ⟨.bl _,H,I,rfl,?_⟩
  rw[show its.toArray.any (eqU x)=its.any (eqU x) by simp,zky r fs]
  exact q
theorem zjs:CallR X (.builtin "len") (fun xs H Q=>∃ p ys,xs=[.ref p]/\(SqL X.K H p ys∨SqT X.K H p ys)/\Q (.int ys.length) H):=by
 intro pc s σ H xs us Q I r h;obtain⟨p,ys,rfl,hq,q⟩:=h;obtain⟨u,rfl,rx⟩:=zm9 r;cases rx;have hn:=zfB;rcases hq with hq |hq
 ·obtain⟨its,r',pl,hz⟩:=I.list hq;have hlen:=r'.length;exact Calls.call_len_list pl.isList (by simp only[jh]<;>lia) ⟨.int ys.length,H,I.tok _,⟨s.toks+1,by rw[jh,hlen]⟩,q⟩
 ·obtain⟨its,r',pl,hz⟩:=I.tuple hq;have hlen:=r'.length;exact len_tuple pl (by simp only[jh]<;>lia) ⟨.int ys.length,H,I.tok _,⟨s.toks+1,by rw[jh,hlen]⟩,q⟩
theorem zjr:CallR X (.builtin "len") (fun xs H Q=>∃ z,xs=[.str z]/\z.length<=jr/\Q (.int z.length) H):=by
 intro pc s σ H xs us Q I r h;obtain⟨z,rfl,hz,q⟩:=h;obtain⟨u,rfl,t,rfl⟩:=zm9 r;have hn:=zfB;exact len_str (by lia) ⟨.int z.length,H,I.tok _,⟨_,rfl⟩,q⟩
theorem CallR.or{f:j8}{r r':List V->Hp->VK->Prop}(h:CallR X f r)(h':CallR X f r'):CallR X f (fun xs H Q=>r xs H Q∨r' xs H Q):=by
 intro pc s σ H xs us Q I rs q;rcases q with q |q
 ·exact h pc s σ H xs us Q I rs q
 ·exact h' pc s σ H xs us Q I rs q
theorem zjq:CallR X (.type "list") (fun xs H Q=>∃ p ys,xs=[.ref p]/\(SqL X.K H p ys∨SqT X.K H p ys)/\∀ l,H l=none->Q (.ref l) (upd H l (.lst ys))):=by
 intro pc s σ H xs us Q I r h;obtain⟨p,ys,rfl,hq,q⟩:=h;obtain⟨u,rfl,rx⟩:=zm9 r;cases rx;have fin:∀(its:List j8),Vals ys its->ys.length<=jr->∀(h':QL) (c':Nat),(∀ b o',s.heap.get? b=some o'->h'.get? b=some o')->
   h'.get? s.heap.objs.size=some { cls:=.type "list",dict:=none,data:=.seq its.toArray c',slots:=#[] }->EP X pc σ Q (.ref s.heap.objs.size) { s with heap:=h' }:=fun its r' hz h' c' kp e=>
  ⟨.ref s.heap.objs.size,_,I.laid (t':=s.toks) kp (jm _) (show ObjOk X.prog X.w _ h' _ (.lst ys) from ⟨hz,its,c',r',e⟩),rfl,q _ (I.hok.fresh (jm _))⟩
 rcases hq with hq |hq
 ·obtain⟨its,r',pl,hz⟩:=I.list hq;have hlen:=r'.length;obtain⟨o,ho,hc,n,hd⟩:=pl.isList;exact call_list_seq p (.inl rfl) ho hc hd (fun h' c' kp e=>fin its r' hz h' c' kp e) (by simp only[jh]<;>lia)
 ·obtain⟨its,r',pl,hz⟩:=I.tuple hq;have hlen:=r'.length;obtain⟨o,ho,hc,n,hd⟩:=pl;exact call_list_seq p (.inr rfl) ho hc hd (fun h' c' kp e=>fin its r' hz h' c' kp e) (by simp only[jh]<;>lia)
def tyV(K:jb)(T:String)(x:V)(H:Hp):Prop:=match x with
 |.str _=>T="str"
 |.int _=>T="int"
 |.ref p=>(T="list"/\∃ xs,SqL K H p xs)∨(T="tuple"/\∃ o,K.lookup p=some o/\o.cls=.type "tuple"/\o.dict=none) ∨
   (T="dict"/\((∃ kvs,H p=some (.dK kvs))∨∃ kvs,H p=some (.dT kvs)))∨(T="set"/\∃ S n,H p=some (.set S n))
 |_=>False
theorem zpa{pc:List (js × Obj)}{σ:St}{H:Hp}{s:jc}{T:String}{x:V}{v:j8}(I:Inv X pc σ H s)(r:RelV x v)(ty:tyV X.K T x H) :
  s.TypeIs v T/\∀ a,v=.ref a->∃ ob,s.heap.get? a=some ob/\ob.dict=none:=by
 cases x with
 |str z=>
  obtain⟨t,rfl⟩:=r;cases (show T="str" from ty);exact⟨JE s z t,fun _ e=>nomatch e⟩
 |int i=>
  obtain⟨t,rfl⟩:=r;cases (show T="int" from ty);exact⟨typeIs_int s i t,fun _ e=>nomatch e⟩
 |ref p=>
  cases r;rcases ty with ⟨rfl,xs,hq⟩ |⟨rfl,o,hk,hc,hd⟩ |⟨rfl,hk⟩ |⟨rfl,S,n,hk⟩
  ·obtain⟨its,_,pl,_⟩:=I.list hq;refine⟨pl.isList.typeIs,fun a e=>?_⟩;cases e;obtain⟨o,n,e,c,hd,_⟩:=pl;exact⟨o,e,hd⟩
  ·refine⟨⟨o,I.kIn p o hk,hc⟩,fun a e=>?_⟩;cases e;exact⟨o,I.kIn _ o hk,hd⟩
  ·have z:∃ o,s.heap.get? p=some o/\o.ExactDict:=by
    rcases hk with ⟨kvs,hk⟩ |⟨kvs,hk⟩
    ·obtain⟨_,_,_,_,o,_,_,e,ex,_⟩:=I.hok p _ hk;exact⟨o,e,ex⟩
    ·obtain⟨_,_,_,_,o,_,_,e,ex,_⟩:=I.hok p _ hk;exact⟨o,e,ex⟩
   obtain⟨o,e,ex⟩:=z;refine⟨⟨o,e,ex.1⟩,fun a e2=>?_⟩;cases e2;exact⟨o,e,ex.2.1⟩
  ·obtain⟨o,_,_,_,e,ex,_⟩:=I.hok p _ hk;refine⟨⟨o,e,ex.1⟩,fun a e2=>?_⟩;cases e2;exact⟨o,e,ex.2.1⟩
 |_=>exact Zf ty
def zuz(K:jb)(T:String)(r:V->List V->Hp->VK->Prop)(to:TE):TE:=fun σ H Q=>to σ H fun x H1=>tyV K T x H1/\r x [] H1 Q
def tBM(K:jb)(T:String)(r:V->List V->Hp->VK->Prop)(to:TE)(t:TA):TE:=fun σ H Q=>to σ H fun x H1=>tyV K T x H1/\t σ H1 fun xs H2=>r x xs H2 Q
variable {o:Q4}{es:List Q4}{to:TE}{t:TA}{name:Str}{apos cpos:Pos}{T id:String}{r:V->List V->Hp->VK->Prop}
theorem ztq(pa:WF T)(slot:Slot T name id)(hty:typeOf (.builtin id)=pure (.type "method_descriptor"))(hm:MtR X id r)(ho:PE X o to)
  (hbase:YY o name X.env (eval o X.env)=eval o X.env:=by rfl) (hline:(apos.endLine == cpos.line)=true:=by rfl):PE X (.Call (.Attribute o name apos) [] [] cpos) (zuz X.K T r to):=by
 intro pc s σ H Q I h;refine wpAny_Call_method0_late hbase hline (thn (ho pc s σ H _ I h) fun v s1 h_=>?_); obtain⟨x,H1,I1,r1,ty,q1⟩:=h_;obtain⟨h1,h2⟩:=zpa I1 r1 ty;exact⟨T,id,pa,slot,hty,h1,h2,Nl rfl (PySem.evalArgs_none (hm pc s1 σ H1 x [] v [] Q I1 r1 .nil q1))⟩
theorem zvX(pa:WF T)(slot:Slot T name id)(hty:typeOf (.builtin id)=pure (.type "method_descriptor"))(hm:MtR X id r)(ho:PE X o to)(ha:PA X (e::es) t)
  (hbase:YY o name X.env (eval o X.env)=eval o X.env:=by rfl)
  (hfew:((QF cpos (jd (e::es) X.env)).all (fun x=>!x.1)&&(backToKw cpos (keywordEach [] X.env)).all (fun x=>x.1.isSome)
   && decide ((e::es).length+([]:List Keyword).length+(if ([]:List Keyword).isEmpty then 0 else 1) < 30))=true:=by rfl)
  (hline:(apos.endLine == cpos.line)=true:=by rfl) (hs:jd (e::es) X.env=(false,eval e X.env)::jd es X.env:=by rfl) (hplain:(QF cpos (jd es X.env)).any (·.1)=false:=by rfl) :
  PE X (.Call (.Attribute o name apos) (e::es) [] cpos) (tBM X.K T r to t):=by
 intro pc s σ H Q I h;refine wpAny_Call_method_late hbase hfew hline rfl (thn (ho pc s σ H _ I h) fun v s1 h_=>?_); obtain⟨x,H1,I1,r1,ty,q1⟩:=h_;obtain⟨h1,h2⟩:=zpa I1 r1 ty;refine⟨T,id,pa,slot,hty,h1,h2,?_⟩;have hA:=ha cpos pc s1 σ H1 _ I1 q1;rw[hs] at hA ⊢;refine Nl (by show (false||(QF cpos (jd es X.env)).any (·.1))=false; rw[hplain]<;>rfl) (NO ?_)
 exact thn hA fun us s2 ⟨vs,H2,I2,r2,q2⟩=>hm pc s2 σ H2 x vs v us Q I2 r1 r2 q2
end
def MtM(X:Cx)(id:String)(r:V->List V->Hp->VK->Prop):Prop:=
 ∀(pc:List (js × Obj)) (s:jc) (σ:St) (H:Hp) (x:V) (xs:List V) (v:j8) (us:List j8) (Q:VK),Inv X pc σ H s->RelV x v->Vals xs us->r x xs H Q->
  jI (jM X.prog X.w) X.A (call (.builtin id) (v::us)) (EP X pc σ Q) X.xe s
theorem Vals.one{x:V}{us:List j8}(h:Vals [x] us):∃ u,us=[u]/\RelV x u:=by
 cases h with
 |cons r t=>cases t; exact⟨_,rfl,r⟩
theorem Vals.zero:∀ {us:List j8},Vals [] us->us=[]
 |_,.nil=>rfl
theorem Vals.dropLast{xs:List V}{us:List j8}(h:Vals xs us):Vals xs.dropLast us.dropLast:=by
 induction h with
 |nil=>exact .nil
 |cons r t ih=>
  cases t with
  |nil=>exact .nil
  |cons q t'=>exact .cons r ih
theorem Vals.reverse{xs:List V}{us:List j8}(h:Vals xs us):Vals xs.reverse us.reverse:=by
 induction h with
 |nil=>exact .nil
 |cons r t ih=>rw[QU,QU]; exact Vals.append ih (.cons r .nil)
theorem zlS{α:Type}(l:List α):l.eraseIdx (l.length - 1)=l.dropLast:=by
 induction l with
 |nil=>rfl
 |cons a r ih=>
  cases r with
  |nil=>rfl
  |cons b r=>
   have e:(a::b::r).length - 1=((b::r).length - 1)+1:=by
    have h1:(a::b::r).length=r.length+2:=rfl;have h2:(b::r).length=r.length+1:=rfl;lia
   rw[e,YZ,ih]
   all_goals rfl
section
variable {l b:js}{xs ys zs:List V}
theorem Inv.lset{its its':List j8}{n:Nat}{f:Array j8->Array j8}{t':Nat}(I:Inv X pc σ H s)(hH:H l=some (.lst xs))
  (e:s.heap.get? l=some { cls:=.type "list",data:=.seq its.toArray n }) (hf:f its.toArray=its'.toArray) (hv:Vals ys its') (hz:ys.length<=jr) :
  Inv X pc σ (upd H l (.lst ys)) { s with heap:=s.heap.update l (NK f),toks:=t' }:=by
 have q:=PySem.IsL.update e f;rw[hf] at q;refine I.write (x:=l) (e:=l) (by rw[hH]; exact trivial) (.inl rfl) (fun b' u hb hu=>(Nk s.heap (NK f) (Zr hb)).trans hu) ⟨_,q⟩ ?_
 exact⟨hz,its',_,hv,q⟩
theorem Inv.lnew{its:List j8}{t':Nat}(I:Inv X pc σ H s)(hv:Vals ys its)(hz:ys.length<=jr) :
  Inv X pc σ (upd H s.heap.objs.size (.lst ys)) { s with heap:=s.heap.push { cls:=.type "list",data:=.seq its.toArray },toks:=t' }:=
 I.laid (fun _ _ q=>ja _ q) (jm _) ⟨hz,its,0,hv,jG _ rfl⟩
theorem Inv.fresh(I:Inv X pc σ H s):H s.heap.objs.size=none:=I.hok.fresh (jm _)
theorem Inv.lstM(I:Inv X pc σ H s)(hH:H l=some (.lst xs)):xs.length<=jr/\∃(its:List j8) (n:Nat),Vals xs its/\xs.length=its.length/\s.heap.get? l=some { cls:=.type "list",data:=.seq its.toArray n }:=by
 obtain⟨z,its,n,r,e⟩:=I.hok l _ hH;exact⟨z,its,n,r,r.length,e⟩
theorem zoC{n:Nat}(h:n<=jr):gx n=false:=by
 unfold gx;exact Df_ (by lia)
end
section
def zjQ:V->List V->Hp->VK->Prop:=fun x vs H Q=>∃ l xs y,x=.ref l/\vs=[y]/\H l=some (.lst xs)/\xs.length < jr/\Q .non (upd H l (.lst (xs++[y])))
theorem zck:MtM X "list.append" zjQ:=by
 intro pc s σ H x vs v us Q I rx rv h;obtain⟨l,xs,y,rfl,rfl,hH,hz,q⟩:=h;cases rx;obtain⟨u,rfl,ru⟩:=rv.one;obtain⟨z,its,n,r,hl,e⟩:=I.lstM hH;refine WG F.slot_list_append ⟨_,e,rfl⟩ F.entry_list_append (F.args_list_append_2 _ _) (PySem.list_append l its.toArray n u (by rw[jh]; lia)) ⟨e,?_⟩
 refine⟨.non,_,I.lset (its':=its++[u]) hH e (by simp) (r.append (.cons ru .nil)) ?_,rfl,q⟩
 rw[jk,Zj];lia
def zjO:V->List V->Hp->VK->Prop:=fun x vs H Q=>∃ l b xs zs,x=.ref l/\vs=[.ref b]/\H l=some (.lst xs)/\H b=some (.lst zs)/\xs.length+zs.length<=jr/\Q .non (upd H l (.lst (xs++zs)))
theorem zj0:MtM X "list.extend" zjO:=by
 intro pc s σ H x vs v us Q I rx rv h;obtain⟨l,b,xs,zs,rfl,rfl,hH,hB,hz,q⟩:=h;cases rx;obtain⟨u,rfl,ru⟩:=rv.one;cases ru;obtain⟨z,its,n,r,hl,e⟩:=I.lstM hH;obtain⟨z2,its2,n2,r2,hl2,e2⟩:=I.lstM hB;have hsz:its.toArray.size+its2.toArray.size<=jr:=by rw[jh,jh]; lia
 have hlong:¬ (!its.toArray.isEmpty&&gx (its.toArray.size+its2.toArray.size))=true:=by
  rw[zoC hsz,YA];exact jJ
 refine WG F.slot_list_extend ⟨_,e,rfl⟩ F.entry_list_extend (F.args_list_extend_2 _ _)
  (AutoSeq1.list_extend_list_list_0 l its.toArray n b its2.toArray n2 hlong (by rw[jh]; lia) (by lia)) ⟨e,e2,?_⟩
 refine⟨.non,_,I.lset (its':=its++its2) hH e (by simp) (r.append r2) ?_,rfl,q⟩
 rw[jk];lia
def zvK:V->List V->Hp->VK->Prop:=fun x vs H Q=>∃ l xs y,x=.ref l/\vs=[]/\H l=some (.lst xs)/\xs[xs.length - 1]?=some y/\Q y (upd H l (.lst xs.dropLast))
theorem zkS:MtM X "list.pop" zvK:=by
 intro pc s σ H x vs v us Q I rx rv h;obtain⟨l,xs,y,rfl,rfl,hH,hy,q⟩:=h;cases rx;have hus:=rv.zero;subst hus;obtain⟨z,its,n,r,hl,e⟩:=I.lstM hH;obtain⟨u,hu,ru⟩:=r.get hy;have hy':its.toArray[its.toArray.size - 1]?=some u:=by
  show its.toArray[its.length - 1]?=some u;rw[<-gX,<-hl];exact hu
 refine WG F.slot_list_pop ⟨_,e,rfl⟩ F.entry_list_pop (F.args_list_pop_1 _) (MeetsSeq.list_pop_last l its.toArray n u hy' (by rw[jh]; lia)) ⟨e,?_⟩
 refine⟨y,_,I.lset (its':=its.dropLast) hH e ?_ r.dropLast ?_,ru,q⟩
 ·show its.toArray.eraseIdxIfInBounds (its.toArray.size - 1)=its.dropLast.toArray;rw[jh,List.eraseIdxIfInBounds_toArray,zlS]
 ·rw[List.length_dropLast];lia
def zwY:R2:=fun x y H Q=>∃ l b xs zs,x=.ref l/\y=.ref b/\H l=some (.lst xs)/\H b=some (.lst zs)/\xs.length+zs.length<=jr/\∀ p,H p=none->Q (.ref p) (upd H p (.lst (xs++zs)))
theorem zpt:OpR X (gz .Add) zwY:=by
 intro pc s σ H x y v u Q I rx ry h;obtain⟨l,b,xs,zs,rfl,rfl,hH,hB,hz,q⟩:=h;cases rx;cases ry;obtain⟨z,its,n,r,hl,e⟩:=I.lstM hH;obtain⟨z2,its2,n2,r2,hl2,e2⟩:=I.lstM hB;refine PySem.P.add_list e e2 ?_ (by rw[jh,jh]; lia)
 have ea:its.toArray++its2.toArray=(its++its2).toArray:=by simp
 rw[ea];exact⟨.ref _,_,I.lnew (t':=s.toks) (r.append r2) (by rw[jk]; lia),rfl,q _ I.fresh⟩
end
section
variable {κ:Type}[DecidableEq κ]
def zjD(kvs:List (κ × V))(k:κ):Option V:=(kvs.find? fun kv=>decide (kv.1=k)).map (·.2)
def zhh(kvs:List (κ × V))(k:κ)(v:V):List (κ × V):=
 if (kvs.any fun kv=>decide (kv.1=k))=true then kvs.map (fun kv=>if kv.1=k then (kv.1,v) else kv) else kvs++[(k,v)]
theorem zfN{p:κ × V}{r:List (κ × V)}{k:κ}(e:p.1=k):zjD (p::r) k=some p.2:=by simp[zjD,Z2,e]
theorem zfO{p:κ × V}{r:List (κ × V)}{k:κ}(e:¬ p.1=k):zjD (p::r) k=zjD r k:=by simp[zjD,Z2,e]
theorem zkA(k:κ):∀ kvs:List (κ × V),(kvs.any fun kv=>decide (kv.1=k))=(zjD kvs k).isSome
 |[]=>rfl
 |p::r=>by
  rw[Za]
  by_cases e:p.1=k
  ·simp only[zfN e,Dt_ e,JZ,Option.isSome_some]
  ·rw[zfO e,Df_ e,Wm]; exact zkA k r
theorem zd8(kvs:List (κ × V))(k:κ)(v:V):(zhh kvs k v).length<=kvs.length+1:=by
 unfold zhh;split
 ·rw[j6]; lia
 ·rw[jk,jp,ZR]; lia
theorem RelO.isSome_eq{o:Option V}{u:Option j8}(r:RelO o u):o.isSome=u.isSome:=by
 cases o with
 |none=>cases u with
  |none=>rfl
  |some _=>exact(show False from r).elim
 |some _=>cases u with
  |none=>exact(show False from r).elim
  |some _=>rfl
theorem KV.val{kvs:List (κ × V)}{vs:List (κ × j8)}(r:KV kvs vs)(k:κ):RelO (zjD kvs k) (WH vs k):=by
 unfold KV at r
 induction r with
 |nil=>exact ZK
 |@cons p q ps qs h t ih=>
  obtain⟨h1,h2⟩:=h
  by_cases e:p.1=k
  ·have e':q.1=k:=h1.symm.trans e;have b:WH (q::qs) k=some q.2:=by simp[WH,Z2,e']
   rw[zfN e,b]; exact h2
  ·have e':¬ q.1=k:=fun z=>e (h1.trans z);have b:WH (q::qs) k=WH qs k:=by simp[WH,Z2,e']
   rw[zfO e,b]; exact ih
theorem KV.any{kvs:List (κ × V)}{vs:List (κ × j8)}(r:KV kvs vs)(k:κ):(kvs.any fun kv=>decide (kv.1=k))=vs.any fun kv=>decide (kv.1=k):=by
 unfold KV at r
 induction r with
 |nil=>rfl
 |cons h t ih=>rw[Za,Za,ih,h.1]
theorem KV.repl{kvs:List (κ × V)}{vs:List (κ × j8)}(r:KV kvs vs)(k:κ){y:V}{u:j8}(ry:RelV y u) :
  KV (kvs.map fun kv=>if kv.1=k then (kv.1,y) else kv) (vs.map fun kv=>if kv.1=k then (kv.1,u) else kv):=by
 unfold KV at r ⊢
 induction r with
 |nil=>exact .nil
 |@cons p q ps qs h t ih=>
  rw[jt,jt];refine .cons ?_ ih;obtain⟨h1,h2⟩:=h
  by_cases e:p.1=k
  ·rw[Ip_ e,Ip_ (h1.symm.trans e)]; exact⟨h1,ry⟩
  ·rw[In_ e,In_ (fun z=>e (h1.trans z))]; exact⟨h1,h2⟩
theorem KV.put{kvs:List (κ × V)}{vs:List (κ × j8)}(r:KV kvs vs)(k:κ){y:V}{u:j8}(ry:RelV y u):KV (zhh kvs k y) (stored vs k u):=by
 unfold zhh stored;rw[r.any k]
 by_cases e:(vs.any fun kv=>decide (kv.1=k))=true
 ·rw[Ip_ e,Ip_ e]; exact r.repl k ry
 ·rw[In_ e,In_ e]; exact U9 r ⟨rfl,ry⟩
theorem KV.length{kvs:List (κ × V)}{vs:List (κ × j8)}(r:KV kvs vs):kvs.length=vs.length:=YT r
end
theorem znj{P:jH}{w:Qf}{k:Key}{u:j8}(r:RelV (kV k) u):(zb6 P w).is k u=true:=by
 cases k with
 |inl i=>obtain⟨t,e⟩:=(show ∃ t,u=Jh i t from r); subst e; exact zk3 P w i t
 |inr x=>obtain⟨t,e⟩:=(show ∃ t,u=ZG x t from r); subst e; exact zk2 P w x t
theorem zj4{P:jH}{w:Qf}:∀ {ks:List Key} {us:List j8},Vals (ks.map kV) us->ItemsAre (zb6 P w) ks us
 |[],_,r=>by rw[Zz] at r; cases r; exact .nil
 |k::ks,_,r=>by
  rw[jt] at r;cases r with
  |cons h t=>exact .cons (znj h) (zj4 t)
abbrev KT(H:Hp):List (List Key × V)->List (List Key × js × j8)->Prop:=JV fun p q=>p.1=q.1/\H q.2.1=some (.tup (p.1.map kV))/\RelV p.2 q.2.2
theorem KT.val{H:Hp}{kvs:List (List Key × V)}{xs:List (List Key × js × j8)}(r:KT H kvs xs)(k:List Key):RelO (zjD kvs k) ((U0 xs k).map (·.2)):=by
 induction r with
 |nil=>exact ZK
 |@cons p q ps qs h t ih=>
  obtain⟨h1,_,h2⟩:=h
  by_cases e:p.1=k
  ·have e':q.1=k:=h1.symm.trans e;have b:U0 (q::qs) k=some q.2:=by simp[U0,Z2,e']
   rw[zfN e,b]; exact h2
  ·have e':¬ q.1=k:=fun z=>e (h1.trans z);have b:U0 (q::qs) k=U0 qs k:=by simp[U0,Z2,e']
   rw[zfO e,b]; exact ih
theorem KT.repl{H:Hp}{kvs:List (List Key × V)}{xs:List (List Key × js × j8)}(r:KT H kvs xs)(k:List Key){y:V}{u:j8}(ry:RelV y u) :
  KT H (kvs.map fun kv=>if kv.1=k then (kv.1,y) else kv) (xs.map (putAt k u)):=by
 induction r with
 |nil=>exact .nil
 |@cons p q ps qs h t ih=>
  rw[jt,jt];refine .cons ?_ ih;obtain⟨h1,h2,h3⟩:=h;unfold putAt
  by_cases e:p.1=k
  ·rw[Ip_ e,Ip_ (h1.symm.trans e)]; exact⟨h1,h2,ry⟩
  ·rw[In_ e,In_ (fun z=>e (h1.trans z))]; exact⟨h1,h2,h3⟩
theorem KT.put{H:Hp}{kvs:List (List Key × V)}{xs:List (List Key × js × j8)}(r:KT H kvs xs)(k:List Key){b:js}{y:V}{u:j8}(hb:H b=some (.tup (k.map kV)))(ry:RelV y u) :
  KT H (zhh kvs k y) (storedH xs k b u):=by
 have e:(kvs.any fun kv=>decide (kv.1=k))=(U0 xs k).isSome:=by
  rw[zkA,(r.val k).isSome_eq,gQ]
 unfold zhh storedH;rw[e]
 by_cases q:(U0 xs k).isSome=true
 ·rw[Ip_ q,Ip_ q]; exact r.repl k ry
 ·rw[In_ q,In_ q]; exact U9 r ⟨rfl,hb,ry⟩
theorem KT.keeps{H H':Hp}{kvs:List (List Key × V)}{xs:List (List Key × js × j8)}(r:KT H kvs xs)(ht:∀ b ys,H b=some (.tup ys)->H' b=some (.tup ys)):KT H' kvs xs:=
 Paired.mapP r fun _ _ z=>⟨z.1,ht _ _ z.2.1,z.2.2⟩
section
variable {P:jH}{w:Qf}{h:QL}
theorem zsQ{u:HO}(ok:HOk P w H h)(e:Rd H a u):ObjOk P w H h a u:=e.ok ok
theorem zlV{kvs:List (Key × V)}(ok:HOk P w H h)(e:Rd H a (.dK kvs)):kvs.length<=jr/\(a == ZJ)=false/\∃ vs,KV kvs vs/\h.DictOf (zb6 P w) a vs:=
 show ObjOk P w H h a (.dK kvs) from zsQ ok e
theorem zrt{kvs:List (Key × V)}(ok:HOk P w H h)(e:H a=some (.dK kvs)):kvs.length<=jr/\(a == ZJ)=false/\∃ vs,KV kvs vs/\h.DictOf (zb6 P w) a vs:=zlV ok (.inl e)
theorem zkW{ks:List Key}(ok:HOk P w H h)(e:H a=some (.tup (ks.map kV))):(Wb (zb6 P w)).is h ks a:=by
 obtain⟨_,its,r,o,h1,h2,n,h3⟩:=(show ObjOk P w H h a (.tup (ks.map kV)) from ok a _ e);exact⟨o,its.toArray,n,h1,h2,h3,by simpa using zj4 r⟩
theorem zoR{kvs:List (List Key × V)}(ok:HOk P w H h)(e:Rd H a (.dT kvs)):kvs.length<=jr/\(a == ZJ)=false /\
  ∃ xs,KT H kvs xs/\h.DictOfH (Wb (zb6 P w)) a xs:=by
 obtain⟨z,y,xs,r,o,es,ep,h1,h2,h3,h4,h5⟩:=(show ObjOk P w H h a (.dT kvs) from zsQ ok e);refine⟨z,y,xs,r,o,es,ep,h1,h2,h3,h4,fun x hx=>?_,h5⟩;have all:∀ {l:List (List Key × V)} {m:List (List Key × js × j8)},KT H l m->∀ x∈m,(Wb (zb6 P w)).is h x.1 x.2.1:=by
  intro l m q
  induction q with
  |nil=>intro x hx; exact nomatch hx
  |@cons p q ps qs hq t ih=>
   intro x hx;rcases jv.mp hx with e |hx
   ·subst e;exact zkW ok (by rw[<-hq.1]; exact hq.2.1)
   ·exact ih x hx
 exact all r x hx
theorem zwu{kvs:List (List Key × V)}(ok:HOk P w H h)(e:H a=some (.dT kvs)):kvs.length<=jr/\(a == ZJ)=false /\
  ∃ xs,KT H kvs xs/\h.DictOfH (Wb (zb6 P w)) a xs:=zoR ok (.inl e)
end
def DGet(H:Hp)(a:js)(y:V)(r:Option V):Prop:=
 (∃ kvs k,Rd H a (.dK kvs)/\y=kV k/\r=zjD kvs k)∨∃ kvs k b,Rd H a (.dT kvs)/\y=.ref b/\H b=some (.tup (k.map kV))/\r=zjD kvs k
def DPut(H:Hp)(a:js)(y v:V)(H':Hp):Prop:=
 (∃ kvs k,H a=some (.dK kvs)/\y=kV k/\kvs.length < jr/\H'=upd H a (.dK (zhh kvs k v))) ∨
 ∃ kvs k b,H a=some (.dT kvs)/\y=.ref b/\H b=some (.tup (k.map kV))/\kvs.length < jr/\H'=upd H a (.dT (zhh kvs k v))
theorem DGet.k{H:Hp}{a:js}{kvs:List (Key × V)}{k:Key}(e:H a=some (.dK kvs)):DGet H a (kV k) (zjD kvs k):=.inl ⟨kvs,k,.inl e,rfl,rfl⟩
theorem DPut.k{H:Hp}{a:js}{kvs:List (Key × V)}{k:Key}{v:V}(e:H a=some (.dK kvs))(hl:kvs.length < jr):DPut H a (kV k) v (upd H a (.dK (zhh kvs k v))):=.inl ⟨kvs,k,e,rfl,hl,rfl⟩
section
variable {y v:V}{u r:j8}{o:Option V}{A:Qg}{E:j8->jc->Prop}
theorem Inv.big(I:Inv X pc σ H s):ZJ < s.heap.objs.size:=by
 have h:jO < s.heap.objs.size:=(I.mod.glob.keeps I.bk).lt;exact WX (by decide) h
theorem znI{Q:j8->jc->Prop}(hu:A.units+1 < gG)(I:Inv X pc σ H s)(g:DGet H a y (some v))(ry:RelV y u)(h:∀ w' s',Inv X pc σ H s'->RelV v w'->Q w' s') :
  jI (jM X.prog X.w) A (Wz (.ref a) u) Q E s:=by
 rcases g with ⟨kvs,k,e,ey,l⟩ |⟨kvs,k,b,e,ey,eb,l⟩
 ·subst ey;obtain⟨z,hd,vs,rel,dd⟩:=zlV I.hok e;obtain⟨w',hw,rw'⟩:=RelO.some_of (v:=v) (o:=WH vs k) (by rw[l]; exact rel.val k)
  exact wpAny_getItem_of (znj ry) dd.mapOf hw (h w' _ (I.tok _) rw')
 ·subst ey;cases (show u=Qh b from ry);obtain⟨z,hd,xs,rel,dd⟩:=zoR I.hok e;obtain⟨w',hw,rw'⟩:=RelO.some_of (v:=v) (o:=(U0 xs k).map (·.2)) (by rw[l]; exact rel.val k)
  obtain⟨p,hp,hp2⟩:=Qm hw;refine wpAny_getItem_heap (Yt hu) (zkW I.hok eb) dd hp ?_;rw[hp2];exact h w' _ (I.tok _) rw'
theorem zrv{Q:j8->jc->Prop}(hu:A.units+1 < gG)(I:Inv X pc σ H s)(g:DGet H a y o)(ry:RelV y u)(h:∀ s',Inv X pc σ H s'->Q (.bool (!o.isSome)) s') :
  jI (jM X.prog X.w) A (Zb .NotIn u (.ref a)) Q E s:=by
 rcases g with ⟨kvs,k,e,ey,l⟩ |⟨kvs,k,b,e,ey,eb,l⟩
 ·subst ey;obtain⟨z,hd,vs,rel,dd⟩:=zlV I.hok e;refine wpAny_notIn_of (znj ry) hd dd.mapOf ?_;rw[<-(rel.val k).isSome_eq,<-l];exact h _ (I.tok _)
 ·subst ey;cases (show u=Qh b from ry);obtain⟨z,hd,xs,rel,dd⟩:=zoR I.hok e;refine wpAny_notIn_heap (Yt hu) (zkW I.hok eb) hd dd ?_;have q:=(rel.val k).isSome_eq;rw[gQ] at q;rw[<-q,<-l];exact h _ (I.tok _)
theorem zie{h':QL}{t':Nat}{ob:HO}(I:Inv X pc σ H s)(mu:Mut (H a))(hs:Qq a s.heap h')(he:∃ q,h'.get? a=some q)(new:ObjOk X.prog X.w (upd H a ob) h' a ob) :
  Inv X pc σ (upd H a ob) { s with heap:=h',toks:=t' }:=
 I.write (x:=a) (e:=a) mu (.inl rfl) (fun b q hb z=>(hs.2 b hb).trans z) he new
theorem zpH{P:jH}{w:Qf}{H':Hp}{h':QL}{kvs:List (Key × V)}{vs:List (Key × j8)}(z:kvs.length<=jr)(hd:(a == ZJ)=false)(rel:KV kvs vs)(dd:h'.DictOf (zb6 P w) a vs) :
  ObjOk P w H' h' a (.dK kvs):=⟨z,hd,vs,rel,dd⟩
theorem znH{H':Hp}{Q:Unit->jc->Prop}(hu:A.units+1 < gG)(I:Inv X pc σ H s)(g:DPut H a y v H')(ry:RelV y u)(rv:RelV v r)(h:∀ s',Inv X pc σ H' s'->Q () s') :
  jI (jM X.prog X.w) A (Jj (.ref a) u r) Q E s:=by
 rcases g with ⟨kvs,k,e,ey,l,eH⟩ |⟨kvs,k,b,e,ey,eb,l,eH⟩
 ·subst ey eH;obtain⟨z,hd,vs,rel,dd⟩:=zrt I.hok e;have hz:vs.length<=jr:=by rw[<-rel.length]; exact z
  have hl:(zhh kvs k v).length<=jr:=by have:=zd8 kvs k v; lia
  refine wpAny_setItem_pairs (hsz:=hz) (znj ry) dd fun h' dd' hs=>h _ ?_;have he:∃ q,h'.get? a=some q:=let ⟨q,_,_,hq,_⟩:=dd'; ⟨q,hq⟩
  exact zie I (by rw[e]; exact ZK) hs he (zpH hl hd (rel.put k rv) dd')
 ·subst ey eH;cases (show u=Qh b from ry);obtain⟨z,hd,xs,rel,dd⟩:=zwu I.hok e;have hz:xs.length<=jr:=by rw[<-YT rel]; exact z
  have hl:(zhh kvs k v).length<=jr:=by have:=zd8 kvs k v; lia
  refine wpAny_setItem_heap (hsz:=hz) (Yt hu) (zkW I.hok eb) dd fun h' dd' hs=>h _ ?_;obtain⟨q,es,ep,hq,h2,h3,h4,_,h5⟩:=dd';refine zie I (by rw[e]; exact ZK) hs ⟨q,hq⟩ ⟨hl,hd,_,(rel.put k eb rv).keeps fun c ys ec=>?_,q,es,ep,hq,h2,h3,h4,h5⟩
  rw[za8 (zw3 ec e (fun z=>nomatch z))]
  exact ec
end
section
variable {kvs:List (Key × V)}{k:Key}{u:j8}{A:Qg}{E:j8->jc->Prop}
theorem zwv{Q:j8->jc->Prop}(I:Inv X pc σ H s)(e:Rd H a (.dK kvs))(h:∀ t s',Inv X pc σ H s'->Q (.int kvs.length t) s'):jI (jM X.prog X.w) A (call (.builtin "len") [.ref a]) Q E s:=by
 obtain⟨z,hd,vs,rel,dd⟩:=zlV I.hok e;refine call_len_dict hd dd (by rw[<-rel.length]; rw[ZQ] at z; lia) ?_
 rw[<-rel.length];exact h _ _ (I.tok _)
end
def zuK(i:Q4):Prop:=∀ ov iv,W4 i false ov iv=operate [ov,iv] (Wz ov iv)
theorem zqc{prog:jH}{w:Qf}{A:Qg}{E:j8->jc->Prop}{s:jc}{env:Env}{value slice:Q4}{pos:Pos}{T id:String}{Q:j8->jc->Prop}
  (hl:JD (.type T) "__getitem__"=pure (some (.builtin id))) (hs:zuK slice)
  (h:jI (jM prog w) A (eval value env) (fun o s₁=>jI (jM prog w) A (eval slice env) (fun i s₂=>s₂.TypeIs o T/\jI (jM prog w) A (Wz o i) Q E s₂) E s₁) E s) :
  jI (jM prog w) A (eval (.Subscript value slice pos) env) Q E s:=by
 refine WE (jV h (fun o s₁ h₁=>jV h₁ (fun i s₂ h₂=>?_) fun _ _ x=>x) fun _ _ x=>x);obtain⟨hT,h₂⟩:=h₂;unfold YX;refine j4 ?_;rw[getitemInPython_of_ne hT.not_modules];refine j4 (wpAny_specialOf hT hl ?_);have fin:jI (jM prog w) A (W4 slice false o i) (fun r s₃=>jI (jM prog w) A (letTemporaryGo value o r >>= fun _=>pure r) Q E s₃) E s₂:=by
  rw[hs o i];exact wpAny_operating (jV h₂ (fun r s₃ h₃=>j4 (wpAny_letTemporaryGo (jq h₃))) fun _ _ x=>x)
 first
  |exact jq (j4 fin)
  |exact j4 (jq (j4 fin))
  |exact j4 fin
theorem zkn{X:Cx}{pc:List (js × Obj)}{σ:St}{H:Hp}{s:jc}{a:js}{y:V}{o:Option V}(I:Inv X pc σ H s)(g:DGet H a y o):s.TypeIs (.ref a) "dict":=by
 rcases g with ⟨kvs,k,e,_,_⟩ |⟨kvs,k,b,e,_,_,_⟩
 ·obtain⟨_,_,vs,_,dd⟩:=zlV I.hok e;exact dd.typeIs
 ·obtain⟨_,_,xs,_,dd⟩:=zoR I.hok e;exact dd.typeIs
def zvu(td ty:TE):TE:=fun σ H Q=>td σ H fun x H1=>ty σ H1 fun y H2=>∃ a v,x=.ref a/\DGet H2 a y (some v)/\Q v H2
def zqa(ty td:TE):TE:=fun σ H Q=>ty σ H fun y H1=>td σ H1 fun x H2=>∃ a o,x=.ref a/\DGet H2 a y o/\Q (.bl (!o.isSome)) H2
def zqn(td ty tv:TE):TS:=fun D σ H=>tv σ H fun v H1=>td σ H1 fun x H2=>ty σ H2 fun y H3=>∃ a H4,x=.ref a/\DPut H3 a y v H4/\D.nx σ H4
section
variable {o i value:Q4}{pos' tpos:Pos}{td ty tv:TE}
theorem zmX(hu:X.A.units+1 < gG)(ho:PE X o td)(hi:PE X i ty)(hs:zuK i):PE X (.Subscript o i pos) (zvu td ty):=by
 intro pc s σ H Q I h;refine zqc PySem.F.slot_dict_getitem.lookup hs (thn (ho pc s σ H _ I h) fun u s1 h_=>?_); obtain⟨x,H1,I1,rx,q1⟩:=h_; refine thn (hi pc s1 σ H1 _ I1 q1) fun iv s2 h_=>?_; obtain⟨y,H2,I2,ry,a,v,ex,g,q2⟩:=h_;subst ex;obtain rfl:u=Qh a:=rx;exact⟨zkn I2 g,znI hu I2 g ry fun w' s3 I3 rw'=>⟨v,H2,I3,rw',q2⟩⟩
theorem ziU(hu:X.A.units+1 < gG)(hi:PE X i ty)(ho:PE X o td):PC X .NotIn i o (zqa ty td):=by
 intro pc s σ H Q I h;refine thn (hi pc s σ H _ I h) fun iv s1 h_=>?_; obtain⟨y,H1,I1,ry,q1⟩:=h_; refine thn (ho pc s1 σ H1 _ I1 q1) fun u s2 h_=>?_; obtain⟨x,H2,I2,rx,a,ov,ex,g,q2⟩:=h_;subst ex;obtain rfl:u=Qh a:=rx;exact zrv hu I2 g ry fun s3 I3=>⟨.bl (!ov.isSome),H2,I3,rfl,q2⟩
theorem zqI(hu:X.A.units+1 < gG)(ho:PE X o td)(hi:PE X i ty)(hv:PE X value tv)(hs:ZO value (some (.Subscript o i pos')) pos.line X.env=pure false) :
  PS X (.Assign [.Subscript o i pos'] value pos) (zqn td ty tv):=by
 intro pc s σ H D I h;refine wpAny_Assign_Subscript (thn (hv pc s σ H _ I h) fun r s1 ⟨v,H1,I1,rv,q1⟩=>thn (ho pc s1 σ H1 _ I1 q1) fun u s2 ⟨x,H2,I2,rx,q2⟩=>thn (hi pc s2 σ H2 _ I2 q2) fun iv s3 ⟨y,H3,I3,ry,a,H4,ex,g,q3⟩=>?_) hs;subst ex;obtain rfl:u=Qh a:=rx;exact znH hu I3 g ry rv fun s4 I4=>⟨σ,H4,I4,q3⟩
end
theorem zlb{P:jH}{w:Qf}{H:Hp}(h:QL)(hb:ZJ < h.objs.size):ObjOk P w H (h.push { cls:=.type "dict",data:=.dict #[] }) h.objs.size (.dK []):=
 ⟨QV _,beq_eq_false_iff_ne.mpr (Zr (jC hb)),[],.nil,Heap.DictOf.new h⟩
def zss:TE:=fun _ H Q=>∀ p,H p=none->Q (.ref p) (upd H p (.dK []))
section
theorem zoy:PE X (.Dict [] [] pos) zss:=fun pc s σ H Q I h=>
 wpAny_Dict_empty ⟨.ref s.heap.objs.size,_,I.laid (a:=s.heap.objs.size) (o:=.dK []) (t':=s.toks) (fun _ _ q=>ja _ q) (jm _) (zlb s.heap I.big),rfl,h _ (I.hok.fresh (jm _))⟩
end
end L2
namespace Att
open PySem PySem.W PySem.Calls PyProof.Rows
theorem zgz{P:Params}{h:QL}:∀(ns:List Int) (vs:List j8),WellAll P h vs (ns.map WData.int)->Jm vs ns:=by
 intro ns
 induction ns with
 |nil=>
  intro vs w;rw[Zz] at w;cases w;exact .nil
 |cons n ns ih=>
  intro vs w;rw[jt] at w;cases w with
  |cons a b=>
   cases a;exact .cons _ _ (ih _ b)
theorem zmt{l:OpenLaw}{n:Nat}(hn:l.most=some n){P:Params}{h:QL}{args:List WData}{vals:List j8}
  (hpre:l.row.toRowW.claim.pre args=true) (hwl:WellAll P h vals args) :
  ∃ a vs ns,vals=[Qh a]/\args=[WData.list (ns.map WData.int)]/\h.get? a=some { cls:=.type "list",data:=.seq vs.toArray }/\Jm vs ns/\ns.length<=n:=by
 have hsh:WShape.hasAll [] args [.list .int]=true:=(pre_splitW hpre).1;have hc:l.pre.holds [] { args:=args }=true:=(pre_splitW hpre).2;obtain⟨d,r,rfl,h1,h2⟩:=hasAllW_cons hsh;obtain rfl:=hasAllW_nil h2;obtain⟨xs,rfl,h3⟩:=hasW_list h1;obtain⟨ns,rfl⟩:=items_int h3;have hlen:ns.length<=n:=by
  unfold OpenLaw.pre at hc;have h4:(WTm.not (.lt (.lit (.int (n:Int))) (.len (.arg 0)))).holds [] { args:=[.list (ns.map .int)] }=true:=by
   have h4:=(holds_andW hc).1;rw[hn] at h4;exact h4
  have h5:=condW_of h4 (w_not (w_lt w_lit (w_len_list (w_arg rfl))));rw[j6] at h5;refine J8 fun q=>?_;have q':(n:Int) < ((ns.length:Nat):Int):=by lia
  first
   |(rw[Dt_ q'] at h5; exact absurd h5 (by decide))
   |(simp at h5; lia)
 cases hwl with
 |cons w1 w2=>
  cases w2;cases w1 with
  |list ho hall=>exact⟨_,_,ns,rfl,rfl,ho,zgz ns _ hall,hlen⟩
theorem zmU(l:OpenLaw)(args:List WData):l.row.toRowW.claim.post args (.bool true) args=true:=
 postW_of (r:=l.row.toRowW) (X:=(true == true))
  (show Ue [] (.bool true) .bool=true by first |rfl |decide |simp[Ue,WShape.arms,WShape.armsAll])
  (show (WTm.eq .res (.lit (.bool true))).value [] { args:=args,res:=some (.bool true),after:=args }=some (.bool (true == true)) from w_eq_bool (w_res rfl) w_lit) rfl
theorem attach_call{l:OpenLaw}{n:Nat}{q:jH}{loose:List Str}{XP:(Str->Option j8)->QL->Prop}{YP:Qf->QL->Prop}{d:DefRec}
  (hn:l.most=some n) (hdf:d.params.defaults=[])
  (call:∀(w:Qf) (s₀ s₁:jc) (mg mb:Str->Option j8) (fa:js) (o:Obj) (pm cd doc:j8) (a:js) (vs:List j8) (ns:List Int),
   Ground q loose [] XP w s₀ mg mb s₁.heap->YP w s₁.heap->
   s₁.heap.get? fa=some o->o.data=.func (docDef d.name d.params d.body d.scope pm cd doc)->s₁.heap.CodeRec cd d.name->mg d.name=some (.ref fa)->
   s₁.heap.get? a=some { cls:=.type "list",data:=.seq vs.toArray }->Jm vs ns->ns.length<=n->s₁.gens=#[]->
   Yc (jM l.prog w) WI (.call (.ref fa) ⟨[.ref a],[]⟩) (fun r s'=>r=.ok (.ret (.bool true))/\OldK s₁.heap s'.heap/\s'.os=s₁.os/\YU s'.gens) s₁) :
  WalkO q loose XP YP l.row.toRowW d [] (fun f vs=>JF f vs):=by
 intro w s₀ s₁ mg mb G Y fa o pm cd doc dV kV ho hd hcd hD hmg hg args vals as hpre hlay hrd hwl hlo;obtain rfl:dV=.none:=Dflts.none hD hdf;obtain rfl:kV=.none:=Dflts.noKw hD;obtain⟨a,vs,ns,rfl,rfl,hobj,hints,hlen⟩:=zmt hn hpre hwl;refine enter_call (Yr (call w s₀ s₁ mg mb fa o pm cd doc a vs ns G Y ho (fd_plain hd) hcd hmg hobj hints hlen hg) fun r s' hq=>?_);obtain⟨rfl,h2,h3,h4⟩:=hq;exact⟨.inl ⟨.bool true,.bool true,[],rfl,fun _=>rfl,.bool true,zmU l _,fun _=>⟨WJ,fun _ hm=>(nomatch hm)⟩⟩,h2,h3,h4⟩
end Att
namespace L2
open PySem PySem.Spec PyProof.Rows
variable {w:Qf}{X:Cx}{N:List Str}{scope:gN}{caps:List (Option Nat)}{s:jc}{prog:jH}{A:Qg}{pos:Pos}
theorem ziy:∀ {vs:List j8} {ns:List Int},Jm vs ns->Vals (ns.map V.int) vs
 |_,_,.nil=>.nil
 |_,_,.cons n t h=>.cons ⟨t,rfl⟩ (ziy h)
def zuJ(H:Hp):Prop:=∀ b,H b=none∨∃ o xs,H b=some (.frz o (.lst xs))
theorem zoF{P:jH}{w:Qf}{K:jb}{mg mb:Str->Option j8}{CX:CXT}{k:Nat}{fa a:js}{fd:Z5}{x:Str}{sp:Sp}{s₁:jc}{vs:List j8}{ns:List Int}
  (KX:K.In s₁.heap) (hns:s₁.heap.Ns jO mg) (hb:s₁.heap.Ns Jz mb) (hbb:∀ x:Str,x≠"__name__"->mb x=Qp x) (hlim:s₁.heap.NoLimit) (hg:s₁.gens=#[])
  (ha:s₁.heap.get? a=some { cls:=.type "list",data:=.seq vs.toArray }) (hi:Jm vs ns) (hl:ns.length<=jr) (hr:Room k WI)
  (F:∀ base:QL,K.In base->base.Ns jO mg->FnOk P w K mg base CX k fa fd [x] sp) (hbind:∀(s:jc) (u:j8),W2 s fd ⟨[u],[]⟩ [(x,u)])
  (hsp:∀ H:Hp,zuJ H->SqL K H a (ns.map V.int)->sp [.ref a] H (fun v _=>v=.bl true) fun _ _ _=>False)
  (hCX:∀ H e s',CX [] H s₁ (fun _ _ _=>False) e s'->False) :
  Yc (jM P w) WI (.call (.ref fa) ⟨[.ref a],[]⟩) (fun r s'=>r=.ok (.ret (.bool true))/\OldK s₁.heap s'.heap/\s'.os=s₁.os/\YU s'.gens) s₁:=by
 have rv:=ziy hi;have lenV:=hi.length
 -- from an abstract heap in which nothing but the script may be tracked
 have core:∀ H:Hp,zuJ H->SqL K H a (ns.map V.int)->HOk P w H s₁.heap->(∀ b,H b≠none->b=a)->(H a≠none->K.lookup a=none)->
   Yc (jM P w) WI (.call (.ref fa) ⟨[.ref a],[]⟩) (fun r s'=>r=.ok (.ret (.bool true))/\OldK s₁.heap s'.heap/\s'.os=s₁.os/\YU s'.gens) s₁:=by
  intro H hO hS hok hA hK;have base_of:∀ {b:js} {o:Obj},s₁.heap.get? b=some o->H b=none->(zoI s₁.heap H).get? b=some o:=fun e n=>zoH e n;have noA:∀ {b:js} {o:Obj} {es:Array DictEntry} {ep:Nat},s₁.heap.get? b=some o->o.data=.dict es ep->H b=none:=fun {b o es ep} e d=>by
   cases q:H b with
   |none=>rfl
   |some u=>
    have e':b=a:=hA b (by rw[q]; simp)
    subst e';rw[ha] at e; cases e;have d':Uc vs.toArray _=Data.dict es ep:=d;cases d'
  have nsK:∀ {b:js} {m:Str->Option j8},s₁.heap.Ns b m->(zoI s₁.heap H).Ns b m:=fun {b m} ⟨o,es,ep,e,d,r⟩=>⟨o,es,ep,base_of e (noA e d),d,r⟩
  have hKb:K.In (zoI s₁.heap H):=fun b o e=>base_of (KX b o e) (by
   cases q:H b with
   |none=>rfl
   |some u=>
    have e':b=a:=hA b (by rw[q]; simp)
    subst e'
    rw[hK (by rw[q]; simp)] at e; cases e)
  have hM:Mod K mg (zoI s₁.heap H):=⟨hKb,nsK hns,⟨mb,nsK hb,hbb⟩,let ⟨mc,h1,h2⟩:=hlim; ⟨mc,nsK h1,h2⟩⟩
  have e0:Env0 P w K mg (zoI s₁.heap H) WI [] s₁ H:=⟨rfl,hM,fun b o e=>zr0 e,Nat.le_of_eq (znq _ _),trivial,fun b hb=>absurd (show b∈([]:List js) from hb) (by simp),hok,.of_eq hg⟩
  refine Yr ((F _ hKb (nsK hns)).run WI [] s₁ H ⟨[.ref a],[]⟩ [.ref a] [.ref a] _ _ hr e0 (hbind s₁ (.ref a)) (.cons rfl .nil) (hsp H hO hS)) fun r s' h=>?_;cases r with
  |error e=>exact(hCX H e s' h).elim
  |ok fl=>
   cases fl with
   |next=>exact Zf h
   |brk=>exact Zf h
   |cont=>exact Zf h
   |ret u=>
    obtain⟨v,H',os,bare,un,hok',r',q⟩:=h;have q':v=.bl true:=q;subst q';obtain rfl:u=Jx true:=r';refine⟨rfl,OldK.of_keep fun b o e=>?_,os,bare⟩;cases q:H b with
    |none=>exact un.keep b o e q (by intro z; exact absurd (show b∈([]:List js) from z) (by simp)) (by simp)
    |some u=>
     rcases hO b with z |⟨ob,xs,z⟩
     ·rw[q] at z; cases z
     ·have z2:=un.frzs b ob _ z;obtain⟨e1,_⟩:=hok b _ z;obtain⟨e2,_⟩:=hok' b _ z2;rw[e] at e1; cases e1;exact e2
 cases hk:K.lookup a with
 |some o=>
  -- the script is one of the module's own objects
  have e:=KX a o hk;rw[ha] at e;cases e;refine core (fun _=>none) (fun _=>.inl rfl) (.inr ⟨_,vs.toArray,_,hk,rfl,rfl,rfl,by rw[jh,lenV]; exact hl,by simpa using rv⟩) (fun b u z=>by have z':(none:Option HO)=some u:=z; cases z') (fun b z=>absurd rfl z) fun z=>absurd rfl z
 |none=>
  refine core (fun b=>if b=a then some (.frz { cls:=.type "list",data:=.seq vs.toArray } (.lst (ns.map V.int))) else none) (fun b=>?_) (.inl (.inr ⟨{ cls:=.type "list",data:=.seq vs.toArray },Ip_ rfl⟩)) (fun b u z=>?_) (fun b z=>?_) fun _=>hk
  ·by_cases hb:b=a
   ·exact .inr ⟨_,_,Ip_ hb⟩
   ·exact .inl (In_ hb)
  ·by_cases hb:b=a
   ·have z':=(Ip_ hb).symm.trans z;cases z';subst hb;exact⟨ha,by rw[j6]; exact hl,vs,_,rv,ha⟩
   ·have z':=(In_ hb).symm.trans z;cases z'
  ·by_cases hb:b=a
   ·exact hb
   ·exact absurd (In_ hb) z
theorem zpW{l:Ye}{n k:Nat}{q:jH}{loose:List Str}{XP:(Str->Option j8)->QL->Prop}{YP:Qf->QL->Prop}{d:DefRec}{K:Params->jb}{CX:Qf->CXT}{sp:Qf->Sp}{x:Str}
  (hn:l.most=some n) (hn2:n<=jr) (hdf:d.params.defaults=[]) (hr:Room k WI)
  (hY:∀(w:Qf) (h:QL),YP w h->(K w.params).In h)
  (F:∀(w:Qf) (mg:Str->Option j8) (fa:js) (h:QL),(K w.params).In h->h.Ns jO mg->mg d.name=some (.ref fa)->
   ∃ fd:Z5,(∀(s:jc) (u:j8),W2 s fd ⟨[u],[]⟩ [(x,u)]) /\
    ∀ base:QL,(K w.params).In base->base.Ns jO mg->FnOk l.prog w (K w.params) mg base (CX w) k fa fd [x] (sp w))
  (hsp:∀(w:Qf) (H:Hp) (a:js) (ns:List Int),ns.length<=n->zuJ H->SqL (K w.params) H a (ns.map V.int)->sp w [.ref a] H (fun v _=>v=.bl true) fun _ _ _=>False)
  (hCX:∀(w:Qf) (H:Hp) (s:jc) (e:j8) (s':jc),CX w [] H s (fun _ _ _=>False) e s'->False) :
  JL q loose XP YP l.row.toRowW d [] (fun f vs=>JF f vs):=by
 refine Att.attach_call hn hdf fun w s₀ s₁ mg mb fa o pm cd doc a vs ns G Y ho hd hcd hmg hobj hints hlen hg=>?_;have KX:=hY w _ Y;obtain⟨fd,hb,hF⟩:=F w mg fa _ KX G.T.g hmg;exact zoF KX G.T.g G.T.b G.T.builtins G.T.nolimit hg hobj hints (Qc hlen hn2) hr hF hb (fun H hO hS=>hsp w H a ns hlen hO hS) fun H e s'=>hCX w H s₁ e s'
def zbi(s:QR):Wi:=match s with
 |.FunctionDef _ a _ _ _ _ _ _ _ _=>a
 |_=>{ posonlyargs:=[],args:=[],vararg:=none,kwonlyargs:=[],kw_defaults:=[],kwarg:=none,defaults:=[] }
def zar(s:QR):List QR:=match s with
 |.FunctionDef _ _ b _ _ _ _ _ _ _=>b
 |_=>[]
def za0(s:QR):gN:=match s with
 |.FunctionDef _ _ _ _ _ _ sc _ _ _=>sc
 |_=>{ kind:=.function,names:=[],isGenerator:=false,isCoroutine:=false }
abbrev CX0:CXT:=fun _ _ _ _ _ _=>False
abbrev E0:XK:=fun _ _ _=>False
theorem zlB{X:Cx}:zfD CX0 X E0:=fun _ _ _ _ _ _ _ h=>h.elim
structure Fun (K:jb) (x qual:Str) (st:QR) (f:js) (fd:Z5):Prop where
 ex:∃(oc:j8) (od:Option js) (kV doc pm:j8) (an:Option js) (cdv ct:j8) (osl:Array (Option j8)),
  fd=jX x qual (zbi st) (zar st) (za0 st) .none kV doc pm an cdv ct/\K.lookup f=some ⟨oc,od,.func fd,osl⟩/\QZ K cdv qual=true
 kp:Q2 K (.ref f)=true
section
variable {P:jH}{K:jb}{mg:Str->Option j8}{base:QL}
theorem Fun.ok{x qual:Str}{st:QR}{f:js}{fd:Z5}{N ps:List Str}{k:Nat}{sp:Sp}(F:Fun K x qual st f fd)(S:FnScope N ps (za0 st))(len:∀ vs H Q E,sp vs H Q E->vs.length=ps.length)
  (hbody:∀(cdv:j8) (A:Qg) (outer:List Env) (s:jc) (H:Hp) (vs:List V) (Q:VK) (E:XK),Room k (A.deeper (Zp qual (za0 st) s.heap.objs.size f cdv))->sp vs H Q E->
   ∃ t,PSs (zhr CX0 P w K mg base N qual (za0 st) f cdv A outer s H E).nox (zar st) t/\t { nx:=fun _ H'=>Q .non H',rt:=Q } (start N vs) H):FnOk P w K mg base CX0 (k+1) f fd ps sp:=by
 obtain⟨oc,od,kV,doc,pm,an,cdv,ct,osl,rfl,lk,hcd⟩:=F.ex;refine zwn lk hcd S len fun A outer s H vs Q E hr hsp=>?_;obtain⟨t,h,q⟩:=hbody cdv A outer s H vs Q E hr hsp;exact⟨t,h.nox,q⟩
theorem Fun.binds{x qual:Str}{st:QR}{f:js}{fd:Z5}{ps:List Str}(F:Fun K x qual st f fd)
  (h:∀(kV doc pm:j8) (an:Option js) (cdv ct:j8) (us:List j8),us.length=ps.length->Ya (jX x qual (zbi st) (zar st) (za0 st) .none kV doc pm an cdv ct) ⟨us,[]⟩=pure (ps.zip us)):Binds K fd ps []:=by
 obtain⟨oc,od,kV,doc,pm,an,cdv,ct,osl,rfl,lk,hcd⟩:=F.ex;exact .all (h kV doc pm an cdv ct)
theorem zpE{x qual:Str}{st:QR}{f:js}{oc:j8}{od an:Option js}{osl:Array (Option j8)}{kV doc pm cdv ct:j8}(l:K.lookup f=some ⟨oc,od,.func (jX x qual (zbi st) (zar st) (za0 st) .none kV doc pm an cdv ct),osl⟩)
  (c:QZ K cdv qual=true) (k:Q2 K (.ref f)=true):Fun K x qual st f (jX x qual (zbi st) (zar st) (za0 st) .none kV doc pm an cdv ct):=⟨⟨oc,od,kV,doc,pm,an,cdv,ct,osl,rfl,l,c⟩,k⟩
end
theorem zbT{A:Qg}{k:Nat}(hr:Room k A):A.units+1 < gG:=Yu (Nat.add_le_add_left (by decide:1<=64) _) hr.units
section
theorem pv(i:Nat){x:Str}{pos:Pos}(hN:X.N[i]?=some x:=by rfl)(hv:Vis X.env.scope x:=by first |exact jD rfl |exact g9 (jD rfl) |exact g9 (g9 rfl))(hd:(x == ("__debug__":Str))=false:=by decide)
  (hcd:(x == ("__classdict__":Str))=false:=by decide):PE X (.Name x pos) (ze3 i):=zth hN hv hd hcd
end
theorem Inv.forget{X:Cx}{pc:List (js × Obj)}{sg sg':St}{H:Hp}{s:jc}(I:Inv X pc sg H s)(hl:sg'.length=sg.length)(h:∀(i:Nat) (v:V),sg'[i]?=some (some v)->sg[i]?=some (some v)):Inv X pc sg' H s:=by
 obtain⟨m,hn,hm⟩:=I.loc;exact⟨I.ok,I.os,I.bare,I.base,⟨m,hn,fun i x v e1 e2 e3=>hm i x v e1 (h i v e2) e3⟩,I.cell,I.free,I.freeC,I.pin,I.hok,by rw[hl]; exact I.len⟩
def zap(X:Cx)(N:List Str)(scope:gN)(cl:List (Str × js))(C:js)(s0:jc)(H0:Hp)(fp:List js):Cx where
 prog:=X.prog
 w:=X.w
 K:=X.K
 mg:=X.mg
 base:=X.base
 A:=X.A
 N:=N
 s₀:=s0
 H₀:=H0
 env:=Je scope cl C X.env
 outer:=X.stack
 stack:=X.stack
 ex:=fp
 fn:=fun _=>false
 calm:=X.calm
 pn:=[]
 xe:=fun _ _=>False
def capOk(N:List Str)(XN:List Str)(sc outer:gN)(caps:List (Option Nat)):Bool:=
 decide (caps.length=N.length)&&((j5 caps.length).all fun i=>match caps[i]? with
  | some (some j)=>(match N[i]?,XN[j]? with
   |some x,some y=>x == y&&sc.names.lookup x == some .free&&(outer.names.lookup x == some .cell||outer.names.lookup x == some .free)
   | _,_=>false)
  | _=>true)
def zbj(caps:List (Option Nat))(sg:St):St:=caps.map fun o=>o.bind fun j=>(sg[j]?).join
theorem capOk.len{N XN:List Str}{sc outer:gN}{caps:List (Option Nat)}(h:capOk N XN sc outer caps=true):caps.length=N.length:=by
 unfold capOk at h;rw[jL] at h;exact of_decide_eq_true h.1
theorem capOk.get{N XN:List Str}{sc outer:gN}{caps:List (Option Nat)}(h:capOk N XN sc outer caps=true){i j:Nat}(e:caps[i]?=some (some j)) :
  ∃ x,N[i]?=some x/\XN[j]?=some x/\sc.names.lookup x=some .free/\(outer.names.lookup x=some .cell∨outer.names.lookup x=some .free):=by
 unfold capOk at h;rw[jL] at h;have hi:i < caps.length:=(j7.mp e).1;have q:=jx.mp h.2 i (ji.mpr hi);rw[e] at q;dsimp only at q;cases h1:N[i]? with
 |none=>rw[h1] at q; cases q
 |some x=>
  cases h2:XN[j]? with
  |none=>rw[h1,h2] at q; cases q
  |some y=>
   rw[h1,h2] at q;dsimp only at q;rw[jL,jL,Zc] at q;obtain⟨⟨q1,q2⟩,q3⟩:=q;have e1:x=y:=eq_of_beq q1;subst e1;exact⟨x,rfl,rfl,by simpa using q2,q3.imp (fun z=>by simpa using z) fun z=>by simpa using z⟩
theorem zfl{env:Env}:∀(names:List (Str × YW)) (acc:List (Str × js)),(∀ x,(x,Qs)∈names->∃ c,env.cells.lookup x=some c)->
  ∃ cl,(forIn (m:=Sem) names acc fun(p:Str × YW) cs=>(if p.2 == Qs then (do let c <-cellOf env p.1; pure (Ql ((p.1,c)::cs))) else pure (Ql cs)))=pure cl /\
   (∀ p∈cl,p∈acc∨env.cells.lookup p.1=some p.2)/\(∀ p∈acc,p∈cl)/\(∀ x,(x,Qs)∈names->∃ c,(x,c)∈cl)
 |[],acc,_=>⟨acc,rfl,fun p hp=>.inl hp,fun p hp=>hp,fun x hx=>nomatch hx⟩
 |(n,k)::r,acc,h=>by
  by_cases hk:k=.free
  ·subst hk;obtain⟨c,hc⟩:=h n jT;obtain⟨cl,e,h1,h2,h3⟩:=zfl r ((n,c)::acc) fun x hx=>h x (jw _ hx);refine⟨cl,?_,fun p hp=>?_,fun p hp=>h2 p (jw _ hp),fun x hx=>?_⟩
   ·rw[Yf,Ip_ (by rfl)]
    show (do let c <-cellOf env n; pure (Ql ((n,c)::acc)):Sem _) >>= _=_
    rw[cellOf,hc];exact e
   ·rcases h1 p hp with z |z
    ·rcases jv.mp z with z |z
     ·subst z; exact .inr hc
     ·exact .inl z
    ·exact .inr z
   ·rcases jv.mp hx with z |z
    ·injection z with z1 _;subst z1;exact⟨c,h2 _ jT⟩
    ·exact h3 x z
  ·obtain⟨cl,e,h1,h2,h3⟩:=zfl r acc fun x hx=>h x (jw _ hx);refine⟨cl,?_,h1,h2,fun x hx=>?_⟩
   ·rw[Yf,In_ (by simpa using hk)]
    exact e
   ·rcases jv.mp hx with z |z
    ·injection z with _ z2;exact absurd z2.symm hk
    ·exact h3 x z
theorem zc7{scope:gN}{env:Env}(h:∀ x,(x,Qs)∈scope.names->∃ c,env.cells.lookup x=some c) :
  ∃ cl,closureFor scope env=pure cl/\(∀ p∈cl,env.cells.lookup p.1=some p.2)/\(∀ x,(x,Qs)∈scope.names->∃ c,(x,c)∈cl):=by
 obtain⟨cl,e,h1,_,h3⟩:=zfl scope.names [] h;refine⟨cl,?_,fun p hp=>(h1 p hp).resolve_left (by simp),h3⟩
 have e2:closureFor scope env=((forIn (m:=Sem) scope.names ([]:List (Str × js)) fun(p:Str × YW) cs=>(if p.2 == Qs then (do let c <-cellOf env p.1; pure (Ql ((p.1,c)::cs))) else pure (Ql cs))) >>= fun cs=>pure cs):=rfl
 rw[e2,e];rfl
theorem zag{α β:Type}[BEq α][LawfulBEq α]{x:α}{y:β}:∀ {l:List (α × β)},l.lookup x=some y->(x,y)∈l
 |(a,b)::r,h=>by
  rw[ZH] at h;cases hx:x == a with
  |true=>
   rw[hx] at h;have e:b=y:=jf h;rw[eq_of_beq hx,e];exact jT
  |false=>rw[hx] at h; exact jw _ (zag h)
theorem zb7{α β:Type}[BEq α][LawfulBEq α]{x:α}{y:β}:∀ {l:List (α × β)},(x,y)∈l->∃ z,l.lookup x=some z
 |(a,b)::r,h=>by
  rw[ZH];cases hx:x == a with
  |true=>exact⟨b,rfl⟩
  |false=>
   rcases jv.mp h with z |z
   ·injection z with z1 _;rw[z1] at hx;simp at hx
   ·exact zb7 z
theorem ziJ{scope:gN}{env:Env}(hcell:∀ y∈scope.names,y.2≠.cell){x:Str}(h:(JM scope env).names.lookup x=some .cell∨(JM scope env).names.lookup x=some .free):(x,Qs)∈scope.names:=by
 have key:∀ k,(x,k)∈(JM scope env).names->k=.cell∨k=.free->(x,Qs)∈scope.names:=fun k hm hk=>by
  obtain⟨⟨n,k'⟩,hn,e⟩:=jA.mp hm;dsimp only at e;split at e
  ·rename_i hc;injection e with e1 e2;subst e1;have:k'=.free:=by
    simp only[jL] at hc;simpa using hc.1.1
   subst this;exact hn
  ·injection e with e1 e2;subst e1; subst e2;rcases hk with z |z
   ·subst z; exact absurd rfl (hcell _ hn)
   ·subst z; exact hn
 rcases h with h |h
 ·exact key _ (zag h) (.inl rfl)
 ·exact key _ (zag h) (.inr rfl)
theorem zgl{env:Env}{x:Str}:∀ {names:List (Str × YW)},names.lookup x=some .free->
  (names.map fun(n,k)=>if (k == Qs&&env.scope.kind == .function&&env.kindOf n == some .cell) then (n,JN) else (n,k)).lookup x=some .cell ∨
  (names.map fun(n,k)=>if (k == Qs&&env.scope.kind == .function&&env.kindOf n == some .cell) then (n,JN) else (n,k)).lookup x=some .free
 |(n,k)::r,h=>by
  rw[ZH] at h;rw[jt];cases hx:x == n with
  |true=>
   rw[hx] at h;have e:k=.free:=jf h;subst e;dsimp only;split
   ·left; rw[ZH,hx]
   ·right; rw[ZH,hx]
  |false=>
   rw[hx] at h;have ih:=zgl (env:=env) h;dsimp only;split<;>(rw[ZH,hx]; exact ih)
section
variable {cl:List (Str × js)}{pc:List (js × Obj)}{sg:St}{H:Hp}{fp:List js}{h1:QL}{tk:Nat}{m0:Str->Option j8}
theorem zdL(hkind:scope.kind=.function)(hcell:∀ y∈scope.names,y.2≠.cell)(I:Inv X pc sg H s)
  (hcl1:∀ p∈cl,X.env.cells.lookup p.1=some p.2) (hcl2:∀ x,(x,Qs)∈scope.names->∃ c,(x,c)∈cl)
  (hf:∀ b∈fp,zjz X pc H b) (hlt:∀ b∈fp,b < s.heap.objs.size):(zap X N scope cl s.heap.objs.size s H fp).Ok where
 mod:=I.ok.mod
 kind:=hkind
 glob:=I.ok.glob
 blt:=I.ok.blt
 above:=jm _
 inj:=fun x y c hx hy=>I.ok.inj x y c (hcl1 (x,c) (zag hx)) (hcl1 (y,c) (zag hy))
 has:=fun x hx=>by
  obtain⟨c,hc⟩:=hcl2 x (ziJ hcell hx);exact zb7 hc
 cab:=fun x c hx=>nomatch hx
 hd:=I.ok.hd
 frames:=I.ok.frames
 stk:=.inl rfl
 exf:=fun b hb=>⟨jC (hlt b hb),fun x c hx=>(hf b hb).2.2.2.2.1 x c (hcl1 (x,c) (zag hx))⟩
 bs:=I.bs
 bsz:=Qc I.ok.bsz I.sz
 noex:=fun b o e hb=>by
  rcases(hf b hb).2.2.2.1 with z |z
  ·exact I.ok.noex b o e z
  ·exact absurd (jW (jj e) (Qc I.ok.bsz z)) (jZ _)
 exfs:=fun b hb z=>by
  rcases jv.mp (I.stkSub b z) with e |e
  ·exact(hf b hb).2.1 e
  ·exact(hf b hb).2.2.1 e
 funs:=I.stack
 frf:=I.stkFree
theorem zhs(hcap:capOk N X.N scope X.env.scope caps=true)(hkind:scope.kind=.function)(hcell:∀ y∈scope.names,y.2≠.cell)(I:Inv X pc sg H s)
  (hcl1:∀ p∈cl,X.env.cells.lookup p.1=some p.2) (hcl2:∀ x,(x,Qs)∈scope.names->∃ c,(x,c)∈cl)
  (hf:∀ b∈fp,zjz X pc H b) (hlt:∀ b∈fp,b < s.heap.objs.size) (hk:∀ b u,s.heap.get? b=some u->h1.get? b=some u) (hns:h1.Ns s.heap.objs.size m0) :
  Inv (zap X N scope cl s.heap.objs.size s H fp) [] (zbj caps sg) H { s with heap:=h1,toks:=tk } where
 ok:=zdL hkind hcell I hcl1 hcl2 hf hlt
 os:=rfl
 bare:=I.bare
 base:=Un.kept hk
 loc:=by
  refine⟨m0,hns,fun i x v e1 e2 e3=>?_⟩;have e2':∃ j,caps[i]?=some (some j)/\sg[j]?=some (some v):=by
   unfold zbj at e2;rw[jg] at e2;cases hc:caps[i]? with
   |none=>rw[hc] at e2; simp at e2
   |some o=>
    rw[hc] at e2;cases o with
    |none=>simp at e2
    |some j=>
     refine⟨j,rfl,?_⟩;simp only[jR,j9,Option.some.injEq] at e2;cases hj:sg[j]? with
     |none=>rw[hj] at e2; simp at e2
     |some y=>rw[hj] at e2; simp at e2; rw[e2]
  obtain⟨j,hj1,hj2⟩:=e2';obtain⟨x',n1,n2,f1,f2⟩:=capOk.get hcap hj1;have e1':N[i]?=some x:=e1;rw[e1'] at n1;obtain rfl:x=x':=jf n1;obtain⟨m,hn,hm⟩:=I.loc;obtain⟨u,ru,l⟩:=hm j x v n2 hj2 (f2.elim (fun z=>.inr (.inl z)) fun z=>.inr (.inr z));refine⟨u,ru,.inr ⟨zgl f1,?_⟩⟩;rcases l with ⟨k,_⟩ |⟨_,c,hc,hcell⟩
  ·have k':X.env.scope.names.lookup x=some .local:=k;rcases f2 with z |z<;>(rw[k'] at z; cases z)
  ·obtain⟨c',hc'⟩:=hcl2 x (zag f1);obtain⟨c'',hc''⟩:=zb7 hc';have q:X.env.cells.lookup x=some c'':=hcl1 (x,c'') (zag hc'');rw[hc] at q;obtain rfl:c=c'':=jf q;obtain⟨o,ho,hd⟩:=hcell;exact⟨c,hc'',o,hk c o ho,hd⟩
 cell:=fun x c hx=>by
  obtain⟨v,o,ho,hd⟩:=I.cell x c (hcl1 (x,c) (zag hx));exact⟨v,o,hk c o ho,hd⟩
 free:=I.hok.fresh (jm _)
 freeC:=fun x c hx=>I.freeC x c (hcl1 (x,c) (zag hx))
 pin:=fun p hp=>nomatch hp
 hok:=I.hok.kept hk
 len:=by
  show (zbj caps sg).length=N.length;unfold zbj;rw[j6];exact capOk.len hcap
end
def PTs(X:Cx)(ifs:List Q4)(t:TT):Prop:=
 ∀(pc:List (js × Obj)) (s:jc) (sg:St) (H:Hp) (Q:Bool->Hp->Prop),Inv X pc sg H s->t sg H Q->
  jI (jM X.prog X.w) X.A (forIn ifs true fun c r=>if r=true then do let ok <-JA c X.env (eval c X.env); pure (Ql ok) else pure (Ql r)) (TP X pc sg Q) X.xe s
def zvw:TT:=fun _ H Q=>Q true H
theorem zqF{X:Cx}:PTs X [] zvw:=fun _ _ _ H _ I h=>wpAny_tests_nil ⟨H,I,h⟩
theorem zqE{X:Cx}{c:Q4}{t:TT}(h:PT X c t):PTs X [c] t:=fun pc s sg H Q I hq=>wpAny_tests_one (h pc s sg H Q I hq)
section
variable {R:JC->jc->Prop}
theorem zjn{elt target iter:Q4}{ifs:List Q4}{scope:gN}{pos:Pos}{it acc:j8}{env:Env}(I:Nat->jc->Prop)
  (turn:∀ n s,I n s->jI (jM prog w) A (NV it) (fun r s1=>match r with
   |none=>R (.ok .next) s1
   | some v=>jI (jM prog w) A (ZP target it v) (fun _ s1'=>jI (jM prog w) A (gU target env v) (fun _ s2=>
     jI (jM prog w) A (forIn ifs true fun c r=>if r=true then do let ok <-JA c env (eval c env); pure (Ql ok) else pure (Ql r)) (fun ok s3=>
      if ok=true then jI (jM prog w) A (eval elt env) (fun x s4=>
       jI (jM prog w) A (call (.builtin "list.append") [acc,x]) (fun _ s5=>∃ m,m < n/\I m s5) (fun _ _=>False) s4) (fun _ _=>False) s3
      else ∃ m,m < n/\I m s3) (fun _ _=>False) s2) (fun _ _=>False) s1') (fun _ _=>False) s1) (fun _ _=>False) s)
  (n:Nat) (h:I n s) :
  Yc (jM prog w) A (.compLoop (.ListComp elt [⟨target,iter,ifs,0⟩] scope pos) 0 it acc env) R s:=by
 refine codeAny_loop rfl I (fun n s hI=>?_) n h;show jI _ A ((compTurn (.ListComp elt [⟨target,iter,ifs,0⟩] scope pos) 0 it acc env).onRaise (fun x=>do Jn x env; theTreesLotGoes x)) _ _ s
 refine wpAny_noted ?_;rw[compTurn_list];refine j4 (Z9 (j4 (jV (turn n s hI) (fun r s1 h1=>?_) fun _ _ h'=>h'.elim)));cases r with
 |none=>exact jq h1
 |some v=>
  refine j4 (jV h1 (fun _ s1' h1'=>?_) fun _ _ h'=>h'.elim);refine j4 (jV h1' (fun _ s2 h2=>j4 (jV h2 (fun ok s3 h3=>?_) fun _ _ h'=>h'.elim)) fun _ _ h'=>h'.elim);cases ok with
  |false=>exact jq ⟨rfl,h3⟩
  |true=>
   exact j4 (j4 (jV h3 (fun x s4 h4=>j4 (jV h4 (fun _ s5 h5=>jq (jq ⟨rfl,h5⟩)) fun _ _ h'=>h'.elim)) fun _ _ h'=>h'.elim))
end
def zeX(caps:List (Option Nat))(g:TG):Prop:=∀(x:V) (sg:St) (H:Hp) (Q:St->Hp->Prop),g x sg H Q->g x sg H fun s2 H2=>Q s2 H2/\∀(j k:Nat),caps[j]?=some (some k)->s2[j]?=sg[j]?
def zll(caps:List (Option Nat))(g:TGs):Prop:=∀(x:List V) (sg:St) (H:Hp) (Q:St->Hp->Prop),g x sg H Q->g x sg H fun s2 H2=>Q s2 H2/\∀(j k:Nat),caps[j]?=some (some k)->s2[j]?=sg[j]?
theorem zaX{caps:List (Option Nat)}{i:Nat}(h:caps[i]?=some none:=by rfl):zeX caps (zcJ i):=fun x sg H Q q=>⟨q,fun j k e=>by
 have:i≠j:=fun z=>by subst z; rw[h] at e; cases e
 exact jo this⟩
theorem ztG{caps:List (Option Nat)}:zll caps zrh:=fun x sg H Q ⟨e,q⟩=>⟨e,q,fun _ _ _=>rfl⟩
theorem zng{caps:List (Option Nat)}{t:TG}{u:TGs}(mt:∀ x sg H (Q Q':St->Hp->Prop),(∀ a b,Q a b->Q' a b)->t x sg H Q->t x sg H Q')(mu:∀ x sg H (Q Q':St->Hp->Prop),(∀ a b,Q a b->Q' a b)->u x sg H Q->u x sg H Q')
  (h:zeX caps t) (h2:zll caps u):zll caps (zj8 t u):=fun x sg H Q ⟨v,r,e,q⟩=>
 ⟨v,r,e,mt _ _ _ _ _ (fun s2 H2 ⟨q2,k2⟩=>mu _ _ _ _ _ (fun s3 H3 ⟨q3,k3⟩=>⟨q3,fun j k e=>(k3 j k e).trans (k2 j k e)⟩) (h2 _ _ _ _ q2)) (h _ _ _ _ q)⟩
theorem ztF{caps:List (Option Nat)}{K:jb}{n:Nat}{t:TGs}(h:zll caps t):zeX caps (zlP K n t):=fun x sg H Q ⟨a,xs,e,hq,hl,q⟩=>⟨a,xs,e,hq,hl,h _ _ _ _ q⟩
theorem zfe{i:Nat}:∀ x sg H (Q Q':St->Hp->Prop),(∀ a b,Q a b->Q' a b)->zcJ i x sg H Q->zcJ i x sg H Q':=fun _ _ _ _ _ h q=>h _ _ q
theorem zj7:∀ x sg H (Q Q':St->Hp->Prop),(∀ a b,Q a b->Q' a b)->zrh x sg H Q->zrh x sg H Q':=fun _ _ _ _ _ h q=>⟨q.1,h _ _ q.2⟩
theorem zlR{t:TG}{u:TGs}(mt:∀ x sg H (Q Q':St->Hp->Prop),(∀ a b,Q a b->Q' a b)->t x sg H Q->t x sg H Q')(mu:∀ x sg H (Q Q':St->Hp->Prop),(∀ a b,Q a b->Q' a b)->u x sg H Q->u x sg H Q') :
  ∀ x sg H (Q Q':St->Hp->Prop),(∀ a b,Q a b->Q' a b)->zj8 t u x sg H Q->zj8 t u x sg H Q':=fun _ _ _ _ _ h ⟨v,r,e,q⟩=>⟨v,r,e,mt _ _ _ _ _ (fun _ _ z=>mu _ _ _ _ _ h z) q⟩
theorem zka{caps:List (Option Nat)}{K:jb}{i j:Nat}(h:caps[i]?=some none:=by rfl)(h2:caps[j]?=some none:=by rfl):zeX caps (zlP K 2 (zj8 (zcJ i) (zj8 (zcJ j) zrh))):=
 ztF (zng zfe (zlR zfe zj7) (zaX h) (zng zfe zj7 (zaX h2) ztG))
def lcW(J:It)(g:TG)(tt:TT)(te:TE)(sg':St)(Q:VK)(H1:Hp):Prop:=
 ∀ D,H1 D=none->∃ W:Nat->Nat->Hp->Prop,(∃ m,W 0 m (upd H1 D (.lst [])))/\∀ i m H,W i m H->
  (J.stop i H/\Q (.ref D) H)∨(J.go i H/\∀ x H',J.yld i H x H'->g x sg' H' fun s2 H2=>tt s2 H2 fun b H3=>if b=true then
   te s2 H3 fun y H4=>∃ xs,H4 D=some (.lst xs)/\xs.length < jr/\∃ m',m' < m/\W (i+1) m' (upd H4 D (.lst (xs++[y])))
   else ∃ m',m' < m/\W (i+1) m' H3)
section
variable {tg elt iter:Q4}{ifs:List Q4}{wi:TI}{g:TG}{tt:TT}{te:TE}
theorem zkU{pc:List (js × Obj)}{sg:St}{H:Hp}{s2:jc}{cl:List (Str × js)}{it:js}{fp:List js}{tn:Nat->QL->Prop}{J:It}{Q:VK}{E:j8->jc->Prop}{RR:j8->js->JC->jc->Prop}
  (hc:X.calm=true) (hcap:capOk N X.N scope X.env.scope caps=true) (hkind:scope.kind=.function) (hcell:∀ y∈scope.names,y.2≠.cell)
  (hg:∀ cl C s0 H0 fp,PG (zap X N scope cl C s0 H0 fp) tg g) (hgk:zeX caps g) (ht:∀ cl C s0 H0 fp,PTs (zap X N scope cl C s0 H0 fp) ifs tt) (he:∀ cl C s0 H0 fp,PE (zap X N scope cl C s0 H0 fp) elt te)
  (hcl1:∀ p∈cl,X.env.cells.lookup p.1=some p.2) (hcl2:∀ x,(x,Qs)∈scope.names->∃ c,(x,c)∈cl)
  (I2:Inv X pc sg H s2) (T:Turn X.prog X.w X.K tg J fp it tn) (st2:tn 0 s2.heap) (f2:∀ b∈fp,zjz X pc H b) (hw:lcW J g tt te (zbj caps sg) Q H)
  (hRR:∀(D C:js) (s':jc) (H':Hp) (m':Str->Option j8),Inv X pc sg H' s'->s'.heap.Ns C m'->H' C=none->s2.heap.objs.size<=C->(∀ x c,X.env.cells.lookup x=some c->c≠C)->(∀ p∈X.pn++pc,p.1≠C)->C≠X.env.locals->Q (.ref D) H'->RR (.ref D) C (.ok .next) s') :
  jI (jM X.prog X.w) X.A (newList []) (fun acc s3=>jI (jM X.prog X.w) X.A (newFunctionEnv scope X.env.globals cl [] X.env.qual none .none (some X.env)) (fun cenv s4=>
   Yc (jM X.prog X.w) X.A (.compStart (.ListComp elt [⟨tg,iter,ifs,0⟩] scope pos) 0 (.ref it) acc { cenv with scope:=JM scope X.env }) (RR acc cenv.locals) s4) E s3) E s2:=by
 refine WK ?_;have I3:Inv X pc sg (upd H s2.heap.objs.size (.lst [])) { s2 with heap:=s2.heap.push { cls:=.type "list",dict:=none,data:=.seq ([]:List j8).toArray } }:=
  I2.laid (t':=s2.toks) (fun b u e=>ja _ e) (jm _) ⟨QV _,[],0,.nil,jG _ rfl⟩
 have hfree:H s2.heap.objs.size=none:=I2.hok.fresh (jm _);obtain⟨W,⟨mm,w0⟩,turn⟩:=hw s2.heap.objs.size hfree;generalize hD:s2.heap.objs.size=D at *;generalize hs3:({ s2 with heap:=s2.heap.push { cls:=.type "list",dict:=none,data:=.seq ([]:List j8).toArray } }:jc)=s3 at *;have hlt3:∀ b o,s2.heap.get? b=some o->s3.heap.get? b=some o:=fun b o e=>by rw[<-hs3]; exact ja _ e
 have hsz3:s3.heap.objs.size=D+1:=by rw[<-hs3,<-hD]; exact Zm ..
 have fpD:∀ b∈fp,b < D:=fun b hb=>by
  obtain⟨o,ho,_⟩:=T.obj 0 _ st2 b hb;rw[<-hD]; exact jj ho
 have f3:∀ b∈fp,zjz X pc (upd H D (.lst [])) b:=fun b hb=>⟨by rw[za8 (jC (fpD b hb))]; exact(f2 b hb).1,(f2 b hb).2⟩
 have lt3:∀ b∈fp,b < s3.heap.objs.size:=fun b hb=>by rw[hsz3]; exact Qv (fpD b hb)
 have st3:tn 0 s3.heap:=T.keep 0 _ _ st2 fun b _ o e=>hlt3 b o e;refine NP hcell (by intro y hy; simp at hy) (fun h1 hns1 hsb1=>?_) hkind
 try dsimp only at hns1 hsb1 ⊢
 have keep1:∀ b u,s3.heap.get? b=some u->h1.get? b=some u:=fun b u e=>hsb1.extBut b u (jC (jj e)) (ja _ e);have I4:=zhs (N:=N) (tk:=s3.toks+([]:List (Str × j8)).length) hcap hkind hcell I3 hcl1 hcl2 f3 lt3 keep1 hns1;have loop:Yc (jM X.prog X.w) X.A (.compLoop (.ListComp elt [⟨tg,iter,ifs,0⟩] scope pos) 0 (.ref it) (.ref D) (Je scope cl s3.heap.objs.size X.env)) (RR (.ref D) s3.heap.objs.size) { s3 with heap:=h1,toks:=s3.toks+([]:List (Str × j8)).length }:=by
  generalize hX':zap X N scope cl s3.heap.objs.size s3 (upd H D (.lst [])) fp=X' at I4;have eP:X'.prog=X.prog:=by rw[<-hX']; rfl
  have ew:X'.w=X.w:=by rw[<-hX']; rfl
  have eK:X'.K=X.K:=by rw[<-hX']; rfl
  have eA:X'.A=X.A:=by rw[<-hX']; rfl
  have eE:X'.env=Je scope cl s3.heap.objs.size X.env:=by rw[<-hX']; rfl
  have ex:X'.xe=fun _ _=>False:=by rw[<-hX']; rfl
  have ecalm:X'.calm=true:=by rw[<-hX']; exact hc
  have hg':PG X' tg g:=by rw[<-hX']; exact hg _ _ _ _ _
  have ht':PTs X' ifs tt:=by rw[<-hX']; exact ht _ _ _ _ _
  have he':PE X' elt te:=by rw[<-hX']; exact he _ _ _ _ _
  have stat:∀ {H':Hp},(∀ b∈fp,H' b=none)->∀ b∈fp,zjz X' [] H' b:=fun {H'} hn b hb=>by
   refine⟨hn b hb,?_,?_,?_,?_,fun p hp=>?_⟩
   ·rw[<-hX']; exact jC (lt3 b hb)
   ·rw[<-hX'];exact fun z=>(zdL (N:=N) hkind hcell I3 hcl1 hcl2 f3 lt3).exfs b hb z
   ·rw[<-hX']; exact .inl hb
   ·rw[<-hX'];exact((zdL (N:=N) hkind hcell I3 hcl1 hcl2 f3 lt3).exf b hb).2
   ·rw[<-hX'] at hp; cases hp
  have out:∀ {sg':St} {H':Hp} {s':jc},Inv X' [] sg' H' s'->Inv X pc sg H' s':=fun {sg' H' s'} I'=>by
   have hb:=I'.base;rw[<-hX'] at hb;have ho:=I'.os;rw[<-hX'] at ho;have hk:=I'.hok;rw[eP,ew] at hk;exact I3.call' (ch:=fp) ho hb hk I'.bare fun b hb=>⟨(f3 b hb).2.2.2.1,(f3 b hb).2.1,(f3 b hb).2.2.2.2.1,(f3 b hb).2.2.2.2.2⟩
  rw[<-eE,<-eA,<-eP,<-ew];refine zjn (fun n s'=>∃ i H',Inv X' [] (zbj caps sg) H' s'/\tn i s'.heap/\(∀ b∈fp,H' b=none)/\W i n H') ?_ mm
   ⟨0,_,I4,T.keep 0 _ _ st3 fun b _ o e=>keep1 b o e,fun b hb=>(f3 b hb).1,w0⟩
  rintro n s5 ⟨i,H5,I5,st5,fr5,w5⟩;rcases turn i n H5 w5 with ⟨stop,q⟩ |⟨go,step⟩
  ·have z:=T.done X' eP ew eK ecalm i [] s5 _ H5 (fun _ _=>False) I5 (stat fr5) st5 stop;rw[<-eP,<-ew] at z;refine thn z fun r s6 h_=>?_; obtain⟨hr,I6⟩:=h_;subst hr;obtain⟨m',hn',_⟩:=I6.loc;have hfr:=I6.free;rw[eE] at hn' hfr;refine hRR D s3.heap.objs.size s6 H5 m' (out I6) hn' hfr (by rw[hsz3]; exact gk _) (fun x c e z=>?_) (fun p hp z=>?_) (fun z=>?_) q
   ·obtain⟨v,o,ho,_⟩:=I3.cell x c e;rw[z] at ho;exact absurd (jj ho) (jZ _)
   ·have:=jj (I3.pin p hp).1;rw[z] at this;exact absurd this (jZ _)
   ·have:=I3.lt;rw[<-z] at this;exact absurd this (jZ _)
  ·have z:=T.item X' eP ew eK ecalm i [] s5 _ H5 (fun _ _=>False) I5 (stat fr5) st5 go;rw[<-eP,<-ew] at z;refine thn z fun r s6 h_=>?_; obtain⟨u,hr,h6⟩:=h_;subst hr;dsimp only;refine thn h6 fun _ s7 h_=>?_; obtain⟨x,H7,I7,r7,y7,st7,fr7⟩:=h_;have I7':=I7.pinned (stat fr7) (T.obj _ _ st7);have q7:=step x H7 y7;have a7:=hg' _ s7 (zbj caps sg) H7 x u _ I7' r7 (hgk _ _ _ _ q7);rw[ex] at a7;refine thn a7 fun _ s8 h_=>?_; obtain⟨sg8,H8,I8,q8,k8⟩:=h_;have k8':∀(j:Nat) (v:V),(zbj caps sg)[j]?=some (some v)->sg8[j]?=some (some v):=fun j v e=>by
    have e':=e;unfold zbj at e';rw[jg] at e';cases hc:caps[j]? with
    |none=>rw[hc] at e'; simp at e'
    |some o=>
     cases o with
     |none=>rw[hc] at e'; simp at e'
     |some k=>rw[k8 j k hc]; exact e
   have a8:=ht' _ s8 sg8 H8 _ I8 q8;rw[ex] at a8;refine thn a8 fun ok s9 h_=>?_; obtain⟨H9,I9,q9⟩:=h_;have JY:∀ {sg':St} {H':Hp} {s':jc} {m':Nat},Inv X' ([]++zhi fp s7.heap) sg' H' s'->(∀(j:Nat) (v:V),(zbj caps sg)[j]?=some (some v)->sg'[j]?=some (some v))->m' < n->W (i+1) m' H'->
     ∃ m,m < n/\∃ i H',Inv X' [] (zbj caps sg) H' s'/\tn i s'.heap/\(∀ b∈fp,H' b=none)/\W i m H':=fun {sg' H' s' m'} I' hs hm hw=>by
    refine⟨m',hm,i+1,H',I'.unpinned.forget (I4.len.trans I'.len.symm) hs,T.keep _ _ _ st7 fun b hb o e=>(I'.pin (b,o) (jz _ (jz _ (zcc hb e)))).1,fun b hb=>?_,hw⟩;obtain⟨o,e,d⟩:=T.obj _ _ st7 b hb;exact(I'.pin (b,o) (jz _ (jz _ (zcc hb e)))).2.1
   cases ok with
   |false=>
    obtain⟨m',hm,w9⟩:=q9;exact JY I9 k8' hm w9
   |true=>
    have a9:=he' _ s9 sg8 H9 _ I9 q9;rw[ex] at a9;refine thn a9 fun v s10 h_=>?_; obtain⟨y,H10,I10,r10,xs,hD',hz,m',hm,w10⟩:=h_;have a10:=zck (X:=X') _ s10 sg8 H10 (.ref D) [y] (.ref D) [v] (fun _ H'=>W (i+1) m' H') I10 rfl (.cons r10 .nil) ⟨D,xs,y,rfl,rfl,hD',hz,w10⟩;rw[ex] at a10;exact thn a10 fun _ s11 ⟨_,H11,I11,_,w11⟩=>JY I11 k8' hm w11
 exact codeAny_compStart_list loop (T.self _ _ _ _ _ (T.keep 0 _ _ st3 fun b _ o e=>keep1 b o e) loop)
def tLC(caps:List (Option Nat))(wi:TI)(g:TG)(tt:TT)(te:TE):TE:=fun sg H Q=>wi sg H fun J H1=>lcW J g tt te (zbj caps sg) Q H1
theorem zfX{X:Cx}{scope:gN}(ok:X.Ok)(hfr:scope.names.all (fun p=>p.2 != .free||(X.env.scope.names.lookup p.1 == some .cell||X.env.scope.names.lookup p.1 == some .free))=true) :
  ∀ x,(x,Qs)∈scope.names->∃ c,X.env.cells.lookup x=some c:=fun x hx=>by
 have q:=jx.mp hfr (x,.free) hx;simp only[bne_self_eq_false,Wm,Zc] at q;exact ok.has x (q.imp (fun z=>eq_of_beq z) fun z=>eq_of_beq z)
theorem zvV(hc:X.calm=true)(hi:PI X tg iter wi)(hg:∀ cl C s0 H0 fp,PG (zap X N scope cl C s0 H0 fp) tg g)(hgk:zeX caps g)(ht:∀ cl C s0 H0 fp,PTs (zap X N scope cl C s0 H0 fp) ifs tt)(he:∀ cl C s0 H0 fp,PE (zap X N scope cl C s0 H0 fp) elt te)
  (hcap:capOk N X.N scope X.env.scope caps=true:=by rfl) (hkind:scope.kind=.function:=by rfl) (hcell:scope.names.all (fun p=>p.2 != .cell)=true:=by rfl)
  (hnames:scope.names.all (fun p=>p.2 != .local||scope.names.lookup p.1 == some .local)=true:=by rfl)
  (hfr:scope.names.all (fun p=>p.2 != .free||(X.env.scope.names.lookup p.1 == some .cell||X.env.scope.names.lookup p.1 == some .free))=true:=by rfl)
  (hs:∀ x,Qu iter X.env x=pure x:=by intro _; rfl):PE X (.ListComp elt [⟨tg,iter,ifs,0⟩] scope pos) (tLC caps wi g tt te):=by
 intro pc s sg H Q I h;have hcell':∀ y∈scope.names,y.2≠.cell:=fun y hy=>by simpa using jx.mp hcell y hy
 have hnames':∀ x∈scope.names,x.2=.local->scope.names.lookup x.1=some .local:=fun x hx e=>by
  have q:=jx.mp hnames x hx;rw[e] at q;simpa using q
 obtain⟨cl,hclos,hcl1,hcl2⟩:=zc7 (scope:=scope) (env:=X.env) (zfX I.ok hfr);rw[eval_ListComp];refine Zu (use:=none) rfl hs hclos hkind hnames' (thn (hi pc s sg H _ I h) fun v s1 h1=>thn h1 fun itv s2 h2=>?_);obtain⟨it,fp,tn,J,H2,e,I2,T,st2,f2,hw⟩:=h2;subst e;refine zkU (RR:=fun acc C=>JO (jM X.prog X.w) X.A X.xe none (EP X pc sg Q) acc C) hc hcap hkind hcell' hg hgk ht he hcl1 hcl2 I2 T st2 f2 hw ?_;intro D C s' H' m' I' hn hfree hCs hCc hCp hCl q;refine⟨m',hn,fun h' hs'=>⟨.ref D,H',?_,rfl,q⟩⟩;exact I'.turned (t':=s'.toks) (it:=C) (fun b o hb e=>(hs'.2 b hb).trans e) hfree hCl (.inr (Qc I2.sz hCs)) hCc hCp
theorem zot{i:Nat}{y:Str}{py spos:Pos}(hN:X.N.Nodup)(hiy:X.N[i]?=some y)(hy:X.env.scope.names.lookup y=some .local)(hc:X.calm=true)(hi:PI X tg iter wi)(hg:∀ cl C s0 H0 fp,PG (zap X N scope cl C s0 H0 fp) tg g)(hgk:zeX caps g)(ht:∀ cl C s0 H0 fp,PTs (zap X N scope cl C s0 H0 fp) ifs tt)(he:∀ cl C s0 H0 fp,PE (zap X N scope cl C s0 H0 fp) elt te)
  (hsw:ZO (.ListComp elt [⟨tg,iter,ifs,0⟩] scope pos) (some (.Name y py)) spos.line X.env=pure true:=by rfl)
  (hcap:capOk N X.N scope X.env.scope caps=true:=by rfl) (hkind:scope.kind=.function:=by rfl) (hcell:scope.names.all (fun p=>p.2 != .cell)=true:=by rfl)
  (hnames:scope.names.all (fun p=>p.2 != .local||scope.names.lookup p.1 == some .local)=true:=by rfl)
  (hfr:scope.names.all (fun p=>p.2 != .free||(X.env.scope.names.lookup p.1 == some .cell||X.env.scope.names.lookup p.1 == some .free))=true:=by rfl)
  (hs:∀ x,Qu iter X.env x=pure x:=by intro _; rfl):PS X (.Assign [.Name y py] (.ListComp elt [⟨tg,iter,ifs,0⟩] scope pos) spos) (zh7 (tLC caps wi g tt te) (zcJ i)):=by
 intro pc s sg H D0 I h;have hcell':∀ y∈scope.names,y.2≠.cell:=fun y hy=>by simpa using jx.mp hcell y hy
 have hnames':∀ x∈scope.names,x.2=.local->scope.names.lookup x.1=some .local:=fun x hx e=>by
  have q:=jx.mp hnames x hx;rw[e] at q;simpa using q
 obtain⟨cl,hclos,hcl1,hcl2⟩:=zc7 (scope:=scope) (env:=X.env) (zfX I.ok hfr);rw[Nt _ _ _ _ hsw];refine j4 (Z9 (j4 ?_));show jI _ X.A (do let _ <-comprehension (.ListComp elt [⟨tg,iter,ifs,0⟩] scope pos) scope X.env _ (newList []) false (eval iter X.env) (some (gU (.Name y py) X.env))) _ _ s
 refine j4 (jV (Zu (use:=some (gU (.Name y py) X.env)) (Q:=fun _ s'=>SP X pc D0 .next s') rfl hs hclos hkind hnames'
  (thn (hi pc s sg H _ I h) fun v s1 h1=>thn h1 fun itv s2 h2=>?_)) (fun _ s' hq=>jq (jq hq)) fun _ _ e=>e)
 obtain⟨it,fp,tn,J,H2,e,I2,T,st2,f2,hw⟩:=h2;subst e;refine zkU (Q:=fun x H1=>zcJ i x sg H1 D0.nx) (RR:=fun acc C=>JO (jM X.prog X.w) X.A X.xe (some (gU (.Name y py) X.env)) (fun _ s'=>SP X pc D0 .next s') acc C) hc hcap hkind hcell' hg hgk ht he hcl1 hcl2 I2 T st2 f2 hw ?_
 intro D C s' H' m' I' hn hfree hCs hCc hCp hCl q;show jI _ X.A (gU (.Name y py) X.env (.ref D)) _ _ _;refine YF (zg8 I' hN hiy (.inl hy) (v:=.ref D) rfl (fun s3 I3 ⟨a,hs3,ha⟩=>?_) (.inr hy));have hCa:C≠a:=by
  rcases ha with z |z
  ·rw[z]; exact hCl
  ·exact fun z'=>hCc y a z z'.symm
 refine⟨m',hn.sameBut hs3 hCa,fun h' hs'=>?_⟩;exact⟨_,H',I3.turned (t':=s3.toks) (it:=C) (fun b o hb e=>(hs'.2 b hb).trans e) hfree hCl (.inr (Qc I2.sz hCs)) hCc hCp,q⟩
end
section
def zxO:V->Option Int->Option Int->Hp->VK->Prop:=fun x lo hi H Q=>∃ z,x=.str z/\z.length<=jr/\Q (.str (YJ z lo hi)) H
theorem zsy:SlR X zxO:=by
 intro pc s sg H x v vl vu lo hi sl Q I rx hs pl pu h;obtain⟨z,rfl,hz,q⟩:=h;obtain⟨t,rfl⟩:=rx;refine⟨"str",_,F.slot_str_getitem.lookup,JE _ _ _,?_⟩;have fin:∀ t' k,EP X pc sg Q (.str (YJ z lo hi) t') { s with toks:=k }:=fun t' k=>⟨.str _,H,I.tok _,⟨_,rfl⟩,q⟩;have le:=Qc (Txt.slice_le z lo hi) hz;cases pl with
 |none=>
  cases pu with
  |none=>exact ZE (l:=none) (u:=none) (st:=none) hs rfl (Yg ⟨le,fin⟩)
  |int j uj=>exact ZE (l:=none) (u:=some (j,uj)) (st:=none) hs rfl (Yg ⟨le,fin⟩)
 |int i ui=>
  cases pu with
  |none=>exact ZE (l:=some (i,ui)) (u:=none) (st:=none) hs rfl (Yg ⟨le,fin⟩)
  |int j uj=>exact ZE (l:=some (i,ui)) (u:=some (j,uj)) (st:=none) hs rfl (Yg ⟨le,fin⟩)
end
section
variable {K:jb}
theorem zqS{es:List Q4}{k:Nat}{t:TGs}{n:Nat}{pos:Pos}(hK:X.K=K)(hc:X.calm=true)(h:PGs X es t)
  (hn:(Qr es X.env).length=n:=by rfl) (hst:(Qr es X.env).findIdx? (·.1)=none:=by rfl):PG X (.Tuple es k pos) (zlP K n t):=by subst hK; exact zpo hc h hn hst
end
theorem zue:Qp "int"=some (.type "int"):=by decide +kernel
theorem zkw:Qp "list"=some (.type "list"):=by decide +kernel
theorem zrK:Qp "bool"=some (.type "bool"):=by decide +kernel
theorem zim:Qp "isinstance"=some (.builtin "isinstance"):=by decide +kernel
theorem zjt:Qp "enumerate"=some (.type "enumerate"):=by decide +kernel
section
theorem op_isF:OpR X (Zb .Is) (fun x y H Q=>∃ c d,x=.bl c/\y=.bl d/\Q (.bl (c == d)) H):=by
 intro pc s sg H x y v u Q I rx ry h;obtain⟨c,d,rfl,rfl,q⟩:=h;cases rx; cases ry;exact is_bool ⟨.bl _,H,I,rfl,q⟩
theorem op_isnotF:OpR X (Zb .IsNot) (fun x y H Q=>∃ c d,x=.bl c/\y=.bl d/\Q (.bl (c != d)) H):=by
 intro pc s sg H x y v u Q I rx ry h;obtain⟨c,d,rfl,rfl,q⟩:=h;cases rx; cases ry;exact isnot_bool ⟨.bl _,H,I,rfl,q⟩
end
section
variable {E:j8->jc->Prop}
theorem zjh{it t:js}{items:Array j8}(hne:t≠it):∀(n i:Nat) (s:jc) (Q:List j8->jc->Prop),s.heap.IsListIter it t i->s.heap.IsList t items->i+n<=items.size->
  (∀ h':QL,h'.IsListIter it t (i+n)->Qq it s.heap h'->Q ((items.toList.drop i).take n) { s with heap:=h' })->jI (jM prog w) A (draw (.ref it) n) Q E s
 |0,i,s,Q,hit,_,_,hQ=>by
  show jI _ _ (pure []) Q E s;exact jq (by simpa using hQ s.heap hit (Heap.SameBut.refl ..))
 |n+1,i,s,Q,hit,ht,hle,hQ=>by
  have hlt:i < items.size:=by lia
  show jI _ _ (NV (.ref it) >>= _) Q E s;refine j4 (Nh hit ht (x:=items[i]) (by simp[hlt]) fun h1 hit1 hs1=>?_)
  refine j4 (Qi (zjh hne n (i+1) _ _ hit1 (ht.extBut hs1.extBut hne) (by lia) fun h2 hit2 hs2=>jq ?_))
  have hd:items.toList.drop i=items[i]::items.toList.drop (i+1):=by simp[Zn,hlt]
  have:=hQ h2 (by rw[show i+(n+1)=i+1+n by lia]; exact hit2) (hs1.trans hs2)
  rw[hd,List.take_succ_cons] at this;exact this
theorem zfE{s:jc}{t:js}{items:Array j8}{Q:List j8->jc->Prop}(hh:A.handled=none)(ht:s.heap.IsList t items)
  (hQ:∀ h',N0 s.heap.objs.size s.heap h'->Q items.toList { s with heap:=h' }):jI (jM prog w) A (unpackItems (.ref t) items.size none) Q E s:=by
 have hlt:t≠s.heap.objs.size:=by obtain⟨o,ho,_⟩:=ht; exact jC (jj ho)
 unfold unpackItems;refine j4 ?_
 ·unfold notIterableAtAll;refine j4 (wpAny_specialOf ht.typeIs slot_list_iter.lookup ?_);refine jq ?_;simp only[Z6,if_false];refine j4 (Qi (gO ht ?_));refine j4 (Qi (zjh hlt items.size 0 _ _ ⟨_,jG _ rfl,rfl,rfl⟩ (ht.push _) (by lia) fun h1 hit1 hs1=>?_))
  have hall:List.take items.size (List.drop 0 items.toList)=items.toList:=by
   rw[NZ]; exact Q0 (by simp)
  rw[hall];rw[In_ (by simp)]
  have ht1:h1.IsList t items:=(ht.push _).extBut hs1.extBut hlt;refine j4 (Qi (Np hh hit1 ht1 (by simp) fun h2 he2=>?_))
  simp only[Option.isSome_none,Z6,if_false];refine jq (hQ h2 fun b o hb e=>he2 b o hb (hs1.extBut b o hb (ja _ e)))
theorem zfm{s:jc}{env:Env}{elts:List Q4}{x1}{pos:Pos}{t:js}{items:Array j8}{Q:Unit->jc->Prop}(hh:A.handled=none)(ht:s.heap.IsList t items)
  (hn:(Qr elts env).length=items.size) (hstar:(Qr elts env).findIdx? (·.1)=none)
  (h:∀ h',N0 s.heap.objs.size s.heap h'->jI (jM prog w) A (assignInOrder ((Qr elts env).map (·.2)) items.toList) Q E { s with heap:=h' }) :
  jI (jM prog w) A (gU (.Tuple elts x1 pos) env (.ref t)) Q E s:=by
 rw[PyProof.Rows.assign_Tuple];refine j4 (Z9 ?_);unfold unpack;rw[hn,hstar];exact j4 (Qi (zfE hh ht fun h' hx=>h h' hx))
end
section
def zwj(K:jb)(n:Nat)(t:TGs):TG:=fun v sg H Q=>∃ a xs,v=.ref a/\SqL K H a xs/\xs.length=n/\t xs sg H Q
theorem zte{es:List Q4}{k:Nat}{t:TGs}{n:Nat}(hc:X.calm=true)(h:PGs X es t)
  (hn:(Qr es X.env).length=n:=by rfl) (hst:(Qr es X.env).findIdx? (·.1)=none:=by rfl):PG X (.Tuple es k pos) (zwj X.K n t):=by
 intro pc s sg H v u Q I r hw;obtain⟨a,xs,e1,hq,hl,hw⟩:=hw;subst e1;cases r;obtain⟨its,rv,ht,hz⟩:=I.list hq;refine zfm (I.ok.hd hc) ht.isList (by simp[hn,<-hl,rv.length]) hst fun h' hx=>?_
 have I1:Inv X pc sg H { s with heap:=h' }:=I.kept (t':=s.toks) fun b o e=>hx b o (jC (jj e)) e;exact h pc _ sg H xs _ Q I1 (by simpa using rv) hw
def Ite(K:jb)(a:js):It:=
 ⟨fun i H=>∃ xs x,SqL K H a xs/\xs[i]?=some x,fun i H v H'=>∃ p x,v=.ref p/\H p=none/\H'=upd H p (.tup [.int i,x])/\∀ xs,SqL K H a xs->xs[i]?=some x,fun i H=>∃ xs,SqL K H a xs/\xs.length<=i⟩
theorem zmh{P:jH}{w:Qf}{K:jb}{elts:List Q4}{x1:Nat}{tp:Pos}(a it e:js)(hne:e≠it) :
  Turn P w K (.Tuple elts x1 tp) (Ite K a) [e,it] e (fun i h=>(∃ old,IsEnum h e it i old)/\h.IsListIter it a i) where
 mem:=by simp
 obj:=fun i h st b hb=>by
  obtain⟨⟨old,he⟩,o,ho,hc,hd⟩:=st;rcases jv.mp hb with z |z
  ·subst z
   exact⟨_,he,fun v z=>by
    have z':Jl _=Wc v:=z
    cases z'⟩
  ·have z':b=it:=by simpa using z
   subst z';exact⟨o,ho,fun v z=>by rw[hd] at z; cases z⟩
 keep:=fun i h h' st k=>by
  obtain⟨⟨old,he⟩,hi⟩:=st;exact⟨⟨old,k e (by simp) _ he⟩,hi.at fun o q=>k it (by simp) o q⟩
 item:=by
  intro X hP hw hK hc i pc s sg H E I hf st hg;subst hP hw hK;obtain⟨⟨old,he⟩,hit⟩:=st;obtain⟨xs,x,hq,hx⟩:=hg;obtain⟨its,rv,p,hz⟩:=I.list hq;obtain⟨u,hu,ru⟩:=rv.get hx;obtain⟨f0,f1,f2,f3,f4,f5⟩:=hf e (by simp)
  obtain⟨g0,g1,g2,g3,g4,g5⟩:=hf it (by simp)
  refine wpAny_pyNext_enum_item he hit p.isList (x:=u) (by simpa using hu) hne fun h1 eo hit1 htup hsz keep1=>?_
  refine⟨_,rfl,wpAny_letOwnedTupleGo_enum eo fun h2 en sb=>?_⟩;have hn:H s.heap.objs.size=none:=I.hok.fresh (jm _);have elt:e < s.heap.objs.size:=jj he;have keep2:∀ b o,b≠e->b≠it->s.heap.get? b=some o->h2.get? b=some o:=fun b o n1 n2 q=>(sb.2 b n1).trans (keep1 b o n1 n2 q);have tup2:h2.get? s.heap.objs.size=some { cls:=.type "tuple",data:=.seq #[.int i s.toks,u] }:=(sb.2 _ (gs elt)).trans htup;have nH:∀ b v,H b=some v->b≠e/\b≠it/\b≠s.heap.objs.size:=fun b v q=>⟨(fun z=>by rw[z,f0] at q; cases q),(fun z=>by rw[z,g0] at q; cases q),za9 q hn⟩
  have I2:Inv X pc sg (upd H s.heap.objs.size (.tup [.int i,x])) { s with heap:=h2,toks:=s.toks+1 }:=by
   refine I.step (g':=s.gens) (d':=s.drawn) (ch:=[e,it]) (fun b hb=>?_) (fun b o _ _ hc q _=>keep2 b o (fun z=>hc (by simp[z])) (fun z=>hc (by simp[z])) q)
    (fun b o _ _ hc q _=>⟨o.slots,keep2 b o (fun z=>hc (by simp[z])) (fun z=>hc (by simp[z])) q⟩) (fun b o hc q n=>by rw[za8 (jC (jj q))]; exact n)
    (fun b o hc q=>⟨o,keep2 b o (fun z=>hc (by simp[z])) (fun z=>hc (by simp[z])) q⟩) (fun b ys q=>by rw[za8 (nH b _ q).2.2]; exact q) (fun b o v q=>by rw[za8 (nH b _ q).2.2]; exact q)
    (fun b ps q=>⟨#[],by rw[za8 (nH b _ q).2.2,q]; simp⟩) (fun m hm=>?_) (fun b v q=>?_) I.bare
   ·rcases jv.mp hb with z |z
    ·subst z; exact⟨f3,f1,f4,f5⟩
    ·have z':b=it:=by simpa using z
     subst z'; exact⟨g3,g1,g4,g5⟩
   ·obtain⟨o,es,ep,ho,r⟩:=hm;exact⟨o,es,ep,keep2 _ o (Zr f1) (Zr g1) ho,r⟩
   ·by_cases hb:b=s.heap.objs.size
    ·subst hb;rw[zah] at q;cases q;exact⟨by show 2<=jr; decide,[.int i s.toks,u],.cons ⟨_,rfl⟩ (.cons ru .nil),_,tup2,rfl,_,rfl⟩
    ·rw[za8 hb] at q;refine(I.hok b v q).stay (fun c v' hc q'=>?_) (fun c q'=>by rw[za8 (nH c _ q').2.2]; exact q') fun c ys q'=>by rw[za8 (nH c _ q').2.2]; exact q'
     rcases hc with z |z
     ·exact keep2 c v' (by rw[z]; exact(nH b v q).1) (by rw[z]; exact(nH b v q).2.1) q'
     ·exact keep2 c v' (nH c _ z).1 (nH c _ z).2.1 q'
  refine⟨.ref s.heap.objs.size,_,I2,rfl,⟨s.heap.objs.size,x,rfl,hn,rfl,fun ys hy=>by rw[I.list_inj hy hq]; exact hx⟩,⟨⟨_,en⟩,?_⟩,fun b hb=>?_⟩
  ·obtain⟨o,ho,r⟩:=hit1;exact⟨o,(sb.2 it (Zr hne)).trans ho,r⟩
  ·rcases jv.mp hb with z |z
   ·subst z; rw[za8 (jC elt)]; exact f0
   ·have z':b=it:=by simpa using z
    subst z';obtain⟨o,ho,_⟩:=hit;rw[za8 (jC (jj ho))]; exact g0
 done:=by
  intro X hP hw hK hc i pc s sg H E I hf st hg;subst hP hw hK;obtain⟨⟨old,he⟩,hit⟩:=st;obtain⟨xs,hq,hx⟩:=hg;obtain⟨its,rv,p,hz⟩:=I.list hq;obtain⟨g0,g1,g2,g3,g4,g5⟩:=hf it (by simp)
  have hl:=rv.length;exact wpAny_pyNext_enum_end (I.ok.hd hc) he hit p.isList (by simp; lia) fun h' eb=>⟨rfl,I.turned (t':=s.toks) (fun b o hb q=>eb b o hb q) g0 g1 g3 g4 g5⟩
 self:=fun _ _ _ _ _ st h=>by
  obtain⟨⟨old,he⟩,_⟩:=st;exact WL he h
def zwh(K:jb)(ta:TA):TI:=fun sg H R=>ta sg H fun vs H1=>∃ a,vs=[.ref a]/\(∃ xs,SqL K H1 a xs)/\R (Ite K a) H1
theorem zqP{elts:List Q4}{x1:Nat}{tp:Pos}{a:Q4}{ta:TA}{p pos:Pos}(hg:Gl X "enumerate")(hm:X.mg "enumerate"=none)(ha:PA X [a] ta)(hs:jd [a] X.env=[(false,eval a X.env)]:=by rfl) :
  PI X (.Tuple elts x1 tp) (.Call (.Name "enumerate" p) [a] [] pos) (zwh X.K ta):=by
 intro pc s sg H R I h;refine Call_ (zec I hg hm zjt (Qj (thn (ha pos pc s sg H _ I h) fun us s1 ⟨vs,H1,I1,r1,q1⟩=>?_) hs rfl));obtain⟨a',rfl,⟨xs,hq⟩,q⟩:=q1;obtain⟨u,rfl,ru⟩:=zm9 r1;cases ru;obtain⟨its,rv,pl,hz⟩:=I1.list hq;refine call_enumerate_list pl.isList fun h' en il hsz kp=>?_;refine WL en ?_;have I2:Inv X pc sg H1 { s1 with heap:=h' }:=I1.kept (t':=s1.toks) kp;refine⟨s1.heap.objs.size+1,[s1.heap.objs.size+1,s1.heap.objs.size],_,_,H1,rfl,I2,zmh a' s1.heap.objs.size (s1.heap.objs.size+1) (Nat.succ_ne_self _),⟨⟨_,en⟩,il⟩,fun b hb=>?_,q⟩;rcases jv.mp hb with z |z
 ·subst z; exact I1.fpOk (gk _) (I1.hok.fresh (gk _))
 ·have z':b=s1.heap.objs.size:=by simpa using z
  subst z'; exact I1.fpOk (jm _) (I1.hok.fresh (jm _))
end
section
def zwX(K:jb):List V->Hp->VK->Prop:=fun xs H Q=>∃ x c t k,xs=[x,.ty c]/\TyOf K H x t/\NX K t (.type c)=some k/\Q (.bl k) H
theorem zoZ:CallR X (.builtin "isinstance") (zwX X.K):=by
 intro pc s sg H xs us Q I r h;obtain⟨x,c,t,k,rfl,ty,e,q⟩:=h;obtain⟨u,u2,rfl,ru,ru2⟩:=zva r;cases ru2;exact znl I ru ty e fun tk=>⟨.bl k,H,I.tok _,rfl,q⟩
end
section
variable {R:JC->jc->Prop}
theorem zik{kx vx target iter:Q4}{ifs:List Q4}{scope:gN}{pos:Pos}{it:j8}{D:js}{env:Env}(I:Nat->jc->Prop)
  (turn:∀ n s,I n s->jI (jM prog w) A (NV it) (fun r s1=>match r with
   |none=>R (.ok .next) s1
   | some v=>jI (jM prog w) A (ZP target it v) (fun _ s1'=>jI (jM prog w) A (gU target env v) (fun _ s2=>
     jI (jM prog w) A (forIn ifs true fun c r=>if r=true then do let ok <-JA c env (eval c env); pure (Ql ok) else pure (Ql r)) (fun ok s3=>
      if ok=true then jI (jM prog w) A (eval kx env) (fun kv s4=>jI (jM prog w) A (eval vx env) (fun vv s5=>
       jI (jM prog w) A (dictSet D kv vv) (fun _ s6=>∃ m,m < n/\I m s6) (fun _ _=>False) s5) (fun _ _=>False) s4) (fun _ _=>False) s3
      else ∃ m,m < n/\I m s3) (fun _ _=>False) s2) (fun _ _=>False) s1') (fun _ _=>False) s1) (fun _ _=>False) s)
  (n:Nat) (h:I n s) :
  Yc (jM prog w) A (.compLoop (.DictComp kx vx [⟨target,iter,ifs,0⟩] scope pos) 0 it (.ref D) env) R s:=by
 refine codeAny_loop rfl I (fun n s hI=>?_) n h;show jI _ A ((compTurn (.DictComp kx vx [⟨target,iter,ifs,0⟩] scope pos) 0 it (.ref D) env).onRaise (fun x=>do Jn x env; theTreesLotGoes x)) _ _ s
 refine wpAny_noted ?_;rw[compTurn_dict];refine j4 (Z9 (j4 (jV (turn n s hI) (fun r s1 h1=>?_) fun _ _ h'=>h'.elim)));cases r with
 |none=>exact jq h1
 |some v=>
  refine j4 (jV h1 (fun _ s1' h1'=>?_) fun _ _ h'=>h'.elim);refine j4 (jV h1' (fun _ s2 h2=>j4 (jV h2 (fun ok s3 h3=>?_) fun _ _ h'=>h'.elim)) fun _ _ h'=>h'.elim);cases ok with
  |false=>exact jq ⟨rfl,h3⟩
  |true=>
   exact j4 (j4 (jV h3 (fun kv s4 h4=>j4 (Qi (jV h4 (fun vv s5 h5=>j4 (Z9 (Qi (jV h5 (fun _ s6 h6=>jq ⟨rfl,h6⟩) fun _ _ h'=>h'.elim)))) fun _ _ h'=>h'.elim))) fun _ _ h'=>h'.elim))
end
def dcW(J:It)(g:TG)(tt:TT)(tk tv:TE)(sg':St)(Q:VK)(H1:Hp):Prop:=
 ∀ D,H1 D=none->∃ W:Nat->Nat->Hp->Prop,(∃ m,W 0 m (upd H1 D (.dK [])))/\∀ i m H,W i m H->
  (J.stop i H/\Q (.ref D) H)∨(J.go i H/\∀ x H',J.yld i H x H'->g x sg' H' fun s2 H2=>tt s2 H2 fun b H3=>if b=true then
   tk s2 H3 fun y H4=>tv s2 H4 fun z H5=>∃ kvs k,H5 D=some (.dK kvs)/\y=kV k/\kvs.length < jr/\∃ m',m' < m/\W (i+1) m' (upd H5 D (.dK (zhh kvs k z)))
   else ∃ m',m' < m/\W (i+1) m' H3)
section
variable {tg kx vx iter:Q4}{ifs:List Q4}{wi:TI}{g:TG}{tt:TT}{tk tv:TE}
theorem zld{pc:List (js × Obj)}{sg:St}{H:Hp}{s2:jc}{cl:List (Str × js)}{it:js}{fp:List js}{tn:Nat->QL->Prop}{J:It}{Q:VK}{E:j8->jc->Prop}{RR:j8->js->JC->jc->Prop}
  (hc:X.calm=true) (hcap:capOk N X.N scope X.env.scope caps=true) (hkind:scope.kind=.function) (hcell:∀ y∈scope.names,y.2≠.cell)
  (hg:∀ cl C s0 H0 fp,PG (zap X N scope cl C s0 H0 fp) tg g) (hgk:zeX caps g) (ht:∀ cl C s0 H0 fp,PTs (zap X N scope cl C s0 H0 fp) ifs tt) (hk:∀ cl C s0 H0 fp,PE (zap X N scope cl C s0 H0 fp) kx tk) (he:∀ cl C s0 H0 fp,PE (zap X N scope cl C s0 H0 fp) vx tv)
  (hcl1:∀ p∈cl,X.env.cells.lookup p.1=some p.2) (hcl2:∀ x,(x,Qs)∈scope.names->∃ c,(x,c)∈cl)
  (I2:Inv X pc sg H s2) (T:Turn X.prog X.w X.K tg J fp it tn) (st2:tn 0 s2.heap) (f2:∀ b∈fp,zjz X pc H b) (hw:dcW J g tt tk tv (zbj caps sg) Q H)
  (hRR:∀(D C:js) (s':jc) (H':Hp) (m':Str->Option j8),Inv X pc sg H' s'->s'.heap.Ns C m'->H' C=none->s2.heap.objs.size<=C->(∀ x c,X.env.cells.lookup x=some c->c≠C)->(∀ p∈X.pn++pc,p.1≠C)->C≠X.env.locals->Q (.ref D) H'->RR (.ref D) C (.ok .next) s') :
  jI (jM X.prog X.w) X.A (newDict) (fun acc s3=>jI (jM X.prog X.w) X.A (newFunctionEnv scope X.env.globals cl [] X.env.qual none .none (some X.env)) (fun cenv s4=>
   Yc (jM X.prog X.w) X.A (.compStart (.DictComp kx vx [⟨tg,iter,ifs,0⟩] scope pos) 0 (.ref it) acc { cenv with scope:=JM scope X.env }) (RR acc cenv.locals) s4) E s3) E s2:=by
 refine WK ?_;have I3:Inv X pc sg (upd H s2.heap.objs.size (.dK [])) { s2 with heap:=s2.heap.push { cls:=.type "dict",dict:=none,data:=.dict #[] } }:=
  I2.laid (t':=s2.toks) (fun b u e=>ja _ e) (jm _) (zlb s2.heap I2.big)
 have hfree:H s2.heap.objs.size=none:=I2.hok.fresh (jm _);obtain⟨W,⟨mm,w0⟩,turn⟩:=hw s2.heap.objs.size hfree;generalize hD:s2.heap.objs.size=D at *;generalize hs3:({ s2 with heap:=s2.heap.push { cls:=.type "dict",dict:=none,data:=.dict #[] } }:jc)=s3 at *;have hlt3:∀ b o,s2.heap.get? b=some o->s3.heap.get? b=some o:=fun b o e=>by rw[<-hs3]; exact ja _ e
 have hsz3:s3.heap.objs.size=D+1:=by rw[<-hs3,<-hD]; exact Zm ..
 have fpD:∀ b∈fp,b < D:=fun b hb=>by
  obtain⟨o,ho,_⟩:=T.obj 0 _ st2 b hb;rw[<-hD]; exact jj ho
 have f3:∀ b∈fp,zjz X pc (upd H D (.dK [])) b:=fun b hb=>⟨by rw[za8 (jC (fpD b hb))]; exact(f2 b hb).1,(f2 b hb).2⟩
 have lt3:∀ b∈fp,b < s3.heap.objs.size:=fun b hb=>by rw[hsz3]; exact Qv (fpD b hb)
 have st3:tn 0 s3.heap:=T.keep 0 _ _ st2 fun b _ o e=>hlt3 b o e;refine NP hcell (by intro y hy; simp at hy) (fun h1 hns1 hsb1=>?_) hkind
 try dsimp only at hns1 hsb1 ⊢
 have keep1:∀ b u,s3.heap.get? b=some u->h1.get? b=some u:=fun b u e=>hsb1.extBut b u (jC (jj e)) (ja _ e);have I4:=zhs (N:=N) (tk:=s3.toks+([]:List (Str × j8)).length) hcap hkind hcell I3 hcl1 hcl2 f3 lt3 keep1 hns1;have loop:Yc (jM X.prog X.w) X.A (.compLoop (.DictComp kx vx [⟨tg,iter,ifs,0⟩] scope pos) 0 (.ref it) (.ref D) (Je scope cl s3.heap.objs.size X.env)) (RR (.ref D) s3.heap.objs.size) { s3 with heap:=h1,toks:=s3.toks+([]:List (Str × j8)).length }:=by
  generalize hX':zap X N scope cl s3.heap.objs.size s3 (upd H D (.dK [])) fp=X' at I4;have eP:X'.prog=X.prog:=by rw[<-hX']; rfl
  have ew:X'.w=X.w:=by rw[<-hX']; rfl
  have eK:X'.K=X.K:=by rw[<-hX']; rfl
  have eA:X'.A=X.A:=by rw[<-hX']; rfl
  have eE:X'.env=Je scope cl s3.heap.objs.size X.env:=by rw[<-hX']; rfl
  have ex:X'.xe=fun _ _=>False:=by rw[<-hX']; rfl
  have ecalm:X'.calm=true:=by rw[<-hX']; exact hc
  have hg':PG X' tg g:=by rw[<-hX']; exact hg _ _ _ _ _
  have ht':PTs X' ifs tt:=by rw[<-hX']; exact ht _ _ _ _ _
  have hk':PE X' kx tk:=by rw[<-hX']; exact hk _ _ _ _ _
  have he':PE X' vx tv:=by rw[<-hX']; exact he _ _ _ _ _
  have stat:∀ {H':Hp},(∀ b∈fp,H' b=none)->∀ b∈fp,zjz X' [] H' b:=fun {H'} hn b hb=>by
   refine⟨hn b hb,?_,?_,?_,?_,fun p hp=>?_⟩
   ·rw[<-hX']; exact jC (lt3 b hb)
   ·rw[<-hX'];exact fun z=>(zdL (N:=N) hkind hcell I3 hcl1 hcl2 f3 lt3).exfs b hb z
   ·rw[<-hX']; exact .inl hb
   ·rw[<-hX'];exact((zdL (N:=N) hkind hcell I3 hcl1 hcl2 f3 lt3).exf b hb).2
   ·rw[<-hX'] at hp; cases hp
  have out:∀ {sg':St} {H':Hp} {s':jc},Inv X' [] sg' H' s'->Inv X pc sg H' s':=fun {sg' H' s'} I'=>by
   have hb:=I'.base;rw[<-hX'] at hb;have ho:=I'.os;rw[<-hX'] at ho;have hk:=I'.hok;rw[eP,ew] at hk;exact I3.call' (ch:=fp) ho hb hk I'.bare fun b hb=>⟨(f3 b hb).2.2.2.1,(f3 b hb).2.1,(f3 b hb).2.2.2.2.1,(f3 b hb).2.2.2.2.2⟩
  rw[<-eE,<-eA,<-eP,<-ew];refine zik (fun n s'=>∃ i H',Inv X' [] (zbj caps sg) H' s'/\tn i s'.heap/\(∀ b∈fp,H' b=none)/\W i n H') ?_ mm
   ⟨0,_,I4,T.keep 0 _ _ st3 fun b _ o e=>keep1 b o e,fun b hb=>(f3 b hb).1,w0⟩
  rintro n s5 ⟨i,H5,I5,st5,fr5,w5⟩;rcases turn i n H5 w5 with ⟨stop,q⟩ |⟨go,step⟩
  ·have z:=T.done X' eP ew eK ecalm i [] s5 _ H5 (fun _ _=>False) I5 (stat fr5) st5 stop;rw[<-eP,<-ew] at z;refine thn z fun r s6 h_=>?_; obtain⟨hr,I6⟩:=h_;subst hr;obtain⟨m',hn',_⟩:=I6.loc;have hfr:=I6.free;rw[eE] at hn' hfr;refine hRR D s3.heap.objs.size s6 H5 m' (out I6) hn' hfr (by rw[hsz3]; exact gk _) (fun x c e z=>?_) (fun p hp z=>?_) (fun z=>?_) q
   ·obtain⟨v,o,ho,_⟩:=I3.cell x c e;rw[z] at ho;exact absurd (jj ho) (jZ _)
   ·have:=jj (I3.pin p hp).1;rw[z] at this;exact absurd this (jZ _)
   ·have:=I3.lt;rw[<-z] at this;exact absurd this (jZ _)
  ·have z:=T.item X' eP ew eK ecalm i [] s5 _ H5 (fun _ _=>False) I5 (stat fr5) st5 go;rw[<-eP,<-ew] at z;refine thn z fun r s6 h_=>?_; obtain⟨u,hr,h6⟩:=h_;subst hr;dsimp only;refine thn h6 fun _ s7 h_=>?_; obtain⟨x,H7,I7,r7,y7,st7,fr7⟩:=h_;have I7':=I7.pinned (stat fr7) (T.obj _ _ st7);have q7:=step x H7 y7;have a7:=hg' _ s7 (zbj caps sg) H7 x u _ I7' r7 (hgk _ _ _ _ q7);rw[ex] at a7;refine thn a7 fun _ s8 h_=>?_; obtain⟨sg8,H8,I8,q8,k8⟩:=h_;have k8':∀(j:Nat) (v:V),(zbj caps sg)[j]?=some (some v)->sg8[j]?=some (some v):=fun j v e=>by
    have e':=e;unfold zbj at e';rw[jg] at e';cases hc:caps[j]? with
    |none=>rw[hc] at e'; simp at e'
    |some o=>
     cases o with
     |none=>rw[hc] at e'; simp at e'
     |some k=>rw[k8 j k hc]; exact e
   have a8:=ht' _ s8 sg8 H8 _ I8 q8;rw[ex] at a8;refine thn a8 fun ok s9 h_=>?_; obtain⟨H9,I9,q9⟩:=h_;have JY:∀ {sg':St} {H':Hp} {s':jc} {m':Nat},Inv X' ([]++zhi fp s7.heap) sg' H' s'->(∀(j:Nat) (v:V),(zbj caps sg)[j]?=some (some v)->sg'[j]?=some (some v))->m' < n->W (i+1) m' H'->
     ∃ m,m < n/\∃ i H',Inv X' [] (zbj caps sg) H' s'/\tn i s'.heap/\(∀ b∈fp,H' b=none)/\W i m H':=fun {sg' H' s' m'} I' hs hm hw=>by
    refine⟨m',hm,i+1,H',I'.unpinned.forget (I4.len.trans I'.len.symm) hs,T.keep _ _ _ st7 fun b hb o e=>(I'.pin (b,o) (jz _ (jz _ (zcc hb e)))).1,fun b hb=>?_,hw⟩;obtain⟨o,e,d⟩:=T.obj _ _ st7 b hb;exact(I'.pin (b,o) (jz _ (jz _ (zcc hb e)))).2.1
   cases ok with
   |false=>
    obtain⟨m',hm,w9⟩:=q9;exact JY I9 k8' hm w9
   |true=>
    have a9:=hk' _ s9 sg8 H9 _ I9 q9;rw[ex] at a9;refine thn a9 fun kv s10 h_=>?_; obtain⟨y,H10,I10,r10,q10⟩:=h_;have a10:=he' _ s10 sg8 H10 _ I10 q10;rw[ex] at a10;refine thn a10 fun vv s11 h_=>?_; obtain⟨z,H11,I11,r11,kvs,k,hD',ey,hz,m',hm,w11⟩:=h_;subst ey;obtain⟨zz,hdd,vs,rel,dd⟩:=zrt I11.hok hD';have hvz:vs.length<=jr:=by rw[<-rel.length]; exact zz
    have hl:(zhh kvs k z).length<=jr:=by have:=zd8 kvs k z; lia
    refine wpAny_dictSet_pairs (hsz:=hvz) (znj r10) dd fun h' dd' hs=>?_;have he2:∃ q,h'.get? D=some q:=let ⟨q,_,_,hq,_⟩:=dd'; ⟨q,hq⟩
    have I12:=zie (t':=s11.toks+1) I11 (by rw[hD']; exact ZK) hs he2 (zpH hl hdd (rel.put k r11) dd')
    exact JY I12 k8' hm w11
 exact codeAny_compStart_dict loop (T.self _ _ _ _ _ (T.keep 0 _ _ st3 fun b _ o e=>keep1 b o e) loop)
def tDC(caps:List (Option Nat))(wi:TI)(g:TG)(tt:TT)(tk tv:TE):TE:=fun sg H Q=>wi sg H fun J H1=>dcW J g tt tk tv (zbj caps sg) Q H1
theorem zvW(hc:X.calm=true)(hi:PI X tg iter wi)(hg:∀ cl C s0 H0 fp,PG (zap X N scope cl C s0 H0 fp) tg g)(hgk:zeX caps g)(ht:∀ cl C s0 H0 fp,PTs (zap X N scope cl C s0 H0 fp) ifs tt)(hk:∀ cl C s0 H0 fp,PE (zap X N scope cl C s0 H0 fp) kx tk)(he:∀ cl C s0 H0 fp,PE (zap X N scope cl C s0 H0 fp) vx tv)
  (hcap:capOk N X.N scope X.env.scope caps=true:=by rfl) (hkind:scope.kind=.function:=by rfl) (hcell:scope.names.all (fun p=>p.2 != .cell)=true:=by rfl)
  (hnames:scope.names.all (fun p=>p.2 != .local||scope.names.lookup p.1 == some .local)=true:=by rfl)
  (hfr:scope.names.all (fun p=>p.2 != .free||(X.env.scope.names.lookup p.1 == some .cell||X.env.scope.names.lookup p.1 == some .free))=true:=by rfl)
  (hs:∀ x,Qu iter X.env x=pure x:=by intro _; rfl):PE X (.DictComp kx vx [⟨tg,iter,ifs,0⟩] scope pos) (tDC caps wi g tt tk tv):=by
 intro pc s sg H Q I h;have hcell':∀ y∈scope.names,y.2≠.cell:=fun y hy=>by simpa using jx.mp hcell y hy
 have hnames':∀ x∈scope.names,x.2=.local->scope.names.lookup x.1=some .local:=fun x hx e=>by
  have q:=jx.mp hnames x hx;rw[e] at q;simpa using q
 obtain⟨cl,hclos,hcl1,hcl2⟩:=zc7 (scope:=scope) (env:=X.env) (zfX I.ok hfr);rw[arm_eval_DictComp];refine Zu (use:=none) rfl hs hclos hkind hnames' (thn (hi pc s sg H _ I h) fun v s1 h1=>thn h1 fun itv s2 h2=>?_);obtain⟨it,fp,tn,J,H2,e,I2,T,st2,f2,hw⟩:=h2;subst e;refine zld (RR:=fun acc C=>JO (jM X.prog X.w) X.A X.xe none (EP X pc sg Q) acc C) hc hcap hkind hcell' hg hgk ht hk he hcl1 hcl2 I2 T st2 f2 hw ?_;intro D C s' H' m' I' hn hfree hCs hCc hCp hCl q;refine⟨m',hn,fun h' hs'=>⟨.ref D,H',?_,rfl,q⟩⟩;exact I'.turned (t':=s'.toks) (it:=C) (fun b o hb e=>(hs'.2 b hb).trans e) hfree hCl (.inr (Qc I2.sz hCs)) hCc hCp
theorem zou{i:Nat}{y:Str}{py spos:Pos}(hN:X.N.Nodup)(hiy:X.N[i]?=some y)(hy:X.env.scope.names.lookup y=some .local)(hc:X.calm=true)(hi:PI X tg iter wi)(hg:∀ cl C s0 H0 fp,PG (zap X N scope cl C s0 H0 fp) tg g)(hgk:zeX caps g)(ht:∀ cl C s0 H0 fp,PTs (zap X N scope cl C s0 H0 fp) ifs tt)(hk:∀ cl C s0 H0 fp,PE (zap X N scope cl C s0 H0 fp) kx tk)(he:∀ cl C s0 H0 fp,PE (zap X N scope cl C s0 H0 fp) vx tv)
  (hsw:ZO (.DictComp kx vx [⟨tg,iter,ifs,0⟩] scope pos) (some (.Name y py)) spos.line X.env=pure true:=by rfl)
  (hcap:capOk N X.N scope X.env.scope caps=true:=by rfl) (hkind:scope.kind=.function:=by rfl) (hcell:scope.names.all (fun p=>p.2 != .cell)=true:=by rfl)
  (hnames:scope.names.all (fun p=>p.2 != .local||scope.names.lookup p.1 == some .local)=true:=by rfl)
  (hfr:scope.names.all (fun p=>p.2 != .free||(X.env.scope.names.lookup p.1 == some .cell||X.env.scope.names.lookup p.1 == some .free))=true:=by rfl)
  (hs:∀ x,Qu iter X.env x=pure x:=by intro _; rfl):PS X (.Assign [.Name y py] (.DictComp kx vx [⟨tg,iter,ifs,0⟩] scope pos) spos) (zh7 (tDC caps wi g tt tk tv) (zcJ i)):=by
 intro pc s sg H D0 I h;have hcell':∀ y∈scope.names,y.2≠.cell:=fun y hy=>by simpa using jx.mp hcell y hy
 have hnames':∀ x∈scope.names,x.2=.local->scope.names.lookup x.1=some .local:=fun x hx e=>by
  have q:=jx.mp hnames x hx;rw[e] at q;simpa using q
 obtain⟨cl,hclos,hcl1,hcl2⟩:=zc7 (scope:=scope) (env:=X.env) (zfX I.ok hfr);rw[Nt _ _ _ _ hsw];refine j4 (Z9 (j4 ?_));show jI _ X.A (do let _ <-comprehension (.DictComp kx vx [⟨tg,iter,ifs,0⟩] scope pos) scope X.env _ (newDict) false (eval iter X.env) (some (gU (.Name y py) X.env))) _ _ s
 refine j4 (jV (Zu (use:=some (gU (.Name y py) X.env)) (Q:=fun _ s'=>SP X pc D0 .next s') rfl hs hclos hkind hnames'
  (thn (hi pc s sg H _ I h) fun v s1 h1=>thn h1 fun itv s2 h2=>?_)) (fun _ s' hq=>jq (jq hq)) fun _ _ e=>e)
 obtain⟨it,fp,tn,J,H2,e,I2,T,st2,f2,hw⟩:=h2;subst e;refine zld (Q:=fun x H1=>zcJ i x sg H1 D0.nx) (RR:=fun acc C=>JO (jM X.prog X.w) X.A X.xe (some (gU (.Name y py) X.env)) (fun _ s'=>SP X pc D0 .next s') acc C) hc hcap hkind hcell' hg hgk ht hk he hcl1 hcl2 I2 T st2 f2 hw ?_
 intro D C s' H' m' I' hn hfree hCs hCc hCp hCl q;show jI _ X.A (gU (.Name y py) X.env (.ref D)) _ _ _;refine YF (zg8 I' hN hiy (.inl hy) (v:=.ref D) rfl (fun s3 I3 ⟨a,hs3,ha⟩=>?_) (.inr hy));have hCa:C≠a:=by
  rcases ha with z |z
  ·rw[z]; exact hCl
  ·exact fun z'=>hCc y a z z'.symm
 refine⟨m',hn.sameBut hs3 hCa,fun h' hs'=>?_⟩;exact⟨_,H',I3.turned (t':=s3.toks) (it:=C) (fun b o hb e=>(hs'.2 b hb).trans e) hfree hCl (.inr (Qc I2.sz hCs)) hCc hCp,q⟩
end
section
theorem zmz{k:Key}{v:j8}(h:zkb k v=true):RelV (kV k) v:=by
 rcases zaA h with ⟨i,t,rfl,rfl⟩ |⟨x,t,rfl,rfl⟩
 ·exact⟨t,rfl⟩
 ·exact⟨t,rfl⟩
theorem zg3:∀ {xs:List V} {us:List j8},xs.length=us.length->(∀(j:Nat) x u,xs[j]?=some x->us[j]?=some u->RelV x u)->Vals xs us:=by
 intro xs
 induction xs with
 |nil=>
  intro us hl _;cases us with
  |nil=>exact .nil
  |cons _ _=>cases hl
 |cons x xs ih=>
  intro us hl h;cases us with
  |nil=>cases hl
  |cons u us=>exact .cons (h 0 x u rfl rfl) (ih (WY hl) fun j y v e1 e2=>h (j+1) y v e1 e2)
theorem zpw{κ:Type}{kvs:List (κ × V)}{vs:List (κ × j8)}{j:Nat}{p:κ × V}(h:KV kvs vs):kvs[j]?=some p->∃ q,vs[j]?=some q/\p.1=q.1/\RelV p.2 q.2:=by
 induction h generalizing j with
 |nil=>intro e; cases e
 |cons r t ih=>
  intro e;cases j with
  |zero=>obtain rfl:=jf e; exact⟨_,rfl,r⟩
  |succ j=>exact ih (j:=j) e
theorem zh6(hc:X.calm=true):CallR X (.type "list") (fun xs H Q=>∃ a kvs,xs=[V.ref a]/\Rd H a (.dK kvs)/\∀ l,H l=none->Q (.ref l) (upd H l (.lst (kvs.map fun kv=>kV kv.1)))):=by
 intro pc s σ H xs us Q I rv h;obtain⟨a,kvs,rfl,e,q⟩:=h;obtain⟨u,rfl,ru⟩:=rv.one;cases ru;obtain⟨z,hd,vs,rel,dd⟩:=zlV I.hok e;have hl:vs.length<=jr:=by rw[<-rel.length]; exact z
 obtain⟨ep,da⟩:=dd.dictAt;refine PySem.W.kdl_call (PySem.W.kdl_dict (knd:=zb6 X.prog X.w) (kvs:=vs) (ep:=ep) hd) (I.ok.hd hc) da hl fun h' tk acc c hk hnew hit=>?_;have hv:Vals (kvs.map fun kv=>kV kv.1) acc.toList:=by
  refine zg3 (by have h1:=hit.1; have h2:=rel.length; simp only[j6,QB]; lia) fun j x u e1 e2=>?_
  rw[jg] at e1;obtain⟨p,h1,h2⟩:=Qm e1;obtain⟨k,y,h3,h4⟩:=hit.2 j u (by simpa using e2)
  obtain⟨w,h5,h6⟩:=zpw rel h1;rw[h3] at h5;injection h5 with h5;subst h5 h2;rw[h6.1];exact zmz h4
 exact⟨.ref _,_,I.laid (a:=s.heap.objs.size) (o:=.lst (kvs.map fun kv=>kV kv.1)) (t':=tk) hk (jm _) ⟨by rw[j6]; exact z,acc.toList,c,hv,by rw[hnew]⟩,rfl,q _ (I.hok.fresh (jm _))⟩
end
section
variable {e:Q4}{te:TE}{p2:Pos}
def zxD(K:jb)(te:TE)(ts:TO):TE:=fun σ H Q=>te σ H fun x H1=>ts σ H1 fun k H2=>k=some (-1)/\∃ a xs,x=.ref a/\SqL K H2 a xs/\∀ p,H2 p=none->Q (.ref p) (upd H2 p (.lst xs.reverse))
theorem ztk{st:Q4}{ts:TO}(he:PE X e te)(hs:PO X (some st) ts):PE X (.Subscript e (.Slice none none (some st) p2) pos) (zxD X.K te ts):=by
 intro pc s σ H Q I h;refine WE (thn (he pc s σ H _ I h) fun v s1 h_=>?_); obtain⟨x,H1,I1,r1,q1⟩:=h_;refine wpAny_Slice ?_;rw[Wj];refine jq (jq (thn (hs pc s1 σ H1 _ I1 q1) fun vk s3 h_=>?_)); obtain⟨k,H3,I3,pk,q3⟩:=h_;obtain⟨rfl,a,xs,rfl,hx,q⟩:=q3;cases r1;have I4:Inv X pc σ H3 { s3 with heap:=s3.heap.push { cls:=.type "slice",data:=.fields #[.none,.none,vk] } }:=I3.kept (t':=s3.toks) fun b ob q=>ja _ q;obtain⟨its,r,ht,hz⟩:=I4.list hx;have hlen:=r.length;show jI (jM X.prog X.w) X.A (YX e (.Slice none none (some st) p2) (.ref a) (.ref s3.heap.objs.size)) (EP X pc σ Q) X.xe { s3 with heap:=s3.heap.push { cls:=.type "slice",data:=.fields #[.none,.none,vk] } };refine tail_any (ops:=[.ref a,.ref s3.heap.objs.size]) ht.isList.typeIs YH.lookup ?_ (by with_unfolding_all rfl)
 refine YI ht.isList (Wk ..) .none .none pk (by decide) ?_ (by rw[jh]<;>lia)
 rw[PySem.W.krv_pick];refine⟨.ref _,_,I4.laid (t':=s3.toks) (o:=.lst xs.reverse) (fun b ob q=>ja _ q) (jm _) ?_,rfl,q _ (I4.hok.fresh (jm _))⟩;exact⟨by rw[W5]; exact hz,_,0,r.reverse,jG _ rfl⟩
end
section
variable {a:Q4}{ta:TA}{p p' pos':Pos}
def tLR(ta:TA):TE:=fun σ H Q=>ta σ H fun vs H1=>∃ j:Int,vs=[.int j]/\-(2 ^ 62)<=j/\j<=16777216/\∀ l,H1 l=none->Q (.ref l) (upd H1 l (.lst ((j5 j.toNat).map fun(k:Nat)=>V.int k)))
theorem ziT(hc:X.calm=true)(hg:Gl X "list")(hm:X.mg "list"=none)(hg':Gl X "range")(hm':X.mg "range"=none)(ha:PA X [a] ta)(hs:jd [a] X.env=[(false,eval a X.env)]:=by rfl)
  (hs':jd [.Call (.Name "range" p') [a] [] pos'] X.env=[(false,eval (.Call (.Name "range" p') [a] [] pos') X.env)]:=by rfl) :
  PE X (.Call (.Name "list" p) [.Call (.Name "range" p') [a] [] pos'] [] pos) (tLR ta):=by
 intro pc s σ H Q I h;refine Call_ (zec I hg hm boot_list (Qj ?_ hs' rfl));rw[hs'];show jI _ _ (spliced [(false,eval (.Call (.Name "range" p') [a] [] pos') X.env)]) _ _ s;refine We (Call_ (zec I hg' hm' JB (Qj (thn (ha pos' pc s σ H _ I h) fun us s1 ⟨vs,H1,I1,r1,q1⟩=>?_) hs rfl)));obtain⟨j,e,q1,q2,q⟩:=q1;subst e;cases r1 with
 |cons r rr=>
  cases rr;obtain⟨t,rfl⟩:=r;refine call_range_1 (WC ?_);have I2:Inv X pc σ H1 { s1 with heap:=s1.heap.push { cls:=.type "range",data:=.fields #[.int 0 s1.toks,.int j t,.int 1 (s1.toks+1)] },toks:=s1.toks+1+1 }:=I1.kept fun b o e=>ja _ e;have hn:YV 0 j 1=(j.toNat:Int):=by rw[rangeSize_one]; split<;>lia
  refine call_list_range (I2.ok.hd hc) (U6 ..) (small_one (by lia) (by lia) q1 (by lia)) hn (by lia) fun h' tk acc c hk hnew hit=>?_
  have hv:Vals ((j5 j.toNat).map fun(k:Nat)=>V.int k) acc.toList:=by
   refine zg3 (by have h1:=hit.1; simp only[j6,QH,QB]; lia) fun i x u e1 e2=>?_
   rw[jg] at e1;obtain⟨k,h1,h2⟩:=Qm e1;obtain⟨tk',h3⟩:=hit.2 i u (by simpa using e2)
   obtain⟨h4,rfl⟩:=j7.mp h1;subst h2 h3;rw[QN];exact⟨tk',by rw[Nu,Int.mul_one]⟩
  exact⟨.ref _,_,I2.laid (o:=.lst ((j5 j.toNat).map fun(k:Nat)=>V.int k)) (t':=tk) hk (jm _) ⟨by rw[j6,QH,ZQ]; lia,acc.toList,c,hv,by rw[hnew]⟩,rfl,q _ (I2.hok.fresh (jm _))⟩
end
end L2
namespace Dw
open PySem PySem.Spec PyProof.Rows L2
def Sx(l:List Nat):Str:=⟨l.toArray⟩
theorem zjx(l:List Nat):(Sx l).cps.toList=l:=by simp[Sx]
theorem zgV(l:List Nat):(Sx l).length=l.length:=by simp[Sx,Str.length]
theorem zpR{l m:List Nat}(h:Sx l=Sx m):l=m:=by
 have:=congrArg (fun x=>x.cps.toList) h;simpa[Sx] using this
theorem zun(l m:List Nat):Sx l++Sx m=Sx (l++m):=by
 show Str.mk _=_;simp[Sx]
theorem zwC(l:List Nat){j:Int}(h0:0<=j)(h:j<=l.length):YJ (Sx l) none (some j)=Sx (l.take j.toNat):=by
 have:=slice_closes_to (x:=Sx l) (j:=j) ⟨h0,by rw[zjx]; exact h⟩
 rw[eq_of_beq this,zjx];simp[Sx]
theorem zrQ(l:List Nat){j:Int}(h0:0<=j)(h:j<=l.length):YJ (Sx l) (some j) none=Sx (l.drop j.toNat):=by
 have:=slice_closes_from (x:=Sx l) (i:=j) ⟨h0,by rw[zjx]; exact h⟩
 rw[eq_of_beq this,zjx,Q0 (by rw[QQ]; lia)]
 rfl
def zdR(x:Str):Prop:=1<=x.length/\x.length<=8/\∀ c∈x.cps.toList,97<=c/\c<=122
abbrev letters:Str:="abcdefghijklmnopqrstuvwxyz"
theorem zlK{i:Int}(h0:0<=i)(h:i < 26):atI letters.cps.toList i=some (97+i.toNat):=by
 have key:∀ j:Nat,j < 26->letters.cps.toList[j]?=some (97+j):=by decide +kernel
 have ek:i=((i.toNat:Nat):Int):=by lia
 have q:=zrN (key i.toNat (by lia))
 rw[<-ek] at q;exact q
theorem zk8:letters.length<=jr:=by decide +kernel
structure Pairing (ps:List Nat) (n:Nat):Prop where
 len:ps.length=2*n
 lt:∀ k∈ps,k < n
 two:∀ k,k < n->ps.count k=2
structure Half (pl:List (Option Nat)) (n i:Nat):Prop where
 len:pl.length=2*n
 lt:∀ k,some k∈pl->k < i
 two:∀ k,k < i->pl.count (some k)=2
 free:pl.count none+2*i=2*n
theorem Half.start(n:Nat):Half (gT (2*n) none) n 0:=by
 refine⟨gV ..,fun k hk=>?_,fun k hk=>absurd hk (ZS k),?_⟩
 ·have:=YK hk;cases this
 ·rw[List.count_replicate_self]; lia
theorem zdg{α β:Type}[BEq α][LawfulBEq α][BEq β][LawfulBEq β]{f:α->β}(hf:∀ a b,f a=f b->a=b)(x:α):∀ l:List α,(l.map f).count (f x)=l.count x
 |[]=>rfl
 |a::r=>by
  rw[jt,ZT,ZT,zdg hf x r]
  by_cases e:a=x
  ·subst e; simp
  ·have e1:(a == x)=false:=by simpa using e
   have e2:(f a == f x)=false:=by simpa using fun z=>e (hf _ _ z)
   rw[e1,e2]
theorem zen{l:List Str}{k:Nat}(h:k < l.length):l.getD k jB=l[k]:=by
 simp[List.getD,j3 h]
theorem Half.next{pl:List (Option Nat)}{n i f0 f1:Nat}(h:Half pl n i)(hi:i < n)(h0:pl[f0]?=some none)(h1:pl[f1]?=some none)(hne:f0≠f1):Half ((pl.set f1 (some i)).set f0 (some i)) n (i+1):=by
 obtain⟨l1,e1⟩:=j7.mp h1;have h0':(pl.set f1 (some i))[f0]?=some none:=by rw[jo (Zr hne)]; exact h0
 obtain⟨l0,e0⟩:=j7.mp h0';have ci:pl.count (some i)=0:=by
  refine gC.mpr fun hm=>?_;exact absurd (h.lt i hm) (jZ _)
 have cn:=h.free;have key:∀ x,((pl.set f1 (some i)).set f0 (some i)).count x=pl.count x - (if (none:Option Nat) == x then 1 else 0)+(if some i == x then 1 else 0) - (if (none:Option Nat) == x then 1 else 0)+(if some i == x then 1 else 0):=fun x=>by
  rw[Jt l0,e0,Jt l1,e1]
 refine⟨by rw[Qd,Qd]; exact h.len,fun k hk=>?_,fun k hk=>?_,?_⟩
 ·rcases YB hk with z |z
  ·rcases YB z with z |z
   ·exact Qv (h.lt k z)
   ·cases z; exact Z8 _
  ·cases z; exact Z8 _
 ·rw[key]
  by_cases e:k=i
  ·subst e;rw[ci];simp
  ·have:(some i == some k)=false:=by simpa using fun z=>e z.symm
   rw[this];simpa using h.two k (by lia)
 ·rw[key];have:(some i == (none:Option Nat))=false:=rfl;rw[this];have:((none:Option Nat) == none)=true:=rfl;rw[this];simp only[if_true,Z6,if_false];lia
theorem Half.done{pl:List (Option Nat)}{n:Nat}(h:Half pl n n):∃ ps:List Nat,Pairing ps n/\pl=ps.map some:=by
 have hz:pl.count none=0:=by have:=h.free; lia
 have hn:none∉pl:=gC.mp hz;obtain⟨ps,rfl⟩:∃ ps:List Nat,pl=ps.map some:=by
  clear h hz
  induction pl with
  |nil=>exact⟨[],rfl⟩
  |cons o r ih=>
   obtain⟨ps,rfl⟩:=ih fun z=>hn (jw _ z);cases o with
   |none=>exact absurd jT hn
   |some j=>exact⟨j::ps,rfl⟩
 refine⟨ps,⟨by have:=h.len; rwa [j6] at this,fun k hk=>h.lt k (List.mem_map_of_mem hk),fun k hk=>?_⟩,rfl⟩
 have:=h.two k hk
 rwa [zdg (fun a b z=>jf z)] at this
theorem Pairing.put{ps sh:List Nat}{n m t:Nat}(h:Pairing ps n)(hs:Pairing sh m):Pairing (ps.take t++(sh.map fun k=>n+k)++ps.drop t) (n+m):=by
 have perm:List.Perm (ps.take t++(sh.map fun k=>n+k)++ps.drop t) (ps++sh.map fun k=>n+k):=by
  rw[Qn];have:List.Perm (ps.take t++((sh.map fun k=>n+k)++ps.drop t)) (ps.take t++(ps.drop t++(sh.map fun k=>n+k))):=Nv _ List.perm_append_comm;refine this.trans ?_;rw[<-Qn,Z3]
 refine⟨?_,fun k hk=>?_,fun k hk=>?_⟩
 ·rw[perm.length_eq,jk,j6,h.len,hs.len]; lia
 ·rcases ju.mp (perm.mem_iff.mp hk) with z |z
  ·have:=h.lt k z; lia
  ·obtain⟨j,hj,rfl⟩:=jA.mp z;have:=hs.lt j hj; lia
 ·rw[perm.count_eq,List.count_append]
  by_cases c:k < n
  ·rw[h.two k c];have:(sh.map fun k=>n+k).count k=0:=gC.mpr fun hm=>by
    obtain⟨j,_,e⟩:=jA.mp hm;lia
   rw[this]
  ·have e1:ps.count k=0:=gC.mpr fun hm=>c (h.lt k hm);obtain⟨j,rfl⟩:∃ j,k=n+j:=⟨k - n,by lia⟩
   rw[e1,zdg (f:=fun k=>n+k) (fun a b (z:n+a=n+b)=>by lia) j sh,hs.two j (by lia)]
theorem Pairing.nil:Pairing [] 0:=⟨rfl,(fun k hk=>by cases hk),fun k hk=>absurd hk (ZS k)⟩
theorem Pairing.of_dec{ps:List Nat}{n:Nat}(h1:ps.length=2*n)(h2:ps.all (fun k=>decide (k < n))=true)(h3:(j5 n).all (fun k=>decide (ps.count k=2))=true):Pairing ps n:=
 ⟨h1,fun k hk=>of_decide_eq_true (jx.mp h2 k hk),fun k hk=>of_decide_eq_true (jx.mp h3 k (ji.mpr hk))⟩
structure GoodWord (wd:List Str):Prop where
 name:∀ x∈wd,zdR x
 two:∀ x∈wd,wd.count x=2
 len:wd.length<=60
theorem zgC{names:List Str}{ps:List Nat}{n:Nat}(hn:n<=30)(hl:names.length=n)(hd:names.Nodup)(hN:∀ x∈names,zdR x)(hp:Pairing ps n):GoodWord (ps.map fun k=>names.getD k jB):=by
 have inj:∀ j k,j < n->k < n->names.getD j jB=names.getD k jB->j=k:=fun j k hj hk e=>by
  rw[zen (by lia),zen (by lia)] at e
  exact(gZ hd).mp e
 have memn:∀ k,k < n->names.getD k jB∈names:=fun k hk=>by
  rw[zen (by lia)]
  exact Q5 _
 have cnt:∀(l:List Nat),(∀ k∈l,k < n)->∀ k,k < n->(l.map fun k=>names.getD k jB).count (names.getD k jB)=l.count k:=by
  intro l
  induction l with
  |nil=>intro _ _ _; rfl
  |cons j r ih=>
   intro hl' k hk;rw[jt,ZT,ZT,ih (fun k hk=>hl' k (jw _ hk)) k hk]
   by_cases e:j=k
   ·subst e; simp
   ·have e1:(j == k)=false:=by simpa using e
    have e2:(names.getD j jB == names.getD k jB)=false:=by
     simp only[beq_eq_false_iff_ne,ne_eq];exact fun z=>e (inj j k (hl' j jT) hk z)
    rw[e1,e2]
 refine⟨fun x hx=>?_,fun x hx=>?_,?_⟩
 ·obtain⟨k,hk,rfl⟩:=jA.mp hx;exact hN _ (memn k (hp.lt k hk))
 ·obtain⟨k,hk,rfl⟩:=jA.mp hx;rw[cnt ps hp.lt k (hp.lt k hk),hp.two k (hp.lt k hk)]
 ·rw[j6,hp.len]; lia
def zae(wd:List Str)(x:Str):List Nat:=(j5 wd.length).filter fun j=>decide (wd[j]?=some x)
theorem zdG(wd:List Str)(x:Str):(zae wd x).length=wd.count x:=by
 unfold zae
 induction wd with
 |nil=>rfl
 |cons o r ih=>
  rw[jp,gJ,Zg,Nw,ZT];have e:((j5 r.length).filter ((fun j=>decide ((o::r)[j]?=some x))∘Nat.succ))=(j5 r.length).filter fun j=>decide (r[j]?=some x):=rfl;rw[e]
  by_cases h:o=x
  ·subst h;rw[Ip_ (by simp),jp,j6,ih]
   simp
  ·rw[In_ (by simpa using h),j6,ih]
   simp[h]
theorem zaV{wd:List Str}{x:Str}{i j:Nat}(h:zae wd x=[i,j]):i < j/\j < wd.length:=by
 have hs:(zae wd x).Pairwise (· < ·):=Nx List.filter_sublist ZL
 rw[h] at hs;have hm:j∈zae wd x:=by rw[h]; simp
 refine⟨?_,ji.mp (jQ.mp hm).1⟩;simpa using hs
theorem GoodWord.places{wd:List Str}(g:GoodWord wd){x:Str}(hx:x∈wd):∃ i j,zae wd x=[i,j]:=by
 have hl:=zdG wd x;rw[g.two x hx] at hl
 match h:zae wd x,hl with
 |[i,j],_=>exact⟨i,j,rfl⟩
def zli(wd:List Str)(i j:Nat):List Str:=(wd.drop (i+1)).take (j - (i+1))
def stp(acc:List Str)(x:Str):List Str:=if x∈acc then acc else acc++[x]
def za1(wd:List Str):List Str:=wd.foldl stp []
theorem zkj{wd:List Str}{i:Nat}{x:Str}(h:wd[i]?=some x):za1 (wd.take (i+1))=stp (za1 (wd.take i)) x:=by
 unfold za1;rw[gd,h,Option.toList_some,WM];rfl
theorem zhp:∀(wd acc:List Str),(wd.foldl stp acc).length<=acc.length+wd.length
 |[],acc=>by simp
 |x::wd,acc=>by
  rw[Zv];have:=zhp wd (stp acc x);have h:(stp acc x).length<=acc.length+1:=by unfold stp; split<;>simp
  rw[jp];lia
end Dw
namespace L3
open PySem PySem.Spec PyProof.Rows L2
class TheK where
 K:jb
variable [TheK]
inductive T where
 |non |bl (b:Bool) |int (i:Int) |str (x:Str)
 |lst (xs:List T) |tup (xs:List T) |dct (kvs:List (Key × T)) |set (S:Int->Bool) (n:Nat)
 /-- a dict that will not be changed any more: it may be walked -/
 |fd (kvs:List (Key × T))
 /-- the script -/
 |scr (ns:List Int)
 /-- nothing is known -/
 |any
abbrev Sg:=List (Option T)
inductive Rep (C:js->Prop) (H:Hp):V->T->Prop
 |non:Rep C H .non .non
 |bl (b:Bool):Rep C H (.bl b) (.bl b)
 |int (i:Int):Rep C H (.int i) (.int i)
 |str (x:Str):Rep C H (.str x) (.str x)
 |lst {a:js} {vs:List V} {ts:List T} (c:C a) (r:H a=some (.lst vs)) (l:vs.length=ts.length) (h:∀(i:Nat) v t,vs[i]?=some v->ts[i]?=some t->Rep C H v t):Rep C H (.ref a) (.lst ts)
 |tup {a:js} {vs:List V} {ts:List T} (c:C a) (r:H a=some (.tup vs)) (l:vs.length=ts.length) (h:∀(i:Nat) v t,vs[i]?=some v->ts[i]?=some t->Rep C H v t):Rep C H (.ref a) (.tup ts)
 |dct {a:js} {kvs:List (Key × V)} {ts:List (Key × T)} (c:C a) (r:H a=some (.dK kvs)) (l:kvs.map (·.1)=ts.map (·.1)) (h:∀(i:Nat) v t,kvs[i]?=some v->ts[i]?=some t->Rep C H v.2 t.2):Rep C H (.ref a) (.dct ts)
 |set {a:js} {S:Int->Bool} {n:Nat} (c:C a) (r:H a=some (.set S n)):Rep C H (.ref a) (.set S n)
 |fd {a:js} {o:Obj} {kvs:List (Key × V)} {ts:List (Key × T)} (c:C a) (r:H a=some (.frz o (.dK kvs))) (l:kvs.map (·.1)=ts.map (·.1)) (h:∀(i:Nat) v t,kvs[i]?=some v->ts[i]?=some t->Rep C H v.2 t.2):Rep C H (.ref a) (.fd ts)
 |scr {a:js} {ns:List Int} {o:Obj} (c:C a) (r:H a=some (.frz o (.lst (ns.map V.int)))):Rep C H (.ref a) (.scr ns)
 /-- the script,as an object of the module -/
 |scrK {a:js} {ns:List Int} (r:∀ H',SqL TheK.K H' a (ns.map V.int)):Rep C H (.ref a) (.scr ns)
 |any {v:V}:Rep C H v .any
def Reps(C:js->Prop)(H:Hp)(vs:List V)(ts:List T):Prop:=vs.length=ts.length/\∀(i:Nat) v t,vs[i]?=some v->ts[i]?=some t->Rep C H v t
def RepK(C:js->Prop)(H:Hp)(vs:List (Key × V))(ts:List (Key × T)):Prop:=vs.map (·.1)=ts.map (·.1)/\∀(i:Nat) v t,vs[i]?=some v->ts[i]?=some t->Rep C H v.2 t.2
section
variable {C C':js->Prop}{H H':Hp}{v:V}{t:T}{vs:List V}{ts:List T}
theorem Rep.mono(h:Rep C H v t)(hc:∀ a,C a->C' a)(hh:∀ a o,C a->H a=some o->H' a=some o):Rep C' H' v t:=by
 induction h with
 |non=>exact .non
 |bl b=>exact .bl b
 |int i=>exact .int i
 |str x=>exact .str x
 |lst c r l h ih=>exact .lst (hc _ c) (hh _ _ c r) l ih
 |tup c r l h ih=>exact .tup (hc _ c) (hh _ _ c r) l ih
 |dct c r l h ih=>exact .dct (hc _ c) (hh _ _ c r) l ih
 |set c r=>exact .set (hc _ c) (hh _ _ c r)
 |fd c r l h ih=>exact .fd (hc _ c) (hh _ _ c r) l ih
 |scr c r=>exact .scr (hc _ c) (hh _ _ c r)
 |scrK r=>exact .scrK r
 |any=>exact .any
theorem Rep.there(h:Rep C H v t):Rep (fun a=>C a/\H a≠none) H v t:=by
 induction h with
 |non=>exact .non
 |bl b=>exact .bl b
 |int i=>exact .int i
 |str x=>exact .str x
 |lst c r l h ih=>exact .lst ⟨c,by rw[r]; simp⟩ r l ih
 |tup c r l h ih=>exact .tup ⟨c,by rw[r]; simp⟩ r l ih
 |dct c r l h ih=>exact .dct ⟨c,by rw[r]; simp⟩ r l ih
 |set c r=>exact .set ⟨c,by rw[r]; simp⟩ r
 |fd c r l h ih=>exact .fd ⟨c,by rw[r]; simp⟩ r l ih
 |scr c r=>exact .scr ⟨c,by rw[r]; simp⟩ r
 |scrK r=>exact .scrK r
 |any=>exact .any
theorem Reps.mono(h:Reps C H vs ts)(hc:∀ a,C a->C' a)(hh:∀ a o,C a->H a=some o->H' a=some o):Reps C' H' vs ts:=⟨h.1,fun i v t e1 e2=>(h.2 i v t e1 e2).mono hc hh⟩
theorem RepK.mono{ks:List (Key × V)}{kt:List (Key × T)}(h:RepK C H ks kt)(hc:∀ a,C a->C' a)(hh:∀ a o,C a->H a=some o->H' a=some o):RepK C' H' ks kt:=⟨h.1,fun i v t e1 e2=>(h.2 i v t e1 e2).mono hc hh⟩
theorem Reps.there(h:Reps C H vs ts):Reps (fun a=>C a/\H a≠none) H vs ts:=⟨h.1,fun i v t e1 e2=>(h.2 i v t e1 e2).there⟩
theorem RepK.there{ks:List (Key × V)}{kt:List (Key × T)}(h:RepK C H ks kt):RepK (fun a=>C a/\H a≠none) H ks kt:=⟨h.1,fun i v t e1 e2=>(h.2 i v t e1 e2).there⟩
theorem Reps.nil:Reps C H [] []:=⟨rfl,fun i v t e=>by simp at e⟩
theorem Reps.cons(h:Rep C H v t)(hs:Reps C H vs ts):Reps C H (v::vs) (t::ts):=by
 refine⟨by simp[hs.1],fun i v' t' e1 e2=>?_⟩
 cases i with
 |zero=>simp at e1 e2; subst e1 e2; exact h
 |succ i=>exact hs.2 i v' t' (by simpa using e1) (by simpa using e2)
theorem Reps.head(hs:Reps C H (v::vs) (t::ts)):Rep C H v t:=hs.2 0 v t rfl rfl
theorem Reps.tail(hs:Reps C H (v::vs) (t::ts)):Reps C H vs ts:=⟨by simpa using hs.1,fun i v' t' e1 e2=>hs.2 (i+1) v' t' (by simpa using e1) (by simpa using e2)⟩
theorem Reps.get{i:Nat}(hs:Reps C H vs ts)(e:ts[i]?=some t):∃ v,vs[i]?=some v/\Rep C H v t:=by
 have hi:i < ts.length:=(j7.mp e).1;have hv:i < vs.length:=by rw[hs.1]; exact hi
 exact⟨vs[i],j3 hv,hs.2 i _ t (j3 hv) e⟩
theorem Reps.append{vs':List V}{ts':List T}(h:Reps C H vs ts)(h':Reps C H vs' ts'):Reps C H (vs++vs') (ts++ts'):=by
 refine⟨by simp[h.1,h'.1],fun i v t e1 e2=>?_⟩
 by_cases hi:i < vs.length
 ·rw[Q3 hi] at e1;rw[Q3 (by rw[<-h.1]; exact hi)] at e2
  exact h.2 i v t e1 e2
 ·rw[Q7 (by lia)] at e1
  rw[Q7 (by rw[<-h.1]; lia),<-h.1] at e2
  exact h'.2 _ v t e1 e2
theorem Reps.drop(n:Nat)(h:Reps C H vs ts):Reps C H (vs.drop n) (ts.drop n):=⟨by simp[h.1],fun i v t e1 e2=>h.2 (n+i) v t (by simpa using e1) (by simpa using e2)⟩
theorem Reps.take(n:Nat)(h:Reps C H vs ts):Reps C H (vs.take n) (ts.take n):=⟨by simp[h.1],fun i v t e1 e2=>by
 rw[Wn] at e1 e2;split at e1
 ·rename_i hi;rw[Ip_ hi] at e2;exact h.2 i v t e1 e2
 ·cases e1⟩
theorem Reps.set(n:Nat)(h:Reps C H vs ts)(r:Rep C H v t):Reps C H (vs.set n v) (ts.set n t):=⟨by simp[h.1],fun i v' t' e1 e2=>by
 rw[List.getElem?_set] at e1 e2
 by_cases hi:n=i
 ·rw[Ip_ hi] at e1 e2;split at e1
  ·split at e2
   ·cases e1; cases e2; exact r
   ·cases e2
  ·cases e1
 ·rw[In_ hi] at e1 e2
  exact h.2 i v' t' e1 e2⟩
inductive Live (C:js->Prop) (H:Hp):js->T->Prop
 |lst {a:js} {vs:List V} {ts:List T} (r:H a=some (.lst vs)) (h:Reps C H vs ts):Live C H a (.lst ts)
 |dct {a:js} {kvs:List (Key × V)} {ts:List (Key × T)} (r:H a=some (.dK kvs)) (h:RepK C H kvs ts):Live C H a (.dct ts)
 |set {a:js} {S:Int->Bool} {n:Nat} (r:H a=some (.set S n)):Live C H a (.set S n)
 |any {a:js} {o:HO} (r:H a=some o):Live C H a .any
variable {a:js}
theorem Live.mono(h:Live C H a t)(hc:∀ a,C a->C' a)(hh:∀ a o,C a->H a=some o->H' a=some o)(ha:∀ o,H a=some o->H' a=some o):Live C' H' a t:=by
 cases h with
 |lst r h=>exact .lst (ha _ r) (h.mono hc hh)
 |dct r h=>exact .dct (ha _ r) (h.mono hc hh)
 |set r=>exact .set (ha _ r)
 |any r=>exact .any (ha _ r)
theorem Live.there(h:Live C H a t):Live (fun a=>C a/\H a≠none) H a t:=by
 cases h with
 |lst r h=>exact .lst r h.there
 |dct r h=>exact .dct r h.there
 |set r=>exact .set r
 |any r=>exact .any r
theorem Live.ne(h:Live C H a t):H a≠none:=by
 cases h with
 |lst r h=>rw[r]; simp
 |dct r h=>rw[r]; simp
 |set r=>rw[r]; simp
 |any r=>rw[r]; simp
theorem Live.rep(h:Live C H a t)(hc:∀ b,C b->C' b)(ha:C' a):Rep C' H (.ref a) t:=by
 cases h with
 |lst r h=>exact .lst ha r h.1 fun i v t e1 e2=>(h.2 i v t e1 e2).mono hc fun _ _ _ e=>e
 |dct r h=>exact .dct ha r h.1 fun i v t e1 e2=>(h.2 i v t e1 e2).mono hc fun _ _ _ e=>e
 |set r=>exact .set ha r
 |any r=>exact .any
end
structure Fr where
 H0:Hp
 C0:js->Prop
 D:js->Prop
 adr:Nat->js
def Free(F:Fr)(O:js->Prop):js->Prop:=fun a=>¬ O a/\(F.C0 a∨F.H0 a=none)
theorem Free.weak{F:Fr}{O O':js->Prop}{a:js}(h:∀ b,O' b->O b)(x:Free F O a):Free F O' a:=⟨fun z=>x.1 (h _ z),x.2⟩
structure Rel (F:Fr) (O:js->Prop) (M:List Nat) (s:Sg) (σ:L2.St) (H:Hp):Prop where
 len:s.length=σ.length
 val:∀(i:Nat) t,s[i]?=some (some t)->i∉M->∃ v,σ[i]?=some (some v)/\Rep (Free F O) H v t
 own:∀(i:Nat) t,s[i]?=some (some t)->i∈M->∃ a,σ[i]?=some (some (.ref a))/\Live (Free F O) H a t
 ow:∀(i:Nat) a,i∈M->σ[i]?=some (some (.ref a))->O a
 dis:∀(i j:Nat) a,i∈M->j∈M->σ[i]?=some (some (.ref a))->σ[j]?=some (some (.ref a))->i=j
 keep:∀ b o,¬ F.D b->F.H0 b=some o->H b=some o
 dom:∀ b,H b=none->F.H0 b=none
 fresh:∀ a,O a->F.D a∨F.H0 a=none
 inD:∀ a,F.D a->O a
 al:∀ a,O a->H a≠none
structure Step (σ:L2.St) (M:List Nat) (H H':Hp):Prop where
 keep:∀ b o,(∀(i:Nat),i∈M->σ[i]?≠some (some (.ref b)))->H b=some o->H' b=some o
 dom:∀ b,H' b=none->H b=none
section
variable {F:Fr}{O:js->Prop}{M:List Nat}{s s':Sg}{σ:L2.St}{H H' H'':Hp}{v:V}{t:T}{a:js}
theorem Step.refl:Step σ M H H:=⟨fun _ _ _ h=>h,fun _ h=>h⟩
theorem Step.trans(x:Step σ M H H')(y:Step σ M H' H''):Step σ M H H'':=⟨fun b o n h=>y.keep b o n (x.keep b o n h),fun b h=>x.dom b (y.dom b h)⟩
theorem Step.new(h:H a=none)(o:HO):Step σ M H (upd H a o):=⟨fun b u _ q=>by rw[za8 (za9 q h)]; exact q,fun b h'=>by
 unfold upd at h';split at h'
 ·cases h'
 ·exact h'⟩
theorem Rel.notOwned(R:Rel F O M s σ H)(h:¬ O a):∀(i:Nat),i∈M->σ[i]?≠some (some (.ref a)):=fun i hi e=>h (R.ow i a hi e)
theorem Rel.stay(R:Rel F O M s σ H)(S:Step σ M H H')(h:Rep (Free F O) H v t):Rep (Free F O) H' v t:=
 h.mono (fun _ c=>c) fun a o c e=>S.keep a o (R.notOwned c.1) e
theorem Rel.less{O':js->Prop}(R:Rel F O M s σ H)(h:∀ b,O' b->O b)(hw:∀(i:Nat) a,i∈M->σ[i]?=some (some (.ref a))->O' a)(hD:∀ a,F.D a->O' a):Rel F O' M s σ H where
 len:=R.len
 val:=fun i t e n=>by
  obtain⟨v,h1,h2⟩:=R.val i t e n;exact⟨v,h1,h2.mono (fun _ c=>c.weak h) fun _ _ _ e=>e⟩
 own:=fun i t e n=>by
  obtain⟨a,h1,h2⟩:=R.own i t e n;exact⟨a,h1,h2.mono (fun _ c=>c.weak h) (fun _ _ _ e=>e) fun _ e=>e⟩
 ow:=hw
 dis:=R.dis
 keep:=R.keep
 dom:=R.dom
 fresh:=fun a z=>R.fresh a (h a z)
 inD:=hD
 al:=fun a z=>R.al a (h a z)
theorem Rel.new(R:Rel F O M s σ H)(h:H a=none)(o:HO):Rel F (fun b=>O b∨b=a) M s σ (upd H a o):=by
 have k:∀ b u,H b=some u->upd H a o b=some u:=fun b u q=>by rw[za8 (za9 q h)]; exact q
 have fr:∀ b,Free F O b/\H b≠none->Free F (fun b=>O b∨b=a) b:=fun b c=>⟨fun z=>z.elim c.1.1 fun z=>c.2 (z▸h),c.1.2⟩;refine⟨R.len,fun i t e n=>?_,fun i t e n=>?_,fun i b hi e=>.inl (R.ow i b hi e),R.dis,fun b u n e=>k _ _ (R.keep b u n e),fun b e=>?_,fun b z=>?_,fun b z=>.inl (R.inD b z),fun b z=>?_⟩
 ·obtain⟨v,h1,h2⟩:=R.val i t e n;exact⟨v,h1,h2.there.mono fr fun b u _ e=>k b u e⟩
 ·obtain⟨b,h1,h2⟩:=R.own i t e n;exact⟨b,h1,h2.there.mono fr (fun b u _ e=>k b u e) fun u e=>k b u e⟩
 ·refine R.dom b ?_;unfold upd at e;split at e
  ·cases e
  ·exact e
 ·rcases z with z |z
  ·exact R.fresh b z
  ·subst z; exact .inr (R.dom _ h)
 ·rcases z with z |z
  ·intro e;refine R.al b z ?_;unfold upd at e;split at e
   ·cases e
   ·exact e
  ·subst z; rw[zah]; simp
end
end L3
namespace L3
open PySem PySem.Spec PyProof.Rows L2
variable [TheK]
variable {M:List Nat}{H:Hp}{X:Cx}
inductive Kd where
 |e |b |n
def BRep(C:js->Prop)(H:Hp)(v:V)(t:T):Prop:=Rep C H v t∨∃ a,v=.ref a/\Live C H a t
def Post(k:Kd)(F:Fr)(O:js->Prop)(M:List Nat)(σ:L2.St)(H:Hp)(s':Sg)(t:T)(v:V)(H':Hp):Prop:=match k with
 |.e=>Rel F O M s' σ H'/\Rep (Free F O) H' v t
 |.b=>Rel F O M s' σ H'/\(Rep (Free F O) H' v t∨∃ i:Nat,i∈M/\σ[i]?=some (some v)/\s'[i]?=some (some t))
 |.n=>∃ a,v=.ref a/\H a=none/\Rel F (fun b=>O b∨b=a) M s' σ H'/\Live (Free F (fun b=>O b∨b=a)) H' a t
abbrev DE:=Sg->Option (T × Sg)
abbrev DT:=Sg->Option (Bool × Sg)
abbrev DA:=Sg->Option (List T × Sg)
def cE(k:Kd)(M:List Nat)(f:DE):TE:=fun σ H Q=>∃ F O s t s',Rel F O M s σ H/\f s=some (t,s')/\∀ v H',Step σ M H H'->Post k F O M σ H s' t v H'->Q v H'
theorem cE_{k:Kd}{M:List Nat}{f:DE}{σ:L2.St}{H:Hp}{Q:VK}(h:cE k M f σ H Q){G:Prop}(g:∀ F O s t s',Rel F O M s σ H->f s=some (t,s')->(∀ v H',Step σ M H H'->Post k F O M σ H s' t v H'->Q v H')->G):G:=by
 obtain⟨F,O,s,t,s',R,hf,q⟩:=h;exact g F O s t s' R hf q
def cT(M:List Nat)(f:DT):TT:=fun σ H Q=>∃ F O s b s',Rel F O M s σ H/\f s=some (b,s')/\∀ H',Step σ M H H'->Rel F O M s' σ H'->Q b H'
theorem cT_{M:List Nat}{f:DT}{σ:L2.St}{H:Hp}{Q:Bool->Hp->Prop}(h:cT M f σ H Q){G:Prop}(g:∀ F O s b s',Rel F O M s σ H->f s=some (b,s')->(∀ H',Step σ M H H'->Rel F O M s' σ H'->Q b H')->G):G:=by
 obtain⟨F,O,s,b,s',R,hf,q⟩:=h;exact g F O s b s' R hf q
def cA(M:List Nat)(f:DA):TA:=fun σ H Q=>∃ F O s ts s',Rel F O M s σ H/\f s=some (ts,s')/\∀ vs H',Step σ M H H'->Rel F O M s' σ H'->Reps (Free F O) H' vs ts->Q vs H'
theorem weak{X:Cx}{e:Q4}{t t':TE}(h:PE X e t)(hw:∀ σ H Q,t' σ H Q->t σ H Q):PE X e t':=fun pc s σ H Q I q=>h pc s σ H Q I (hw _ _ _ q)
theorem zeY{X:Cx}{e:Q4}{t t':TT}(h:PT X e t)(hw:∀ σ H Q,t' σ H Q->t σ H Q):PT X e t':=fun pc s σ H Q I q=>h pc s σ H Q I (hw _ _ _ q)
theorem zrX{X:Cx}{e:Q4}{t t':TT}(h:PW X e t)(hw:∀ σ H Q,t' σ H Q->t σ H Q):PW X e t':=fun wh pc s σ H Q I q=>h wh pc s σ H Q I (hw _ _ _ q)
theorem zrZ{X:Cx}{es:List Q4}{t t':TA}(h:PA X es t)(hw:∀ σ H Q,t' σ H Q->t σ H Q):PA X es t':=fun pos pc s σ H Q I q=>h pos pc s σ H Q I (hw _ _ _ q)
theorem zcZ{X:Cx}{e:QR}{t t':TS}(h:PS X e t)(hw:∀ D σ H,t' D σ H->t D σ H):PS X e t':=fun pc s σ H D I q=>h pc s σ H D I (hw _ _ _ q)
theorem zkz{X:Cx}{e:List QR}{t t':TS}(h:PSs X e t)(hw:∀ D σ H,t' D σ H->t D σ H):PSs X e t':=fun pc s σ H D I q=>h pc s σ H D I (hw _ _ _ q)
section
variable {F:Fr}{O:js->Prop}{s s':Sg}{σ:L2.St}{H':Hp}{v:V}{t:T}{a:js}
theorem Post.ne(R:Rel F O M s σ H)(h:Post .n F O M σ H s' t v H'):Post .e F O M σ H s' t v H':=by
 obtain⟨a,rfl,h0,R',L⟩:=h;have w:∀ b,O b->(O b∨b=a):=fun b z=>.inl z;refine⟨R'.less w R.ow R.inD,L.rep (fun b c=>c.weak w) ⟨fun z=>R.al a z h0,.inr (R.dom a h0)⟩⟩
theorem Post.eb(h:Post .e F O M σ H s' t v H'):Post .b F O M σ H s' t v H':=⟨h.1,.inl h.2⟩
theorem Post.view(h:Post .b F O M σ H s' t v H'):BRep (Free F O) H' v t:=by
 rcases h.2 with h2 |⟨i,hi,e1,e2⟩
 ·exact .inl h2
 ·obtain⟨a,e3,L⟩:=h.1.own i t e2 hi;rw[e1] at e3;exact .inr ⟨a,by injection e3 with e3; injection e3,L⟩
theorem Post.mkN(R:Rel F O M s σ H)(R1:Rel F O M s' σ H')(S:Step σ M H H'){p:js}{o:HO}(hp:H' p=none)(L:∀ C:js->Prop,(∀ b,Free F O b/\H' b≠none->C b)->Live C (upd H' p o) p t):Post .n F O M σ H s' t (.ref p) (upd H' p o):=
 ⟨p,rfl,S.dom p hp,R1.new hp o,L _ fun b c=>⟨fun z=>z.elim c.1.1 fun z=>c.2 (z▸hp),c.1.2⟩⟩
theorem Post.mkE(R1:Rel F O M s' σ H'){p:js}{o:HO}(hp:H' p=none)(L:∀ C:js->Prop,(∀ b,Free F O b/\H' b≠none->C b)->C p->Rep C (upd H' p o) (.ref p) t):Post .e F O M σ H s' t (.ref p) (upd H' p o):=by
 have w:∀ b,O b->(O b∨b=p):=fun b z=>.inl z;exact⟨(R1.new hp o).less w R1.ow R1.inD,L _ (fun b c=>c.1) ⟨fun z=>R1.al p z hp,.inr (R1.dom p hp)⟩⟩
end
section
variable {e a b:Q4}{fa fb:DE}
theorem ne(h:PE X e (cE .n M fa)):PE X e (cE .e M fa):=weak h fun σ H Q h_=>cE_ h_ fun F O s t s' R hf q=>⟨F,O,s,t,s',R,hf,fun v H' S p=>q v H' S (p.ne R)⟩
theorem eb(h:PE X e (cE .e M fa)):PE X e (cE .b M fa):=weak h fun σ H Q h_=>cE_ h_ fun F O s t s' R hf q=>⟨F,O,s,t,s',R,hf,fun v H' S p=>q v H' S p.eb⟩
theorem nb(h:PE X e (cE .n M fa)):PE X e (cE .b M fa):=eb (ne h)
def dV(i:Nat):DE:=fun s=>(s[i]?).join.map fun t=>(t,s)
def dC(t:T):DE:=fun s=>some (t,s)
theorem zab{α:Type}{o:Option (Option α)}{x:α}(h:o.join=some x):o=some (some x):=by
 cases o with
 |none=>cases h
 |some o=>cases o with
  |none=>cases h
  |some y=>injection h with h; rw[h]
theorem zko{i:Nat}{s s':Sg}{t:T}(h:dV i s=some (t,s')):s[i]?=some (some t)/\s'=s:=by
 unfold dV at h;cases e:(s[i]?).join with
 |none=>rw[e] at h; cases h
 |some x=>
  rw[e] at h;injection h with h;injection h with h1 h2;subst h1 h2;exact⟨zab e,rfl⟩
theorem zoQ{v:V}{t:T}(hr:∀ C H,Rep C H v t)(h:PE X e (tC v)):PE X e (cE .e M (dC t)):=weak h fun σ H Q h_=>cE_ h_ fun F O s t' s' R hf q=>by
 injection hf with hf;injection hf with h1 h2;subst h1 h2;exact q v H .refl ⟨R,hr _ _⟩
def d2(g:T->T->Option T)(fa fb:DE):DE:=fun s=>(fa s).bind fun p=>(fb p.2).bind fun q=>(g p.1 q.1).map fun t=>(t,q.2)
def d2v(g:T->T->Option T)(i:Nat)(fb:DE):DE:=fun s=>(s[i]?).join.bind fun _=>(fb s).bind fun q=>(q.2[i]?).join.bind fun x=>(g x q.1).map fun t=>(t,q.2)
theorem zij{g:T->T->Option T}{s s':Sg}{t:T}(h:d2 g fa fb s=some (t,s')):∃ x s1 y,fa s=some (x,s1)/\fb s1=some (y,s')/\g x y=some t:=by
 unfold d2 at h;cases e:fa s with
 |none=>rw[e] at h; cases h
 |some p=>
  rw[e] at h;cases e2:fb p.2 with
  |none=>simp[e2] at h
  |some q=>
   simp only[j9,e2] at h;cases e3:g p.1 q.1 with
   |none=>rw[e3] at h; cases h
   |some u=>
    rw[e3] at h;injection h with h;injection h with h1 h2;subst h1 h2;exact⟨p.1,p.2,q.1,rfl,by rw[e2],e3⟩
theorem zii{g:T->T->Option T}{i:Nat}{s s':Sg}{t:T}(h:d2v g i fb s=some (t,s')):∃ x0 x y,s[i]?=some (some x0)/\fb s=some (y,s')/\s'[i]?=some (some x)/\g x y=some t:=by
 unfold d2v at h;cases e0:(s[i]?).join with
 |none=>rw[e0] at h; cases h
 |some x0=>
 rw[e0] at h;simp only[j9] at h;cases e:fb s with
 |none=>rw[e] at h; cases h
 |some q=>
  simp only[e,j9] at h;cases e2:(q.2[i]?).join with
  |none=>rw[e2] at h; cases h
  |some x=>
   simp only[e2,j9] at h;cases e3:g x q.1 with
   |none=>rw[e3] at h; cases h
   |some u=>
    rw[e3] at h;injection h with h;injection h with h1 h2;subst h1 h2;exact⟨x0,x,q.1,zab e0,rfl,zab e2,e3⟩
def S2E(r:R2)(g:T->T->Option T):Prop:=∀(C:js->Prop) (H:Hp) x y tx ty t (Q:VK),BRep C H x tx->BRep C H y ty->g tx ty=some t->(∀ v,Rep C H v t->Q v H)->r x y H Q
def S2N(r:R2)(g:T->T->Option T):Prop:=∀(C:js->Prop) (H:Hp) x y tx ty t (Q:VK),BRep C H x tx->BRep C H y ty->g tx ty=some t->
 (∀ p o,H p=none->(∀ C':js->Prop,(∀ b,C b/\H b≠none->C' b)->Live C' (upd H p o) p t)->Q (.ref p) (upd H p o))->r x y H Q
theorem zce{r:R2}{g:T->T->Option T}(h:S2E r g):∀ σ H Q,cE .e M (d2 g fa fb) σ H Q->tOp r (cE .e M fa) (cE .b M fb) σ H Q:=by
 intro σ H Q h_;refine cE_ h_ fun F O s t s' R hf q=>?_;obtain⟨x,s1,y,h1,h2,h3⟩:=zij hf;refine⟨F,O,s,x,s1,R,h1,fun v H1 S1 p1=>?_⟩;refine⟨F,O,s1,y,s',p1.1,h2,fun u H2 S2 p2=>?_⟩;exact h (Free F O) H2 v u x y t Q (.inl (p1.1.stay S2 p1.2)) p2.view h3 fun w rw=>q w H2 (S1.trans S2) ⟨p2.1,rw⟩
theorem zvo{r:R2}{g:T->T->Option T}(h:S2N r g):∀ σ H Q,cE .n M (d2 g fa fb) σ H Q->tOp r (cE .e M fa) (cE .b M fb) σ H Q:=by
 intro σ H Q h_;refine cE_ h_ fun F O s t s' R hf q=>?_;obtain⟨x,s1,y,h1,h2,h3⟩:=zij hf;refine⟨F,O,s,x,s1,R,h1,fun v H1 S1 p1=>?_⟩;refine⟨F,O,s1,y,s',p1.1,h2,fun u H2 S2 p2=>?_⟩;exact h (Free F O) H2 v u x y t Q (.inl (p1.1.stay S2 p1.2)) p2.view h3 fun p o hp L=>q _ _ ((S1.trans S2).trans (.new hp o)) (.mkN R p2.1 (S1.trans S2) hp L)
theorem zhL{F:Fr}{O:js->Prop}{s s':Sg}{σ:L2.St}{H H':Hp}{i:Nat}{t0 t:T}(hi:i∈M)(R:Rel F O M s σ H)(R':Rel F O M s' σ H')(e0:s[i]?=some (some t0))(e:s'[i]?=some (some t)):∃ v,σ[i]?=some (some v)/\BRep (Free F O) H' v t:=by
 obtain⟨a,h1,_⟩:=R.own i t0 e0 hi;obtain⟨b,h2,L⟩:=R'.own i t e hi;rw[h1] at h2;injection h2 with h2;injection h2 with h2;injection h2 with h2;subst h2;exact⟨_,h1,.inr ⟨a,rfl,L⟩⟩
theorem zme{r:R2}{g:T->T->Option T}{i:Nat}(hi:M.contains i=true)(h:S2E r g):∀ σ H Q,cE .e M (d2v g i fb) σ H Q->tOp r (ze3 i) (cE .b M fb) σ H Q:=by
 intro σ H Q h_;refine cE_ h_ fun F O s t s' R hf q=>?_;obtain⟨x0,x,y,h0,h1,h2,h3⟩:=zii hf;have hi':i∈M:=by simpa using hi
 obtain⟨a,e1,_⟩:=R.own i x0 h0 hi';refine⟨_,e1,F,O,s,y,s',R,h1,fun u H2 S2 p2=>?_⟩;obtain⟨v,e2,B⟩:=zhL hi' R p2.1 h0 h2;rw[e1] at e2;injection e2 with e2;injection e2 with e2;subst e2;exact h (Free F O) H2 _ u x y t Q B p2.view h3 fun w rw=>q w H2 S2 ⟨p2.1,rw⟩
theorem zso{r:R2}{g:T->T->Option T}{i:Nat}(hi:M.contains i=true)(h:S2N r g):∀ σ H Q,cE .n M (d2v g i fb) σ H Q->tOp r (ze3 i) (cE .b M fb) σ H Q:=by
 intro σ H Q h_;refine cE_ h_ fun F O s t s' R hf q=>?_;obtain⟨x0,x,y,h0,h1,h2,h3⟩:=zii hf;have hi':i∈M:=by simpa using hi
 obtain⟨a,e1,_⟩:=R.own i x0 h0 hi';refine⟨_,e1,F,O,s,y,s',R,h1,fun u H2 S2 p2=>?_⟩;obtain⟨v,e2,B⟩:=zhL hi' R p2.1 h0 h2;rw[e1] at e2;injection e2 with e2;injection e2 with e2;subst e2;exact h (Free F O) H2 _ u x y t Q B p2.view h3 fun p o hp L=>q _ _ (S2.trans (.new hp o)) (.mkN R p2.1 S2 hp L)
end
section
variable {C:js->Prop}{v:V}
theorem BRep.non(h:BRep C H v .non):v=.non:=by
 rcases h with h |⟨a,rfl,h⟩<;>cases h
 rfl
theorem BRep.bl{b:Bool}(h:BRep C H v (.bl b)):v=.bl b:=by
 rcases h with h |⟨a,rfl,h⟩<;>cases h
 rfl
theorem BRep.int{i:Int}(h:BRep C H v (.int i)):v=.int i:=by
 rcases h with h |⟨a,rfl,h⟩<;>cases h
 rfl
theorem BRep.str{x:Str}(h:BRep C H v (.str x)):v=.str x:=by
 rcases h with h |⟨a,rfl,h⟩<;>cases h
 rfl
theorem BRep.lst{ts:List T}(h:BRep C H v (.lst ts)):∃ a vs,v=.ref a/\H a=some (.lst vs)/\Reps C H vs ts:=by
 rcases h with h |⟨a,rfl,h⟩
 ·cases h with |lst c r l h=>exact⟨_,_,rfl,r,l,h⟩
 ·cases h with |lst r h=>exact⟨_,_,rfl,r,h⟩
theorem BRep.tup{ts:List T}(h:BRep C H v (.tup ts)):∃ a vs,v=.ref a/\H a=some (.tup vs)/\Reps C H vs ts:=by
 rcases h with h |⟨a,rfl,h⟩
 ·cases h with |tup c r l h=>exact⟨_,_,rfl,r,l,h⟩
 ·cases h
theorem BRep.dct{ts:List (Key × T)}(h:BRep C H v (.dct ts)):∃ a kvs,v=.ref a/\H a=some (.dK kvs)/\RepK C H kvs ts:=by
 rcases h with h |⟨a,rfl,h⟩
 ·cases h with |dct c r l h=>exact⟨_,_,rfl,r,l,h⟩
 ·cases h with |dct r h=>exact⟨_,_,rfl,r,h⟩
theorem BRep.fd{ts:List (Key × T)}(h:BRep C H v (.fd ts)):∃ a o kvs,v=.ref a/\H a=some (.frz o (.dK kvs))/\RepK C H kvs ts/\C a:=by
 rcases h with h |⟨a,rfl,h⟩
 ·cases h with |fd c r l h=>exact⟨_,_,_,rfl,r,⟨l,h⟩,c⟩
 ·cases h
theorem BRep.scr{ns:List Int}(h:BRep C H v (.scr ns)):∃ a,v=.ref a/\SqL TheK.K H a (ns.map V.int):=by
 rcases h with h |⟨a,rfl,h⟩
 ·cases h with
  |scr c r=>exact⟨_,rfl,.inl (.inr ⟨_,r⟩)⟩
  |scrK r=>exact⟨_,rfl,r H⟩
 ·cases h
end
def zro:T->T->Option T
 |.int i,.int j=>some (.int (i+j))
 |.str x,.str y=>if x.length+y.length<=jr then some (.str (x++y)) else none
 |_,_=>none
def zoJ:T->T->Option T
 |.lst a,.lst b=>if a.length+b.length<=jr then some (.lst (a++b)) else none
 |_,_=>none
def gI(C:Int->Int->Bool)(g:Int->Int->Int):T->T->Option T
 |.int i,.int j=>if C i j=true then some (.int (g i j)) else none
 |_,_=>none
def zpO(i j:Int):Bool:=decide (-(2 ^ 64) < i/\i < 2 ^ 64)||decide (-(2 ^ 64) < j/\j < 2 ^ 64)
def zuI(i j:Int):Bool:=decide (0 < j/\j < 1073741824)
def zuH(i j:Int):Bool:=decide (0 < j)
def zxZ(i j:Int):Bool:=decide (0<=j/\j<=1000000/\i.natAbs < 2 ^ 64)
def gSb:=gI (fun _ _=>true) fun i j=>i - j
def zeO:=gI zpO fun i j=>i*j
def zgD:=gI zuI fun i j=>i / j
def zed:=gI zuH fun i j=>i%j
def zrT:=gI zxZ fun i j=>i ^ j.toNat
def ztW(p:Int->Int->Bool)(ps:Str->Str->Bool):T->T->Option T
 |.int i,.int j=>some (.bl (p i j))
 |.str i,.str j=>some (.bl (ps i j))
 |_,_=>none
section
theorem zvE:S2E (fun x y H Q=>rI0 (fun i j=>.int (i+j)) x y H Q∨∃ i j,x=.str i/\y=.str j/\i.length+j.length<=jr/\Q (.str (i++j)) H) zro:=by
 intro C H x y tx ty t Q bx by' hg q;unfold zro at hg;split at hg
 ·injection hg with hg; subst hg;exact .inl ⟨_,_,bx.int,by'.int,q _ (.int _)⟩
 ·split at hg
  ·rename_i h;injection hg with hg; subst hg;exact .inr ⟨_,_,bx.str,by'.str,h,q _ (.str _)⟩
  ·cases hg
 ·cases hg
theorem zsL:S2N zwY zoJ:=by
 intro C H x y tx ty t Q bx by' hg q;unfold zoJ at hg;split at hg
 ·split at hg
  ·rename_i h;injection hg with hg; subst hg;obtain⟨a,vs,rfl,ha,ra⟩:=bx.lst;obtain⟨b,us,rfl,hb,rb⟩:=by'.lst;refine⟨a,b,vs,us,rfl,rfl,ha,hb,by rw[ra.1,rb.1]; exact h,fun p hp=>q p _ hp fun C' hC=>?_⟩
   exact .lst zah ((ra.append rb).there.mono hC fun c o hc e=>by rw[za8 (za9 e hp)]; exact e)
  ·cases hg
 ·cases hg
theorem s_I{P:Int->Int->Prop}{C:Int->Int->Bool}{g:Int->Int->Int}(hC:∀ i j,C i j=true->P i j):S2E (rI P fun i j=>.int (g i j)) (gI C g):=by
 intro C' H x y tx ty t Q bx by' hg q;unfold gI at hg;split at hg
 ·split at hg
  ·rename_i h;injection hg with hg; subst hg;exact⟨_,_,bx.int,by'.int,hC _ _ h,q _ (.int _)⟩
  ·cases hg
 ·cases hg
theorem zxL{g:Int->Int->Int}:S2E (rI0 fun i j=>.int (g i j)) (gI (fun _ _=>true) g):=by
 intro C' H x y tx ty t Q bx by' hg q;unfold gI at hg;split at hg
 ·split at hg
  ·injection hg with hg; subst hg;exact⟨_,_,bx.int,by'.int,q _ (.int _)⟩
  ·cases hg
 ·cases hg
theorem zvC{p:Int->Int->Bool}{ps:Str->Str->Bool}:S2E (fun x y H Q=>rI0 (fun i j=>.bl (p i j)) x y H Q∨∃ i j,x=.str i/\y=.str j/\Q (.bl (ps i j)) H) (ztW p ps):=by
 intro C H x y tx ty t Q bx by' hg q;unfold ztW at hg;split at hg
 ·injection hg with hg; subst hg;exact .inl ⟨_,_,bx.int,by'.int,q _ (.bl _)⟩
 ·injection hg with hg; subst hg;exact .inr ⟨_,_,bx.str,by'.str,q _ (.bl _)⟩
 ·cases hg
variable {a b:Q4}{fa fb:DE}{pos:Pos}
theorem zwt(ha:PE X a (cE .e M fa))(hb:PE X b (cE .b M fb)):PE X (.BinOp a .Add b pos) (cE .e M (d2 zro fa fb)):=weak (zh2 (op_add.or zlC) ha hb) (zce zvE)
theorem zws(ha:PE X a (cE .e M fa))(hb:PE X b (cE .b M fb)):PE X (.BinOp a .Add b pos) (cE .n M (d2 zoJ fa fb)):=weak (zh2 zpt ha hb) (zvo zsL)
end
def scE:T->T->Option Bool
 |.non,.non=>some true |.non,.bl _=>some false |.non,.int _=>some false |.non,.str _=>some false
 |.bl a,.bl b=>some (a == b) |.bl _,.non=>some false |.bl a,.int b=>some ((if a then 1 else 0) == b) |.bl _,.str _=>some false
 |.int a,.int b=>some (a == b) |.int _,.non=>some false |.int a,.bl b=>some (a == (if b then 1 else 0)) |.int _,.str _=>some false
 |.str a,.str b=>some (a == b) |.str _,.non=>some false |.str _,.bl _=>some false |.str _,.int _=>some false
 |_,_=>none
def zhu(f:T->T->Option Bool):List T->List T->Option Bool
 |x::xs,y::ys=>(f x y).bind fun b=>(zhu f xs ys).map fun c=>b&&c
 |_,_=>some true
def eqD:Nat->T->T->Option Bool
 |n+1,.lst xs,.lst ys=>if xs.length=ys.length then zhu (eqD n) xs ys else some false
 |n+1,.tup xs,.tup ys=>(zhu (eqD n) xs ys).map fun b=>b&&xs.length == ys.length
 |_+1,.lst _,.tup _=>some false
 |_+1,.tup _,.lst _=>some false
 |_,x,y=>scE x y
def eqS(n:Nat)(x y:T):Option Bool:=match x,y with
 |.lst xs,.lst ys=>if xs.length=ys.length then zhu (eqD n) xs ys else some false
 |.tup xs,.tup ys=>(zhu (eqD n) xs ys).map fun b=>b&&xs.length == ys.length
 |.lst _,.tup _=>some false
 |.tup _,.lst _=>some false
 |x,y=>scE x y
theorem zoM(n:Nat)(x y:T):eqD (n+1) x y=eqS n x y:=by cases x<;>cases y<;>rfl
theorem zg1{f:T->T->Option Bool}:∀ {xs ys:List T} {b:Bool},zhu f xs ys=some b->∃ e:Nat->Bool,(∀ j x y,xs[j]?=some x->ys[j]?=some y->f x y=some (e j))/\b=(j5 (min xs.length ys.length)).all e
 |[],_,b,h=>⟨fun _=>true,fun j x y e=>by simp at e,by unfold zhu at h; simp at h; simp[h]⟩
 |x::xs,[],b,h=>⟨fun _=>true,fun j x y _ e=>by simp at e,by unfold zhu at h; simp at h; simp[h]⟩
 |x::xs,y::ys,b,h=>by
  unfold zhu at h;cases h1:f x y with
  |none=>rw[h1] at h; cases h
  |some c=>
   rw[h1,j9] at h;cases h2:zhu f xs ys with
   |none=>rw[h2] at h; cases h
   |some d=>
    rw[h2] at h;injection h with h;obtain⟨e,he,hd⟩:=zg1 h2;refine⟨fun j=>match j with |0=>c |j+1=>e j,fun j x' y' e1 e2=>?_,?_⟩
    ·cases j with
     |zero=>simp at e1 e2; subst e1 e2; exact h1
     |succ j=>exact he j x' y' (by simpa using e1) (by simpa using e2)
    ·rw[<-h,hd,jp,jp,Nat.succ_min_succ,gJ,Yb,U1];rfl
theorem zoj{C:js->Prop}{H:Hp}:∀(n:Nat) {v:V} {t t':T} {b:Bool},Rep C H v t->Rep C H v t'->eqD n t t'=some b->b=true:=by
 have sc:∀ {v:V} {t t':T} {b:Bool},Rep C H v t->Rep C H v t'->scE t t'=some b->b=true:=by
  intro v t t' b h h' e;cases h<;>cases h'<;>simp[scE] at e<;>(try subst e)<;>simp
 intro n
 induction n with
 |zero=>intro v t t' b h h' e; unfold eqD at e; exact sc h h' e
 |succ n ih=>
  intro v t t' b h h' e;have lists:∀ {vs:List V} {xs ys:List T} {b:Bool},Reps C H vs xs->Reps C H vs ys->zhu (eqD n) xs ys=some b->b=true:=by
   intro vs xs ys b hx hy h;obtain⟨e,he,rfl⟩:=zg1 h;refine jx.mpr fun j hj=>?_;have hj':=ji.mp hj;have h1:j < xs.length:=by lia
   have h2:j < ys.length:=by lia
   have h3:j < vs.length:=by rw[hx.1]; exact h1
   have q1:=hx.2 j _ _ (j3 h3) (j3 h1);have q2:=hy.2 j _ _ (j3 h3) (j3 h2);exact ih q1 q2 (he j _ _ (j3 h1) (j3 h2))
  cases h with
  |lst c r l hc=>
   cases h' with
   |lst c' r' l' hc'=>
    rw[r] at r'; cases r';unfold eqD at e;split at e
    ·exact lists ⟨l,hc⟩ ⟨l',hc'⟩ e
    ·lia
   |tup c' r' l' hc'=>rw[r] at r'; cases r'
   |dct c' r' l' hc'=>simp[eqD,scE] at e
   |set c' r'=>simp[eqD,scE] at e
   |fd c' r' l' hc'=>simp[eqD,scE] at e
   |scr c' r'=>simp[eqD,scE] at e
   |scrK r'=>simp[eqD,scE] at e
   |any=>simp[eqD,scE] at e
  |tup c r l hc=>
   cases h' with
   |tup c' r' l' hc'=>
    rw[r] at r'; cases r';unfold eqD at e;cases h2:zhu (eqD n) _ _ with
    |none=>rw[h2] at e; cases e
    |some d=>
     rw[h2] at e;injection e with e;subst e;rw[lists ⟨l,hc⟩ ⟨l',hc'⟩ h2,<-l,<-l'];simp
   |lst c' r' l' hc'=>rw[r] at r'; cases r'
   |dct c' r' l' hc'=>simp[eqD,scE] at e
   |set c' r'=>simp[eqD,scE] at e
   |fd c' r' l' hc'=>simp[eqD,scE] at e
   |scr c' r'=>simp[eqD,scE] at e
   |scrK r'=>simp[eqD,scE] at e
   |any=>simp[eqD,scE] at e
  |non=>exact sc .non h' (by cases h'<;>simpa[eqD] using e)
  |bl x=>exact sc (.bl x) h' (by cases h'<;>simpa[eqD] using e)
  |int x=>exact sc (.int x) h' (by cases h'<;>simpa[eqD] using e)
  |str x=>exact sc (.str x) h' (by cases h'<;>simpa[eqD] using e)
  |dct c r l hc=>cases h'<;>simp[eqD,scE] at e
  |set c r=>cases h'<;>simp[eqD,scE] at e
  |fd c r l hc=>cases h'<;>simp[eqD,scE] at e
  |scr c r=>cases h'<;>simp[eqD,scE] at e
  |scrK r=>cases h'<;>simp[eqD,scE] at e
  |any=>cases t'<;>simp[eqD,scE] at e
open PySem.SeqAt
section
variable {pc:List (js × Obj)}{σ:L2.St}{s:jc}{C:js->Prop}
theorem zsE{A:Qg}{x y:V}{tx ty:T}{b:Bool}{u w:j8}(hx:Rep C H x tx)(hy:Rep C H y ty)(rx:RelV x u)(ry:RelV y w)(h:scE tx ty=some b):EqAt A s u w b/\RcAt A s u w b/\RcNeAt A s u w (!b):=by
 cases hx with
 |non=>
  cases rx;cases hy with
  |non=>cases ry; injection h with h; subst h; exact⟨.same _,.none_none,.none_none⟩
  |bl y=>cases ry; injection h with h; subst h; exact⟨.none_bool _,.none_bool _,.none_bool _⟩
  |int y=>obtain⟨t,rfl⟩:=ry; injection h with h; subst h; exact⟨.none_int _ _,.none_int _ _,.none_int _ _⟩
  |str y=>obtain⟨t,rfl⟩:=ry; injection h with h; subst h; exact⟨.none_str _ _,.none_str _ _,.none_str _ _⟩
  |_=>cases h
 |bl x=>
  cases rx;cases hy with
  |non=>cases ry; injection h with h; subst h; exact⟨.bool_none _,.bool_none _,.bool_none _⟩
  |bl y=>cases ry; injection h with h; subst h; exact⟨.bool_bool _ _,.bool_bool _ _,.bool_bool _ _⟩
  |int y=>obtain⟨t,rfl⟩:=ry; injection h with h; subst h; exact⟨.bool_int _ _ _,.bool_int _ _ _,.bool_int _ _ _⟩
  |str y=>obtain⟨t,rfl⟩:=ry; injection h with h; subst h; exact⟨.bool_str _ _ _,.bool_str _ _ _,.bool_str _ _ _⟩
  |_=>cases h
 |int x=>
  obtain⟨t0,rfl⟩:=rx;cases hy with
  |non=>cases ry; injection h with h; subst h; exact⟨.int_none _ _,.int_none _ _,.int_none _ _⟩
  |bl y=>cases ry; injection h with h; subst h; exact⟨.int_bool _ _ _,.int_bool _ _ _,.int_bool _ _ _⟩
  |int y=>obtain⟨t,rfl⟩:=ry; injection h with h; subst h; exact⟨.int_int _ _ _ _,.int_int _ _ _ _,.int_int _ _ _ _⟩
  |str y=>obtain⟨t,rfl⟩:=ry; injection h with h; subst h; exact⟨.int_str _ _ _ _,.int_str _ _ _ _,.int_str _ _ _ _⟩
  |_=>cases h
 |str x=>
  obtain⟨t0,rfl⟩:=rx;cases hy with
  |non=>cases ry; injection h with h; subst h; exact⟨.str_none _ _,.str_none _ _,.str_none _ _⟩
  |bl y=>cases ry; injection h with h; subst h; exact⟨.str_bool _ _ _,.str_bool _ _ _,.str_bool _ _ _⟩
  |int y=>obtain⟨t,rfl⟩:=ry; injection h with h; subst h; exact⟨.str_int _ _ _ _,.str_int _ _ _ _,.str_int _ _ _ _⟩
  |str y=>obtain⟨t,rfl⟩:=ry; injection h with h; subst h; exact⟨.str_str _ _ _ _,.str_str _ _ _ _,.str_str _ _ _ _⟩
  |_=>cases h
 |_=>cases ty<;>simp[scE] at h
theorem zu3(I:Inv X pc σ H s):∀(n:Nat) (A:Qg) {x y:V} {tx ty:T} {b:Bool} {u w:j8},A.units+n < gG->Rep C H x tx->Rep C H y ty->RelV x u->RelV y w->eqD n tx ty=some b->EqAt A s u w b/\RcAt A s u w b/\RcNeAt A s u w (!b):=by
 intro n
 induction n with
 |zero=>intro A x y tx ty b u w hu hx hy rx ry h; unfold eqD at h; exact zsE hx hy rx ry h
 |succ n ih=>
  intro A x y tx ty b u w hu hx hy rx ry h;have hu':A.units < gG:=by lia
  have hin:A.in1.units+n < gG:=by
   have:A.in1.units=A.units+1:=rfl;lia
  have parts:∀ {vs us:List V} {xs ys:List T} {its its2:List j8} {e:Nat->Bool},Reps C H vs xs->Reps C H us ys->Vals vs its->Vals us its2->(∀ j x y,xs[j]?=some x->ys[j]?=some y->eqD n x y=some (e j))->
    ∀ j (h1:j < its.toArray.size) (h2:j < its2.toArray.size),EqAt A.in1 s its.toArray[j] its2.toArray[j] (e j):=by
   intro vs us xs ys its its2 e hvs hus r r2 he j h1 h2;rw[jh] at h1 h2;have v1:j < vs.length:=by rw[r.length]; exact h1
   have v2:j < us.length:=by rw[r2.length]; exact h2
   have x1:j < xs.length:=by rw[<-hvs.1]; exact v1
   have y1:j < ys.length:=by rw[<-hus.1]; exact v2
   obtain⟨w1,e1,q1⟩:=r.get (j3 v1);obtain⟨w2,e2,q2⟩:=r2.get (j3 v2);rw[j3 h1] at e1;rw[j3 h2] at e2;injection e1 with e1;injection e2 with e2;simp only[List.getElem_toArray,e1,e2];exact(ih A.in1 hin (hvs.2 j _ _ (j3 v1) (j3 x1)) (hus.2 j _ _ (j3 v2) (j3 y1)) q1 q2 (he j _ _ (j3 x1) (j3 y1))).1
  have refs:∀ {p q:js},x=.ref p->y=.ref q->RcAt A s (.ref p) (.ref q) b->EqAt A s (.ref p) (.ref q) b:=by
   intro p q ep eq hr
   by_cases hpq:p=q
   ·subst hpq;have:b=true:=zoj (n+1) (v:=.ref p) (ep▸hx) (eq▸hy) h;rw[this];exact .same _
   ·exact .of_refs hpq hr
  have scs:scE tx ty=some b->EqAt A s u w b/\RcAt A s u w b/\RcNeAt A s u w (!b):=zsE hx hy rx ry;rw[zoM] at h;unfold eqS at h;split at h
  ·rename_i xs ys;obtain⟨p,vs,rfl,hp,rp⟩:=BRep.lst (.inl hx);obtain⟨q,us,rfl,hq,rq⟩:=BRep.lst (.inl hy);cases rx; cases ry;obtain⟨its,r,pl,_⟩:=I.list (SqL.of hp);obtain⟨its2,r2,pl2,_⟩:=I.list (SqL.of hq);have l1:=r.length;have l2:=r2.length;have l3:=rp.1;have l4:=rq.1;split at h
   ·rename_i hl;obtain⟨e,he,hb⟩:=zg1 h;have sz:its.toArray.size=its2.toArray.size:=by rw[jh,jh]; lia
    have rc:=RcAt.lists pl.isList pl2.isList sz hu' (parts rp rq r r2 he);have rn:=RcNeAt.lists pl.isList pl2.isList sz hu' (parts rp rq r r2 he);have hb':b=(j5 its.toArray.size).all e:=by rw[hb,jh,hl,Nat.min_self,show its.length=ys.length by lia]
    rw[<-hb'] at rc rn;exact⟨refs rfl rfl rc,rc,rn⟩
   ·rename_i hl;injection h with h;subst h;have sz:(its.toArray.size != its2.toArray.size)=true:=by simp; lia
    have rc:=RcAt.lists_lengths pl.isList pl2.isList sz hu';exact⟨refs rfl rfl rc,rc,RcNeAt.lists_lengths pl.isList pl2.isList sz hu'⟩
  ·rename_i xs ys;obtain⟨p,vs,rfl,hp,rp⟩:=BRep.tup (.inl hx);obtain⟨q,us,rfl,hq,rq⟩:=BRep.tup (.inl hy);cases rx; cases ry;obtain⟨its,r,pl,_⟩:=I.tuple (SqT.of hp);obtain⟨its2,r2,pl2,_⟩:=I.tuple (SqT.of hq);have l1:=r.length;have l2:=r2.length;have l3:=rp.1;have l4:=rq.1;cases h2:zhu (eqD n) xs ys with
   |none=>rw[h2] at h; cases h
   |some d=>
    rw[h2] at h;injection h with h;obtain⟨e,he,hb⟩:=zg1 h2;have rc:=RcAt.tuples pl pl2 hu' (parts rp rq r r2 he);have rn:=RcNeAt.tuples pl pl2 hu' (parts rp rq r r2 he);have hb':b=((j5 (min its.toArray.size its2.toArray.size)).all e&&its.toArray.size == its2.toArray.size):=by
     rw[<-h,hb,jh,jh,show its.length=xs.length by lia,show its2.length=ys.length by lia]
    rw[<-hb'] at rc rn;exact⟨refs rfl rfl rc,rc,rn⟩
  ·obtain⟨p,vs,rfl,hp,rp⟩:=BRep.lst (.inl hx);obtain⟨q,us,rfl,hq,rq⟩:=BRep.tup (.inl hy);cases rx; cases ry;obtain⟨its,r,pl,_⟩:=I.list (SqL.of hp);obtain⟨its2,r2,pl2,_⟩:=I.tuple (SqT.of hq);injection h with h;subst h;exact⟨.list_tuple pl.isList pl2 hu',.list_tuple pl.isList pl2 hu',.list_tuple pl.isList pl2 hu'⟩
  ·obtain⟨p,vs,rfl,hp,rp⟩:=BRep.tup (.inl hx);obtain⟨q,us,rfl,hq,rq⟩:=BRep.lst (.inl hy);cases rx; cases ry;obtain⟨its,r,pl,_⟩:=I.tuple (SqT.of hp);obtain⟨its2,r2,pl2,_⟩:=I.list (SqL.of hq);injection h with h;subst h;exact⟨.tuple_list pl pl2.isList hu',.tuple_list pl pl2.isList hu',.tuple_list pl pl2.isList hu'⟩
  ·exact scs h
end
end L3
namespace L3
open PySem PySem.Spec PyProof.Rows L2
variable [TheK]
variable {X:Cx}{M M' Mb io:List Nat}{pos:Pos}{e:Q4}{fe:DE}{fa:DA}{rk:Kd}
theorem BRep.all{C:js->Prop}{H:Hp}{v:V}{t:T}(h:BRep C H v t):Rep (fun _=>True) H v t:=by
 rcases h with h |⟨a,rfl,h⟩
 ·exact h.mono (fun _ _=>trivial) fun _ _ _ e=>e
 ·exact h.rep (fun _ _=>trivial) trivial
def gEq(x y:T):Option T:=(eqD 8 x y).map .bl
def gNe(x y:T):Option T:=(eqD 8 x y).map fun b=>.bl (!b)
def zuB(neg:Bool):R2:=fun x y H Q=>∃ tx ty b,Rep (fun _=>True) H x tx/\Rep (fun _=>True) H y ty/\eqD 8 tx ty=some b/\Q (.bl (if neg then !b else b)) H
theorem zn2{X:Cx}(hu:X.A.units+8 < gG):OpR X (Zb .Eq) (zuB false):=by
 intro pc s sg H x y v u Q I rx ry h;obtain⟨tx,ty,b,hx,hy,e,q⟩:=h;exact(zu3 I 8 X.A hu hx hy rx ry e).2.1 _ _ _ _ ⟨.bl b,H,I,rfl,q⟩
theorem zps{X:Cx}(hu:X.A.units+8 < gG):OpR X (Zb .NotEq) (zuB true):=by
 intro pc s sg H x y v u Q I rx ry h;obtain⟨tx,ty,b,hx,hy,e,q⟩:=h;exact(zu3 I 8 X.A hu hx hy rx ry e).2.2 _ _ _ _ ⟨.bl (!b),H,I,rfl,q⟩
theorem zvB:S2E (zuB false) gEq:=by
 intro C H x y tx ty t Q bx by' hg q;unfold gEq at hg;cases e:eqD 8 tx ty with
 |none=>rw[e] at hg; cases hg
 |some b=>
  rw[e] at hg;injection hg with hg; subst hg;exact⟨tx,ty,b,bx.all,by'.all,e,q _ (.bl b)⟩
theorem zwR:S2E (zuB true) gNe:=by
 intro C H x y tx ty t Q bx by' hg q;unfold gNe at hg;cases e:eqD 8 tx ty with
 |none=>rw[e] at hg; cases hg
 |some b=>
  rw[e] at hg;injection hg with hg; subst hg;exact⟨tx,ty,b,bx.all,by'.all,e,q _ (.bl (!b))⟩
def gLt:=ztW (fun i j=>decide (i < j)) fun i j=>decide (i.cps.toList < j.cps.toList)
def gI1(p:Int->Int->Bool):T->T->Option T
 |.int i,.int j=>some (.bl (p i j))
 |_,_=>none
def gLe:=gI1 fun i j=>decide (i<=j)
def gGt:=gI1 fun i j=>decide (j < i)
def gGe:=gI1 fun i j=>decide (j<=i)
theorem zwT{p:Int->Int->Bool}:S2E (rI0 (fun i j=>.bl (p i j))) (gI1 p):=by
 intro C H x y tx ty t Q bx by' hg q;unfold gI1 at hg;split at hg
 ·injection hg with hg; subst hg;exact⟨_,_,bx.int,by'.int,q _ (.bl _)⟩
 ·cases hg
def isN:T->Option Bool
 |.non=>some true |.bl _=>some false |.int _=>some false |.str _=>some false |.lst _=>some false |.tup _=>some false |.dct _=>some false |.set _ _=>some false |.scr _=>some false
 |.fd _=>some false
 |.any=>none
def gIs(x y:T):Option T:=match x,y with
 |.bl a,.bl b=>some (.bl (a == b))
 |x,.non=>(isN x).map .bl
 |_,_=>none
def zbu(x y:T):Option T:=match x,y with
 |.bl a,.bl b=>some (.bl (a != b))
 |x,.non=>(isN x).map fun b=>.bl (!b)
 |_,_=>none
theorem zpA{C:js->Prop}{H:Hp}{v:V}{t:T}{b:Bool}(h:BRep C H v t)(e:isN t=some b):b=decide (v=.non):=by
 rcases h with h |⟨a,rfl,h⟩
 ·cases h<;>simp[isN] at e<;>simp[<-e]
 ·cases h<;>simp[isN] at e<;>simp[<-e]
theorem zxK:S2E (fun x y H Q=>(∃ c d,x=.bl c/\y=.bl d/\Q (.bl (c == d)) H)∨(y=.non/\Q (.bl (decide (x=.non))) H)) gIs:=by
 intro C H x y tx ty t Q bx by' hg q;unfold gIs at hg;split at hg
 ·injection hg with hg; subst hg;exact .inl ⟨_,_,bx.bl,by'.bl,q _ (.bl _)⟩
 ·obtain⟨b,e,rfl⟩:=Qm hg;have z:=zpA bx e;refine .inr ⟨by'.non,?_⟩;rw[<-z];exact q _ (.bl _)
 ·cases hg
theorem zql:S2E (fun x y H Q=>(∃ c d,x=.bl c/\y=.bl d/\Q (.bl (c != d)) H)∨(y=.non/\Q (.bl (!decide (x=.non))) H)) zbu:=by
 intro C H x y tx ty t Q bx by' hg q;unfold zbu at hg;split at hg
 ·injection hg with hg; subst hg;exact .inl ⟨_,_,bx.bl,by'.bl,q _ (.bl _)⟩
 ·obtain⟨b,e,rfl⟩:=Qm hg;have z:=zpA bx e;refine .inr ⟨by'.non,?_⟩;rw[<-z];exact q _ (.bl _)
 ·cases hg
def toV:T->Option V
 |.non=>some .non |.bl b=>some (.bl b) |.int i=>some (.int i) |.str x=>some (.str x) |_=>none
def zkB:List T->Option (List V)
 |[]=>some []
 |t::ts=>(toV t).bind fun v=>(zkB ts).map fun vs=>v::vs
theorem zmj{C:js->Prop}{H:Hp}{v u:V}{t:T}(h:BRep C H v t)(e:toV t=some u):u=v/\zfi v=true:=by
 cases t<;>simp[toV] at e
 ·exact⟨by rw[h.non,<-e],by rw[h.non]; rfl⟩
 ·exact⟨by rw[h.bl,<-e],by rw[h.bl]; rfl⟩
 ·exact⟨by rw[h.int,<-e],by rw[h.int]; rfl⟩
 ·exact⟨by rw[h.str,<-e],by rw[h.str]; rfl⟩
theorem zjG{C:js->Prop}{H:Hp}:∀ {vs us:List V} {ts:List T},Reps C H vs ts->zkB ts=some us->us=vs/\vs.all zfi=true
 |[],us,[],_,e=>by unfold zkB at e; injection e with e; exact⟨e.symm,rfl⟩
 |v::vs,us,[],h,_=>by have:=h.1; simp at this
 |[],us,t::ts,h,_=>by have:=h.1; simp at this
 |v::vs,us,t::ts,h,e=>by
  unfold zkB at e;cases e1:toV t with
  |none=>rw[e1] at e; cases e
  |some a=>
   rw[e1,j9] at e;cases e2:zkB ts with
   |none=>rw[e2] at e; cases e
   |some as=>
    rw[e2] at e;injection e with e;obtain⟨q1,q2⟩:=zmj (.inl h.head) e1;obtain⟨q3,q4⟩:=zjG h.tail e2;exact⟨by rw[<-e,q1,q3],by rw[Yb,q2,q4]; rfl⟩
def zaM(kvs:List (Key × T))(k:Key):Option T:=(kvs.find? fun kv=>decide (kv.1=k)).map (·.2)
theorem zlJ(p:Key × T)(r:List (Key × T))(k:Key):zaM (p::r) k=if p.1=k then some p.2 else zaM r k:=by
 unfold zaM;rw[Z2]
 by_cases h:p.1=k
 ·rw[Ip_ h,Dt_ h]; rfl
 ·rw[In_ h,Df_ h]
theorem RepK.tail{C:js->Prop}{H:Hp}{p:Key × V}{q:Key × T}{vs:List (Key × V)}{ts:List (Key × T)}(h:RepK C H (p::vs) (q::ts)):p.1=q.1/\Rep C H p.2 q.2/\RepK C H vs ts:=by
 have h1:=h.1;rw[jt,jt] at h1;injection h1 with a b;exact⟨a,h.2 0 p q rfl rfl,b,fun i v t e1 e2=>h.2 (i+1) v t (by simpa using e1) (by simpa using e2)⟩
theorem RepK.cons{C:js->Prop}{H:Hp}{p:Key × V}{q:Key × T}{vs:List (Key × V)}{ts:List (Key × T)}(e:p.1=q.1)(r:Rep C H p.2 q.2)(h:RepK C H vs ts):RepK C H (p::vs) (q::ts):=by
 refine⟨by rw[jt,jt,e,h.1],fun i v t e1 e2=>?_⟩
 cases i with
 |zero=>simp at e1 e2; subst e1 e2; exact r
 |succ i=>exact h.2 i v t (by simpa using e1) (by simpa using e2)
theorem RepK.look{C:js->Prop}{H:Hp}(k:Key):∀ {vs:List (Key × V)} {ts:List (Key × T)},RepK C H vs ts->(zjD vs k=none/\zaM ts k=none)∨∃ v t,zjD vs k=some v/\zaM ts k=some t/\Rep C H v t
 |[],[],_=>.inl ⟨rfl,rfl⟩
 |p::vs,[],h=>by have:=h.1; simp at this
 |[],q::ts,h=>by have:=h.1; simp at this
 |p::vs,q::ts,h=>by
  obtain⟨e,r,h'⟩:=h.tail;rw[zlJ]
  by_cases hk:q.1=k
  ·rw[Ip_ hk,zfN (e.trans hk)];exact .inr ⟨_,_,rfl,rfl,r⟩
  ·rw[In_ hk,zfO (fun z=>hk (e.symm.trans z))];exact RepK.look k h'
def zgX:T->Option Key
 |.int i=>some (.inl i)
 |.str x=>some (.inr x)
 |_=>none
theorem zfc{C:js->Prop}{H:Hp}{v:V}{t:T}{k:Key}(h:BRep C H v t)(e:zgX t=some k):v=kV k:=by
 cases t<;>simp[zgX] at e
 ·rw[h.int,<-e]; rfl
 ·rw[h.str,<-e]; rfl
def zrl(x y:T):Option Bool:=match y with
 |.lst ys=>(toV x).bind fun v=>(zkB ys).map fun vs=>inV v vs
 |.tup ys=>(toV x).bind fun v=>(zkB ys).map fun vs=>inV v vs
 |_=>none
def gIn(x y:T):Option T:=(zrl x y).map .bl
def zj6(x y:T):Option T:=(zrl x y).map fun b=>.bl (!b)
def zrn(x y:T):Option Bool:=match y with
 |.dct kvs=>(zgX x).map fun k=>(zaM kvs k).isSome
 |.fd kvs=>(zgX x).map fun k=>(zaM kvs k).isSome
 |_=>none
def zxX(x y:T):Option T:=(zrn x y).map .bl
def zkg(x y:T):Option T:=(zrn x y).map fun b=>.bl (!b)
theorem zsI{K:jb}{neg:Bool}:S2E (rIn K neg) fun x y=>(zrl x y).map fun b=>.bl (if neg then !b else b):=by
 intro C H x y tx ty t Q bx by' hg q;obtain⟨b,e,rfl⟩:=Qm hg;have fin:∀ {p vs ys},y=.ref p->(SqL K H p vs∨SqT K H p vs)->Reps C H vs ys->((toV tx).bind fun v=>(zkB ys).map fun vs=>inV v vs)=some b->rIn K neg x y H Q:=by
  intro p vs ys e1 e2 r e5;obtain⟨v,e3,e5⟩:=Qb e5;obtain⟨us,e4,rfl⟩:=Qm e5;obtain⟨q1,q2⟩:=zmj bx e3;obtain⟨q3,q4⟩:=zjG r e4;subst q1 q3;exact⟨p,_,e1,e2,q2,q4,q _ (.bl _)⟩
 cases ty with
 |lst ys=>
  obtain⟨p,vs,e1,e2,r⟩:=by'.lst;exact fin e1 (.inl (SqL.of e2)) r e
 |tup ys=>
  obtain⟨p,vs,e1,e2,r⟩:=by'.tup;exact fin e1 (.inr (SqT.of e2)) r e
 |_=>cases e
theorem zsK{neg:Bool}:S2E (fun y x H Q=>∃ a o,x=.ref a/\DGet H a y o/\Q (.bl (if neg then !o.isSome else o.isSome)) H) fun x y=>(zrn x y).map fun b=>.bl (if neg then !b else b):=by
 intro C H x y tx ty t Q bx by' hg q;obtain⟨b,e,rfl⟩:=Qm hg;cases ty with
 |dct kts=>
  obtain⟨p,kvs,rfl,e2,r⟩:=by'.dct;obtain⟨k,e3,rfl⟩:=Qm (show (zgX tx).map (fun k=>(zaM kts k).isSome)=some b from e);obtain rfl:=zfc bx e3;refine⟨p,_,rfl,DGet.k e2,?_⟩;have:(zaM kts k).isSome=(zjD kvs k).isSome:=by
   rcases r.look k with ⟨h1,h2⟩ |⟨_,_,h1,h2,_⟩<;>rw[h1,h2]<;>rfl
  rw[<-this];exact q _ (.bl _)
 |fd kts=>
  obtain⟨p,ob,kvs,rfl,e2,r,_⟩:=by'.fd;obtain⟨k,e3,rfl⟩:=Qm (show (zgX tx).map (fun k=>(zaM kts k).isSome)=some b from e);obtain rfl:=zfc bx e3;refine⟨p,_,rfl,.inl ⟨kvs,k,.inr ⟨ob,e2⟩,rfl,rfl⟩,?_⟩;have:(zaM kts k).isSome=(zjD kvs k).isSome:=by
   rcases r.look k with ⟨h1,h2⟩ |⟨_,_,h1,h2,_⟩<;>rw[h1,h2]<;>rfl
  rw[<-this];exact q _ (.bl _)
 |_=>cases e
def gIx:T->T->Option T
 |.lst xs,.int i=>atI xs i
 |.tup xs,.int i=>atI xs i
 |.str x,.int i=>if x.length<=jr then (atI x.cps.toList i).map fun c=>.str ⟨#[c]⟩ else none
 |.scr ns,.int i=>(atI ns i).map .int
 |_,_=>none
def zrm(x y:T):Option T:=match x with
 |.dct kvs=>(zgX y).bind fun k=>zaM kvs k
 |.fd kvs=>(zgX y).bind fun k=>zaM kvs k
 |_=>none
theorem Reps.at{C:js->Prop}{H:Hp}{vs:List V}{ts:List T}{i:Int}{t:T}(h:Reps C H vs ts)(e:atI ts i=some t):∃ v,atI vs i=some v/\Rep C H v t:=by
 unfold atI at e ⊢;rw[h.1];cases e1:ixN ts.length i with
 |none=>rw[e1] at e; cases e
 |some j=>
  rw[e1] at e;exact h.get e
theorem zwS:S2E (rIx TheK.K) gIx:=by
 intro C H x y tx ty t Q bx by' hg q;unfold gIx at hg;split at hg
 ·obtain⟨p,vs,rfl,e2,r⟩:=bx.lst;obtain⟨v,h1,h2⟩:=r.at hg;exact .inl ⟨p,vs,_,v,rfl,by'.int,SqL.of e2,h1,q v h2⟩
 ·obtain⟨p,vs,rfl,e2,r⟩:=bx.tup;obtain⟨v,h1,h2⟩:=r.at hg;exact .inr (.inl ⟨p,vs,_,v,rfl,by'.int,SqT.of e2,h1,q v h2⟩)
 ·split at hg
  ·rename_i hl;obtain⟨c,h1,h2⟩:=Qm hg;subst h2;exact .inr (.inr ⟨_,_,c,bx.str,by'.int,hl,h1,q _ (.str _)⟩)
  ·cases hg
 ·obtain⟨p,rfl,e2⟩:=bx.scr;obtain⟨c,h1,h2⟩:=Qm hg;subst h2;refine .inl ⟨p,_,_,.int c,rfl,by'.int,e2,?_,q _ (.int c)⟩;unfold atI at h1 ⊢;rw[j6];cases e1:ixN _ _ with
  |none=>rw[e1] at h1; cases h1
  |some j=>
   rw[e1,j9] at h1;rw[j9,jg,h1];rfl
 ·cases hg
theorem zsJ:S2E (fun x y H Q=>∃ a v,x=.ref a/\DGet H a y (some v)/\Q v H) zrm:=by
 intro C H x y tx ty t Q bx by' hg q;unfold zrm at hg;split at hg
 ·obtain⟨p,kvs,rfl,e2,r⟩:=bx.dct;cases e3:zgX ty with
  |none=>rw[e3] at hg; cases hg
  |some k=>
   rw[e3,j9] at hg;obtain rfl:=zfc by' e3;rcases r.look k with ⟨h1,h2⟩ |⟨v,t',h1,h2,h3⟩
   ·rw[h2] at hg; cases hg
   ·rw[h2] at hg;injection hg with hg; subst hg;exact⟨p,v,rfl,h1▸DGet.k e2,q v h3⟩
 ·obtain⟨p,ob,kvs,rfl,e2,r,_⟩:=bx.fd;cases e3:zgX ty with
  |none=>rw[e3] at hg; cases hg
  |some k=>
   rw[e3,j9] at hg;obtain rfl:=zfc by' e3;rcases r.look k with ⟨h1,h2⟩ |⟨v,t',h1,h2,h3⟩
   ·rw[h2] at hg; cases hg
   ·rw[h2] at hg;injection hg with hg; subst hg;exact⟨p,v,rfl,.inl ⟨kvs,k,.inr ⟨ob,e2⟩,rfl,h1.symm⟩,q v h3⟩
 ·cases hg
section
variable {a b:Q4}{fa fb:DE}
theorem zrs(ha:PE X a (cE .e M fa))(hb:PE X b (cE .b M fb))(hm:Qy .NotIn b=false):PE X (.Compare a [.NotIn] [b] pos) (cE .e M (d2 zj6 fa fb)):=weak (zhV zfz ha hb hm) (zce (zsI (neg:=true)))
theorem zoP(hu:X.A.units+1 < gG)(ha:PE X a (cE .e M fa))(hb:PE X b (cE .b M fb))(hm:Qy .NotIn b=false):PE X (.Compare a [.NotIn] [b] pos) (cE .e M (d2 zkg fa fb)):=weak (ztp (ziU hu ha hb) hm) fun σ H Q h=>zce (zsK (neg:=true)) σ H Q h
theorem zxY(hK:X.K=TheK.K)(ha:PE X a (cE .e M fa))(hb:PE X b (cE .b M fb))(hs:zgW b):PE X (.Subscript a b pos) (cE .e M (d2 gIx fa fb)):=weak (zto (hK▸zpx) ha hb hs) (zce zwS)
theorem zwq{i:Nat}(hK:X.K=TheK.K)(hi:M.contains i=true)(ha:PE X a (ze3 i))(hb:PE X b (cE .b M fb))(hs:zgW b):PE X (.Subscript a b pos) (cE .e M (d2v gIx i fb)):=weak (zto (hK▸zpx) ha hb hs) (zme hi zwS)
theorem zwr(hu:X.A.units+1 < gG)(ha:PE X a (cE .e M fa))(hb:PE X b (cE .b M fb))(hs:zuK b):PE X (.Subscript a b pos) (cE .e M (d2 zrm fa fb)):=weak (zmX hu ha hb hs) fun σ H Q h=>zce zsJ σ H Q h
theorem zu5{i:Nat}(hi:M.contains i=true)(hu:X.A.units+1 < gG)(ha:PE X a (ze3 i))(hb:PE X b (cE .b M fb))(hs:zuK b):PE X (.Subscript a b pos) (cE .e M (d2v zrm i fb)):=weak (zmX hu ha hb hs) fun σ H Q h=>zme hi zsJ σ H Q h
end
def dB(f:DE):DT:=fun s=>(f s).bind fun p=>match p.1 with
 |.bl b=>some (b,p.2)
 |_=>none
theorem zih{f:DE}{s s':Sg}{b:Bool}(h:dB f s=some (b,s')):f s=some (.bl b,s'):=by
 obtain⟨p,h1,h2⟩:=Qb h;obtain⟨t,s1⟩:=p;cases t<;>simp at h2
 rw[h1,h2.1,h2.2]
theorem tst{M:List Nat}{f:DE}{t:TE}(h:∀ σ H Q,cE .e M f σ H Q->t σ H Q):∀ σ H Q,cT M (dB f) σ H Q->zsr t σ H Q:=by
 intro σ H Q h_;refine cT_ h_ fun F O s b s' R hf q=>?_;exact h σ H _ ⟨F,O,s,.bl b,s',R,zih hf,fun v H' S p=>⟨b,BRep.bl (.inl p.2),q H' S p.1⟩⟩
def tru:T->Option Bool
 |.non=>some false |.bl b=>some b |.int i=>some (i != 0)
 |.str x=>if x.length<=jr then some ((x.length:Int) != 0) else none
 |.lst xs=>some (!xs.isEmpty) |.tup xs=>some (!xs.isEmpty) |.dct xs=>some (!xs.isEmpty)
 |_=>none
theorem zgy{α β:Type}{xs:List α}{ys:List β}(h:xs.length=ys.length):(!ys.isEmpty)=!xs.isEmpty:=by
 cases xs<;>cases ys<;>simp at h<;>rfl
theorem zq6{K:jb}{C:js->Prop}{H:Hp}{v:V}{t:T}{b:Bool}(h:BRep C H v t)(e:tru t=some b):zwA K v H b:=by
 cases t with
 |non=>rw[h.non]; injection e with e; exact e.symm
 |bl x=>rw[h.bl]; injection e with e; exact e.symm
 |int x=>rw[h.int]; injection e with e; exact e.symm
 |str x=>
  rw[h.str]
  by_cases hl:x.length<=jr
  ·have e':(if x.length<=jr then some ((x.length:Int) != 0) else none)=some b:=e
   rw[Ip_ hl] at e';injection e' with e';exact⟨hl,e'.symm⟩
  ·have e':(if x.length<=jr then some ((x.length:Int) != 0) else none)=some b:=e
   rw[In_ hl] at e';cases e'
 |lst xs=>
  obtain⟨p,vs,rfl,e2,r⟩:=h.lst;injection e with e;exact .inl ⟨vs,SqL.of e2,by rw[<-e]; exact zgy r.1⟩
 |tup xs=>
  obtain⟨p,vs,rfl,e2,r⟩:=h.tup;injection e with e;exact .inr (.inl ⟨vs,SqT.of e2,by rw[<-e]; exact zgy r.1⟩)
 |dct xs=>
  obtain⟨p,vs,rfl,e2,r⟩:=h.dct;injection e with e;have l:vs.length=xs.length:=by simpa using congrArg ZC r.1
  exact .inr (.inr ⟨vs,e2,by rw[<-e]; exact zgy l⟩)
 |_=>cases e
def zlW(f:DE):DT:=fun s=>(f s).bind fun p=>(tru p.1).map fun b=>(b,p.2)
def zpK(f g:DT):DT:=fun s=>(f s).bind fun p=>if p.1 then g p.2 else some (false,p.2)
def dOr(f g:DT):DT:=fun s=>(f s).bind fun p=>if p.1 then some (true,p.2) else g p.2
def zpI(f:DT):DT:=fun s=>(f s).map fun p=>(!p.1,p.2)
def zlZ(f g:DE):DE:=fun s=>(dB f s).bind fun p=>if p.1 then g p.2 else some (.bl false,p.2)
def zry(f:DE):DE:=fun s=>(dB f s).map fun p=>(.bl (!p.1),p.2)
def dIf(c:DT)(f g:DE):DE:=fun s=>(c s).bind fun p=>if p.1 then f p.2 else g p.2
section
variable {a b c:Q4}{fa fb:DE}{ft fu:DT}{k:Kd}
theorem zq8(ha:PE X a (cE .e M fa))(hb:PE X b (cE .b M fb))(hm:Qy .NotIn b=false):PT X (.Compare a [.NotIn] [b] pos) (cT M (dB (d2 zj6 fa fb))):=zeY (zd4 zfz ha hb hm) (tst (zce (zsI (neg:=true))))
theorem zoc(hu:X.A.units+1 < gG)(ha:PE X a (cE .e M fa))(hb:PE X b (cE .b M fb))(hm:Qy .NotIn b=false):PT X (.Compare a [.NotIn] [b] pos) (cT M (dB (d2 zkg fa fb))):=zeY (zt8 (ziU hu ha hb) hm) fun σ H Q h=>tst (zce (zsK (neg:=true))) σ H Q h
end
def dAn:DA:=fun s=>some ([],s)
def dAc(f:DE)(g:DA):DA:=fun s=>(f s).bind fun p=>(g p.2).map fun q=>(p.1::q.1,q.2)
def zeT(f:DA):DE:=fun s=>(f s).bind fun p=>if p.1.length<=jr then some (.lst p.1,p.2) else none
def zjj(f:DA):DE:=fun s=>(f s).bind fun p=>if p.1.length<=jr then some (.tup p.1,p.2) else none
section
variable {es:List Q4}
def zkr:DE:=fun s=>some (.dct [],s)
end
abbrev DO:=Sg->Option (Option Int × Sg)
def cO(M:List Nat)(f:DO):TO:=fun σ H Q=>∃ F O s t s',Rel F O M s σ H/\f s=some (t,s')/\∀ H',Step σ M H H'->Rel F O M s' σ H'->Q t H'
def dOn:DO:=fun s=>some (none,s)
def dOs(f:DE):DO:=fun s=>(f s).bind fun p=>match p.1 with
 |.int i=>some (some i,p.2)
 |_=>none
def zfC{α:Type}(xs:List α)(lo hi:Option Int):List α:=(xs.drop (HT.sIx xs.length 0 lo)).take (HT.sIx xs.length xs.length hi - HT.sIx xs.length 0 lo)
def gSl(t:T)(lo hi:Option Int):Option T:=match t with
 |.lst xs=>some (.lst (zfC xs lo hi))
 |.scr ns=>some (.lst ((zfC ns lo hi).map .int))
 |_=>none
def zpD(t:T)(lo hi:Option Int):Option T:=match t with
 |.str x=>if x.length<=jr then some (.str (YJ x lo hi)) else none
 |_=>none
def dSl(g:T->Option Int->Option Int->Option T)(f:DE)(l h:DO):DE:=fun s=>(f s).bind fun p=>(l p.2).bind fun q=>(h q.2).bind fun r=>(g p.1 q.1 r.1).map fun t=>(t,r.2)
def zuF(g:T->Option Int->Option Int->Option T)(i:Nat)(l h:DO):DE:=fun s=>(s[i]?).join.bind fun _=>(l s).bind fun q=>(h q.2).bind fun r=>(r.2[i]?).join.bind fun x=>(g x q.1 r.1).map fun t=>(t,r.2)
theorem Reps.cut{C:js->Prop}{H:Hp}{vs:List V}{ts:List T}(h:Reps C H vs ts)(lo hi:Option Int):Reps C H (zpL vs lo hi) (zfC ts lo hi):=by
 unfold zpL zfC;rw[h.1];exact(h.drop _).take _
theorem zdB{C:js->Prop}{H:Hp}:∀(ns:List Int),Reps C H (ns.map V.int) (ns.map T.int)
 |[]=>.nil
 |n::ns=>.cons (.int n) (zdB ns)
def S3N(r:V->Option Int->Option Int->Hp->VK->Prop)(g:T->Option Int->Option Int->Option T):Prop:=∀(C:js->Prop) (H:Hp) x lo hi tx t (Q:VK),BRep C H x tx->g tx lo hi=some t->
 (∀ p o,H p=none->(∀ C':js->Prop,(∀ b,C b/\H b≠none->C' b)->Live C' (upd H p o) p t)->Q (.ref p) (upd H p o))->r x lo hi H Q
theorem zwQ:S3N (zwU TheK.K) gSl:=by
 intro C H x lo hi tx t Q bx hg q;cases tx<;>simp[gSl] at hg
 ·subst hg;obtain⟨a,vs,rfl,ha,ra⟩:=bx.lst;refine⟨a,vs,rfl,SqL.of ha,fun p hp=>q p _ hp fun C' hC=>?_⟩;exact .lst zah ((ra.cut lo hi).there.mono hC fun c o _ e=>by rw[za8 (za9 e hp)]; exact e)
 ·rename_i ns;subst hg;obtain⟨a,rfl,ha⟩:=bx.scr;refine⟨a,_,rfl,ha,fun p hp=>q p _ hp fun C' hC=>.lst zah ?_⟩;have:zpL (ns.map V.int) lo hi=(zfC ns lo hi).map V.int:=by
   unfold zpL zfC;rw[j6,<-Wo,<-Wp]
  rw[this];exact zdB _
section
variable {lo hi:Option Q4}{fl fh:DO}{p2:Pos}
theorem zxJ{g:T->Option Int->Option Int->Option T}{r:V->Option Int->Option Int->Hp->VK->Prop}(hs:S3N r g):∀ σ H Q,cE .n M (dSl g fe fl fh) σ H Q->tSl r (cE .e M fe) (cO M fl) (cO M fh) σ H Q:=by
 intro σ H Q h_;refine cE_ h_ fun F O s t s' R hf q=>?_;obtain⟨p,h1,h2⟩:=Qb hf;obtain⟨l,h3,h4⟩:=Qb h2;obtain⟨u,h5,h6⟩:=Qb h4;obtain⟨t',h7,h8⟩:=Qm h6;injection h8 with h8 h9;subst h8 h9;refine⟨F,O,s,p.1,p.2,R,h1,fun v H1 S1 p1=>⟨F,O,p.2,l.1,l.2,p1.1,h3,fun H2 S2 R2=>⟨F,O,l.2,u.1,u.2,R2,h5,fun H3 S3 R3=>?_⟩⟩⟩;have S:=(S1.trans S2).trans S3;exact hs (Free F O) H3 v l.1 u.1 p.1 t' Q (.inl (R2.stay S3 (p1.1.stay S2 p1.2))) h7 fun a o ha L=>q _ _ (S.trans (.new ha o)) (.mkN R R3 S ha L)
theorem zvx{g:T->Option Int->Option Int->Option T}{r:V->Option Int->Option Int->Hp->VK->Prop}{i:Nat}(hi:M.contains i=true)(hs:S3N r g):∀ σ H Q,cE .n M (zuF g i fl fh) σ H Q->tSl r (ze3 i) (cO M fl) (cO M fh) σ H Q:=by
 intro σ H Q h_;refine cE_ h_ fun F O s t s' R hf q=>?_;obtain⟨x0,h0,hf⟩:=Qb hf;obtain⟨l,h3,h4⟩:=Qb hf;obtain⟨u,h5,h6⟩:=Qb h4;obtain⟨x,h6',h6⟩:=Qb h6;obtain⟨t',h7,h8⟩:=Qm h6;injection h8 with h8 h9;subst h8 h9;have hi':i∈M:=by simpa using hi
 obtain⟨a,e1,_⟩:=R.own i x0 (zab h0) hi';refine⟨_,e1,F,O,s,l.1,l.2,R,h3,fun H2 S2 R2=>⟨F,O,l.2,u.1,u.2,R2,h5,fun H3 S3 R3=>?_⟩⟩;have S:=S2.trans S3;obtain⟨v,e2,B⟩:=zhL hi' R R3 (zab h0) (zab h6');rw[e1] at e2;injection e2 with e2;injection e2 with e2;subst e2;exact hs (Free F O) H3 _ l.1 u.1 x t' Q B h7 fun a o ha L=>q _ _ (S.trans (.new ha o)) (.mkN R R3 S ha L)
theorem zx5(hK:X.K=TheK.K)(he:PE X e (cE .e M fe))(hl:PO X lo (cO M fl))(hu:PO X hi (cO M fh)):PE X (.Subscript e (.Slice lo hi none p2) pos) (cE .n M (dSl gSl fe fl fh)):=weak (zhU (hK▸zmp) he hl hu) (zxJ zwQ)
theorem zwp(he:PE X e (cE .e M fe))(hl:PO X lo (cO M fl))(hu:PO X hi (cO M fh)):PE X (.Subscript e (.Slice lo hi none p2) pos) (cE .e M (dSl zpD fe fl fh)):=weak (zhU zsy he hl hu) (by
 intro σ H Q h_;refine cE_ h_ fun F O s t s' R hf q=>?_;obtain⟨p,h1,h2⟩:=Qb hf;obtain⟨l,h3,h4⟩:=Qb h2;obtain⟨u,h5,h6⟩:=Qb h4;obtain⟨t',h7,h8⟩:=Qm h6;injection h8 with h8 h9;subst h8 h9;refine⟨F,O,s,p.1,p.2,R,h1,fun v H1 S1 p1=>⟨F,O,p.2,l.1,l.2,p1.1,h3,fun H2 S2 R2=>⟨F,O,l.2,u.1,u.2,R2,h5,fun H3 S3 R3=>?_⟩⟩⟩;have S:=(S1.trans S2).trans S3;obtain⟨pt,ps⟩:=p;cases pt<;>simp[zpD] at h7
 rename_i x;obtain⟨h7,h8⟩:=h7
 exact⟨x,BRep.str (.inl p1.2),h7,q _ _ S ⟨R3,by rw[<-h8]; exact .str _⟩⟩)
end
inductive Fl where
 |nx (s:Sg) |rt (t:T) (s:Sg) |bk (s:Sg) |ct (s:Sg)
abbrev DS:=Sg->Option Fl
structure Ios (F:Fr) (io M:List Nat) (σ:L2.St):Prop where
 at_:∀(i:Nat),i∈io->i∈M/\σ[i]?=some (some (.ref (F.adr i)))
 D:∀ a,F.D a->∃ j,j∈io/\a=F.adr j
def KeepO(O:js->Prop)(H:Hp)(O':js->Prop)(H':Hp):Prop:=(∀ b o,¬ O b->H b=some o->H' b=some o/\¬ O' b)/\∀ b,H' b=none->H b=none
def C1(F:Fr):js->Prop:=fun b=>¬ F.D b/\(F.C0 b∨F.H0 b=none)
structure RetOk (F:Fr) (rk:Kd) (io:List Nat) (s':Sg) (t:T) (v:V) (H':Hp):Prop where
 keep:∀ b o,¬ F.D b->F.H0 b=some o->H' b=some o
 dom:∀ b,H' b=none->F.H0 b=none
 res:match rk with
  |.n=>∃ r,v=.ref r/\F.H0 r=none/\¬ F.D r/\Live (fun b=>C1 F b/\b≠r) H' r t/\∀(i:Nat),i∈io->∃ t',s'[i]?=some (some t')/\Live (fun b=>C1 F b/\b≠r) H' (F.adr i) t'
  |.b=>Rep (fun b=>F.H0 b=none) H' v t
  |.e=>Rep (C1 F) H' v t/\∀(i:Nat),i∈io->∃ t',s'[i]?=some (some t')/\Live (C1 F) H' (F.adr i) t'
def EndOk(F:Fr)(rk:Kd)(io M' Mb:List Nat)(O:js->Prop)(H:Hp)(D:Ends):Fl->Prop
 |.nx s'=>∀ O' σ' H',KeepO O H O' H'->Rel F O' M' s' σ' H'->Ios F io M' σ'->D.nx σ' H'
 |.bk s'=>∀ O' σ' H',KeepO O H O' H'->Rel F O' Mb s' σ' H'->Ios F io Mb σ'->D.bk σ' H'
 |.ct s'=>∀ O' σ' H',KeepO O H O' H'->Rel F O' Mb s' σ' H'->Ios F io Mb σ'->D.ct σ' H'
 |.rt t s'=>∀ v H',RetOk F rk io s' t v H'->D.rt v H'
def cS(rk:Kd)(io M M' Mb:List Nat)(d:DS):TS:=fun D σ H=>∃ F O s r,Rel F O M s σ H/\Ios F io M σ/\d s=some r/\EndOk F rk io M' Mb O H D r
theorem cS_{rk:Kd}{io M M' Mb:List Nat}{d:DS}{D:_}{σ:L2.St}{H:Hp}(h:cS rk io M M' Mb d D σ H){G:Prop}(g:∀ F O s r,Rel F O M s σ H->Ios F io M σ->d s=some r->EndOk F rk io M' Mb O H D r->G):G:=by
 obtain⟨F,O,s,r,R,I,hd,q⟩:=h;exact g F O s r R I hd q
section
variable {F:Fr}{O O' O'':js->Prop}{s s':Sg}{σ:L2.St}{H H' H'':Hp}{v:V}{t:T}{a:js}
theorem KeepO.refl:KeepO O H O H:=⟨fun _ _ n h=>⟨h,n⟩,fun _ h=>h⟩
theorem KeepO.trans(x:KeepO O H O' H')(y:KeepO O' H' O'' H''):KeepO O H O'' H'':=⟨fun b o n h=>by
 obtain⟨h1,n1⟩:=x.1 b o n h
 exact y.1 b o n1 h1,fun b h=>x.2 b (y.2 b h)⟩
theorem Step.keepO(S:Step σ M H H')(R:Rel F O M s σ H):KeepO O H O H':=⟨fun b o n h=>⟨S.keep b o (R.notOwned n) h,n⟩,S.dom⟩
theorem EndOk.more{D:Ends}{r:Fl}(h:EndOk F rk io M' Mb O H D r)(k:KeepO O H O' H'):EndOk F rk io M' Mb O' H' D r:=by
 cases r with
 |nx s'=>exact fun O2 σ2 H2 k2=>h O2 σ2 H2 (k.trans k2)
 |bk s'=>exact fun O2 σ2 H2 k2=>h O2 σ2 H2 (k.trans k2)
 |ct s'=>exact fun O2 σ2 H2 k2=>h O2 σ2 H2 (k.trans k2)
 |rt t s'=>exact h
theorem Rel.freeze(R:Rel F O M s σ H)(I:Ios F io M σ)(hM:∀ i,i∈M'->i∈M)(hio:∀ i,i∈io->i∈M'):∃ O',(∀ b,O' b->O b)/\Rel F O' M' s σ H/\Ios F io M' σ:=by
 refine⟨fun b=>O b/\¬ ∃ j:Nat,j∈M/\j∉M'/\σ[j]?=some (some (.ref b)),fun b z=>z.1,?_,⟨fun i hi=>⟨hio i hi,(I.at_ i hi).2⟩,I.D⟩⟩;have w:∀ b,(O b/\¬ ∃ j:Nat,j∈M/\j∉M'/\σ[j]?=some (some (.ref b)))->O b:=fun b z=>z.1;have notD:∀(i:Nat) b,i∈M->i∉M'->σ[i]?=some (some (.ref b))->¬ F.D b:=fun i b hi hi' e z=>by
  obtain⟨j,hj,rfl⟩:=I.D b z;obtain⟨h1,h2⟩:=I.at_ j hj;have:=R.dis i j _ hi h1 e h2;subst this;exact hi' (hio i hj)
 refine⟨R.len,fun i t e n=>?_,fun i t e n=>?_,fun i b hi e=>⟨R.ow i b (hM i hi) e,fun⟨j,h1,h2,h3⟩=>?_⟩,fun i j b hi hj=>R.dis i j b (hM i hi) (hM j hj),R.keep,R.dom,fun b z=>R.fresh b z.1,fun b z=>⟨R.inD b z,fun⟨j,h1,h2,h3⟩=>notD j b h1 h2 h3 z⟩,fun b z=>R.al b z.1⟩
 ·by_cases hi:i∈M
  ·obtain⟨b,h1,L⟩:=R.own i t e hi;refine⟨_,h1,L.rep (fun c z=>z.weak w) ⟨fun z=>z.2 ⟨i,hi,n,h1⟩,?_⟩⟩;rcases R.fresh b (R.ow i b hi h1) with z |z
   ·exact absurd z (notD i b hi n h1)
   ·exact .inr z
  ·obtain⟨v,h1,h2⟩:=R.val i t e hi;exact⟨v,h1,h2.mono (fun _ c=>c.weak w) fun _ _ _ e=>e⟩
 ·obtain⟨b,h1,h2⟩:=R.own i t e (hM i n);exact⟨b,h1,h2.mono (fun _ c=>c.weak w) (fun _ _ _ e=>e) fun _ e=>e⟩
 ·have:=R.dis j i b h1 (hM i hi) h3 e;subst this;exact h2 hi
theorem zdp{A B:List Nat}(h:A.all (B.contains ·)=true):∀ i,i∈A->i∈B:=fun i hi=>by simpa using jx.mp h i hi
theorem zoO{D:Ends}{r:Fl}{Mx:List Nat}(hM:∀ i,i∈Mx->i∈M')(hio:∀ i,i∈io->i∈Mx)(h:EndOk F rk io Mx Mb O H D r):EndOk F rk io M' Mb O H D r:=by
 cases r with
 |nx s'=>
  intro O' σ' H' k R I;obtain⟨O2,w,R',I'⟩:=R.freeze I hM hio;exact h O2 σ' H' (k.trans ⟨fun b o n h=>⟨h,fun z=>n (w b z)⟩,fun _ h=>h⟩) R' I'
 |bk s'=>exact h
 |ct s'=>exact h
 |rt t s'=>exact h
theorem Rel.write{i:Nat}{t0 t':T}{o:HO}(R:Rel F O M s σ H)(hi:i∈M)(e:σ[i]?=some (some (.ref a)))(hs:s[i]?=some (some t0))(L:∀ H1,(∀ b u,Free F O b->H b=some u->H1 b=some u)->H1 a=some o->Live (Free F O) H1 a t'):Rel F O M (s.set i (some t')) σ (upd H a o):=by
 have oa:=R.ow i a hi e;have k:∀ b u,Free F O b->H b=some u->upd H a o b=some u:=fun b u c q=>(za8 (fun z:b=a=>c.1 (z▸oa))).trans q;have hl:i < s.length:=(j7.mp hs).1;refine⟨by rw[Qd]; exact R.len,fun j t e' n=>?_,fun j t e' n=>?_,R.ow,R.dis,fun b u n q=>?_,fun b q=>?_,R.fresh,R.inD,fun b z=>?_⟩
 ·have hij:i≠j:=fun z=>n (z▸hi);rw[jo hij] at e';obtain⟨v,h1,h2⟩:=R.val j t e' n;exact⟨v,h1,h2.mono (fun _ c=>c) k⟩
 ·by_cases hij:i=j
  ·subst hij;rw[jU hl] at e';injection e' with e';injection e' with e';subst e';exact⟨a,e,L _ k zah⟩
  ·rw[jo hij] at e';obtain⟨b,h1,h2⟩:=R.own j t e' n;have hne:b≠a:=fun z=>hij (R.dis i j a hi n e (z▸h1));exact⟨b,h1,h2.mono (fun _ c=>c) k fun u q=>by rw[za8 hne]; exact q⟩
 ·refine(za8 (fun z=>?_)).trans (R.keep b u n q);subst z;rcases R.fresh b oa with z |z
  ·exact n z
  ·rw[z] at q; cases q
 ·refine R.dom b ?_;unfold upd at q;split at q
  ·cases q
  ·exact q
 ·intro q;refine R.al b z ?_;unfold upd at q;split at q
  ·cases q
  ·exact q
theorem Step.write{i:Nat}{o:HO}(hi:i∈M)(e:σ[i]?=some (some (.ref a)))(_:H a≠none):Step σ M H (upd H a o):=⟨fun b u n q=>by
 exact(za8 (fun z:b=a=>n i hi (z▸e))).trans q,fun b q=>by
 unfold upd at q;split at q
 ·cases q
 ·exact q⟩
theorem Rel.setE{i:Nat}(R:Rel F O M s σ H)(hM:∀ j,j∈M'->j∈M/\j≠i)(hk:∀ j,j∈M->j∈M'∨j=i)(hi:i < s.length)(r:Rep (Free F O) H v t):Rel F O M' (s.set i (some t)) (σ.set i (some v)) H:=by
 have hi2:i < σ.length:=by rw[<-R.len]; exact hi
 refine⟨by rw[Qd,Qd]; exact R.len,fun j t' e n=>?_,fun j t' e n=>?_,fun j b hj e=>?_,fun j k b hj hk e1 e2=>?_,R.keep,R.dom,R.fresh,R.inD,R.al⟩
 ·by_cases hij:i=j
  ·subst hij;rw[jU hi] at e;injection e with e;injection e with e;subst e;exact⟨v,jU hi2,r⟩
  ·rw[jo hij] at e;rw[jo hij];exact R.val j t' e fun z=>(hk j z).elim n fun z=>hij z.symm
 ·obtain⟨h1,h2⟩:=hM j n;rw[jo (Zr h2)] at e;rw[jo (Zr h2)];exact R.own j t' e h1
 ·obtain⟨h1,h2⟩:=hM j hj;rw[jo (Zr h2)] at e;exact R.ow j b h1 e
 ·obtain⟨h1,h2⟩:=hM j hj;obtain⟨h3,h4⟩:=hM k hk;rw[jo (Zr h2)] at e1;rw[jo (Zr h4)] at e2;exact R.dis j k b h1 h3 e1 e2
theorem Rel.setN{i:Nat}(R:Rel F O M s σ H)(hM:∀ j,j∈M'->j=i∨j∈M)(hk:∀ j,j∈M->j∈M')(hi:i < s.length)(him:i∈M')(oa:O a)(nw:∀ j,j∈M->j≠i->σ[j]?≠some (some (.ref a)))(L:Live (Free F O) H a t):Rel F O M' (s.set i (some t)) (σ.set i (some (.ref a))) H:=by
 have hi2:i < σ.length:=by rw[<-R.len]; exact hi
 refine⟨by rw[Qd,Qd]; exact R.len,fun j t' e n=>?_,fun j t' e n=>?_,fun j b hj e=>?_,fun j k b hj hk' e1 e2=>?_,R.keep,R.dom,R.fresh,R.inD,R.al⟩
 ·have hij:i≠j:=fun z=>n (z▸him);rw[jo hij] at e;rw[jo hij];exact R.val j t' e fun z=>n (hk j z)
 ·by_cases hij:i=j
  ·subst hij;rw[jU hi] at e;injection e with e;injection e with e;subst e;exact⟨a,jU hi2,L⟩
  ·rw[jo hij] at e;rw[jo hij];exact R.own j t' e ((hM j n).resolve_left fun z=>hij z.symm)
 ·by_cases hij:i=j
  ·subst hij;rw[jU hi2] at e;injection e with e;injection e with e;injection e with e;exact e▸oa
  ·rw[jo hij] at e;exact R.ow j b ((hM j hj).resolve_left fun z=>hij z.symm) e
 ·by_cases hij:i=j
  ·by_cases hik:i=k
   ·exact hij.symm.trans hik
   ·subst hij;rw[jU hi2] at e1;rw[jo hik] at e2;injection e1 with e1;injection e1 with e1;injection e1 with e1;subst e1;exact absurd e2 (nw k ((hM k hk').resolve_left fun z=>hik z.symm) (Zr hik))
  ·rw[jo hij] at e1
   by_cases hik:i=k
   ·subst hik;rw[jU hi2] at e2;injection e2 with e2;injection e2 with e2;injection e2 with e2;subst e2;exact absurd e1 (nw j ((hM j hj).resolve_left fun z=>hij z.symm) (Zr hij))
   ·rw[jo hik] at e2;exact R.dis j k b ((hM j hj).resolve_left fun z=>hij z.symm) ((hM k hk').resolve_left fun z=>hik z.symm) e1 e2
theorem Ios.set{i:Nat}{x:Option V}(I:Ios F io M σ)(hio:i∉io)(hM:∀ j,j∈io->j∈M'):Ios F io M' (σ.set i x):=⟨fun j hj=>by
 refine⟨hM j hj,?_⟩;rw[jo (fun z:i=j=>hio (z▸hj))]
 exact(I.at_ j hj).2,I.D⟩
end
def zai(f g:DS):DS:=fun s=>(f s).bind fun r=>match r with
 |.nx s'=>g s'
 |r=>some r
def zaH:DS:=fun s=>some (.nx s)
def zaF(i:Nat)(f:DE):DS:=fun s=>(f s).bind fun p=>if i < p.2.length then some (.nx (p.2.set i (some p.1))) else none
def zcY(c:DT)(f g:DS):DS:=fun s=>(c s).bind fun p=>if p.1 then f p.2 else g p.2
def dDo(f:DE):DS:=fun s=>(f s).map fun p=>.nx p.2
section
variable {M'':List Nat}{st:QR}{sts:List QR}{c:Q4}{a b:List QR}{d d':DS}{ft:DT}{pos':Pos}
def zsB(M M' io:List Nat)(i:Nat):Bool:=M'.all (fun j=>M.contains j&&j != i)&&M.all (fun j=>M'.contains j||j == i)&&!io.contains i&&io.all (M'.contains ·)
def zsA(M M' io:List Nat)(i:Nat):Bool:=M'.all (fun j=>j == i||M.contains j)&&M.all (M'.contains ·)&&M'.contains i&&!io.contains i&&io.all (M'.contains ·)
theorem Free.c1{F:Fr}{O:js->Prop}{M:List Nat}{s:Sg}{σ:L2.St}{H:Hp}(R:Rel F O M s σ H){b:js}(c:Free F O b):C1 F b:=⟨fun z=>c.1 (R.inD b z),c.2⟩
theorem zsP{F:Fr}{O:js->Prop}{s:Sg}{σ:L2.St}{H:Hp}{v:V}{t:T}(R:Rel F O M s σ H)(I:Ios F io M σ)(hio:∀ i,i∈io->∃ t,s[i]?=some (some t))(r:Rep (Free F O) H v t):RetOk F .e io s t v H:=by
 refine⟨R.keep,R.dom,r.mono (fun _ c=>c.c1 R) (fun _ _ _ e=>e),fun i hi=>?_⟩;obtain⟨t',ht⟩:=hio i hi;obtain⟨h1,h2⟩:=I.at_ i hi;obtain⟨a,h3,L⟩:=R.own i t' ht h1;rw[h2] at h3;injection h3 with h3;injection h3 with h3;injection h3 with h3;subst h3;exact⟨t',ht,L.mono (fun _ c=>c.c1 R) (fun _ _ _ e=>e) fun _ e=>e⟩
theorem zsO{F:Fr}{O:js->Prop}{s:Sg}{σ:L2.St}{H:Hp}{t:T}{a:js}(R:Rel F O M s σ H)(I:Ios F io M σ)(hio:∀ i,i∈io->∃ t,s[i]?=some (some t))(oa:O a)(h0:F.H0 a=none)(nd:¬ F.D a)(L:Live (Free F O) H a t):RetOk F .n io s t (.ref a) H:=by
 have w:∀ b,Free F O b->C1 F b/\b≠a:=fun b c=>⟨c.c1 R,fun z=>c.1 (z▸oa)⟩;refine⟨R.keep,R.dom,a,rfl,h0,nd,L.mono w (fun _ _ _ e=>e) fun _ e=>e,fun i hi=>?_⟩;obtain⟨t',ht⟩:=hio i hi;obtain⟨h1,h2⟩:=I.at_ i hi;obtain⟨b,h3,L⟩:=R.own i t' ht h1;rw[h2] at h3;injection h3 with h3;injection h3 with h3;injection h3 with h3;subst h3;exact⟨t',ht,L.mono w (fun _ _ _ e=>e) fun _ e=>e⟩
def hasAll(io:List Nat)(s:Sg):Bool:=io.all fun i=>(s[i]?).join.isSome
theorem hasAll.get{io:List Nat}{s:Sg}(h:hasAll io s=true):∀ i,i∈io->∃ t,s[i]?=some (some t):=fun i hi=>by
 have:=jx.mp h i hi;cases e:(s[i]?).join with
 |none=>rw[e] at this; cases this
 |some t=>exact⟨t,zab e⟩
def zal(io:List Nat)(f:DE):DS:=fun s=>(f s).bind fun p=>if hasAll io p.2 then some (.rt p.1 p.2) else none
end
def znn:T->Bool
 |.lst _=>true
 |_=>false
def SM(r:V->List V->Hp->VK->Prop)(g:T->List T->Option (T × T)):Prop:=∀(C:js->Prop) (H:Hp) a tx vs ts t' tr (Q:VK),¬ C a->Live C H a tx->Reps C H vs ts->g tx ts=some (t',tr)->
 (∀ o v,(∀ H1,(∀ b u,C b->H b=some u->H1 b=some u)->H1 a=some o->Live C H1 a t')->Rep C H v tr->Q v (upd H a o))->r (.ref a) vs H Q
def zhq(g:T->List T->Option (T × T))(i:Nat)(fa:DA):DE:=fun s=>(s[i]?).join.bind fun t0=>if znn t0 then (fa s).bind fun p=>(p.2[i]?).join.bind fun t=>(g t p.1).map fun q=>(q.2,p.2.set i (some q.1)) else none
def zk4:T->List T->Option (T × T)
 |.lst xs,[t]=>if xs.length < jr then some (.lst (xs++[t]),.non) else none
 |_,_=>none
def zpu:T->List T->Option (T × T)
 |.lst xs,[.lst ys]=>if xs.length+ys.length<=jr then some (.lst (xs++ys),.non) else none
 |_,_=>none
def zo1:T->List T->Option (T × T)
 |.lst xs,[]=>(xs[xs.length - 1]?).map fun y=>(.lst xs.dropLast,y)
 |_,_=>none
theorem Live.lst'{C:js->Prop}{H:Hp}{a:js}{ts:List T}(h:Live C H a (.lst ts)):∃ vs,H a=some (.lst vs)/\Reps C H vs ts:=by
 cases h with |lst r h=>exact⟨_,r,h⟩
theorem Reps.one{C:js->Prop}{H:Hp}{vs:List V}{t:T}(h:Reps C H vs [t]):∃ v,vs=[v]/\Rep C H v t:=by
 obtain⟨v,rfl⟩:=gK.mp (show vs.length=1 from h.1);exact⟨v,rfl,h.head⟩
theorem Reps.none{C:js->Prop}{H:Hp}{vs:List V}(h:Reps C H vs []):vs=[]:=List.length_eq_zero_iff.mp h.1
theorem Reps.snoc{C:js->Prop}{H:Hp}{vs:List V}{ts:List T}{v:V}{t:T}(h:Reps C H vs ts)(r:Rep C H v t):Reps C H (vs++[v]) (ts++[t]):=h.append (.cons r .nil)
theorem zw6:SM zjQ zk4:=by
 intro C H a tx vs ts t' tr Q hn L R hg q;unfold zk4 at hg;split at hg
 ·split at hg
  ·rename_i hl;injection hg with hg;injection hg with h1 h2;subst h1 h2;obtain⟨us,h1,h2⟩:=L.lst';obtain⟨v,rfl,rv⟩:=R.one;refine⟨a,us,v,rfl,rfl,h1,by rw[h2.1]; exact hl,q _ _ (fun H1 k e=>.lst e ?_) .non⟩
   exact(h2.snoc rv).mono (fun _ c=>c) k
  ·cases hg
 ·cases hg
theorem zw5:SM zjO zpu:=by
 intro C H a tx vs ts t' tr Q hn L R hg q;unfold zpu at hg;split at hg
 ·split at hg
  ·rename_i hl;injection hg with hg;injection hg with h1 h2;subst h1 h2;obtain⟨us,h1,h2⟩:=L.lst';obtain⟨v,rfl,rv⟩:=R.one;obtain⟨b,ws,rfl,h3,h4⟩:=BRep.lst (.inl rv);refine⟨a,b,us,ws,rfl,rfl,h1,h3,by rw[h2.1,h4.1]; exact hl,q _ _ (fun H1 k e=>.lst e ?_) .non⟩
   exact(h2.append h4).mono (fun _ c=>c) k
  ·cases hg
 ·cases hg
theorem Reps.dropLast{C:js->Prop}{H:Hp}{vs:List V}{ts:List T}(h:Reps C H vs ts):Reps C H vs.dropLast ts.dropLast:=by
 rw[Ny,Ny,h.1];exact h.take _
theorem Reps.rev{C:js->Prop}{H:Hp}:∀ {vs:List V} {ts:List T},Reps C H vs ts->Reps C H vs.reverse ts.reverse
 |[],[],_=>.nil
 |v::vs,[],h=>by have:=h.1; simp at this
 |[],t::ts,h=>by have:=h.1; simp at this
 |v::vs,t::ts,h=>by
  rw[QU,QU];exact(Reps.rev h.tail).snoc h.head
theorem zw4:SM zvK zo1:=by
 intro C H a tx vs ts t' tr Q hn L R hg q;unfold zo1 at hg;split at hg
 ·obtain⟨y,hy,h0⟩:=Qm hg;injection h0 with h1 h2;subst h1 h2;obtain⟨us,h1,h2⟩:=L.lst';obtain rfl:=R.none;obtain⟨v,hv,rv⟩:=h2.get hy;exact⟨a,us,v,rfl,rfl,h1,by rw[h2.1]; exact hv,q _ _ (fun H1 k e=>.lst e (h2.dropLast.mono (fun _ c=>c) k)) rv⟩
 ·cases hg
section
theorem zr1{r:V->List V->Hp->VK->Prop}{g:T->List T->Option (T × T)}{i:Nat}(hi:M.contains i=true)(hs:SM r g):∀ σ H Q,cE .e M (zhq g i fa) σ H Q->tBM X.K "list" r (ze3 i) (cA M fa) σ H Q:=by
 intro σ H Q h_;refine cE_ h_ fun F O s t s' R hf q=>?_;have hi':i∈M:=by simpa using hi
 obtain⟨t0,h0,hf⟩:=Qb hf;split at hf
 ·rename_i hl;obtain⟨p,h1,hf⟩:=Qb hf;obtain⟨t1,h2,hf⟩:=Qb hf;obtain⟨w,h3,h4⟩:=Qm hf;injection h4 with h4 h5;subst h4 h5;obtain⟨a,e1,L0⟩:=R.own i t0 (zab h0) hi';refine⟨_,e1,?_,F,O,s,p.1,p.2,R,h1,fun vs H1 S1 R1 rs=>?_⟩
  ·cases L0 with
   |lst r h=>exact .inl ⟨rfl,_,SqL.of r⟩
   |_=>cases hl
  obtain⟨b,e2,L⟩:=R1.own i t1 (zab h2) hi';rw[e1] at e2;injection e2 with e2;injection e2 with e2;injection e2 with e2;subst e2;refine hs (Free F O) H1 a t1 vs p.1 w.1 w.2 Q (fun z=>z.1 (R1.ow i a hi' e1)) L rs h3 fun o v hL rv=>?_;have R2:=R1.write (o:=o) hi' e1 (zab h2) hL;refine q v _ (S1.trans (.write hi' e1 L.ne)) ⟨R2,?_⟩;exact R1.stay (.write hi' e1 L.ne) rv
 ·cases hf
theorem ztx{r:V->List V->Hp->VK->Prop}{g:T->List T->Option (T × T)}{i:Nat}(hi:M.contains i=true)(hs:SM r g):∀ σ H Q,cE .e M (zhq g i dAn) σ H Q->zuz X.K "list" r (ze3 i) σ H Q:=by
 rintro σ H Q h;obtain⟨v,e,ty,F,O,s,ts,s',R,hf,q⟩:=zr1 (X:=X) hi hs σ H Q h;injection hf with hf;injection hf with h1 h2;subst h1 h2;exact⟨v,e,ty,q [] H .refl R .nil⟩
end
def zf6(kvs:List (Key × T))(k:Key)(v:T):List (Key × T):=
 if kvs.any fun kv=>decide (kv.1=k) then kvs.map fun kv=>if kv.1=k then (kv.1,v) else kv else kvs++[(k,v)]
theorem RepK.any{C:js->Prop}{H:Hp}(k:Key):∀ {vs:List (Key × V)} {ts:List (Key × T)},RepK C H vs ts->(vs.any fun kv=>decide (kv.1=k))=ts.any fun kv=>decide (kv.1=k)
 |[],[],_=>rfl
 |p::vs,[],h=>by have:=h.1; simp at this
 |[],q::ts,h=>by have:=h.1; simp at this
 |p::vs,q::ts,h=>by
  obtain⟨e,r,h'⟩:=h.tail;rw[Za,Za,RepK.any k h',e]
theorem RepK.mapPut{C:js->Prop}{H:Hp}{k:Key}{v:V}{t:T}(r:Rep C H v t):∀ {vs:List (Key × V)} {ts:List (Key × T)},RepK C H vs ts->RepK C H (vs.map fun kv=>if kv.1=k then (kv.1,v) else kv) (ts.map fun kv=>if kv.1=k then (kv.1,t) else kv)
 |[],[],h=>h
 |p::vs,[],h=>by have:=h.1; simp at this
 |[],q::ts,h=>by have:=h.1; simp at this
 |p::vs,q::ts,h=>by
  obtain⟨e,r',h'⟩:=h.tail;rw[jt,jt]
  by_cases hk:q.1=k
  ·rw[Ip_ hk,Ip_ (e.trans hk)];exact .cons e r (RepK.mapPut r h')
  ·rw[In_ hk,In_ (fun z=>hk (e.symm.trans z))];exact .cons e r' (RepK.mapPut r h')
theorem RepK.append{C:js->Prop}{H:Hp}:∀ {vs ws:List (Key × V)} {ts us:List (Key × T)},RepK C H vs ts->RepK C H ws us->RepK C H (vs++ws) (ts++us)
 |[],_,[],_,_,h=>h
 |p::vs,_,[],_,h,_=>by have:=h.1; simp at this
 |[],_,q::ts,_,h,_=>by have:=h.1; simp at this
 |p::vs,_,q::ts,_,h,h2=>by
  obtain⟨e,r',h'⟩:=h.tail;exact .cons e r' (RepK.append h' h2)
theorem RepK.put{C:js->Prop}{H:Hp}{k:Key}{v:V}{t:T}{vs:List (Key × V)}{ts:List (Key × T)}(h:RepK C H vs ts)(r:Rep C H v t):RepK C H (zhh vs k v) (zf6 ts k t):=by
 unfold zhh zf6;rw[h.any k];split
 ·exact RepK.mapPut r h
 ·exact RepK.append h (.cons rfl r ⟨rfl,fun i v t e=>by simp at e⟩)
theorem RepK.len{C:js->Prop}{H:Hp}{vs:List (Key × V)}{ts:List (Key × T)}(h:RepK C H vs ts):vs.length=ts.length:=by simpa using congrArg ZC h.1
def zoU(i:Nat)(fk fv:DE):DS:=fun s=>(fv s).bind fun p=>(p.2[i]?).join.bind fun _=>(fk p.2).bind fun q=>(q.2[i]?).join.bind fun t=>match t with
 |.dct kvs=>(zgX q.1).bind fun k=>if kvs.length < jr then some (.nx (q.2.set i (some (.dct (zf6 kvs k p.1))))) else none
 |_=>none
def zjk(i:Nat)(fk fv:DE):DS:=fun s=>(fv s).bind fun p=>(p.2[i]?).join.bind fun _=>(fk p.2).bind fun q=>(q.2[i]?).join.bind fun t=>match t,q.1 with
 |.lst xs,.int k=>(ixN xs.length k).map fun j=>.nx (q.2.set i (some (.lst (xs.set j p.1))))
 |_,_=>none
section
variable {st:QR}{fk fv:DE}
def gsN:List Nat->TGs
 |[]=>zrh
 |i::r=>zj8 (zcJ i) (gsN r)
def zbC:List Nat->List T->Sg->Option Sg
 |[],[],s=>some s
 |i::is,t::ts,s=>if i < s.length then zbC is ts (s.set i (some t)) else none
 |_,_,_=>none
theorem zhE{F:Fr}{O:js->Prop}{H:Hp}{Q:L2.St->Hp->Prop}:∀ {is:List Nat} {ts:List T} {vs:List V} {s s':Sg} {σ:L2.St},Rel F O M s σ H->Ios F io M σ->(∀ i,i∈is->i∉M)->(∀ i,i∈io->i∈M)->Reps (Free F O) H vs ts->zbC is ts s=some s'->
  (∀ σ',Rel F O M s' σ' H->Ios F io M σ'->Q σ' H)->gsN is vs σ H Q
 |[],[],vs,s,s',σ,R,I,_,_,h,e,q=>by
  injection e with e;subst e;exact⟨h.none,q σ R I⟩
 |[],t::ts,vs,s,s',σ,R,I,_,_,h,e,q=>by cases e
 |i::is,[],vs,s,s',σ,R,I,_,_,h,e,q=>by cases e
 |i::is,t::ts,[],s,s',σ,R,I,_,_,h,e,q=>by have:=h.1; simp at this
 |i::is,t::ts,v::vs,s,s',σ,R,I,hm,hio,h,e,q=>by
  unfold zbC at e;split at e
  ·rename_i hl;have hi:i∉M:=hm i jT;exact⟨v,vs,rfl,zhE (R.setE (fun j hj=>⟨hj,fun z=>hi (z▸hj)⟩) (fun j hj=>.inl hj) hl h.head) (I.set (fun z=>hi (hio i z)) hio) (fun j hj=>hm j (jw _ hj)) hio h.tail e q⟩
  ·cases e
def zkX:T->Option (List T)
 |.lst xs=>some xs
 |.tup xs=>some xs
 |_=>none
def dUn(is:List Nat)(f:DE):DS:=fun s=>(f s).bind fun p=>(zkX p.1).bind fun ts=>(zbC is ts p.2).map .nx
end
def zrW(F:Fr)(O:js->Prop)(its:List T)(J:It)(H1:Hp):Prop:=∀ H2,(∀ b o,Free F O b->H1 b=some o->H2 b=some o)->
 ∀ i:Nat,(∀ t,its[i]?=some t->J.go i H2/\∀ x H3,J.yld i H2 x H3->(H3=H2∨∃ p o,H2 p=none/\H3=upd H2 p o)/\Rep (fun b=>(Free F O b/\H1 b≠none)∨H2 b=none) H3 x t)/\(its.length<=i->J.stop i H2)
abbrev DI:=Sg->Option (List T × Sg)
def cI(M:List Nat)(f:DI):TI:=fun σ H R=>∃ F O s its s',Rel F O M s σ H/\f s=some (its,s')/\∀ J H',Step σ M H H'->Rel F O M s' σ H'->zrW F O its J H'->R J H'
theorem cI_{M:List Nat}{f:DI}{σ:L2.St}{H:Hp}{R:_}(h:cI M f σ H R){G:Prop}(g:∀ F O s its s',Rel F O M s σ H->f s=some (its,s')->(∀ J H',Step σ M H H'->Rel F O M s' σ H'->zrW F O its J H'->R J H')->G):G:=by
 obtain⟨F,O,s,its,s',Rl,hf,q⟩:=h;exact g F O s its s' Rl hf q
theorem zhx{X:Cx}{tg e:Q4}{t t':TI}(h:PI X tg e t)(hw:∀ σ H R,t' σ H R->t σ H R):PI X tg e t':=fun pc s σ H R I q=>h pc s σ H R I (hw _ _ _ q)
def dIt(f:DE):DI:=fun s=>(f s).bind fun p=>match p.1 with
 |.lst xs=>some (xs,p.2)
 |.scr ns=>some (ns.map .int,p.2)
 |_=>none
def zx6(f:DE):DI:=fun s=>(f s).bind fun p=>match p.1 with
 |.tup xs=>some (xs,p.2)
 |_=>none
def zaU(lo:Int)(n:Nat):List T:=(j5 n).map fun(i:Nat)=>T.int (lo+i)
def zgk(j:Int):Bool:=(j+2000).natAbs.ble 4000
theorem zfS{j:Int}(h:zgk j=true):-(2 ^ 62)<=j/\j < 2 ^ 62:=by
 unfold zgk at h;have:=ZU h;lia
def znJ(f:DA):DI:=fun s=>(f s).bind fun p=>match p.1 with
 |[.int j]=>if zgk j=true then some (zaU 0 j.toNat,p.2) else none
 |_=>none
def zuG(f:DA):DI:=fun s=>(f s).bind fun p=>match p.1 with
 |[.int i,.int j]=>if zgk i=true/\zgk j=true then some (zaU i (j - i).toNat,p.2) else none
 |_=>none
def zfj(xs:List T):List T:=(j5 xs.length).map fun(i:Nat)=>T.tup [.int i,xs.getD i .non]
def dEn(f:DA):DI:=fun s=>(f s).bind fun p=>match p.1 with
 |[.lst xs]=>some (zfj xs,p.2)
 |_=>none
section
variable {tg:Q4}
theorem zr9{F:Fr}{O:js->Prop}{H1:Hp}{a:js}{vs:List V}{ts:List T}{K:jb}(fr:Free F O a)(ha:H1 a=some (.lst vs))(r:Reps (Free F O) H1 vs ts):zrW F O ts (Itl K a) H1:=by
 intro H2 k i;have h2:=k a _ fr ha;refine⟨fun t ht=>?_,fun hl=>⟨vs,SqL.of h2,by rw[r.1]; exact hl⟩⟩
 obtain⟨v,hv,rv⟩:=r.get ht;refine⟨⟨vs,v,SqL.of h2,hv⟩,fun x H3 ⟨e1,e2⟩=>⟨.inl e1,?_⟩⟩;have:=e2 vs (SqL.of h2);rw[hv] at this;obtain rfl:v=x:=jf this;subst e1;exact rv.there.mono (fun b c=>.inl c) fun b o c e=>k b o c.1 e
theorem zpz{F:Fr}{O:js->Prop}{H1:Hp}{a:js}{ns:List Int}{K:jb}(h:∀ H2,(∀ b o,Free F O b->H1 b=some o->H2 b=some o)->SqL K H2 a (ns.map V.int)):zrW F O (ns.map T.int) (Itl K a) H1:=by
 intro H2 k i;have h2:=h H2 k;refine⟨fun t ht=>?_,fun hl=>⟨_,h2,by simpa using hl⟩⟩
 obtain⟨v,hv,rv⟩:=(zdB (C:=fun b=>(Free F O b/\H1 b≠none)∨H2 b=none) (H:=H2) ns).get ht;refine⟨⟨_,v,h2,hv⟩,fun x H3 ⟨e1,e2⟩=>⟨.inl e1,?_⟩⟩;have:=e2 _ h2;rw[hv] at this;obtain rfl:v=x:=jf this;subst e1;exact rv
theorem ztT(hK:X.K=TheK.K)(h:PE X e (cE .e M fe)):PI X tg e (cI M (dIt fe)):=zhx (t:=ztU TheK.K (cE .e M fe)) (hK▸zqO h) (by
 intro σ H R h_;refine cI_ h_ fun F O s its s' Rl hf q=>?_;obtain⟨⟨p1,p2⟩,h1,h2⟩:=Qb hf;refine⟨F,O,s,p1,p2,Rl,h1,fun v H1 S1 po=>?_⟩;cases p1<;>simp at h2
 ·obtain⟨h3,h4⟩:=h2;subst h3 h4;have po2:=po.2;cases po2 with
  |lst c r l h=>
   exact⟨_,rfl,⟨_,SqL.of r⟩,q _ H1 S1 po.1 (zr9 c r ⟨l,h⟩)⟩
 ·obtain⟨h3,h4⟩:=h2;subst h3 h4;have po2:=po.2;cases po2 with
  |@scr a ns o c r=>
   refine⟨a,rfl,⟨_,.inl (.inr ⟨o,r⟩)⟩,q _ H1 S1 po.1 ?_⟩;exact zpz fun H2 k=>.inl (.inr ⟨o,k a _ c r⟩)
  |@scrK a ns r=>
   refine⟨a,rfl,⟨_,r H1⟩,q _ H1 S1 po.1 ?_⟩
   exact zpz fun H2 k=>r H2)
theorem zwc(h:PE X e (cE .e M fe)):PI X tg e (cI M (zx6 fe)):=zhx (ztd h) (by
 intro σ H R h_;refine cI_ h_ fun F O s its s' Rl hf q=>?_;obtain⟨⟨p1,p2⟩,h1,h2⟩:=Qb hf;refine⟨F,O,s,p1,p2,Rl,h1,fun v H1 S1 po=>?_⟩;cases p1<;>simp at h2
 obtain⟨h3,h4⟩:=h2;subst h3 h4;have po2:=po.2;cases po2 with
 |tup c r l h=>
  rename_i a vs;refine⟨a,rfl,⟨vs,SqT.of r⟩,q _ H1 S1 po.1 ?_⟩;intro H2 k i;have h2:=k a _ c r;refine⟨fun t ht=>?_,fun hl=>⟨vs,SqT.of h2,by rw[l]; exact hl⟩⟩
  obtain⟨v,hv,rv⟩:=Reps.get (⟨l,h⟩:Reps (Free F O) H1 vs _) ht;refine⟨⟨vs,v,SqT.of h2,hv⟩,fun x H3 ⟨e1,e2⟩=>⟨.inl e1,?_⟩⟩;have:=e2 vs (SqT.of h2);rw[hv] at this;obtain rfl:v=x:=jf this;subst e1
  exact rv.there.mono (fun b c=>.inl c) fun b o c e=>k b o c.1 e)
theorem zkY{F:Fr}{O:js->Prop}{H1:Hp}{lo:Int}{n:Nat}:zrW F O (zaU lo n) (Itr lo n) H1:=by
 intro H2 k i;unfold zaU;refine⟨fun t ht=>?_,fun hl=>by show n<=i; simpa using hl⟩
 rw[jg] at ht;obtain⟨j,hj,e⟩:=Qm ht;have hi:i < n:=by simpa using (j7.mp hj).1
 rw[ZF hi] at hj;obtain rfl:i=j:=jf hj;refine⟨hi,fun x H3 ⟨e1,e2⟩=>⟨.inl e1,?_⟩⟩;subst e1 e2 e;exact .int _
end
abbrev DG:=T->Sg->Option Sg
def cG(io M:List Nat)(g:DG):TG:=fun v σ H Q=>∃ F O s t s',Rel F O M s σ H/\Ios F io M σ/\Rep (Free F O) H v t/\g t s=some s'/\∀ σ',Rel F O M s' σ' H->Ios F io M σ'->Q σ' H
def dGn(i:Nat):DG:=fun t s=>if i < s.length then some (s.set i (some t)) else none
def dGt(is:List Nat):DG:=fun t s=>match t with
 |.tup ts=>zbC is ts s
 |_=>none
theorem zrY{X:Cx}{e:Q4}{t t':TG}(h:PG X e t)(hw:∀ v σ H Q,t' v σ H Q->t v σ H Q):PG X e t':=fun pc s σ H v u Q I r q=>h pc s σ H v u Q I r (hw _ _ _ _ q)
section
variable {tg iter:Q4}{body:List QR}{fi:DI}{g:DG}{db:DS}
theorem gn{i:Nat}(hi:M.contains i=false)(hio:io.all (M.contains ·)=true):∀ v σ H Q,cG io M (dGn i) v σ H Q->zcJ i v σ H Q:=by
 rintro v σ H Q ⟨F,O,s,t,s',R,I,r,hg,q⟩;have hi':i∉M:=by simpa using hi
 unfold dGn at hg;split at hg
 ·rename_i hl;injection hg with hg;subst hg;exact q _ (R.setE (fun j hj=>⟨hj,fun z=>hi' (z▸hj)⟩) (fun j hj=>.inl hj) hl r) (I.set (fun z=>hi' (zdp hio i z)) (zdp hio))
 ·cases hg
theorem gt{is:List Nat}{n:Nat}{K:jb}(hn:is.length=n)(hm:is.all (fun i=>!M.contains i)=true)(hio:io.all (M.contains ·)=true):∀ v σ H Q,cG io M (dGt is) v σ H Q->zlP K n (gsN is) v σ H Q:=by
 rintro v σ H Q ⟨F,O,s,t,s',R,I,r,hg,q⟩;obtain⟨ts,rfl⟩:∃ ts,t=.tup ts:=by cases t<;>first |exact⟨_,rfl⟩ |cases hg
 have hg:zbC is ts s=some s':=hg;have hl:∀ {is:List Nat} {ts:List T} {s s':Sg},zbC is ts s=some s'->ts.length=is.length:=by
  intro is
  induction is with
  |nil=>intro ts s s' e; cases ts with
   |nil=>rfl
   |cons=>cases e
  |cons i is ih=>intro ts s s' e; cases ts with
   |nil=>cases e
   |cons t ts=>
    unfold zbC at e;split at e
    ·rw[jp,jp,ih e]
    ·cases e
 obtain⟨a,vs,rfl,ha,ra⟩:=BRep.tup (.inl r);exact⟨a,vs,rfl,SqT.of ha,by rw[ra.1,hl hg,hn],zhE R I (fun i hi=>by simpa using jx.mp hm i hi) (zdp hio) ra hg q⟩
def zdn(g:DG)(db:DS):List T->Sg->Option Fl
 |[],s=>some (.nx s)
 |x::xs,s=>(g x s).bind fun s1=>(db s1).bind fun r=>match r with
  |.nx s2=>zdn g db xs s2
  |.ct s2=>zdn g db xs s2
  |.bk s2=>some (.nx s2)
  |.rt t s2=>some (.rt t s2)
def zew(fi:DI)(g:DG)(db:DS):DS:=fun s=>(fi s).bind fun p=>zdn g db p.1 p.2
theorem zmy{F:Fr}{O O1:js->Prop}{s:Sg}{σ:L2.St}{H1 H2 H3:Hp}{x:V}{t:T}(k:KeepO O H1 O1 H2)(R:Rel F O1 M s σ H2)(hy:H3=H2∨∃ p o,H2 p=none/\H3=upd H2 p o)(r:Rep (fun b=>(Free F O b/\H1 b≠none)∨H2 b=none) H3 x t) :
  Rel F O1 M s σ H3/\KeepO O1 H2 O1 H3/\Rep (Free F O1) H3 x t:=by
 have fr:∀ b,((Free F O b/\H1 b≠none)∨H2 b=none)->Free F O1 b:=fun b c=>by
  rcases c with ⟨c,n⟩ |n
  ·cases e:H1 b with
   |none=>exact absurd e n
   |some o=>exact⟨(k.1 b o c.1 e).2,c.2⟩
  ·exact⟨fun z=>R.al b z n,.inr (R.dom b n)⟩
 refine⟨?_,?_,r.mono fr fun _ _ _ e=>e⟩
 ·rcases hy with rfl |⟨p,o,hp,rfl⟩
  ·exact R
  ·exact(R.new hp o).less (fun b z=>.inl z) R.ow R.inD
 ·rcases hy with rfl |⟨p,o,hp,rfl⟩
  ·exact .refl
  ·exact⟨fun b u n e=>⟨by rw[za8 (za9 e hp)]; exact e,n⟩,fun b e=>by
    unfold upd at e;split at e
    ·cases e
    ·exact e⟩
theorem ztX:∀ D σ H,cS rk io M M Mb (zew fi g db) D σ H->zuy (cI M fi) (cG io M g) (cS rk io M M M db) D σ H:=by
 intro D σ H h_;refine cS_ h_ fun F O s r R I hd q=>?_;obtain⟨⟨its,s1⟩,h1,h2⟩:=Qb hd;refine⟨F,O,s,its,s1,R,h1,fun J H1 S1 R1 IT=>?_⟩;have k1:KeepO O H O H1:=S1.keepO R;refine⟨fun i m σ' H'=>m=its.length - i/\i<=its.length/\∃ O' s',KeepO O H1 O' H'/\Rel F O' M s' σ' H'/\Ios F io M σ'/\zdn g db (its.drop i) s'=some r,⟨its.length,by simp,QV _,O,s1,.refl,R1,I,h2⟩,?_⟩
 rintro i m σ2 H2 ⟨rfl,hi,O2,s2,k2,R2,I2,hl⟩;have it:=IT H2 (fun b o c e=>(k2.1 b o c.1 e).1) i
 by_cases hlt:i < its.length
 ·refine .inr ?_;obtain⟨go,yl⟩:=it.1 its[i] (j3 hlt);rw[Zn hlt] at hl;unfold zdn at hl;obtain⟨s3,hg,hl⟩:=Qb hl;obtain⟨r1,hb,hl⟩:=Qb hl;refine⟨go,fun σ' H'=>∃ O' s',KeepO O H1 O' H'/\Rel F O' M s' σ' H'/\Ios F io M σ'/\zdn g db (its.drop (i+1)) s'=some r,fun σ' H' ⟨O',s',h⟩=>⟨its.length - (i+1),by lia,rfl,hlt,O',s',h⟩,fun x H3 hy=>?_⟩
  obtain⟨y1,y2⟩:=yl x H3 hy;obtain⟨R3,k3,rx⟩:=zmy k2 R2 y1 y2;have k13:=k2.trans k3;refine⟨F,O2,s2,its[i],s3,R3,I2,rx,hg,fun σ4 R4 I4=>⟨F,O2,s3,r1,R4,I4,hb,?_⟩⟩;cases r1 with
  |nx s5=>exact fun O5 σ5 H5 k5 R5 I5=>⟨O5,s5,k13.trans k5,R5,I5,hl⟩
  |ct s5=>exact fun O5 σ5 H5 k5 R5 I5=>⟨O5,s5,k13.trans k5,R5,I5,hl⟩
  |bk s5=>
   injection hl with hl;subst hl;exact fun O5 σ5 H5 k5 R5 I5=>q O5 σ5 H5 (k1.trans (k13.trans k5)) R5 I5
  |rt t s5=>
   injection hl with hl;subst hl;exact q
 ·have e:i=its.length:=by lia
  subst e;rw[N9] at hl;injection hl with hl;subst hl;exact .inl ⟨it.2 (jm _),q O2 σ2 H2 (k1.trans k2) R2 I2⟩
def zbB(ft:DT)(db:DS):Nat->Sg->Option Fl
 |0,_=>none
 |n+1,s=>(ft s).bind fun p=>if p.1 then (db p.2).bind fun r=>match r with
  |.nx s2=>zbB ft db n s2
  |.ct s2=>zbB ft db n s2
  |.bk s2=>some (.nx s2)
  |.rt t s2=>some (.rt t s2)
  else some (.nx p.2)
theorem zo9{ft:DT}{n:Nat}:∀ D σ H,cS rk io M M Mb (zbB ft db n) D σ H->zpd (cT M ft) (cS rk io M M M db) D σ H:=by
 intro D σ H h_;refine cS_ h_ fun F O s r R I hd q=>?_;refine⟨fun m σ' H'=>∃ O' s',KeepO O H O' H'/\Rel F O' M s' σ' H'/\Ios F io M σ'/\zbB ft db m s'=some r,⟨n,O,s,.refl,R,I,hd⟩,?_⟩;rintro m σ2 H2 ⟨O2,s2,k2,R2,I2,hl⟩;cases m with
 |zero=>cases hl
 |succ m=>
  unfold zbB at hl;obtain⟨⟨b,s3⟩,h1,h2⟩:=Qb hl;refine⟨F,O2,s2,b,s3,R2,h1,fun H3 S3 R3=>?_⟩;have k3:=k2.trans (S3.keepO R2);cases b with
  |true=>
   obtain⟨r1,hb,hl⟩:=Qb h2;refine⟨fun σ' H'=>∃ O' s',KeepO O H O' H'/\Rel F O' M s' σ' H'/\Ios F io M σ'/\zbB ft db m s'=some r,fun σ' H' z=>⟨m,Z8 m,z⟩,F,O2,s3,r1,R3,I2,hb,?_⟩;cases r1 with
   |nx s5=>exact fun O5 σ5 H5 k5 R5 I5=>⟨O5,s5,k3.trans k5,R5,I5,hl⟩
   |ct s5=>exact fun O5 σ5 H5 k5 R5 I5=>⟨O5,s5,k3.trans k5,R5,I5,hl⟩
   |bk s5=>
    injection hl with hl;subst hl;exact fun O5 σ5 H5 k5 R5 I5=>q O5 σ5 H5 (k3.trans k5) R5 I5
   |rt t s5=>
    injection hl with hl;subst hl;exact q
  |false=>
   injection h2 with h2;subst h2;exact q O2 σ2 H3 k3 R3 I2
end
structure CallP (rk:Kd) (C:js->Prop) (H:Hp) (t:T) (v:V) (H':Hp):Prop where
 keep:∀ b o,H b=some o->H' b=some o
 dom:∀ b,H' b=none->H b=none
 res:match rk with
  |.n=>∃ r,v=.ref r/\H r=none/\Live (fun b=>(C b∨H b=none)/\b≠r) H' r t
  |_=>Rep (fun b=>C b∨H b=none) H' v t
def spP(rk:Kd)(np:Nat)(fn:List T->Option T):Sp:=fun vs H Q _=>∃ C ts t,ts.length=np/\Reps C H vs ts/\fn ts=some t/\∀ v H',CallP rk C H t v H'->Q v H'
structure CallI (rk:Kd) (C:js->Prop) (a:js) (H:Hp) (t t0:T) (v:V) (H':Hp):Prop where
 keep:∀ b o,b≠a->H b=some o->H' b=some o
 dom:∀ b,H' b=none->H b=none
 res:match rk with
  |.n=>∃ r,v=.ref r/\H r=none/\Live (fun b=>(b≠a/\(C b∨H b=none))/\b≠r) H' r t/\Live (fun b=>(b≠a/\(C b∨H b=none))/\b≠r) H' a t0
  |_=>Rep (fun b=>b≠a/\(C b∨H b=none)) H' v t/\Live (fun b=>b≠a/\(C b∨H b=none)) H' a t0
def spI(rk:Kd)(np:Nat)(fn:List T->Option (T × T)):Sp:=fun vs H Q _=>∃ C a us t0 ts t t1,(t0::ts).length=np/\vs=.ref a::us/\¬ C a/\Live C H a t0/\Reps C H us ts/\fn (t0::ts)=some (t,t1)/\∀ v H',CallI rk C a H t t1 v H'->Q v H'
def zaO(n:Nat)(ts:List T):Sg:=ts.map some++gT (n - ts.length) none
def fnP(n:Nat)(d:DS):List T->Option T:=fun ts=>match d (zaO n ts) with
 |some (.rt t _)=>some t
 |some (.nx _)=>some .non
 |_=>none
def zo2(n:Nat)(d:DS):List T->Option T:=fun ts=>match d (zaO n ts) with
 |some (.rt t _)=>some t
 |_=>none
def fnI(n:Nat)(d:DS):List T->Option (T × T):=fun ts=>match d (zaO n ts) with
 |some (.rt t s)=>(s[0]?).join.map fun u=>(t,u)
 |_=>none
theorem zg9{N:List Str}{vs:List V}{ts:List T}{C:js->Prop}{H:Hp}(r:Reps C H vs ts)(hl:ts.length<=N.length):(zaO N.length ts).length=(L2.start N vs).length/\∀(i:Nat) t,(zaO N.length ts)[i]?=some (some t)->∃ v,(L2.start N vs)[i]?=some (some v)/\ts[i]?=some t/\vs[i]?=some v/\Rep C H v t:=by
 have rl:=r.1;unfold zaO L2.start;refine⟨by simp[rl],fun i t e=>?_⟩
 by_cases hi:i < ts.length
 ·rw[Q3 (by rw[j6]; exact hi),jg] at e
  obtain⟨t',h1,h2⟩:=Qm e;injection h2 with h2;subst h2;obtain⟨v,hv,rv⟩:=r.get h1;refine⟨v,?_,h1,hv,rv⟩;rw[Q3 (by rw[j6,rl]; exact hi),jg,hv]
  rfl
 ·rw[Q7 (by rw[j6]; lia)] at e
  have:=jE e;have:=YK this;cases this
section
variable {d:DS}{N:List Str}{np:Nat}
theorem zqo{fn:List T->Option T}(hfn:∀ ts t,fn ts=some t->(∃ s',d (zaO N.length ts)=some (.rt t s'))∨(rk=.e/\t=.non/\∃ s',d (zaO N.length ts)=some (.nx s')))(hrk:rk=.e∨rk=.n)(hN:np<=N.length){vs:List V}{H:Hp}{Q:VK}{E:XK}(h:spP rk np fn vs H Q E) :
  cS rk [] [] M' Mb d { nx:=fun _ H'=>Q .non H',rt:=Q } (L2.start N vs) H:=by
 obtain⟨C,ts,t,hl,r,hf,q⟩:=h;obtain⟨l1,l2⟩:=zg9 (N:=N) r (by lia)
 have w:∀ b,C b->Free ⟨H,C,fun _=>False,fun _=>0⟩ (fun _=>False) b:=fun b c=>⟨fun z=>z,.inl c⟩;have R:Rel ⟨H,C,fun _=>False,fun _=>0⟩ (fun _=>False) [] (zaO N.length ts) (L2.start N vs) H:=by
  refine⟨l1,fun i t e _=>?_,fun i t e n=>by simp at n,fun i a n=>by simp at n,fun i j a n=>by simp at n,fun b o _ e=>e,fun b e=>e,fun a z=>z.elim,fun a z=>z,fun a z=>z.elim⟩
  obtain⟨v,h1,_,_,rv⟩:=l2 i t e;exact⟨v,h1,rv.mono w fun _ _ _ e=>e⟩
 have I:Ios ⟨H,C,fun _=>False,fun _=>0⟩ [] [] (L2.start N vs):=⟨fun i hi=>by simp at hi,fun a z=>z.elim⟩
 rcases hfn ts t hf with ⟨s',hd⟩ |⟨e1,e2,s',hd⟩
 ·refine⟨_,_,_,_,R,I,hd,fun v H' ro=>q v H' ⟨fun b o e=>ro.keep b o (fun z=>z) e,ro.dom,?_⟩⟩;rcases hrk with rfl |rfl
  ·exact ro.res.1.mono (fun b c=>c.2) fun _ _ _ e=>e
  ·obtain⟨r,h1,h2,_,h3,_⟩:=ro.res;exact⟨r,h1,h2,h3.mono (fun b c=>⟨c.1.2,c.2⟩) (fun _ _ _ e=>e) fun _ e=>e⟩
 ·subst e1 e2;refine⟨_,_,_,_,R,I,hd,fun O' σ' H' k R' I'=>q .non H' ⟨fun b o e=>R'.keep b o (fun z=>z) e,R'.dom,.non⟩⟩
theorem zsN(hrk:rk=.e∨rk=.n)(hN:np<=N.length){vs:List V}{H:Hp}{Q:VK}{E:XK}(h:spI rk np (fnI N.length d) vs H Q E) :
  cS rk [0] [0] M' Mb d { nx:=fun _ H'=>Q .non H',rt:=Q } (L2.start N vs) H:=by
 obtain⟨C,a,us,t0,ts,t,t1,hl,rfl,na,L,r,hf,q⟩:=h;have hlu:us.length+1<=N.length:=by rw[r.1]; simpa using Qc (Nat.le_of_eq hl) hN
 have r':Reps (fun b=>C b∨b=a) H (.ref a::us) (t0::ts):=.cons (L.rep (fun b c=>.inl c) (.inr rfl)) (r.mono (fun b c=>.inl c) fun _ _ _ e=>e);obtain⟨l1,l2⟩:=zg9 (N:=N) r' (by rw[hl]; exact hN)
 have w:∀ b,C b->Free ⟨H,C,fun b=>b=a,fun _=>a⟩ (fun b=>b=a) b:=fun b c=>⟨fun z=>na (z▸c),.inl c⟩;have e0:(L2.start N (.ref a::us))[0]?=some (some (.ref a)):=rfl;have R:Rel ⟨H,C,fun b=>b=a,fun _=>a⟩ (fun b=>b=a) [0] (zaO N.length (t0::ts)) (L2.start N (.ref a::us)) H:=by
  refine⟨l1,fun i t e n=>?_,fun i t e n=>?_,fun i b n e=>?_,fun i j b n m _ _=>?_,fun b o _ e=>e,fun b e=>e,fun b z=>.inl z,fun b z=>z,fun b z=>z▸L.ne⟩
  ·obtain⟨v,h1,h2,h3,_⟩:=l2 i t e;cases i with
   |zero=>simp at n
   |succ i=>
    have rv:=r.2 i v t (by simpa using h3) (by simpa using h2)
    exact⟨v,h1,rv.mono w fun _ _ _ e=>e⟩
  ·obtain rfl:i=0:=by simpa using n
   obtain⟨v,h1,h2,h3,_⟩:=l2 0 t e;have:t0=t:=by simpa using h2
   subst this;exact⟨a,e0,L.mono w (fun _ _ _ e=>e) fun _ e=>e⟩
  ·obtain rfl:i=0:=by simpa using n
   rw[e0] at e;injection e with e;injection e with e;injection e with e;exact e.symm
  ·have h1:i=0:=by simpa using n
   have h2:j=0:=by simpa using m
   rw[h1,h2]
 have I:Ios ⟨H,C,fun b=>b=a,fun _=>a⟩ [0] [0] (L2.start N (.ref a::us)):=⟨fun i hi=>by
  obtain rfl:i=0:=by simpa using hi
  exact⟨by simp,e0⟩,fun b z=>⟨0,by simp,z⟩⟩
 unfold fnI at hf;cases hd:d (zaO N.length (t0::ts)) with
 |none=>rw[hd] at hf; cases hf
 |some r1=>
  rw[hd] at hf;cases r1 with
  |rt t' s'=>
   obtain⟨u,h1,h2⟩:=Qm hf;injection h2 with h2 h3;subst h2 h3;refine⟨_,_,_,_,R,I,hd,fun v H' ro=>q v H' ⟨fun b o n e=>ro.keep b o n e,ro.dom,?_⟩⟩;rcases hrk with rfl |rfl
   ·obtain⟨h2,h3⟩:=ro.res;obtain⟨t2,h4,h5⟩:=h3 0 (by simp)
    rw[zab h1] at h4;injection h4 with h4;injection h4 with h4;subst h4;exact⟨h2,h5⟩
   ·obtain⟨r,h2,h3,_,h4,h5⟩:=ro.res;obtain⟨t2,h6,h7⟩:=h5 0 (by simp)
    rw[zab h1] at h6;injection h6 with h6;injection h6 with h6;subst h6;exact⟨r,h2,h3,h4,h7⟩
  |nx s'=>cases hf
  |bk s'=>cases hf
  |ct s'=>cases hf
end
section
variable {F:Fr}{O:js->Prop}{s:Sg}{σ:L2.St}{H H':Hp}
theorem Rel.ext(R:Rel F O M s σ H)(k:∀ b o,H b=some o->H' b=some o)(dm:∀ b,H' b=none->H b=none):Rel F O M s σ H' where
 len:=R.len
 val:=fun i t e n=>by
  obtain⟨v,h1,h2⟩:=R.val i t e n;exact⟨v,h1,h2.mono (fun _ c=>c) fun b o _ e=>k b o e⟩
 own:=fun i t e n=>by
  obtain⟨a,h1,h2⟩:=R.own i t e n;exact⟨a,h1,h2.mono (fun _ c=>c) (fun b o _ e=>k b o e) fun o e=>k a o e⟩
 ow:=R.ow
 dis:=R.dis
 keep:=fun b o n e=>k b o (R.keep b o n e)
 dom:=fun b e=>R.dom b (dm b e)
 fresh:=R.fresh
 inD:=R.inD
 al:=fun a z e=>R.al a z (dm a e)
theorem Rel.extN{r:js}(R:Rel F O M s σ H)(k:∀ b o,H b=some o->H' b=some o)(dm:∀ b,H' b=none->H b=none)(hr:H r=none)(hr':H' r≠none):Rel F (fun b=>O b∨b=r) M s σ H':=by
 have R':=R.ext k dm;have fr:∀ b,Free F O b/\H b≠none->Free F (fun b=>O b∨b=r) b:=fun b c=>⟨fun z=>z.elim c.1.1 fun z=>c.2 (z▸hr),c.1.2⟩;refine⟨R.len,fun i t e n=>?_,fun i t e n=>?_,fun i b hi e=>.inl (R.ow i b hi e),R.dis,R'.keep,R'.dom,fun b z=>?_,fun b z=>.inl (R.inD b z),fun b z=>?_⟩
 ·obtain⟨v,h1,h2⟩:=R.val i t e n;exact⟨v,h1,h2.there.mono fr fun b o _ e=>k b o e⟩
 ·obtain⟨b,h1,h2⟩:=R.own i t e n;exact⟨b,h1,h2.there.mono fr (fun b o _ e=>k b o e) fun o e=>k b o e⟩
 ·rcases z with z |z
  ·exact R.fresh b z
  ·subst z; exact .inr (R.dom _ hr)
 ·rcases z with z |z
  ·exact R'.al b z
  ·subst z; exact hr'
theorem Rel.freeNew(R:Rel F O M s σ H){b:js}(h:Free F O b∨H b=none):Free F O b:=h.elim id fun z=>⟨fun w=>R.al b w z,.inr (R.dom b z)⟩
end
def Ar(fa:DA)(n:Nat):Prop:=∀ s ts s',fa s=some (ts,s')->ts.length=n
theorem zui:Ar dAn 0:=fun s ts s' h=>by
 injection h with h;injection h with h1 _;rw[<-h1]; rfl
theorem ar_{f:DE}{fa:DA}{n:Nat}(h:Ar fa n):Ar (dAc f fa) (n+1):=fun s ts s' e=>by
 obtain⟨p,h1,h2⟩:=Qb e;obtain⟨q,h3,h4⟩:=Qm h2;injection h4 with h4 _;rw[<-h4,jp,h _ _ _ h3]
def zaj(fn:List T->Option T)(fa:DA):DE:=fun s=>(fa s).bind fun p=>(fn p.1).map fun t=>(t,p.2)
def zeU(fn:List T->Option (T × T))(i:Nat)(fa:DA):DE:=fun s=>(s[i]?).join.bind fun _=>(fa s).bind fun p=>(p.2[i]?).join.bind fun t0=>(fn (t0::p.1)).map fun q=>(q.1,p.2.set i (some q.2))
def zgL(fn:List T->Option (T × T))(f0:DE)(fa:DA):DE:=fun s=>(f0 s).bind fun p=>(fa p.2).bind fun q=>(fn (p.1::q.1)).map fun r=>(r.1,q.2)
section
variable {f0:DE}{np:Nat}
theorem zud{fn:List T->Option T}(hn:Ar fa np):∀ σ H Q,cE .e M (zaj fn fa) σ H Q->zjI (spP .e np fn) [] E0 (cA M fa) σ H Q:=by
 intro σ H Q h_;refine cE_ h_ fun F O s t s' R hf q=>?_;obtain⟨p,h1,h2⟩:=Qb hf;obtain⟨t',h3,h4⟩:=Qm h2;injection h4 with h4 h5;subst h4 h5;refine⟨F,O,s,p.1,p.2,R,h1,fun vs H1 S1 R1 rs=>?_⟩
 try dsimp only
 rw[Qt];refine⟨Free F O,p.1,t',hn _ _ _ h1,rs,h3,fun v H2 c=>q v H2 (S1.trans ⟨fun b o _ e=>c.keep b o e,c.dom⟩) ⟨R1.ext c.keep c.dom,?_⟩⟩;exact c.res.mono (fun b z=>R1.freeNew z) fun _ _ _ e=>e
theorem zuc{fn:List T->Option T}(hn:Ar fa np):∀ σ H Q,cE .n M (zaj fn fa) σ H Q->zjI (spP .n np fn) [] E0 (cA M fa) σ H Q:=by
 intro σ H Q h_;refine cE_ h_ fun F O s t s' R hf q=>?_;obtain⟨p,h1,h2⟩:=Qb hf;obtain⟨t',h3,h4⟩:=Qm h2;injection h4 with h4 h5;subst h4 h5;refine⟨F,O,s,p.1,p.2,R,h1,fun vs H1 S1 R1 rs=>?_⟩
 try dsimp only
 rw[Qt];refine⟨Free F O,p.1,t',hn _ _ _ h1,rs,h3,fun v H2 c=>?_⟩;obtain⟨r,rfl,hr,L⟩:=c.res;refine q _ H2 (S1.trans ⟨fun b o _ e=>c.keep b o e,c.dom⟩) ⟨r,rfl,S1.dom r hr,R1.extN c.keep c.dom hr L.ne,L.mono (fun b z=>?_) (fun _ _ _ e=>e) fun _ e=>e⟩;have:=R1.freeNew z.1;exact⟨fun y=>y.elim this.1 z.2,this.2⟩
theorem zrH{fn:List T->Option (T × T)}{i:Nat}(hn:Ar fa np)(hi:M.contains i=true):∀ σ H Q,cE .e M (zeU fn i fa) σ H Q->zjI (spI .e (np+1) fn) [] E0 (zey (ze3 i) (cA M fa)) σ H Q:=by
 intro σ H Q h_;refine cE_ h_ fun F O s t s' R hf q=>?_;have hi':i∈M:=by simpa using hi
 obtain⟨x0,h0,hf⟩:=Qb hf;obtain⟨p,h1,hf⟩:=Qb hf;obtain⟨t0,h2,hf⟩:=Qb hf;obtain⟨w,h3,h4⟩:=Qm hf;injection h4 with h4 h5;subst h4 h5;obtain⟨a,e1,_⟩:=R.own i x0 (zab h0) hi';refine⟨_,e1,F,O,s,p.1,p.2,R,h1,fun vs H1 S1 R1 rs=>?_⟩;obtain⟨b,e2,L⟩:=R1.own i t0 (zab h2) hi';rw[e1] at e2;injection e2 with e2;injection e2 with e2;injection e2 with e2;subst e2;have oa:=R1.ow i a hi' e1
 try dsimp only
 rw[Qt];refine⟨Free F O,a,vs,t0,p.1,w.1,w.2,by rw[jp,hn _ _ _ h1],rfl,fun z=>z.1 oa,L,rs,h3,fun v H2 c=>?_⟩
 obtain⟨c1,c2⟩:=c.res;have S2:Step σ M H1 H2:=⟨fun b o n e=>c.keep b o (fun z=>n i hi' (z▸e1)) e,c.dom⟩;have fr:∀ b,(b≠a/\(Free F O b∨H1 b=none))->Free F O b:=fun b z=>R1.freeNew z.2;have kf:∀ b u,Free F O b->H1 b=some u->H2 b=some u:=fun b u z e=>c.keep b u (fun y=>z.1 (y▸oa)) e;have hl:i < p.2.length:=(j7.mp (zab h2)).1;refine q v H2 (S1.trans S2) ⟨?_,c1.mono fr fun _ _ _ e=>e⟩;refine⟨by rw[Qd]; exact R1.len,fun j t e' n=>?_,fun j t e' n=>?_,R1.ow,R1.dis,fun b u n e=>?_,fun b e=>R1.dom b (c.dom b e),R1.fresh,R1.inD,fun b z e=>R1.al b z (c.dom b e)⟩
 ·have hij:i≠j:=fun z=>n (z▸hi');rw[jo hij] at e';obtain⟨v,h1,h2⟩:=R1.val j t e' n;exact⟨v,h1,h2.mono (fun _ c=>c) kf⟩
 ·by_cases hij:i=j
  ·subst hij;rw[jU hl] at e';injection e' with e';injection e' with e';subst e';exact⟨a,e1,c2.mono fr (fun _ _ _ e=>e) fun _ e=>e⟩
  ·rw[jo hij] at e';obtain⟨b,h1,h2⟩:=R1.own j t e' n;have hne:b≠a:=fun z=>hij (R1.dis i j a hi' n e1 (z▸h1));exact⟨b,h1,h2.mono (fun _ c=>c) kf fun u e=>c.keep b u hne e⟩
 ·refine c.keep b u (fun z=>?_) (R1.keep b u n e);subst z;rcases R1.fresh b oa with z |z
  ·exact n z
  ·rw[z] at e; cases e
theorem zrG{fn:List T->Option (T × T)}(hrk:rk=.e∨rk=.n)(hn:Ar fa np):∀ σ H Q,cE rk M (zgL fn f0 fa) σ H Q->zjI (spI rk (np+1) fn) [] E0 (zey (cE .n M f0) (cA M fa)) σ H Q:=by
 intro σ H Q h_;refine cE_ h_ fun F O s t s' R hf q=>?_;obtain⟨p,h1,hf⟩:=Qb hf;obtain⟨w,h2,hf⟩:=Qb hf;obtain⟨u,h3,h4⟩:=Qm hf;injection h4 with h4 h5;subst h4 h5;refine⟨F,O,s,p.1,p.2,R,h1,fun v0 H1 S1 p1=>?_⟩;obtain⟨a,rfl,ha,R1,L⟩:=p1;refine⟨F,_,p.2,w.1,w.2,R1,h2,fun vs H2 S2 R2 rs=>?_⟩;have na:∀(j:Nat),j∈M->σ[j]?≠some (some (.ref a)):=fun j hj e=>R.al a (R.ow j a hj e) ha;have L2:Live (Free F (fun b=>O b∨b=a)) H2 a p.1:=L.mono (fun _ c=>c) (fun b o c e=>S2.keep b o (R1.notOwned c.1) e) fun o e=>S2.keep a o na e
 try dsimp only
 rw[Qt];refine⟨Free F (fun b=>O b∨b=a),a,vs,p.1,w.1,u.1,u.2,by rw[jp,hn _ _ _ h2],rfl,fun z=>z.1 (.inr rfl),L2,rs,h3,fun v H3 c=>?_⟩
 have S:Step σ M H H3:=⟨fun b o n e=>c.keep b o (za9 e ha) ((S1.trans S2).keep b o n e),fun b e=>(S1.trans S2).dom b (c.dom b e)⟩;have RO:Rel F O M w.2 σ H2:=R2.less (fun b z=>.inl z) R.ow R.inD
 -- all but a is kept; a is nobody's
 have k3:∀ b o,b≠a->H2 b=some o->H3 b=some o:=fun b o n e=>c.keep b o n e;have fa':∀ b,Free F (fun b=>O b∨b=a) b->Free F O b:=fun b z=>z.weak fun b y=>.inl y;have R3:Rel F (fun b=>O b∨b=a) M w.2 σ H3:=by
  refine⟨R2.len,fun i t e n=>?_,fun i t e n=>?_,R2.ow,R2.dis,fun b o n e=>?_,fun b e=>R2.dom b (c.dom b e),R2.fresh,R2.inD,fun b z e=>R2.al b z (c.dom b e)⟩
  ·obtain⟨v,h1,h2⟩:=R2.val i t e n;exact⟨v,h1,h2.mono (fun _ c=>c) fun b o z e=>k3 b o (fun y=>z.1 (.inr y)) e⟩
  ·obtain⟨b,h1,h2⟩:=R2.own i t e n;exact⟨b,h1,h2.mono (fun _ c=>c) (fun b o z e=>k3 b o (fun y=>z.1 (.inr y)) e) fun o e=>k3 b o (fun z=>na i n (z▸h1)) e⟩
  ·refine k3 b o (fun z=>?_) (R2.keep b o n e);subst z;have:=R.dom b ha;rw[this] at e; cases e
 have R3O:Rel F O M w.2 σ H3:=R3.less (fun b z=>.inl z) R.ow R.inD;have frn:∀ b,(b≠a/\(Free F (fun b=>O b∨b=a) b∨H2 b=none))->Free F O b:=fun b z=>z.2.elim (fa' b) fun y=>⟨fun x=>RO.al b x y,.inr (RO.dom b y)⟩;rcases hrk with rfl |rfl
 ·exact q v H3 S ⟨R3O,c.res.1.mono frn fun _ _ _ e=>e⟩
 ·obtain⟨r,rfl,hr,c1,_⟩:=c.res;have nr:∀ b,Free F O b/\H2 b≠none->Free F (fun b=>O b∨b=r) b:=fun b z=>⟨fun y=>y.elim z.1.1 fun y=>z.2 (y▸hr),z.1.2⟩;refine q _ H3 S ⟨r,rfl,S1.dom r (S2.dom r hr),?_,c1.mono (fun b z=>?_) (fun _ _ _ e=>e) fun _ e=>e⟩
  ·refine⟨R2.len,fun i t e n=>?_,fun i t e n=>?_,fun i b hi e=>.inl (R.ow i b hi e),R2.dis,R3.keep,R3.dom,fun b z=>?_,fun b z=>.inl (R.inD b z),fun b z=>?_⟩
   ·obtain⟨v,h1,h2⟩:=R2.val i t e n;exact⟨v,h1,h2.there.mono (fun b z=>nr b ⟨fa' b z.1,z.2⟩) fun b o z e=>k3 b o (fun y=>z.1.1 (.inr y)) e⟩
   ·obtain⟨b,h1,h2⟩:=R2.own i t e n;exact⟨b,h1,h2.there.mono (fun b z=>nr b ⟨fa' b z.1,z.2⟩) (fun b o z e=>k3 b o (fun y=>z.1.1 (.inr y)) e) fun o e=>k3 b o (fun z=>na i n (z▸h1)) e⟩
   ·rcases z with z |z
    ·exact RO.fresh b z
    ·subst z; exact .inr (RO.dom _ hr)
   ·rcases z with z |z
    ·exact R3O.al b z
    ·subst z; exact c1.ne
  ·have:=frn b z.1;exact⟨fun y=>y.elim this.1 z.2,this.2⟩
end
def S1E(r:List V->Hp->VK->Prop)(g:T->Option T):Prop:=∀(C:js->Prop) (H:Hp) x tx t (Q:VK),BRep C H x tx->g tx=some t->(∀ v,Rep C H v t->Q v H)->r [x] H Q
def S1N(r:List V->Hp->VK->Prop)(g:T->Option T):Prop:=∀(C:js->Prop) (H:Hp) x tx t (Q:VK),BRep C H x tx->g tx=some t->
 (∀ p o,H p=none->(∀ C':js->Prop,(∀ b,C b/\H b≠none->C' b)->Live C' (upd H p o) p t)->Q (.ref p) (upd H p o))->r [x] H Q
def d1(g:T->Option T)(f:DE):DE:=fun s=>(f s).bind fun p=>(g p.1).map fun t=>(t,p.2)
section
variable {f:DE}
theorem zn3{r:List V->Hp->VK->Prop}{g:T->Option T}(h:S1E r g):∀ σ H Q,cE .e M (d1 g f) σ H Q->tCB r (zey (cE .b M f) zod) σ H Q:=by
 intro σ H Q h_;refine cE_ h_ fun F O s t s' R hf q=>?_;obtain⟨p,h1,h2⟩:=Qb hf;obtain⟨t',h3,h4⟩:=Qm h2;injection h4 with h4 h5;subst h4 h5;exact⟨F,O,s,p.1,p.2,R,h1,fun v H1 S1 p1=>h (Free F O) H1 v p.1 t' Q p1.view h3 fun w rw=>q w H1 S1 ⟨p1.1,rw⟩⟩
theorem zw2{r:List V->Hp->VK->Prop}{g:T->Option T}(h:S1N r g):∀ σ H Q,cE .n M (d1 g f) σ H Q->tCB r (zey (cE .b M f) zod) σ H Q:=by
 intro σ H Q h_;refine cE_ h_ fun F O s t s' R hf q=>?_;obtain⟨p,h1,h2⟩:=Qb hf;obtain⟨t',h3,h4⟩:=Qm h2;injection h4 with h4 h5;subst h4 h5;exact⟨F,O,s,p.1,p.2,R,h1,fun v H1 S1 p1=>h (Free F O) H1 v p.1 t' Q p1.view h3 fun a o ha L=>q _ _ (S1.trans (.new ha o)) (.mkN R p1.1 S1 ha L)⟩
end
theorem CallR.or{X:Cx}{f:j8}{r r':List V->Hp->VK->Prop}(h:CallR X f r)(h':CallR X f r'):CallR X f (fun xs H Q=>r xs H Q∨r' xs H Q):=by
 intro pc s σ H xs us Q I rv q;rcases q with q |q
 ·exact h pc s σ H xs us Q I rv q
 ·exact h' pc s σ H xs us Q I rv q
theorem znR{X:Cx}:CallR X (.builtin "len") (fun xs H Q=>∃ a kvs,xs=[V.ref a]/\Rd H a (.dK kvs)/\Q (.int kvs.length) H):=by
 intro pc s σ H xs us Q I r h;obtain⟨a,kvs,rfl,ha,q⟩:=h;obtain⟨u,rfl,ru⟩:=zm9 r;cases ru;exact zwv I ha fun t s' I'=>⟨.int kvs.length,H,I',⟨t,rfl⟩,q⟩
def zdo:T->Option T
 |.lst xs=>some (.int xs.length) |.tup xs=>some (.int xs.length) |.scr xs=>some (.int xs.length) |.dct xs=>some (.int xs.length) |.fd xs=>some (.int xs.length)
 |.str x=>if x.length<=jr then some (.int x.length) else none
 |_=>none
theorem zvA:S1E (fun xs H Q=>((∃ p ys,xs=[.ref p]/\(SqL TheK.K H p ys∨SqT TheK.K H p ys)/\Q (.int ys.length) H)∨(∃ z,xs=[.str z]/\z.length<=jr/\Q (.int z.length) H))∨∃ a kvs,xs=[V.ref a]/\Rd H a (.dK kvs)/\Q (.int kvs.length) H) zdo:=by
 intro C H x tx t Q bx hg q;cases tx with
 |lst ts=>
  injection hg with hg; subst hg;obtain⟨a,vs,rfl,ha,ra⟩:=bx.lst;exact .inl (.inl ⟨a,vs,rfl,.inl (SqL.of ha),by rw[ra.1]; exact q _ (.int _)⟩)
 |tup ts=>
  injection hg with hg; subst hg;obtain⟨a,vs,rfl,ha,ra⟩:=bx.tup;exact .inl (.inl ⟨a,vs,rfl,.inr (SqT.of ha),by rw[ra.1]; exact q _ (.int _)⟩)
 |scr ns=>
  injection hg with hg; subst hg;obtain⟨a,rfl,ha⟩:=bx.scr;exact .inl (.inl ⟨a,_,rfl,.inl ha,by rw[j6]; exact q _ (.int _)⟩)
 |dct ks=>
  injection hg with hg; subst hg;obtain⟨a,kvs,rfl,ha,ra⟩:=bx.dct;exact .inr ⟨a,kvs,rfl,.inl ha,by rw[ra.len]; exact q _ (.int _)⟩
 |fd ks=>
  injection hg with hg; subst hg;obtain⟨a,ob,kvs,rfl,ha,ra,_⟩:=bx.fd;exact .inr ⟨a,kvs,rfl,.inr ⟨ob,ha⟩,by rw[ra.len]; exact q _ (.int _)⟩
 |str z=>
  have hg:(if z.length<=jr then some (T.int z.length) else none)=some t:=hg
  split at hg
  ·rename_i hl;injection hg with hg; subst hg;exact .inl (.inr ⟨z,by rw[bx.str],hl,q _ (.int _)⟩)
  ·cases hg
 |_=>cases hg
def zwm:T->Option T
 |.lst xs=>some (.lst xs) |.tup xs=>some (.lst xs) |.scr ns=>some (.lst (ns.map .int))
 |_=>none
theorem zmw:S1N (fun xs H Q=>∃ p ys,xs=[.ref p]/\(SqL TheK.K H p ys∨SqT TheK.K H p ys)/\∀ l,H l=none->Q (.ref l) (upd H l (.lst ys))) zwm:=by
 intro C H x tx t Q bx hg q;cases tx with
 |lst ts=>
  injection hg with hg; subst hg;obtain⟨a,vs,rfl,ha,ra⟩:=bx.lst;exact⟨a,vs,rfl,.inl (SqL.of ha),fun p hp=>q p _ hp fun C' hC=>.lst zah (ra.there.mono hC fun c o _ e=>by rw[za8 (za9 e hp)]; exact e)⟩
 |tup ts=>
  injection hg with hg; subst hg;obtain⟨a,vs,rfl,ha,ra⟩:=bx.tup;exact⟨a,vs,rfl,.inr (SqT.of ha),fun p hp=>q p _ hp fun C' hC=>.lst zah (ra.there.mono hC fun c o _ e=>by rw[za8 (za9 e hp)]; exact e)⟩
 |scr ns=>
  injection hg with hg; subst hg;obtain⟨a,rfl,ha⟩:=bx.scr;exact⟨a,_,rfl,.inl ha,fun p hp=>q p _ hp fun C' hC=>.lst zah (zdB _)⟩
 |_=>cases hg
def isi(c:String):T->Option Bool
 |.non=>some (c == "NoneType") |.bl _=>some (c == "bool"||c == "int") |.int _=>some (c == "int") |.str _=>some (c == "str")
 |.lst _=>some (c == "list") |.tup _=>some (c == "tuple") |.dct _=>some (c == "dict")
 |_=>none
def zpJ(c:String)(f:DE):DE:=d1 (fun t=>(isi c t).map .bl) f
def zuC(c:String):Bool:=["NoneType","bool","int","str","list","tuple","dict"].contains c
theorem ztO{K:jb}{C:js->Prop}{H:Hp}{v:V}{t:T}{c:String}{b:Bool}(hc:zuC c=true)(h:BRep C H v t)(e:isi c t=some b):∃ ty,TyOf K H v ty/\NX K ty (.type c)=some b:=by
 have hc':c="NoneType"∨c="bool"∨c="int"∨c="str"∨c="list"∨c="tuple"∨c="dict":=by simpa[zuC] using hc
 cases t with
 |non=>obtain rfl:=h.non; injection e with e; subst e; refine⟨_,.non,?_⟩; rcases hc' with rfl |rfl |rfl |rfl |rfl |rfl |rfl<;>rfl
 |bl x=>obtain rfl:=h.bl; injection e with e; subst e; refine⟨_,.bl x,?_⟩; rcases hc' with rfl |rfl |rfl |rfl |rfl |rfl |rfl<;>rfl
 |int x=>obtain rfl:=h.int; injection e with e; subst e; refine⟨_,.int x,?_⟩; rcases hc' with rfl |rfl |rfl |rfl |rfl |rfl |rfl<;>rfl
 |str x=>obtain rfl:=h.str; injection e with e; subst e; refine⟨_,.str x,?_⟩; rcases hc' with rfl |rfl |rfl |rfl |rfl |rfl |rfl<;>rfl
 |lst ts=>
  obtain⟨a,vs,rfl,ha,ra⟩:=h.lst;injection e with e; subst e; refine⟨_,.lst ha,?_⟩; rcases hc' with rfl |rfl |rfl |rfl |rfl |rfl |rfl<;>rfl
 |tup ts=>
  obtain⟨a,vs,rfl,ha,ra⟩:=h.tup;injection e with e; subst e; refine⟨_,.tup ha,?_⟩; rcases hc' with rfl |rfl |rfl |rfl |rfl |rfl |rfl<;>rfl
 |dct ts=>
  obtain⟨a,vs,rfl,ha,ra⟩:=h.dct;injection e with e; subst e; refine⟨_,.dK ha,?_⟩; rcases hc' with rfl |rfl |rfl |rfl |rfl |rfl |rfl<;>rfl
 |scr ns=>cases e
 |set=>cases e
 |fd=>cases e
 |any=>cases e
theorem zwb{M:List Nat}{f:DE}{K:jb}{c:String}(hc:zuC c=true):∀ σ H Q,cE .e M (zpJ c f) σ H Q->tCB (zwX K) (zey (cE .b M f) (zey (tC (.ty c)) zod)) σ H Q:=by
 intro σ H Q h_;refine cE_ h_ fun F O s t s' R hf q=>?_;obtain⟨p,h1,h2⟩:=Qb hf;obtain⟨t',h3,h4⟩:=Qm h2;obtain⟨b,h5,h6⟩:=Qm h3;injection h4 with h4 h7;subst h4 h7 h6;refine⟨F,O,s,p.1,p.2,R,h1,fun v H1 S1 p1=>?_⟩;obtain⟨ty,g1,g2⟩:=ztO (K:=K) hc p1.view h5;exact⟨v,c,ty,b,rfl,g1,g2,q _ H1 S1 ⟨p1.1,.bl b⟩⟩
def zhA:List T->Option (List Str)
 |[]=>some []
 |.str x::ts=>(zhA ts).map fun r=>x::r
 |_=>none
theorem zhz{C:js->Prop}{H:Hp}:∀ {vs:List V} {ts:List T} {ys:List Str},Reps C H vs ts->zhA ts=some ys->vs=ys.map V.str
 |[],[],ys,_,e=>by injection e with e; subst e; rfl
 |v::vs,[],ys,h,_=>by have:=h.1; simp at this
 |[],t::ts,ys,h,_=>by have:=h.1; simp at this
 |v::vs,t::ts,ys,h,e=>by
  cases t with
  |str x=>
   obtain⟨r,h1,h2⟩:=Qm (show (zhA ts).map (fun r=>x::r)=some ys from e);subst h2;rw[jt,zhz h.tail h1,BRep.str (.inl h.head)]
  |_=>cases e
theorem zpM{x:V}:∀ {ys:List V} {us:List j8},Vals ys us->ys.all zfi=true->us.countP (eqU x)=ys.countP fun y=>eqV y x
 |[],_,.nil,_=>rfl
 |y::ys,u::us,.cons r t,h=>by
  rw[Yb,jL] at h;rw[J9,J9,zpM t h.2,znC r h.1]
def zjP:V->List V->Hp->VK->Prop:=fun x vs H Q=>∃(l:js) (ys:List V) (z:V),x=.ref l/\vs=[z]/\zfi z=true/\ys.all zfi=true/\H l=some (.lst ys)/\Q (.int (ys.countP (fun y=>eqV y z):Nat)) H
theorem znc{X:Cx}:MtR X "list.count" zjP:=by
 intro pc s sg H x vs v us Q I rx rv h;obtain⟨l,ys,z,rfl,rfl,fz,fy,hH,q⟩:=h;cases rx;obtain⟨u,rfl,ru⟩:=rv.one;obtain⟨its,n,r,e,hz⟩:=I.lst hH;refine WG F.slot_list_count ⟨_,e,rfl⟩ F.entry_list_count (F.args_list_count_2 _ _) (SeqAt.list_countAt l its.toArray n none #[] u (eqU z)) ⟨e,fun w hw=>zfW ru fz r fy w (by simpa using hw),?_⟩
 refine⟨.int (ys.countP (fun y=>eqV y z):Nat),H,I.tok _,⟨s.toks,?_⟩,q⟩;rw[List.toList_toArray,zpM r fy]
def zho(x y:T):Option T:=match x with
 |.lst ts=>(zkB ts).bind fun vs=>(toV y).map fun v=>.int (vs.countP (fun u=>eqV u v):Nat)
 |_=>none
def S2M(r:V->List V->Hp->VK->Prop)(g:T->T->Option T):Prop:=∀(C:js->Prop) (H:Hp) x y tx ty t (Q:VK),BRep C H x tx->BRep C H y ty->g tx ty=some t->(∀ v,Rep C H v t->Q v H)->r x [y] H Q
def d2L(g:T->T->Option T)(fa fb:DE):DE:=fun s=>(fa s).bind fun p=>if znn p.1 then (fb p.2).bind fun q=>(g p.1 q.1).map fun t=>(t,q.2) else none
theorem zxS{M:List Nat}{fa fb:DE}{K:jb}{r:V->List V->Hp->VK->Prop}{g:T->T->Option T}(h:S2M r g):∀ σ H Q,cE .e M (d2L g fa fb) σ H Q->tBM K "list" r (cE .e M fa) (zey (cE .b M fb) zod) σ H Q:=by
 intro σ H Q h_;refine cE_ h_ fun F O s t s' R hf q=>?_;obtain⟨p,h1,h2⟩:=Qb hf;split at h2
 ·rename_i hl;obtain⟨w,h3,h4⟩:=Qb h2;obtain⟨t',h5,h6⟩:=Qm h4;injection h6 with h6 h7;subst h6 h7;refine⟨F,O,s,p.1,p.2,R,h1,fun v H1 S1 pa=>?_⟩;have ty:tyV K "list" v H1:=by
   obtain⟨ts,e⟩:∃ ts,p.1=.lst ts:=by cases e:p.1<;>first |exact⟨_,rfl⟩ |(rw[e] at hl; cases hl)
   have pr:=pa.2;rw[e] at pr;obtain⟨a,vs,rfl,ha,ra⟩:=BRep.lst (.inl pr);exact .inl ⟨rfl,_,SqL.of ha⟩
  refine⟨ty,F,O,p.2,w.1,w.2,pa.1,h3,fun u H2 S2 pb=>?_⟩;exact h (Free F O) H2 v u p.1 w.1 t' Q (.inl (pa.1.stay S2 pa.2)) pb.view h5 fun x rx=>q x H2 (S1.trans S2) ⟨pb.1,rx⟩
 ·cases h2
theorem zqm:S2M zjP zho:=by
 intro C H x y tx ty t Q bx by' hg q;obtain⟨ts,rfl⟩:∃ ts,tx=.lst ts:=by cases tx<;>first |exact⟨_,rfl⟩ |cases hg
 obtain⟨vs,h1,h2⟩:=Qb (show ((zkB ts).bind fun vs=>(toV ty).map fun v=>T.int (vs.countP (fun u=>eqV u v):Nat))=some t from hg);obtain⟨v,h3,rfl⟩:=Qm h2;obtain⟨a,us,rfl,ha,ra⟩:=bx.lst;obtain⟨e1,e2⟩:=zjG ra h1;obtain⟨e3,e4⟩:=zmj by' h3;subst e1 e3;exact⟨a,_,_,rfl,rfl,e4,e2,ha,q _ (.int _)⟩
end L3
namespace L2
open PySem PySem.Spec PyProof.Rows
variable {X:Cx}{s:jc}{P:jH}{w:Qf}{A:Qg}{E:j8->jc->Prop}
section
theorem zjF{P:jH}{w:Qf}{A:Qg}{its:Array j8}{bs:List Bool}(r:Vals (bs.map V.bl) its.toList):TruthOf P w A (fun i v=>its[i]?=some v) (fun i=>bs.getD i false):=by
 intro i v s Q E hP hQ;have hi:i < its.size:=(Yo.mp hP).1;have hl:bs.length=its.size:=by have:=r.length; simpa using this
 obtain⟨u,h1,h2⟩:=r.get (i:=i) (x:=.bl (bs[i]'(by lia))) (by rw[jg,j3 (by lia)]; rfl)
 rw[gX,hP] at h1;cases h1;cases h2;refine Zs ?_;have e:bs.getD i false=bs[i]'(by lia):=by rw[jy,j3 (by lia)]; rfl
 rw[<-e];exact hQ
theorem zp7(bs:List Bool):(j5 bs.length).all (fun i=>bs.getD i false)=bs.all id:=by
 rw[Zd,jx,jx];constructor
 ·intro h b hb;obtain⟨i,hi,rfl⟩:=QC hb;have:=h i (ji.mpr hi);rw[jy,j3 hi] at this;exact this
 ·intro h i hi;have hi':=ji.mp hi;rw[jy,j3 hi'];exact h _ (Q5 hi')
theorem Inv.walked{pc:List (js × Obj)}{σ:St}{H:Hp}{s:jc}{o:Obj}{h':QL}{tk:Nat}(I:Inv X pc σ H s)(k:∀ b u,b∉[s.heap.objs.size]->(s.heap.push o).get? b=some u->h'.get? b=some u):Inv X pc σ H { s with heap:=h',toks:=tk }:=
 I.kept fun b u e=>k b u (fun hm=>by
  have h1:=jj e;have h2:b=s.heap.objs.size:=by simpa using hm
  exact absurd (h2▸h1) (jZ _)) (ja _ e)
theorem zp0(hc:X.calm=true):CallR X (.builtin "all") (fun xs H Q=>∃(a:js) (bs:List Bool),xs=[V.ref a]/\SqL X.K H a (bs.map V.bl)/\Q (.bl (bs.all id)) H):=by
 intro pc s σ H xs us Q I rv h;obtain⟨a,bs,rfl,hq,q⟩:=h;obtain⟨u,rfl,ru⟩:=rv.one;cases ru;obtain⟨its,r,p,hz⟩:=I.list hq;have hh:X.A.in1.handled=none:=I.ok.hd hc;have ne:a≠s.heap.objs.size:=by obtain⟨o,n,e,_⟩:=p; exact jC (jj e)
 refine call_all_walk (gO p.isList ⟨_,_,_,_,_,_,_,rfl,Walks.list hh _ a ne its.toArray,⟨⟨_,jG _ rfl,rfl,rfl⟩,p.isList.at fun o e=>ja _ e⟩,zjF (by simpa using r),fun h' tk k=>?_⟩)
 have hl:=r.length;rw[j6] at hl;refine⟨.bl (bs.all id),H,I.walked k,?_,q⟩;rw[jh,<-hl,zp7]; rfl
end
section
variable {pc:List (js × Obj)}{σ:St}{H:Hp}{a:js}{kvs:List (Key × V)}
theorem Inv.known(I:Inv X pc σ H s)(e:H a=some (.dK kvs)):∃ o,Inv X pc σ (upd H a (.frz o (.dK kvs))) s:=by
 obtain⟨z,hd,vs,rel,o,es,ep,ho,r⟩:=zrt I.hok e;refine⟨o,?_⟩;have ne:∀ {b:js},H b=none->b≠a:=fun {b} hb z=>by rw[z,e] at hb; cases hb
 refine⟨I.ok,I.os,I.bare,⟨fun b ob hb n1 n2 n3=>I.base.keep b ob hb n1 n2 n3,fun b ob hb n1 n2 n3=>I.base.slot b ob hb n1 n2 n3,fun b ob hb n1 n2=>?_,fun b ob hb n1=>I.base.there b ob hb n1,fun b xs hb=>?_,fun b ob u hb=>?_,fun b ps hb=>?_⟩,I.loc,I.cell,?_,fun x c hc=>?_,fun p hp=>?_,fun b u hb=>?_,I.len⟩
 ·have:=I.base.free b ob hb n1 n2;rw[za8 (ne this)]; exact this
 ·have:=I.base.tups b xs hb;have hne:b≠a:=fun z=>by rw[z,e] at this; cases this
  rw[za8 hne]; exact this
 ·have:=I.base.frzs b ob u hb;have hne:b≠a:=fun z=>by rw[z,e] at this; cases this
  rw[za8 hne]; exact this
 ·obtain⟨more,this⟩:=I.base.tbls b ps hb;have hne:b≠a:=fun z=>by rw[z,e] at this; cases this
  exact⟨more,by rw[za8 hne]; exact this⟩
 ·rw[za8 (ne I.free)]; exact I.free
 ·have:=I.freeC x c hc;rw[za8 (ne this)]; exact this
 ·obtain⟨p1,p2,p3⟩:=I.pin p hp;exact⟨p1,by rw[za8 (ne p2)]; exact p2,p3⟩
 ·by_cases hba:b=a
  ·subst hba;rw[zah] at hb;cases hb;exact⟨ho,z,hd,vs,rel,o,es,ep,ho,r⟩
  ·rw[za8 hba] at hb;refine(I.hok b u hb).stay (fun c v _ q=>q) (fun c q=>?_) fun c xs q=>?_
   ·have hne:c≠a:=fun z=>by rw[z,e] at q; cases q
    rw[za8 hne]; exact q
   ·have hne:c≠a:=fun z=>by rw[z,e] at q; cases q
    rw[za8 hne]; exact q
end
def Itd(f:Key × V->V)(a:js)(o:Obj):It:=
 ⟨fun i H=>∃ kvs x,H a=some (.frz o (.dK kvs))/\kvs[i]?=some x,fun i H x H'=>H'=H/\∀ kvs,H a=some (.frz o (.dK kvs))->(kvs[i]?).map f=some x,fun i H=>∃ kvs,H a=some (.frz o (.dK kvs))/\kvs.length<=i⟩
theorem zi4{X:Cx}{pc:List (js × Obj)}{σ:St}{H:Hp}{s:jc}{a:js}{o:Obj}{kvs:List (Key × V)}(I:Inv X pc σ H s)(e:H a=some (.frz o (.dK kvs))) :
  ∃ vs es ep,KV kvs vs/\s.heap.DictAt (zb6 X.prog X.w) a vs ep/\o.data=.dict es ep/\es.size=vs.length/\(a == ZJ)=false:=by
 obtain⟨ho,z,hd,vs,rel,o',es,ep,ho',c,d,k,p,n⟩:=(show ObjOk X.prog X.w H s.heap a (.frz o (.dK kvs)) from I.hok a _ e);rw[ho] at ho';cases ho';exact⟨vs,es,ep,rel,⟨o,es,ho,c,d,k,p,n⟩,d,by rw[<-p.length]; simp,hd⟩
theorem zmi{P:jH}{w:Qf}{K:jb}{tg:Q4}(a it:js)(o:Obj):Turn P w K tg (Itd (fun kv=>kV kv.1) a o) [it] it (fun i h=>∃ n ep es,h.IsKeyIter it a i n ep/\o.data=.dict es ep/\es.size=n) where
 mem:=by simp
 obj:=fun i h st b hb=>by
  have e:b=it:=by simpa using hb
  subst e;obtain⟨n,ep,es,⟨o',e,c,d⟩,_⟩:=st;exact⟨o',e,fun v z=>by rw[d] at z; cases z⟩
 keep:=fun i h h' ⟨n,ep,es,st,r⟩ k=>⟨n,ep,es,st.at fun o e=>k it (by simp) o e,r⟩
 item:=by
  intro X hP hw hK hc i pc s σ H E I hf st hg;subst hP hw hK;obtain⟨kvs,x,hq,hx⟩:=hg;obtain⟨n,ep,es,st,d1,d2⟩:=st;obtain⟨vs,es',ep',rel,da,d3,d4,hd⟩:=zi4 I hq;rw[d1] at d3;cases d3;obtain⟨y,hy,y1,y2⟩:=zpw rel hx;obtain⟨f0,f1,f2,f3,f4,f5⟩:=hf it (by simp)
  rw[<-d2,d4] at st;refine wpAny_pyNext_dict_item st da (k:=y.1) (v:=y.2) hy fun key h' hkey st' sb=>?_;have I1:Inv X pc σ H { s with heap:=h' }:=I.turned (t':=s.toks) (fun b o hb e=>(sb.2 b hb).trans e) f0 f1 f3 f4 f5;obtain⟨o',e,c,d⟩:=id st';refine⟨key,rfl,znr (s:={ s with heap:=h' }) e c d (by decide) ⟨kV x.1,H,I1,y1▸zmz hkey,⟨rfl,fun kvs' h'=>?_⟩,⟨_,ep,es,st',d1,d4⟩,fun b hb=>(hf b hb).1⟩⟩
  rw[hq] at h';cases h';rw[hx]; rfl
 done:=by
  intro X hP hw hK hc i pc s σ H E I hf st hg;subst hP hw hK;obtain⟨kvs,hq,hx⟩:=hg;obtain⟨n,ep,es,st,d1,d2⟩:=st;obtain⟨vs,es',ep',rel,da,d3,d4,hd⟩:=zi4 I hq;rw[d1] at d3;cases d3;obtain⟨f0,f1,f2,f3,f4,f5⟩:=hf it (by simp)
  have hl:=rel.length;rw[<-d2,d4] at st;exact wpAny_pyNext_dict_end (I.ok.hd hc) st da (by rw[YC]; lia) fun h' eb=>⟨rfl,I.turned (t':=s.toks) (fun b o hb e=>eb b o hb e) f0 f1 f3 f4 f5⟩
 self:=fun _ _ _ _ _ ⟨_,_,_,st,_⟩ h=>wpAny_pyIter_keyiter st h
def zwi(tl:TE):TI:=fun σ H R=>tl σ H fun x H1=>∃ a o kvs,x=.ref a/\H1 a=some (.frz o (.dK kvs))/\R (Itd (fun kv=>kV kv.1) a o) H1
theorem zqQ{X:Cx}{tg l:Q4}{tl:TE}(hl:PE X l tl):PI X tg l (zwi tl):=by
 intro pc s σ H R I h;refine thn (hl pc s σ H _ I h) fun v s1 h_=>?_; obtain⟨x,H1,I1,r1,q1⟩:=h_;obtain⟨a,o,kvs,e,hq,q⟩:=q1;subst e;cases r1;obtain⟨vs,es,ep,rel,da,d3,d4,hd⟩:=zi4 I1 hq;refine wpAny_pyIter_dict hd da ?_;refine⟨s1.heap.objs.size,[s1.heap.objs.size],_,_,H1,rfl,I1.kept (t':=s1.toks) fun b o e=>ja _ e,zmi a _ o,⟨_,ep,es,⟨_,jG _ rfl,rfl,rfl⟩,d3,d4⟩,fun b hb=>?_,q⟩;have e:b=s1.heap.objs.size:=by simpa using hb
 subst e;exact I1.fpOk (jm _) (I1.hok.fresh (jm _))
def Its(x:Str):It:=⟨fun i _=>i < x.cps.size,fun i H v H'=>H'=H/\∃ c,x.cps[i]?=some c/\v=.str ⟨#[c]⟩,fun i _=>x.cps.size<=i⟩
theorem ziA{P:jH}{w:Qf}{K:jb}{tg:Q4}(it:js)(x:Str)(t:Tok)(n:String)(hn:n="str_ascii_iterator"∨n="str_iterator"):Turn P w K tg (Its x) [it] it (fun i h=>h.IsStrIter it n x t i) where
 mem:=by simp
 obj:=fun i h st b hb=>by
  have e:b=it:=by simpa using hb
  subst e;obtain⟨o,e,c,d⟩:=st;exact⟨o,e,fun v z=>by rw[d] at z; cases z⟩
 keep:=fun i h h' st k=>let ⟨o,ho,r⟩:=st; ⟨o,k it (by simp) o ho,r⟩
 item:=by
  intro X hP hw hK hc i pc s σ H E I hf st hg;subst hP hw hK;obtain⟨f0,f1,f2,f3,f4,f5⟩:=hf it (by simp)
  have hg:i < x.cps.size:=hg;have fin:∀ h',h'.IsStrIter it n x t (i+1)->Qq it s.heap h'->∀ u,u=ZG ⟨#[x.cps[i]]⟩ s.toks->∃ u',some u=some u'/\jI (jM X.prog X.w) X.A (ZP tg (.ref it) u') (fun _ s2=>∃ y H',Inv X pc σ H' s2/\RelV y u'/\(Its x).yld i H y H'/\s2.heap.IsStrIter it n x t (i+1)/\∀ b∈[it],H' b=none) E { s with heap:=h',toks:=s.toks+1 }:=by
   intro h' st' sb u hu;have I1:Inv X pc σ H { s with heap:=h',toks:=s.toks+1 }:=I.turned (fun b o hb e=>(sb.2 b hb).trans e) f0 f1 f3 f4 f5;obtain⟨o',e,c,d⟩:=id st';refine⟨u,rfl,znr (s:={ s with heap:=h',toks:=s.toks+1 }) e c d (by rcases hn with rfl |rfl<;>decide) ⟨.str ⟨#[x.cps[i]]⟩,H,I1,⟨_,hu⟩,⟨rfl,_,by simp[hg],rfl⟩,st',fun b hb=>(hf b hb).1⟩⟩
  rcases hn with rfl |rfl
  ·exact wpAny_pyNext_ascii_item st (c:=x.cps[i]) (by simp[hg]) fun h' st' sb=>fin h' st' sb _ rfl
  ·exact wpAny_pyNext_wide_item st (c:=x.cps[i]) (by simp[hg]) fun h' st' sb=>fin h' st' sb _ rfl
 done:=by
  intro X hP hw hK hc i pc s σ H E I hf st hg;subst hP hw hK;obtain⟨f0,f1,f2,f3,f4,f5⟩:=hf it (by simp)
  have hg:x.cps.size<=i:=hg;rcases hn with rfl |rfl
  ·exact wpAny_pyNext_ascii_end (I.ok.hd hc) st (by simp[hg]) fun h' eb=>⟨rfl,I.turned (t':=s.toks) (fun b o hb e=>eb b o hb e) f0 f1 f3 f4 f5⟩
  ·exact wpAny_pyNext_wide_end (I.ok.hd hc) st (by simp[hg]) fun h' eb=>⟨rfl,I.turned (t':=s.toks) (fun b o hb e=>eb b o hb e) f0 f1 f3 f4 f5⟩
 self:=fun _ _ _ _ _ st h=>by
  rcases hn with rfl |rfl
  ·exact wpAny_pyIter_striter_ascii st h
  ·exact wpAny_pyIter_striter_wide st h
def zwe(tl:TE):TI:=fun σ H R=>tl σ H fun v H1=>∃ x,v=.str x/\R (Its x) H1
theorem zqN{X:Cx}{tg l:Q4}{tl:TE}(hl:PE X l tl):PI X tg l (zwe tl):=by
 intro pc s σ H R I h;refine thn (hl pc s σ H _ I h) fun v s1 h_=>?_; obtain⟨y,H1,I1,r1,q1⟩:=h_;obtain⟨x,e,q⟩:=q1;subst e;obtain⟨t,rfl⟩:=r1;have fp:∀ b∈[s1.heap.objs.size],zjz X pc H1 b:=fun b hb=>by
  have e:b=s1.heap.objs.size:=by simpa using hb
  subst e;exact I1.fpOk (jm _) (I1.hok.fresh (jm _))
 cases ha:x.cps.all (· < 128)
 ·exact wpAny_pyIter_wide ha ⟨s1.heap.objs.size,[s1.heap.objs.size],_,_,H1,rfl,I1.kept (t':=s1.toks) fun b o e=>ja _ e,ziA _ x t "str_iterator" (.inr rfl),⟨_,jG _ rfl,rfl,rfl⟩,fp,q⟩
 ·exact wpAny_pyIter_ascii ha ⟨s1.heap.objs.size,[s1.heap.objs.size],_,_,H1,rfl,I1.kept (t':=s1.toks) fun b o e=>ja _ e,ziA _ x t "str_ascii_iterator" (.inl rfl),⟨_,jG _ rfl,rfl,rfl⟩,fp,q⟩
theorem zgA:∀ {ss:List Int} {us:List j8},Vals (ss.map V.int) us->Jm us ss
 |[],_,.nil=>.nil
 |s::ss,_,.cons r t=>by obtain⟨t',rfl⟩:=r; exact .cons s t' (zgA t)
section
variable {R:JC->jc->Prop}{I:js}{fp wr:List js}{G:Array Y9->Array Y9->Prop}{n:Nat}{Pv:Nat->j8->Prop}{St:Nat->jc->Prop}
def IsSetS(P:jH)(w:Qf)(S:js)(l:List Str)(h:QL):Prop:=h.SetOf (strKind P w) S (fun q=>decide (q∈l)) l.length
theorem IsSetS.at{S:js}{l:List Str}{h h':QL}(x:IsSetS P w S l h)(k:∀ o,h.get? S=some o->h'.get? S=some o):IsSetS P w S l h':=by
 obtain⟨o,es,ep,t,e,r⟩:=x;exact⟨o,es,ep,t,k _ e,r⟩
theorem IsSetS.next{S:js}{l:List Str}{x:Str}{h:QL}(y:h.SetOf (strKind P w) S (fun q=>decide (q∈l)||decide (q=x)) (if decide (x∈l)=true then l.length else l.length+1)):IsSetS P w S (Dw.stp l x) h:=by
 have e1:(fun q=>decide (q∈l)||decide (q=x))=fun q=>decide (q∈Dw.stp l x):=by
  funext q
  unfold Dw.stp
  by_cases hx:x∈l
  ·rw[Ip_ hx]
   by_cases hq:q=x
   ·subst hq; simp[hx]
   ·simp[hq]
  ·rw[In_ hx,Zd]; simp
 have e2:(if decide (x∈l)=true then l.length else l.length+1)=(Dw.stp l x).length:=by
  unfold Dw.stp
  by_cases hx:x∈l
  ·rw[Ip_ hx,Ip_ (by simpa using hx)]
  ·rw[In_ hx,In_ (by simpa using hx),jk]; rfl
 rw[e1,e2] at y;exact y
theorem zhB:∀(l acc:List Str),(l.foldl Dw.stp acc).length<=acc.length+l.length
 |[],acc=>jm _
 |x::l,acc=>by
  rw[Zv];have:=zhB l (Dw.stp acc x);have h2:(Dw.stp acc x).length<=acc.length+1:=by
   unfold Dw.stp;split
   ·lia
   ·rw[jk]; exact jm _
  rw[jp];lia
theorem znz(W:WalksS P w A.in1 I fp wr G n Pv St)(S:js)(hS:S∉fp)(ss:List Str)(hn:ss.length=n)(hv:∀ i v x,Pv i v->ss[i]?=some x->∃ t,v=.str x t)(hb:n+1 < gD) :
  ∀(k i:Nat) (s:jc),n - i=k->i<=n->St i s->IsSetS P w S (Dw.za1 (ss.take i)) s.heap->(∀ s',Moved (S::wr) G s s'->IsSetS P w S (Dw.za1 ss) s'.heap->R (.ok (.ret .none)) s')->
   Yc (jM P w) A (.builtin "set.update.loop" ⟨[.ref S,.ref I],[]⟩) R s:=by
 have nw:S∉wr:=fun z=>hS (W.sub _ z);have up:∀ b∈wr,b∈S::wr:=fun b z=>.tail _ z;intro k
 induction k with
 |zero=>
  intro i s hk hi st hs q;obtain rfl:i=n:=by lia
  refine Nz N1 ?_;rw[NQ gE _];refine j4 (m:=NV (.ref I)) (W.done s _ _ st fun s' mv=>jq (q s' (mv.mono up) ?_));rw[Q0 (by lia)] at hs
  exact hs.at fun o e=>mv.heap S o nw e
 |succ k ih=>
  intro i s hk hi st hs q;have lt:i < n:=by lia
  obtain⟨x,hx⟩:∃ x,ss[i]?=some x:=⟨_,j3 (by lia)⟩
  refine Nz N1 ?_;rw[NQ gE _];refine j4 (m:=NV (.ref I)) (W.item i s _ _ lt st fun v s1 pv st1 mv=>?_);obtain⟨t,rfl⟩:=hv i v x pv hx;have hs1:=hs.at fun o e=>mv.heap S o nw e;have ky:(strKind P w).is x (.str x t)=true:=by show QM x (.str x t)=true; simp[QM]
  refine j4 (m:=Y1 [ZG x t] (setAdd S (.str x t))) (Qi ?_);unfold setAdd;refine Qi (j4 ((strKind P w).pyHash (k:=x) ky ?_));have fl:(Dw.za1 (ss.take i)).length<=i:=by
   have:=zhB (ss.take i) [];rw[Q9,ZR] at this;unfold Dw.za1;lia
  refine NA (knd:=strKind P w) (s:={ s1 with toks:=s1.toks+1 }) ky rfl hs1 (by lia) fun h2 sb hs2=>?_
  have hs3:=IsSetS.next hs2
  rw[<-Dw.zkj hx] at hs3;refine jq ⟨plainId_quiet gE _,ih (i+1) _ (by lia) lt (W.frame _ s1 _ _ st1 (gk _) fun b z o e=>(sb.2 b (fun y=>hS (y▸z))).trans e) hs3 fun s2 mv2=>q s2 (Moved.trans W.gtrans ((mv.mono up).then_heap (gk _) fun b o z e=>(sb.2 b (fun y=>z (y▸.head _))).trans e) mv2)⟩
end
section
def zog(led:Bool):Obj:={ cls:=.type "set",dict:=none,data:=.set #[] 0 (.fresh 0 0 led) }
set_option maxHeartbeats 3200000 in
theorem zjJ{l:js}{its:Array j8}{ss:List Str}{Q:j8->jc->Prop}(hh:A.handled=none)(hl:s.heap.IsList l its)(hn:ss.length=its.size)(hv:∀(i:Nat) v x,its[i]?=some v->ss[i]?=some x->∃ t,v=.str x t)(hb:its.size+1 < gD)
  (q:∀(h':QL) (tk:Nat),IsSetS P w s.heap.objs.size (Dw.za1 ss) h'->(∀ b o,b < s.heap.objs.size->s.heap.get? b=some o->h'.get? b=some o)->Q (.ref s.heap.objs.size) { s with heap:=h',toks:=tk }) :
  jI (jM P w) A (call (.type "set") [.ref l]) Q E s:=by
 have a0:=ZV.mro;obtain⟨mc,mt,a0⟩:=a0;have a1:=ZV.made;have a2:=ZV.sub;refine WD (codeAny_of_tree (show jI _ _ (callAny (.type "set") _) _ _ _ from jq ⟨Yv _ (by decide +kernel),Nz F.entry_type_call ?_⟩))
 rw[Around.under_plain (weight_type_call_type "set" [Qh l] []) rfl];have a3:=ZV.notType;have a4:=ZV.canCreate;have a5:=F.typeCall_set_1 (.ref l)
 repeat (any_goals (first |wp_step |assumption))
 refine Yr (code_set_new_1 (.ref l) (E:=E) (Q₁:=fun v s1=>∃ led:Bool,v=.ref s.heap.objs.size/\s1={ s with heap:=s.heap.push (zog led) }) fun led=>⟨led,rfl,rfl⟩) fun r s1 hr=>?_;cases r with
 |error e=>exact hr
 |ok fl=>
  cases fl with
  |ret v=>
   obtain⟨led,rfl,rfl⟩:=hr;have g0:(s.heap.push (zog led)).get? s.heap.objs.size=some (zog led):=jG _ rfl;have ty:JP { s with heap:=s.heap.push (zog led) } (.ref s.heap.objs.size) "set":=⟨_,g0,rfl⟩;have b1:=ZV.init.lookup;have b2:=ZV.init.bind (.ref s.heap.objs.size)
   repeat (any_goals (first |wp_step |assumption))
   refine Yr (NR (R:=wants (fun r s2=>r=.none/\∃ h' tk,s2={ s with heap:=h',toks:=tk }/\IsSetS P w s.heap.objs.size (Dw.za1 ss) h'/\(∀ b o,b < s.heap.objs.size->s.heap.get? b=some o->h'.get? b=some o)) E) ZV.init.plain F.entry_set_init (check_set_init_1 ty ?_)) fun r2 s2 hr2=>?_
   ·obtain⟨⟨c1,c2,c3,c4⟩,ho,hc,nl,hd⟩:=hl;dsimp only at hc hd;subst hc hd;have g1:(s.heap.push (zog led)).get? l=some { cls:=.type "list",dict:=c2,data:=.seq its nl,slots:=c4 }:=ja _ ho;have d1:=F.sub_list_set;have d2:=F.sub_list_frozenset;have d3:(Jy "list" == Jy "dict")=false:=by decide
    have il:(s.heap.push (zog led)).IsList l its:=⟨_,g1,rfl,nl,rfl⟩;unfold WN.«set.__init__»;unfold noKeywords Jf;generalize hPI:pyIter=PI
    wp_walk
    subst hPI;refine gO il (j4 (wpAny_runValue ?_));have lS:l < s.heap.objs.size:=jj ho;have ne:l≠(s.heap.push (zog led)).objs.size:=by rw[Zm]; exact jC (Qv lS)
    have nS:s.heap.objs.size∉[(s.heap.push (zog led)).objs.size,l]:=by
     rw[Zm];intro z;rcases jv.mp z with z |z
     ·exact absurd z (jC (Z8 _))
     ·exact absurd (je.mp z) (gs lS)
    refine znz ((Walks.list (show A.in1.in1.in1.handled=none by simp[hh]) _ l ne its).toS) s.heap.objs.size nS ss hn (fun i v x hv' hx=>hv i v x hv' hx) hb (its.size - 0) 0 _ (by lia) (QV _) ⟨⟨_,jG _ rfl,rfl,rfl⟩,il.push _⟩ ?st ?fin
    case st=>exact(setObjOf_fresh (knd:=strKind P w) led).setOf (ja _ g0) (by unfold gD; lia)
    case fin=>
     intro s' mv hs';obtain⟨h',g',d',tk',os'⟩:=s';obtain rfl:g'=s.gens:=mv.gens;obtain rfl:d'=s.drawn:=mv.drawn;obtain rfl:os'=s.os:=mv.os;refine jq (jq ⟨rfl,h',tk',rfl,hs',fun b o z e=>mv.heap b o (fun y=>?_) (ja _ (ja _ e))⟩);rw[Zm] at y;rcases jv.mp y with y |y
     ·exact absurd y (jC z)
     ·exact absurd (je.mp y) (jC (Qv z))
   ·cases r2 with
    |error e=>exact hr2
    |ok f2=>
     cases f2 with
     |ret r=>
      obtain⟨rfl,h',tk,rfl,y1,y2⟩:=hr2
      repeat (any_goals (first |wp_step |assumption))
      exact q _ _ y1 y2
     |_=>exact hr2.elim
  |_=>exact hr.elim
end
section
def zkE(X:Cx)(a:js)(l:List Str):HO:=.ext (IsSetS X.prog X.w a l)
theorem zjp(hc:X.calm=true):CallR X (.type "set") (fun xs H Q=>∃(a:js) (ss:List Str),xs=[V.ref a]/\SqL X.K H a (ss.map V.str)/\ss.length < 1000/\∀ l,H l=none->Q (.ref l) (upd H l (zkE X l (Dw.za1 ss)))):=by
 intro pc s σ H xs us Q I rv h;obtain⟨a,ss,rfl,hq,hl,q⟩:=h;obtain⟨u,rfl,ru⟩:=rv.one;cases ru;obtain⟨its,r,p,hz⟩:=I.list hq;have hlen:=r.length;rw[j6] at hlen;refine zjJ (ss:=ss) (I.ok.hd hc) p.isList (by rw[jh]; exact hlen) (fun i v x hv hx=>?_) (by rw[jh]; unfold gD; lia) fun h' tk hs k=>?_
 ·obtain⟨u,hu,ru⟩:=r.get (i:=i) (x:=V.str x) (by rw[jg,hx]; rfl)
  have e:v=u:=by
   rw[NB,hu] at hv;exact(jf hv).symm
  rw[e];exact ru
 ·have new:ObjOk X.prog X.w (upd H s.heap.objs.size (zkE X s.heap.objs.size (Dw.za1 ss))) h' s.heap.objs.size (zkE X s.heap.objs.size (Dw.za1 ss)):=⟨hs,by obtain⟨o,_,_,_,e,_⟩:=hs; exact⟨o,e⟩,fun h1 h2 x k=>x.at k⟩
  exact⟨.ref s.heap.objs.size,_,I.laid (a:=s.heap.objs.size) (t':=tk) (fun b o e=>k b o (jj e) e) (jm _) new,rfl,q _ (I.hok.fresh (jm _))⟩
theorem znQ:CallR X (.builtin "len") (fun xs H Q=>∃(a:js) (l:List Str),xs=[V.ref a]/\H a=some (zkE X a l)/\Q (.int l.length) H):=by
 intro pc s σ H xs us Q I rv h;obtain⟨a,l,rfl,ha,q⟩:=h;obtain⟨u,rfl,ru⟩:=rv.one;cases ru;obtain⟨hs,_,_⟩:=(show ObjOk X.prog X.w H s.heap a (zkE X a l) from I.hok a _ ha);obtain⟨o,es,ep,t,e,ex,d,_,_,b,f,n⟩:=hs;refine call_len_set e ex d f (by unfold gD at b; lia) ?_
 rw[n];exact⟨.int l.length,H,I.tok _,⟨_,rfl⟩,q⟩
end
section
theorem zhn{P:jH}{w:Qf}(k:Int)(t:Tok):(JJ P w).is k (.int k t)=true:=by show W0 k (.int k t)=true; simp[W0]
theorem znM:CallR X (.type "set") (fun xs H Q=>xs=[]/\∀ l,H l=none->Q (.ref l) (upd H l (.set (fun _=>false) 0))):=by
 intro pc s σ H xs us Q I rv h;obtain⟨rfl,q⟩:=h;cases rv;refine call_set_0 fun led=>?_;have new:ObjOk X.prog X.w (upd H s.heap.objs.size (.set (fun _=>false) 0)) (s.heap.push (zog led)) s.heap.objs.size (.set (fun _=>false) 0):=(setObjOf_fresh (knd:=JJ X.prog X.w) led).setOf (jG _ rfl) (by unfold gD; lia)
 exact⟨.ref s.heap.objs.size,_,I.laid (a:=s.heap.objs.size) (t':=s.toks) (fun b o e=>ja _ e) (jm _) new,rfl,q _ (I.hok.fresh (jm _))⟩
def zsR:V->List V->Hp->VK->Prop:=fun x vs H Q=>∃ a S n k,x=.ref a/\vs=[.int k]/\H a=some (.set S n)/\n < 1000/\Q .non (upd H a (.set (fun j=>S j||decide (j=k)) (if S k then n else n+1)))
theorem zr2:MtR X "set.add" zsR:=by
 intro pc s σ H x vs v us Q I rx rv h;obtain⟨a,S,n,k,rfl,rfl,ha,hn,q⟩:=h;cases rx;obtain⟨u,rfl,ru⟩:=rv.one;obtain⟨t,rfl⟩:=ru;have hS:s.heap.SetOf (JJ X.prog X.w) a S n:=(show ObjOk X.prog X.w H s.heap a (.set S n) from I.hok a _ ha);refine call_set_add (zhn k t) rfl hS (by unfold gD; lia) fun h' hs hS'=>?_
 have hx:∃ q,h'.get? a=some q:=by obtain⟨o,_,_,_,e,_⟩:=hS'; exact⟨o,e⟩
 exact⟨.non,_,zie (t':=s.toks+1) (ob:=.set (fun j=>S j||decide (j=k)) (if S k then n else n+1)) I (by rw[ha]; exact ZK) hs hx hS',rfl,q⟩
theorem zqW:OpR X (Zb .NotIn) (fun x y H Q=>∃ k a S n,x=.int k/\y=.ref a/\H a=some (.set S n)/\Q (.bl (!S k)) H):=by
 intro pc s σ H x y v u Q I rx ry h;obtain⟨k,a,S,n,rfl,rfl,ha,q⟩:=h;obtain⟨t,rfl⟩:=rx;cases ry;have hS:s.heap.SetOf (JJ X.prog X.w) a S n:=(show ObjOk X.prog X.w H s.heap a (.set S n) from I.hok a _ ha);exact wpAny_notInSet_of (zhn k t) rfl hS ⟨.bl (!S k),H,I.tok _,rfl,q⟩
end
theorem zib:entryFor table "set.__and__"=some WN.«frozenset.__and__»:=
 entryFor_alias (id':="frozenset.__and__") (by kernel_rfl) rfl (by decide +kernel) (by kernel_rfl)
theorem ziD:isSubtype (.type "set") (.type "set")=pure true:=by rw[isSubtype_type]; kernel_rfl
theorem zd5{α:Type}[DecidableEq α]:∀(l m:List α),l.Nodup->(∀ x,x∈l->x∈m)->m.length<=l.length->m.Perm l
 |[],m,_,_,h=>by
  have:m=[]:=Y2 (by simpa using h)
  rw[this]
 |x::l,m,nd,hs,h=>by
  have hx:x∈m:=hs x (.head _);obtain⟨n1,n2⟩:=Qk.mp nd;have p1:m.Perm (x::m.erase x):=List.perm_cons_erase hx;refine p1.trans (.cons x (zd5 l (m.erase x) n2 (fun y hy=>?_) ?_))
  ·have:y≠x:=fun e=>n1 (e▸hy);exact(gc this).mpr (hs y (.tail _ hy))
  ·have:=p1.length_eq;rw[jp] at this;rw[jp] at h;lia
theorem zgH{α:Type}[DecidableEq α](l m:List α)(h1:l.Nodup)(h2:m.Nodup):(l.filter (fun x=>decide (x∈m))).length=(m.filter (fun x=>decide (x∈l))).length:=by
 have n1:=h1.filter (fun x=>decide (x∈m));have n2:=h2.filter (fun x=>decide (x∈l));refine Jo ?_ ?_
 ·by_cases h:(m.filter (fun x=>decide (x∈l))).length<=(l.filter (fun x=>decide (x∈m))).length
  ·have:=(zd5 (l.filter (fun x=>decide (x∈m))) (m.filter (fun x=>decide (x∈l))) n1 (fun x hx=>by
    have:=jQ.mp hx
    exact jQ.mpr ⟨by simpa using this.2,by simpa using this.1⟩) h).length_eq
   lia
  ·lia
 ·by_cases h:(l.filter (fun x=>decide (x∈m))).length<=(m.filter (fun x=>decide (x∈l))).length
  ·have:=(zd5 (m.filter (fun x=>decide (x∈l))) (l.filter (fun x=>decide (x∈m))) n2 (fun x hx=>by
    have:=jQ.mp hx
    exact jQ.mpr ⟨by simpa using this.2,by simpa using this.1⟩) h).length_eq
   lia
  ·lia
theorem zcE{α:Type}:∀(l:List α) (i:Nat) (h:i < l.length),(l[i]::l.eraseIdx i).Perm l
 |x::l,0,_=>by simp
 |x::l,i+1,h=>by
  rw[YZ,List.getElem_cons_succ];exact(List.Perm.swap _ _ _).trans (.cons x (zcE l i (by simpa using h)))
theorem zh1{α:Type}(next:Nat->Nat)(xs:Array α):(pickOrder next xs).toList.Perm xs.toList:=by
 have key:∀(n k:Nat) (left:List α) (out:Array α),left.length=n->(WZ next n k left out).toList.Perm (out.toList++left):=by
  intro n
  induction n with
  |zero=>
   intro k left out h;have:left=[]:=Y2 h;subst this;unfold WZ;simp
  |succ n ih=>
   intro k left out h;unfold WZ;have hlt:next k%left.length < left.length:=Nat.mod_lt _ (by lia)
   rw[j3 hlt];dsimp only;refine(ih _ _ _ (by rw[List.length_eraseIdx,Ip_ hlt]; lia)).trans ?_
   rw[Array.toList_push,Qn];refine Nv _ ?_;exact zcE left _ hlt
 exact(key _ _ _ _ (by simp)).trans (by simp)
section
def zfK:j8->Str
 |.str x _=>x
 |_=>""
theorem zlM{k:Str}:∀ {v:j8},QM k v=true->∃ tk,v=ZG k tk
 |.str x tk,h=>⟨tk,congrArg (fun z=>ZG z tk) (show x=k by simpa[QM] using h)⟩
theorem zkc(q x:Str)(tk:Tok):QM q (.str x tk)=true↔zfK (.str x tk)=q:=by
 unfold QM zfK;simp
theorem IsSetS.ents{S:js}{l:List Str}{h:QL}(x:IsSetS P w S l h):∃(o:Obj) (es:Array (Int × j8)) (ep:Nat) (t:Jg),h.get? S=some o/\o.ExactSet/\o.data=.set es ep t/\t.fits es.size=true/\es.size=l.length/\es.size < gD/\(∀ e∈es.toList,(∃ tk,e.2=ZG (zfK e.2) tk)/\e.1=(strKind P w).hash (zfK e.2))/\∀ q,q∈es.toList.map (fun e=>zfK e.2)↔q∈l:=by
 obtain⟨o,es,ep,t,e1,e2,e3,e4,e5,e6,e7,e8⟩:=x;have get:∀ e∈es.toList,(∃ tk,e.2=ZG (zfK e.2) tk)/\e.1=(strKind P w).hash (zfK e.2):=fun e he=>by
  obtain⟨⟨k,hk,hh⟩,_⟩:=e4 e he;obtain⟨tk,h3⟩:=zlM (show QM k e.2=true from hk);have h4:zfK e.2=k:=by rw[h3]; rfl
  rw[h4];exact⟨⟨tk,h3⟩,hh⟩
 refine⟨o,es,ep,t,e1,e2,e3,e7,e8,e6,get,fun q=>?_⟩;have e5:=e5 q;rw[decide_eq_true_iff] at e5;rw[e5,jA];refine exists_congr fun e=>and_congr_right fun he=>?_;obtain⟨⟨tk,h3⟩,_⟩:=get e he;rw[show (strKind P w).is q e.2=QM q e.2 from rfl,h3];exact(zkc _ _ _).symm
theorem ziv{sets:List js}{Q:Bool->jc->Prop}(hs:∀ a∈sets,∃ l:List Str,IsSetS P w a l s.heap)(h:Q true s):jI (jM P w) A (setsQuiet sets) Q E s:=by
 unfold setsQuiet;refine j4 ?_;refine wpAny_forIn_list _ (fun rest b s'=>b=⟨none,()⟩/\s'=s/\∀ a∈rest,a∈sets) _ ?_ ?_ sets _ ⟨rfl,rfl,fun a h=>h⟩
 ·rintro a rest b s' ⟨rfl,rfl,hr⟩;obtain⟨l,hl⟩:=hs a (hr a (.head _));obtain⟨o,es,ep,t,e1,e2,e3,e4,e5,e6,e8,_⟩:=IsSetS.ents hl;refine j4 (Yh e1 e3 e4 ?_);refine j4 ?_;refine Wq _ (fun rest b s''=>b=⟨none,()⟩/\s''=s'/\∀ e∈rest,e∈es.toList) _ ?_ ?_ es _ ⟨rfl,rfl,fun a h=>h⟩
  ·rintro e rest2 b s'' ⟨rfl,rfl,hr2⟩;obtain⟨⟨tk,h3⟩,_⟩:=e8 e (hr2 e (.head _));obtain⟨e0,ev⟩:=e;generalize zfK ev=ky at h3;dsimp only at h3 ⊢;subst h3;exact jq ⟨rfl,rfl,fun e he=>hr2 e (.tail _ he)⟩
  ·rintro b s'' ⟨rfl,rfl,_⟩;exact jq ⟨rfl,rfl,fun a ha=>hr a (.tail _ ha)⟩
 ·rintro b s' ⟨rfl,rfl,_⟩;exact jq h
end
section
theorem IsSetS.same{S:js}{l l':List Str}{h:QL}(x:IsSetS P w S l h)(e:∀ q,q∈l↔q∈l')(hl:l.length=l'.length):IsSetS P w S l' h:=by
 unfold IsSetS at x ⊢;rw[<-hl,show (fun q=>decide (q∈l'))=fun q=>decide (q∈l) from funext fun q=>decide_eq_decide.mpr (e q).symm];exact x
theorem zlm{a:js}{o:Obj}{es:Array (Int × j8)}{ep:Nat}{t:Jg}{Q:Array (Int × j8)->jc->Prop}(ho:s.heap.get? a=some o)(hd:o.data=.set es ep t)(hf:t.fits es.size=true)
  (hc:w.params.followText "set-order"=true∨(t.led&&t.plain)=true∨es.size<=1) (q:∀ es':Array (Int × j8),es'.toList.Perm es.toList->Q es' s):jI (jM P w) A (setWalk a) Q E s:=by
 unfold setWalk setsByText;refine j4 (YL ho hd hf ?_);refine j4 (j4 (Na (jq ?_)));dsimp only;show jI _ _ (if w.params.followText "set-order"=true then _ else _) _ _ _
 by_cases hx:w.params.followText "set-order"=true
 ·rw[Ip_ hx];exact j4 (Na (jq (q _ (zh1 _ _))))
 ·rw[In_ hx];have hd':(!t.plain&&decide (es.size > 1))=false:=by
   rcases hc with hc |hc |hc
   ·exact absurd hc hx
   ·rw[jL] at hc; rw[hc.2]; rfl
   ·rw[Df_ (by lia),YA]
  have hd2:(!t.led&&decide (es.size > 1))=false:=by
   rcases hc with hc |hc |hc
   ·exact absurd hc hx
   ·rw[jL] at hc; rw[hc.1]; rfl
   ·rw[Df_ (by lia),YA]
  show jI _ _ (if (!t.plain&&decide (es.size > 1))=true then _ else _) _ _ _
  rw[In_ (by rw[hd']; exact jJ)]
  refine j4 ?_;show jI _ _ (if (!t.led&&decide (es.size > 1))=true then _ else pure ()) _ _ _
  rw[In_ (by rw[hd2]; exact jJ)]
  exact jq (jq (q _ (.refl _)))
theorem zhw{a r:js}{o:Obj}{es:Array (Int × j8)}{ep:Nat}{t:Jg}{Q:Array (Int × j8)->jc->Prop}{others:List js}{lr:List Str}(ho:s.heap.get? a=some o)(hd:o.data=.set es ep t)(hf:t.fits es.size=true)
  (hs:∀ b∈a::others,∃ l:List Str,IsSetS P w b l s.heap) (hr:IsSetS P w r lr s.heap) (q:∀(es':Array (Int × j8)) (h':QL),es'.toList.Perm es.toList->Qq r s.heap h'->IsSetS P w r lr h'->Q es' { s with heap:=h' }):jI (jM P w) A (Wr a others (some r)) Q E s:=by
 unfold Wr setsByText;refine j4 (YL ho hd hf ?_);refine j4 (j4 (Na (jq ?_)));dsimp only;show jI _ _ (if (w.params.followText "set-order"||(t.led&&t.plain)||decide (es.size<=1))=true then _ else _) _ _ _
 have e0:s={ s with heap:=s.heap }:=by cases s; rfl
 by_cases hx:(w.params.followText "set-order"||(t.led&&t.plain)||decide (es.size<=1))=true
 ·rw[Ip_ hx];refine zlm ho hd hf ?_ fun es' p=>e0▸q es' s.heap p (.refl _ _) hr;simpa[Zc,or_assoc] using hx
 ·rw[In_ hx];refine j4 (ziv hs ?_);simp only[JQ,Z6,↓reduceIte];refine j4 (JG ?_);obtain⟨o2,es2,ep2,t2,g1,g2,g3,g4,g5,g6,g7,g8⟩:=hr;refine j4 (YL g1 g3 g7 ?_);dsimp only;split
  ·refine j4 (wpAny_storeSet_of g1 g3 (jq ?_) (fits_of_scanBound g6));refine q es _ (.refl _) (Heap.SameBut.update _ _ _) ?_;have:=(SetOf_store (knd:=strKind P w) (t':={ t2 with led:=t2.led&&t.led,plain:=t2.plain&&t.plain }) g1 g2 g3 g4 g5 g6 (by cases t2; exact g7)).2
   rw[g8] at this;exact this
  ·exact j4 (jq (jq (e0▸q es s.heap (.refl _) (.refl _ _) ⟨o2,es2,ep2,t2,g1,g2,g3,g4,g5,g6,g7,g8⟩)))
theorem ziw{a b r:js}{la:List Str}{es:Array (Int × j8)}{ob:Obj}{esb:Array (Int × j8)}{was:Nat}{t:Jg}{id:String}{Q:PUnit->jc->Prop}(har:a≠r)(hbr:b≠r)
  (ha:IsSetS P w a la s.heap) (hb:s.heap.get? b=some ob) (hbd:ob.data=.set esb was t) (hbf:t.fits esb.size=true) (hr:IsSetS P w r [] s.heap) (hn:(es.toList.map fun e=>zfK e.2).Nodup) (hz:es.size+1 < gD)
  (he:∀ e∈es.toList,(∃ tk,e.2=ZG (zfK e.2) tk)/\e.1=(strKind P w).hash (zfK e.2))
  (q:∀ h',Qq r s.heap h'->IsSetS P w r ((es.toList.map fun e=>zfK e.2).filter fun x=>decide (x∈la)) h'->Q ⟨⟩ { s with heap:=h' }) :
  jI (jM P w) A (forIn es NL fun(x:Int × j8) (_:PUnit)=>do
   Y1 [x.2] (do if (<-setFind a x.2 x.1).isSome=true then let _ <-setAddHashed r x.2 x.1)
   Ze id b was
   pure (Ql NL)) Q E s:=by
 refine Wq _ (fun rest _ s'=>∃ pre h',pre++rest=es.toList/\s'={ s with heap:=h' }/\Qq r s.heap h'/\IsSetS P w r ((pre.map fun e=>zfK e.2).filter fun x=>decide (x∈la)) h') _ ?_ ?_ es _ ⟨[],s.heap,rfl,by cases s; rfl,.refl _ _,hr⟩
 ·rintro⟨e0,ev⟩ rest b' s' ⟨pre,h',hp,rfl,sb,hr'⟩;have hmem:(e0,ev)∈es.toList:=by rw[<-hp]; simp
  obtain⟨⟨tk,h3⟩,h4⟩:=he _ hmem;dsimp only at h3 h4;generalize hk:zfK ev=k at h3 h4;subst h3 h4;have ky:(strKind P w).is k (.str k tk)=true:=by show QM k (.str k tk)=true; simp[QM]
  have ha':IsSetS P w a la h':=ha.at fun o e=>(sb.2 a har).trans e;have hb':h'.get? b=some ob:=(sb.2 b hbr).trans hb;have hnk:k∉pre.map fun e=>zfK e.2:=by
   rw[<-hp,jF,jt] at hn;have:=(jP.mp hn).2.2;intro hc;exact this k hc k (by dsimp only; rw[hk]; exact .head _) rfl
  have hlen:pre.length < es.size:=by rw[<-QB,<-hp]; simp
  have fl:((pre.map fun e=>zfK e.2).filter fun x=>decide (x∈la)).length<=pre.length:=by
   refine Qc (ZW _ _) ?_;rw[j6]; exact jm _
  have fin:∀ h2 (Qx:ForInStep PUnit->jc->Prop),Qq r h' h2->Qx (.yield ⟨⟩) { s with heap:=h2 }->jI (jM P w) A (do
    Ze id b was
    pure (Ql NL)) Qx E { s with heap:=h2 }:=fun h2 Qx sb2 hq=>by
   unfold Ze;refine j4 (j4 (WO (s:={ s with heap:=h2 }) ((sb2.2 b hbr).trans hb') hbd hbf ?_));simp only[bne_self_eq_false,Z6,↓reduceIte];exact jq (jq hq)
  have pq:(pre++[((strKind P w).hash k,ZG k tk)])++rest=es.toList:=by rw[Qn]; exact hp
  refine j4 (Qi (j4 (wpAny_setFind_of (knd:=strKind P w) (s:={ s with heap:=h' }) ky rfl ha' fun f hf=>?_)));rw[hf]
  by_cases hin:k∈la
  ·rw[Ip_ (by simpa using hin)]
   refine j4 (NA (knd:=strKind P w) (s:={ s with heap:=h' }) ky rfl hr' (by lia) fun h2 sb2 hs2=>jq (fin h2 _ sb2 ⟨_,h2,pq,rfl,sb.trans sb2,?_⟩))
   have hs3:=IsSetS.next hs2
   refine hs3.same (fun x=>?_) ?_
   ·unfold Dw.stp;rw[In_ (by simp[hnk]),jF,QP]
    simp[zfK,hin]
   ·unfold Dw.stp;rw[In_ (by simp[hnk]),jF,QP]
    simp[zfK,hin]
  ·rw[In_ (by simpa using hin)]
   refine jq (fin h' _ (.refl _ _) ⟨_,h',pq,rfl,sb,hr'.same (fun x=>?_) ?_⟩)
   ·rw[jF,QP]; simp[zfK,hin]
   ·rw[jF,QP]; simp[zfK,hin]
 ·rintro b' s' ⟨pre,h',hp,rfl,sb,hr'⟩;rw[Qt] at hp;subst hp;exact q h' sb hr'
end
section
theorem zp6{a b:js}{l m:List Str}{Q:j8->jc->Prop}(hab:a≠b)(ha:IsSetS P w a l s.heap)(hb:IsSetS P w b m s.heap)(hl:l.Nodup)(hm:m.Nodup)(hz:l.length+m.length < 2000)
  (q:∀ h':QL,IsSetS P w s.heap.objs.size (l.filter fun x=>decide (x∈m)) h'->(∀ x o,s.heap.get? x=some o->h'.get? x=some o)->Q (.ref s.heap.objs.size) { s with heap:=h' }):jI (jM P w) A (gz .BitAnd (.ref a) (.ref b)) Q E s:=by
 have ta:s.TypeIs (.ref a) "set":=YM ha;have tb:s.TypeIs (.ref b) "set":=YM hb;refine wpAny_binaryOp_same ta tb F.fills_set_and F.slot_set_and (Nb F.slot_set_and ta zib ?_ (F.args_set_and_2 _ _));unfold WN.«frozenset.__and__»;have st:=ziD
 show jI _ _ (do
  let (self,other) <-N2 "__and__" ⟨[.ref a,.ref b],[]⟩
  let (l,r):=if false=true then (other,self) else (self,other)
  if !(<-gb l <&&> gb r) then rule s!"frozenset.{"__and__"}.declined"; return <-ret .notImplemented
  ret (<-J0 s!"frozenset.{"__and__"}" (<-YN l) r)) _ _ _
 unfold N2 slotArgs;simp only[List.isEmpty_nil,JQ,Z6,↓reduceIte,bind_assoc,ZR,bne_self_eq_false,pure_bind]
 repeat (any_goals (first |wp_step |assumption))
 rw[In_ (by dsimp only; simpa using fun e:b=a=>hab e.symm)]
 unfold JH;refine j4 (j4 (Nc ta st ?_));refine jq ?_;simp only[↓reduceIte];refine j4 (wpAny_newSet_of (knd:=strKind P w) fun led hr=>?_);unfold YN;refine j4 (jq ?_);dsimp only;generalize hs1:s.heap.push { cls:=.type "set",dict:=none,data:=.set #[] 0 (.fresh 0 0 led) }=h1 at hr ⊢;have k1:∀ x o,s.heap.get? x=some o->h1.get? x=some o:=fun x o e=>by rw[<-hs1]; exact ja _ e
 have ha1:IsSetS P w a l h1:=ha.at (k1 a);have hb1:IsSetS P w b m h1:=hb.at (k1 b);have hr1:IsSetS P w s.heap.objs.size [] h1:=by
  unfold IsSetS;simpa using hr
 have tb1:JP { s with heap:=h1 } (.ref b) "set":=YM hb1;have nea:∀ x l',IsSetS P w x l' s.heap->x≠s.heap.objs.size:=fun x l' hx e=>by
  obtain⟨o,_,_,_,e1,_⟩:=hx;exact jC (jj e1) e
 have na:=nea a l ha;have nb:=nea b m hb;unfold gb;refine j4 (Qi (j4 ?_));have orr:jI (jM P w) A.in1 (WP (.ref b) (.type "set") <||> WP (.ref b) (.type "frozenset")) (fun r s2=>r=true/\s2={ s with heap:=h1 }) E { s with heap:=h1 }:=by
  refine j4 (Nc tb1 st ?_);exact jq ⟨rfl,rfl⟩
 refine jV orr ?_ fun _ _ h=>h;rintro r s2 ⟨rfl,rfl⟩;rw[Ip_ rfl];refine j4 (jq ?_);obtain⟨oa,esa,epa,sta,a1,a2,a3,a4,a5,a6,a7,a8⟩:=ha1.ents;obtain⟨ob,esb,epb,stb,b1,b2,b3,b4,b5,b6,b7,b8⟩:=hb1.ents;unfold JI;refine j4 (j4 (Yh (s:={ s with heap:=h1 }) b1 b3 b4 (jq ?_)));refine j4 (j4 (Yh (s:={ s with heap:=h1 }) a1 a3 a4 (jq ?_)));have done:∀ h2,Qq s.heap.objs.size h1 h2->IsSetS P w s.heap.objs.size (l.filter fun x=>decide (x∈m)) h2->jI (jM P w) A.in1 (pure (Qh s.heap.objs.size)) (fun a s'=>jI (jM P w) A.in1 (ret a) (fun fin s'=>∃ v,fin=Fin.done (Flow.ret v)/\v≠NS/\Q v s') E s') E { s with heap:=h2 }:=fun h2 sb hs=>by
  refine jq ?_;refine jq ⟨_,rfl,by simp,q h2 hs fun x o e=>(sb.2 x ?_).trans (k1 x o e)⟩
  exact jC (jj e)
 have half:∀(x y:js) (lx ly:List Str) (oy:Obj) (ey:Array (Int × j8)) (py:Nat) (ty:Jg),x≠s.heap.objs.size->y≠s.heap.objs.size->IsSetS P w x lx h1->ly.Nodup->ly.length < 2000->h1.get? y=some oy->oy.data=.set ey py ty->ty.fits ey.size=true->IsSetS P w y ly h1->ey.size=ly.length->
   (∀ e∈ey.toList,(∃ tk,e.2=ZG (zfK e.2) tk)/\e.1=(strKind P w).hash (zfK e.2))->(∀ q,q∈ey.toList.map (fun e=>zfK e.2)↔q∈ly)->(ly.filter fun q=>decide (q∈lx)).length=(l.filter fun q=>decide (q∈m)).length->(∀ q,q∈(ly.filter fun q=>decide (q∈lx))↔q∈(l.filter fun q=>decide (q∈m)))->
   jI (jM P w) A.in1 (do
         let was <-setEpoch y
         let __do_lift <-Wr y [x,s.heap.objs.size] (some s.heap.objs.size)
         forIn __do_lift NL fun(x_1:Int × j8) __s=>do
            Y1 [x_1.2] do
              let __do_lift <-setFind x x_1.2 x_1.1
              if __do_lift.isSome=true then do
                let _ <-setAddHashed s.heap.objs.size x_1.2 x_1.1
                pure ()
               else pure ()
            Ze (toString "frozenset."++toString "__and__") y was
            pure (Ql NL)
         pure ()) (fun _ s'=>jI (jM P w) A.in1 (pure (Qh s.heap.objs.size)) (fun a s'=>jI (jM P w) A.in1 (ret a) (fun fin s'=>∃ v,fin=Fin.done (Flow.ret v)/\v≠NS/\Q v s') E s') E s') E { s with heap:=h1 }:=by
  intro x y lx ly oy ey py ty hx hy sx nd hz' y1 y2 y3 sy y4 y5 y6 y7 y8;refine j4 (WO (s:={ s with heap:=h1 }) y1 y2 y3 ?_);refine j4 (zhw (s:={ s with heap:=h1 }) y1 y2 y3 (fun z hz=>?_) hr1 fun es' h2 p sb hr2=>?_)
  ·simp only[jv,Zh,or_false] at hz;rcases hz with rfl |rfl |rfl
   ·exact⟨_,sy⟩
   ·exact⟨_,sx⟩
   ·exact⟨_,hr1⟩
  ·have pm:(es'.toList.map fun e=>zfK e.2).Perm ly:=by
    refine(p.map _).trans (zd5 ly _ nd (fun q hq=>(y6 q).mpr hq) ?_);rw[j6,QB,y4]; exact jm _
   refine j4 (ziw (s:={ s with heap:=h2 }) hx hy (sx.at fun o e=>(sb.2 x hx).trans e) ((sb.2 y hy).trans y1) y2 y3 hr2 (pm.nodup_iff.mpr nd) ?_ (fun e he=>y5 e (p.mem_iff.mp he)) fun h3 sb3 hs3=>?_)
   ·rw[<-QB,p.length_eq,QB,y4];unfold gD;lia
   ·refine jq (done h3 (sb.trans sb3) (hs3.same (fun q=>?_) ?_))
    ·rw[<-y8 q,jQ,jQ,pm.mem_iff]
    ·rw[<-y7]; exact(pm.filter _).length_eq
 by_cases hlt:esb.size > esa.size
 ·rw[Ip_ hlt];exact half b a m l oa esa epa sta nb na hb1 hl (by lia) a1 a3 a4 ha1 a5 a7 a8 rfl fun q=>Iff.rfl
 ·rw[In_ hlt];exact half a b l m ob esb epb stb na nb ha1 hm (by lia) b1 b3 b4 hb1 b5 b7 b8 (zgH m l hm hl) fun q=>by simp[jQ,and_comm]
end
section
theorem zqZ:OpR X (gz .BitAnd) (fun x y H Q=>∃ a b l m,x=.ref a/\y=.ref b/\a≠b/\H a=some (zkE X a l)/\H b=some (zkE X b m)/\l.Nodup/\m.Nodup/\l.length+m.length < 2000/\∀ c,H c=none->Q (.ref c) (upd H c (zkE X c (l.filter fun x=>decide (x∈m))))):=by
 intro pc s σ H x y v u Q I rx ry h;obtain⟨a,b,l,m,rfl,rfl,hab,ha,hb,hl,hm,hz,q⟩:=h;cases rx;cases ry;obtain⟨sa,_,_⟩:=(show ObjOk X.prog X.w H s.heap a (zkE X a l) from I.hok a _ ha);obtain⟨sb,_,_⟩:=(show ObjOk X.prog X.w H s.heap b (zkE X b m) from I.hok b _ hb);refine zp6 hab sa sb hl hm hz fun h' hs k=>?_;have new:ObjOk X.prog X.w (upd H s.heap.objs.size (zkE X s.heap.objs.size (l.filter fun x=>decide (x∈m)))) h' s.heap.objs.size (zkE X s.heap.objs.size (l.filter fun x=>decide (x∈m))):=⟨hs,by obtain⟨o,_,_,_,e,_⟩:=hs; exact⟨o,e⟩,fun h1 h2 x k=>x.at k⟩
 exact⟨.ref s.heap.objs.size,_,I.laid (a:=s.heap.objs.size) (t':=s.toks) (fun b o e=>k b o e) (jm _) new,rfl,q _ (I.hok.fresh (jm _))⟩
end
section
variable {R:JC->jc->Prop}{I:js}{fp wr:List js}{G:Array Y9->Array Y9->Prop}{n:Nat}{Pv:Nat->j8->Prop}{St:Nat->jc->Prop}
def two(v:j8)(c:Nat):Obj:={ cls:=.type "list",dict:=none,data:=.seq #[v,v] c,slots:=#[] }
end
section
variable {prog:jH}
def zm3(prog:jH)(w:Qf)(A:Qg)(it:js)(S:QL->Prop):Prop:=∀(s:jc) (Q:j8->jc->Prop) (E:j8->jc->Prop),S s.heap->
 (∀ h' e,N0 it s.heap h'->(∃ o,h'.get? e=some o/\o.cls=.type "StopIteration")->E (.ref e) { s with heap:=h' })->jI (jM prog w) A (Z0 (.ref it)) Q E s
structure ZAp (z TI TO i1 i2:js) (f1 f2:List js):Prop where
 TIz:TI≠z
 TOz:TO≠z
 i1z:i1≠z
 i2z:i2≠z
 TITO:TI≠TO
 TIi1:TI≠i1
 TIi2:TI≠i2
 TOi1:TO≠i1
 TOi2:TO≠i2
 z1:z∉f1
 z2:z∉f2
 o1:TO∉f1
 o2:TO∉f2
 a1:i1∉f2
 a2:i2∉f1
theorem zm8{z TI TO i1 i2:js}{f1 f2:List js}{n1 n2 k:Nat}{P1 P2:Nat->j8->Prop}{S1 S2:Nat->QL->Prop}{a b:j8}{Q:j8->jc->Prop}(D:ZAp z TI TO i1 i2 f1 f2)
  (D1:Ua prog w A i1 f1 n1 P1 S1) (D2:Ua prog w A i2 f2 n2 P2 S2) (hz:Ws s.heap z TI TO .none) (hTI:gy s.heap TI (.ref i1) (.ref i2)) (hTO:gy s.heap TO a b)
  (h1:S1 k s.heap) (h2:S2 k s.heap) (k1:k < n1) (k2:k < n2)
  (hQ:∀ x y h' tk,P1 k x->P2 k y->Ws h' z TI TO (rawInt s.heap.objs.size)->gy h' TO x y->S1 (k+1) h'->S2 (k+1) h'->gy h' s.heap.objs.size x y->h'.objs.size=s.heap.objs.size+1->
   (∀ c o,c≠z->c≠TO->c≠i1->c≠i2->s.heap.get? c=some o->h'.get? c=some o)->Q (.ref s.heap.objs.size) { s with heap:=h',toks:=tk }) :
  jI (jM prog w) A (WN.«zip.__next__» ⟨[.ref z],[]⟩) (fun fin s'=>∃ v,fin=.done (.ret v)/\Q v s') E s:=by
 show jI _ _ (field (.ref z) 2 >>= _) _ _ _;refine j4 (gq hz rfl (x:=.bool false) rfl ?_);show jI _ _ (field (.ref z) 3 >>= _) _ _ _;refine j4 (gq hz rfl (x:=.ref TI) rfl ?_);refine j4 (ge hTI rfl ?_);show jI _ _ (QD (.ref z) >>= _) _ _ _;refine j4 ?_;unfold QD;refine j4 (gq hz rfl (x:=.none) rfl (jq ?_));simp only[if_true];refine j4 (JG ?_);refine j4 (gq hz rfl (x:=.ref TO) rfl ?_);refine j4 (Zk hz (by simp) fun g1 hz₁ hs₁=>?_)
 replace hz₁:Ws g1 z TI TO .ellipsis:=hz₁
 refine j4 ?_;simp only[Nf,Jp,Yf,Ju];have fr:∀ {f:List js} {b:js} {h h':QL},Qq b h h'->b∉f->∀ c∈f,∀ o,h.get? c=some o->h'.get? c=some o:=fun hs hb c hc o e=>hs.extBut _ _ (fun z=>hb (z▸hc)) e;refine j4 (j4 (N3 ?_));show jI _ _ (Z0 (.ref i1) >>= _) _ _ _;refine j4 (D1.item k _ _ _ k1 (D1.frame _ _ _ h1 (fr hs₁ D.z1)) fun x g2 t2 hx st1 hs₂=>jq ?_)
 replace hs₂:Qq i1 g1 g2:=hs₂
 have hTO₂:gy g2 TO a b:=hs₂.extBut _ _ D.TOi1 (hs₁.extBut _ _ D.TOz hTO);refine j4 (ge hTO₂ rfl ?_);refine j4 (Y5 hTO₂ fun g3 hTO₃ hs₃=>?_)
 replace hTO₃:gy g3 TO x b:=hTO₃
 replace hs₃:Qq TO g2 g3:=hs₃
 refine j4 (Jq (jq ?_));refine j4 (j4 (N3 ?_));show jI _ _ (Z0 (.ref i2) >>= _) _ _ _;refine j4 (D2.item k _ _ _ k2 (D2.frame _ _ _ (D2.frame _ _ _ (D2.frame _ _ _ h2 (fr hs₁ D.z2)) (fr hs₂ D.a1)) (fr hs₃ D.o2)) fun y g4 t4 hy st2 hs₄=>jq ?_)
 replace hs₄:Qq i2 g3 g4:=hs₄
 have hTO₄:gy g4 TO x b:=hs₄.extBut _ _ D.TOi2 hTO₃;refine j4 (ge hTO₄ rfl ?_);refine j4 (Y5 hTO₄ fun g5 hTO₅ hs₅=>?_)
 replace hTO₅:gy g5 TO x y:=hTO₅
 replace hs₅:Qq TO g4 g5:=hs₅
 refine j4 (Jq (jq (jq ?_)));refine j4 (ge hTO₅ rfl ?_);refine j4 (wpAny_newTuple ?_);have hsz:g5.objs.size=s.heap.objs.size:=by rw[hs₅.1,hs₄.1,hs₃.1,hs₂.1,hs₁.1]
 have hz₅:Ws g5 z TI TO .ellipsis:=hs₅.extBut _ _ D.TOz.symm (hs₄.extBut _ _ D.i2z.symm (hs₃.extBut _ _ D.TOz.symm (hs₂.extBut _ _ D.i1z.symm hz₁)));have hk₅:∀ c o,c≠z->c≠TO->c≠i1->c≠i2->s.heap.get? c=some o->g5.get? c=some o:=fun c o c1 c2 c3 c4 e=>
  hs₅.extBut _ _ c2 (hs₄.extBut _ _ c4 (hs₃.extBut _ _ c2 (hs₂.extBut _ _ c3 (hs₁.extBut _ _ c1 e))))
 have st1':S1 (k+1) g5:=D1.frame _ _ _ (D1.frame _ _ _ (D1.frame _ _ _ st1 (fr hs₃ D.o1)) (fr hs₄ D.a2)) (fr hs₅ D.o1);have st2':S2 (k+1) g5:=D2.frame _ _ _ st2 (fr hs₅ D.o2);have hzlt:z < g5.objs.size:=jj hz₅;show jI _ _ (gf (.ref z) (.ref g5.objs.size) >>= _) _ _ _;refine j4 ?_;unfold gf;have hz₆:Ws (g5.push { cls:=.type "tuple",data:=.seq #[x,y] }) z TI TO .ellipsis:=ja _ hz₅;refine j4 (Zk hz₆ (by simp) fun g7 hz₇ hs₇=>?_)
 replace hz₇:Ws g7 z TI TO (rawInt g5.objs.size):=hz₇
 refine Zk hz₇ (by simp) fun g8 hz₈ hs₈=>?_
 replace hz₈:Ws g8 z TI TO (rawInt g5.objs.size):=hz₈
 have up:∀ c o,c≠z->g5.get? c=some o->g8.get? c=some o:=fun c o c1 e=>hs₈.extBut _ _ c1 (hs₇.extBut _ _ c1 (ja _ e));have hT₈:gy g8 g5.objs.size x y:=hs₈.extBut _ _ (gs hzlt) (hs₇.extBut _ _ (gs hzlt) (jG _ rfl));have hz8:g8.objs.size=g5.objs.size+1:=by rw[hs₈.1,hs₇.1,Zm]
 rw[hsz] at hz₈ hT₈ hz8;refine jq ⟨_,rfl,?_⟩;show Q (.ref g5.objs.size) _;rw[hsz];exact hQ x y g8 _ hx hy hz₈ (up _ _ D.TOz hTO₅) (D1.frame _ _ _ st1' fun c hc o e=>up c o (fun q=>D.z1 (q▸hc)) e) (D2.frame _ _ _ st2' fun c hc o e=>up c o (fun q=>D.z2 (q▸hc)) e) hT₈ hz8 fun c o c1 c2 c3 c4 e=>up c o c1 (hk₅ c o c1 c2 c3 c4 e)
theorem zo6{z TI TO i1 i2:js}{f1 f2:List js}{n1 n2 k:Nat}{P1 P2:Nat->j8->Prop}{S1 S2:Nat->QL->Prop}{a b:j8}{Q:Fin->jc->Prop}(D:ZAp z TI TO i1 i2 f1 f2)
  (D1:Ua prog w A i1 f1 n1 P1 S1) (D2:Ua prog w A i2 f2 n2 P2 S2) (hz:Ws s.heap z TI TO .none) (hTI:gy s.heap TI (.ref i1) (.ref i2)) (hTO:gy s.heap TO a b)
  (h1:S1 k s.heap) (h2:S2 k s.heap) (he:zm3 prog w A i1 (S1 k)∨(k < n1/\zm3 prog w A i2 (S2 k)))
  (hE:∀ h' e tk,(∀ c o,c≠z->c≠TO->c≠i1->c≠i2->s.heap.get? c=some o->h'.get? c=some o)->(∃ o,h'.get? e=some o/\o.cls=.type "StopIteration")->E (.ref e) { s with heap:=h',toks:=tk }) :
  jI (jM prog w) A (WN.«zip.__next__» ⟨[.ref z],[]⟩) Q E s:=by
 show jI _ _ (field (.ref z) 2 >>= _) _ _ _;refine j4 (gq hz rfl (x:=.bool false) rfl ?_);show jI _ _ (field (.ref z) 3 >>= _) _ _ _;refine j4 (gq hz rfl (x:=.ref TI) rfl ?_);refine j4 (ge hTI rfl ?_);show jI _ _ (QD (.ref z) >>= _) _ _ _;refine j4 ?_;unfold QD;refine j4 (gq hz rfl (x:=.none) rfl (jq ?_));simp only[if_true];refine j4 (JG ?_);refine j4 (gq hz rfl (x:=.ref TO) rfl ?_);refine j4 (Zk hz (by simp) fun g1 hz₁ hs₁=>?_)
 replace hz₁:Ws g1 z TI TO .ellipsis:=hz₁
 refine j4 ?_;simp only[Nf,Jp,Yf,Ju];have fr:∀ {f:List js} {b:js} {h h':QL},Qq b h h'->b∉f->∀ c∈f,∀ o,h.get? c=some o->h'.get? c=some o:=fun hs hb c hc o e=>hs.extBut _ _ (fun z=>hb (z▸hc)) e;refine j4 (j4 (N3 ?_));show jI _ _ (Z0 (.ref i1) >>= _) _ _ _;rcases he with e1 |⟨k1,e2⟩
 ·refine j4 (e1 _ _ _ (D1.frame _ _ _ h1 (fr hs₁ D.z1)) fun g2 e hs₂ he=>?_);obtain⟨oe,hoe,hce⟩:=he
  replace hs₂:N0 i1 g1 g2:=hs₂
  have hz₂:Ws g2 z TI TO .ellipsis:=hs₂ _ _ D.i1z.symm hz₁;have hez:e≠z:=fun x=>by subst x; rw[hz₂] at hoe; cases hoe; simp at hce
  exact Zk hz₂ (by simp) fun g3 _ hs₃=>hE g3 e _ (fun c o c1 _ c3 _ x=>hs₃.extBut _ _ c1 (hs₂ _ _ c3 (hs₁.extBut _ _ c1 x))) ⟨oe,hs₃.extBut _ _ hez hoe,hce⟩
 ·refine j4 (D1.item k _ _ _ k1 (D1.frame _ _ _ h1 (fr hs₁ D.z1)) fun x g2 t2 hx st1 hs₂=>jq ?_)
  replace hs₂:Qq i1 g1 g2:=hs₂
  have hTO₂:gy g2 TO a b:=hs₂.extBut _ _ D.TOi1 (hs₁.extBut _ _ D.TOz hTO);refine j4 (ge hTO₂ rfl ?_);refine j4 (Y5 hTO₂ fun g3 hTO₃ hs₃=>?_)
  replace hs₃:Qq TO g2 g3:=hs₃
  refine j4 (Jq (jq ?_));refine j4 (j4 (N3 ?_));show jI _ _ (Z0 (.ref i2) >>= _) _ _ _;refine j4 (e2 _ _ _ (D2.frame _ _ _ (D2.frame _ _ _ (D2.frame _ _ _ h2 (fr hs₁ D.z2)) (fr hs₂ D.a1)) (fr hs₃ D.o2)) fun g4 e hs₄ he=>?_);obtain⟨oe,hoe,hce⟩:=he
  replace hs₄:N0 i2 g3 g4:=hs₄
  have hz₄:Ws g4 z TI TO .ellipsis:=hs₄ _ _ D.i2z.symm (hs₃.extBut _ _ D.TOz.symm (hs₂.extBut _ _ D.i1z.symm hz₁));have hez:e≠z:=fun x=>by subst x; rw[hz₄] at hoe; cases hoe; simp at hce
  exact Zk hz₄ (by simp) fun g5 _ hs₅=>hE g5 e _ (fun c o c1 c2 c3 c4 x=>hs₅.extBut _ _ c1 (hs₄ _ _ c4 (hs₃.extBut _ _ c2 (hs₂.extBut _ _ c3 (hs₁.extBut _ _ c1 x))))) ⟨oe,hs₅.extBut _ _ hez hoe,hce⟩
theorem zh5{z TI TO i1 i2:js}{f1 f2:List js}{n1 n2 k:Nat}{P1 P2:Nat->j8->Prop}{S1 S2:Nat->QL->Prop}{a b:j8}{Q:Option j8->jc->Prop}(D:ZAp z TI TO i1 i2 f1 f2)
  (D1:Ua prog w A.in1 i1 f1 n1 P1 S1) (D2:Ua prog w A.in1 i2 f2 n2 P2 S2) (hz:Ws s.heap z TI TO .none) (hTI:gy s.heap TI (.ref i1) (.ref i2)) (hTO:gy s.heap TO a b)
  (h1:S1 k s.heap) (h2:S2 k s.heap) (k1:k < n1) (k2:k < n2)
  (hQ:∀ x y h' tk,P1 k x->P2 k y->Ws h' z TI TO (rawInt s.heap.objs.size)->gy h' TO x y->S1 (k+1) h'->S2 (k+1) h'->gy h' s.heap.objs.size x y->h'.objs.size=s.heap.objs.size+1->
   (∀ c o,c≠z->c≠TO->c≠i1->c≠i2->s.heap.get? c=some o->h'.get? c=some o)->Q (some (.ref s.heap.objs.size)) { s with heap:=h',toks:=tk }) :
  jI (jM prog w) A (NV (.ref z)) Q E s:=by
 have hT:s.TypeIs (.ref z) "zip":=⟨_,hz,rfl⟩;unfold NV
 exact j4 (wpAny_attempt (N4 (name:=NC "__next__") hT Yi
  (Nb Yi hT Ja
   (zm8 D D1 D2 hz hTI hTO h1 h2 k1 k2 fun x y h' tk a1 a2 a3 a4 a5 a6 a7 a8 a9=>jq (hQ x y h' tk a1 a2 a3 a4 a5 a6 a7 a8 a9)) (WQ _))))
theorem zi3{z TI TO i1 i2:js}{f1 f2:List js}{n1 n2 k:Nat}{P1 P2:Nat->j8->Prop}{S1 S2:Nat->QL->Prop}{a b:j8}{Q:Option j8->jc->Prop}(D:ZAp z TI TO i1 i2 f1 f2)
  (D1:Ua prog w A.in1 i1 f1 n1 P1 S1) (D2:Ua prog w A.in1 i2 f2 n2 P2 S2) (hz:Ws s.heap z TI TO .none) (hTI:gy s.heap TI (.ref i1) (.ref i2)) (hTO:gy s.heap TO a b)
  (h1:S1 k s.heap) (h2:S2 k s.heap) (he:zm3 prog w A.in1 i1 (S1 k)∨(k < n1/\zm3 prog w A.in1 i2 (S2 k)))
  (hQ:∀ h' tk,(∀ c o,c≠z->c≠TO->c≠i1->c≠i2->s.heap.get? c=some o->h'.get? c=some o)->Q none { s with heap:=h',toks:=tk }):jI (jM prog w) A (NV (.ref z)) Q E s:=by
 have hT:s.TypeIs (.ref z) "zip":=⟨_,hz,rfl⟩;unfold NV
 refine j4 (wpAny_attempt (N4 (name:=NC "__next__") hT Yi
  (Nb Yi hT Ja (zo6 D D1 D2 hz hTI hTO h1 h2 he fun h' e tk hk he=>?_) (WQ _))))
 obtain⟨o,ho,hc⟩:=he;refine j4 (Nc (T:="StopIteration") (b:=true) ⟨o,ho,hc⟩ isSubtype_stop ?_);exact jq (hQ _ _ hk)
end
theorem Inv.pair{X:Cx}{pc:List (js × Obj)}{sg:St}{H:Hp}{s:jc}{h2:QL}{tk:Nat}{ch:List js}{x y:V}{u v:j8}(I:Inv X pc sg H s)(hf:∀ b∈ch,zjz X pc H b)
  (keep2:∀ b o,b∉ch->s.heap.get? b=some o->h2.get? b=some o) (tup2:gy h2 s.heap.objs.size u v) (ru:RelV x u) (rv:RelV y v) :
  Inv X pc sg (upd H s.heap.objs.size (.tup [x,y])) { s with heap:=h2,toks:=tk }:=by
 have hn:H s.heap.objs.size=none:=I.hok.fresh (jm _);have nH:∀ b v,H b=some v->b∉ch/\b≠s.heap.objs.size:=fun b v q=>⟨(fun z=>by rw[(hf b z).1] at q; cases q),za9 q hn⟩
 refine I.step (g':=s.gens) (d':=s.drawn) (ch:=ch) (fun b hb=>?_) (fun b o _ _ hc q _=>keep2 b o hc q)
  (fun b o _ _ hc q _=>⟨o.slots,keep2 b o hc q⟩) (fun b o hc q n=>by rw[za8 (jC (jj q))]; exact n)
  (fun b o hc q=>⟨o,keep2 b o hc q⟩) (fun b ys q=>by rw[za8 (nH b _ q).2]; exact q) (fun b o v q=>by rw[za8 (nH b _ q).2]; exact q)
  (fun b ps q=>⟨#[],by rw[za8 (nH b _ q).2,q]; simp⟩) (fun m hm=>?_) (fun b v' q=>?_) I.bare
 ·obtain⟨f0,f1,f2,f3,f4,f5⟩:=hf b hb;exact⟨f3,f1,f4,f5⟩
 ·obtain⟨o,es,ep,ho,r⟩:=hm;exact⟨o,es,ep,keep2 _ o (fun z=>(hf _ z).2.1 rfl) ho,r⟩
 ·by_cases hb:b=s.heap.objs.size
  ·subst hb;rw[zah] at q;cases q;exact⟨by show 2<=jr; decide,[u,v],.cons ru (.cons rv .nil),_,tup2,rfl,_,rfl⟩
  ·rw[za8 hb] at q;refine(I.hok b v' q).stay (fun c v'' hc q'=>?_) (fun c q'=>by rw[za8 (nH c _ q').2]; exact q') fun c ys q'=>by rw[za8 (nH c _ q').2]; exact q'
   rcases hc with z |z
   ·exact keep2 c v'' (by rw[z]; exact(nH b v' q).1) q'
   ·exact keep2 c v'' (nH c _ z).1 q'
theorem Inv.turnedS{X:Cx}{pc:List (js × Obj)}{sg:St}{H:Hp}{s:jc}{h':QL}{t':Nat}{ch:List js}(I:Inv X pc sg H s)(hf:∀ b∈ch,zjz X pc H b)
  (k:∀ b o,b∉ch->s.heap.get? b=some o->h'.get? b=some o):Inv X pc sg H { s with heap:=h',toks:=t' }:=by
 have nH:∀ b v,H b=some v->b∉ch:=fun b v q z=>by rw[(hf b z).1] at q; cases q
 refine I.step (g':=s.gens) (d':=s.drawn) (ch:=ch) (fun b hb=>?_) (fun b o _ _ hc e _=>k b o hc e) (fun b o _ _ hc e _=>⟨o.slots,k b o hc e⟩) (fun _ _ _ _ n=>n)
  (fun b o hc e=>⟨o,k b o hc e⟩) (fun _ _ e=>e) (fun _ _ _ e=>e) (fun b ps e=>⟨#[],by rw[e]; simp⟩) (fun m hm=>?_) (fun b u e=>?_) I.bare
 ·obtain⟨f0,f1,f2,f3,f4,f5⟩:=hf b hb;exact⟨f3,f1,f4,f5⟩
 ·obtain⟨o,es,ep,ho,r⟩:=hm;exact⟨o,es,ep,k _ o (fun z=>(hf _ z).2.1 rfl) ho,r⟩
 ·refine(I.hok b u e).stay (fun c v hc q=>?_) (fun c q=>q) fun c xs q=>q;rcases hc with z |z
  ·exact k c v (by rw[z]; exact nH b u e) q
  ·exact k c v (nH c _ z) q
section
theorem zo5(n l d:Nat)(h1:l < n)(h2:d < n):ZAp (n+4) (n+2) (n+3) n (n+1) [n,l] [n+1,d]:=by
 constructor<;>first |(show @Ne Nat _ _; lia) |(intro h; simp only[jv,gg,or_false] at h; rcases h with h |h<;>(replace h:@Eq Nat _ _:=h; lia))
end
def zx9(K:jb)(a b:js):It:=
  ⟨fun i H=>∃ xs x ys y,SqL K H a xs/\xs[i]?=some x/\SqL K H b ys/\ys[i]?=some y,
   fun i H v H'=>∃ p x y,v=.ref p/\H p=none/\H'=upd H p (.tup [x,y])/\(∀ xs,SqL K H a xs->xs[i]?=some x)/\∀ ys,SqL K H b ys->ys[i]?=some y,
   fun i H=>∃ xs ys,SqL K H a xs/\SqL K H b ys/\(xs.length<=i∨ys.length<=i)⟩
theorem zmf{P:jH}{w:Qf}{K:jb}{elts:List Q4}{x1:Nat}{tp:Pos}(a d z TI TO i1 i2:js)(D:ZAp z TI TO i1 i2 [i1,a] [i2,d])(hai:a≠i1)(hdi:d≠i2) :
  Turn P w K (.Tuple elts x1 tp) (zx9 K a d) [z,TI,TO,i1,i2] z
   (fun i h=>Ws h z TI TO .none/\gy h TI (.ref i1) (.ref i2)/\(∃ u v,gy h TO u v)/\h.IsListIter i1 a i/\h.IsListIter i2 d i) where
 mem:=by simp
 obj:=fun i h st b hb=>by
  obtain⟨hz,hTI,⟨u,v,hTO⟩,⟨o1,e1,c1,d1⟩,⟨o2,e2,c2,d2⟩⟩:=st;simp only[jv,gg,or_false] at hb;rcases hb with q |q |q |q |q
  ·rw[q]; exact⟨_,hz,fun v z=>by have z':Jl _=Wc v:=z; cases z'⟩
  ·rw[q]; exact⟨_,hTI,fun v z=>by have z':Uc _ _=Wc v:=z; cases z'⟩
  ·rw[q]; exact⟨_,hTO,fun v z=>by have z':Uc _ _=Wc v:=z; cases z'⟩
  ·rw[q]; exact⟨_,e1,fun v z=>by rw[d1] at z; cases z⟩
  ·rw[q]; exact⟨_,e2,fun v z=>by rw[d2] at z; cases z⟩
 keep:=fun i h h' st k=>by
  obtain⟨hz,hTI,⟨u,v,hTO⟩,h1,h2⟩:=st;exact⟨k z (by simp) _ hz,k TI (by simp) _ hTI,⟨u,v,k TO (by simp) _ hTO⟩,h1.at fun o e=>k i1 (by simp) o e,h2.at fun o e=>k i2 (by simp) o e⟩
 item:=by
  intro X hP hw hK hc i pc s sg H E I hf st hg;subst hP hw hK;obtain⟨hz,hTI,⟨u,v,hTO⟩,h1,hit⟩:=st;obtain⟨xs,x,ys,y,hqx,hx,hqy,hy⟩:=hg;obtain⟨its,rv,p,hz'⟩:=I.list hqx;obtain⟨w1,hw1,rw1⟩:=rv.get hx;obtain⟨its2,rv2,p2,hz2⟩:=I.list hqy;obtain⟨w2,hw2,rw2⟩:=rv2.get hy;have hlt1:i < its.toArray.size:=by simpa using (j7.mp hw1).1
  have hlt2:i < its2.toArray.size:=by simpa using (j7.mp hw2).1
  have D1:=WR (prog:=X.prog) (w:=X.w) (A:=X.A.in1) (I.ok.hd hc) i1 a hai its.toArray;have D2:=WR (prog:=X.prog) (w:=X.w) (A:=X.A.in1) (I.ok.hd hc) i2 d hdi its2.toArray;refine zh5 D D1 D2 hz hTI hTO ⟨h1,p.isList⟩ ⟨hit,p2.isList⟩ hlt1 hlt2 fun ux uy h1' tk hux huy zo to st1 st2 htup hsz keep1=>?_;have hux':its[i]?=some ux:=by simpa using hux
  rw[hw1] at hux';obtain rfl:=jf hux';have huy':its2[i]?=some uy:=by simpa using huy
  rw[hw2] at huy';obtain rfl:=jf huy';refine⟨_,rfl,wpAny_letOwnedTupleGo_zip zo fun h2 zn sb=>?_⟩;have keep2:∀ b o,b∉[z,TI,TO,i1,i2]->s.heap.get? b=some o->h2.get? b=some o:=fun b o nn q=>(sb.2 b (fun e=>nn (by simp[e]))).trans (keep1 b o (fun e=>nn (by simp[e])) (fun e=>nn (by simp[e])) (fun e=>nn (by simp[e])) (fun e=>nn (by simp[e])) q)
  have zlt:z < s.heap.objs.size:=jj hz;have I2:=I.pair (tk:=tk) (x:=x) (y:=y) hf keep2 ((sb.2 _ (gs zlt)).trans htup) rw1 rw2;refine⟨.ref s.heap.objs.size,_,I2,rfl,⟨s.heap.objs.size,x,y,rfl,I.hok.fresh (jm _),rfl,fun ys h'=>by rw[I.list_inj h' hqx]; exact hx,fun ys h'=>by rw[I.list_inj h' hqy]; exact hy⟩,⟨zn,(sb.2 _ D.TIz).trans (keep1 _ _ D.TIz D.TITO D.TIi1 D.TIi2 hTI),⟨_,_,(sb.2 _ D.TOz).trans to⟩,st1.1.at fun o q=>(sb.2 _ D.i1z).trans q,st2.1.at fun o q=>(sb.2 _ D.i2z).trans q⟩,fun b hb=>?_⟩
  rw[za8 (jC ?_)]
  ·exact(hf b hb).1
  ·simp only[jv,gg,or_false] at hb;rcases hb with q |q |q |q |q
   ·rw[q]; exact zlt
   ·rw[q]; exact jj hTI
   ·rw[q]; exact jj hTO
   ·rw[q]; obtain⟨o,ho,_⟩:=h1; exact jj ho
   ·rw[q]; obtain⟨o,ho,_⟩:=hit; exact jj ho
 done:=by
  intro X hP hw hK hc i pc s sg H E I hf st hg;subst hP hw hK;obtain⟨hz,hTI,⟨u,v,hTO⟩,h1,hit⟩:=st;obtain⟨xs,ys,hqx,hqy,hx⟩:=hg;obtain⟨its,rv,p,hz'⟩:=I.list hqx;obtain⟨its2,rv2,p2,hz2⟩:=I.list hqy;have hl:=rv2.length;have hl2:=rv.length;have D1:=WR (prog:=X.prog) (w:=X.w) (A:=X.A.in1) (I.ok.hd hc) i1 a hai its.toArray;have D2:=WR (prog:=X.prog) (w:=X.w) (A:=X.A.in1) (I.ok.hd hc) i2 d hdi its2.toArray;have he:zm3 X.prog X.w X.A.in1 i1 (fun h=>h.IsListIter i1 a i/\h.IsList a its.toArray)∨(i < its.toArray.size/\zm3 X.prog X.w X.A.in1 i2 (fun h=>h.IsListIter i2 d i/\h.IsList d its2.toArray)):=by
   rcases ND i its.toArray.size with hi |hi
   ·have hi2:i < its.length:=by simpa using hi
    exact .inr ⟨hi,fun s Q E st hE=>NE (I.ok.hd hc) st.1 st.2 (Nm (by simp; lia)) hE⟩
   ·exact .inl fun s Q E st hE=>NE (I.ok.hd hc) st.1 st.2 (Nm hi) hE
  refine zi3 D D1 D2 hz hTI hTO ⟨h1,p.isList⟩ ⟨hit,p2.isList⟩ he fun h' tk kp=>⟨rfl,?_⟩;exact I.turnedS (t':=tk) (ch:=[z,TO,i1,i2]) (fun b hb=>hf b (by simp only[jv,gg,or_false] at hb ⊢; rcases hb with q |q |q |q<;>simp[q])) (fun b o hb q=>kp b o (fun e=>hb (by simp[e])) (fun e=>hb (by simp[e])) (fun e=>hb (by simp[e])) (fun e=>hb (by simp[e])) q)
 self:=fun _ _ _ _ _ st h=>wpAny_pyIter_zip st.1 h
section
def zwd(K:jb)(ta:TA):TI:=fun sg H R=>ta sg H fun vs H1=>∃ a b xs ys,vs=[.ref a,.ref b]/\SqL K H1 a xs/\SqL K H1 b ys/\R (zx9 K a b) H1
theorem zqM{elts:List Q4}{x1:Nat}{tp:Pos}{a b:Q4}{ta:TA}{p pos:Pos}(hg:Gl X "zip")(hm:X.mg "zip"=none)(ha:PA X [a,b] ta)(hs:jd [a,b] X.env=(false,eval a X.env)::jd [b] X.env:=by rfl)(hs2:(QF pos (jd [b] X.env)).any (·.1)=false:=by rfl) :
  PI X (.Tuple elts x1 tp) (.Call (.Name "zip" p) [a,b] [] pos) (zwd X.K ta):=by
 intro pc s sg H R I h;refine Call_ (zec I hg hm PyProof.Rows.boot_zip (Qj (thn (ha pos pc s sg H _ I h) fun us s1 ⟨vs,H1,I1,r1,q1⟩=>?_) hs hs2));obtain⟨a1,a2,xs,ys,e,hqx,hqy,q⟩:=q1;subst e;cases r1 with
 |cons r rr=>
  cases rr with
  |cons r' rr=>
   cases rr;cases r;cases r';obtain⟨its,rv,pl,hz⟩:=I1.list hqx;obtain⟨its2,rv2,pl2,hz2⟩:=I1.list hqy;have lt1:a1 < s1.heap.objs.size:=by obtain⟨o,ho,_⟩:=pl.isList; exact jj ho
   have lt2:a2 < s1.heap.objs.size:=by obtain⟨o,ho,_⟩:=pl2.isList; exact jj ho
   refine call_zip_2 pl.isList pl2.isList fun h' hz hTI hTO hi1 hi2 hsz kp=>wpAny_pyIter_zip hz ?_;refine⟨s1.heap.objs.size+4,[s1.heap.objs.size+4,s1.heap.objs.size+2,s1.heap.objs.size+3,s1.heap.objs.size,s1.heap.objs.size+1],_,_,H1,rfl,I1.kept (t':=s1.toks) kp,zmf a1 a2 _ _ _ _ _ (zo5 _ a1 a2 lt1 lt2) (jC lt1) (jC (Qv lt2)),⟨hz,hTI,⟨_,_,hTO⟩,hi1,hi2⟩,fun b hb=>?_,q⟩;have le:s1.heap.objs.size<=b:=by
    simp only[jv,gg,or_false] at hb;rcases hb with h |h |h |h |h<;>rw[h]<;>first |exact jm _ |exact Nat.le_add_right _ _
   exact I1.fpOk le (I1.hok.fresh le)
end
def zrS:List Int->Int
 |[]=>0
 |x::xs=>xs.foldl (fun a b=>if b < a then b else a) x
def zo0:List Int->Int
 |[]=>0
 |x::xs=>xs.foldl (fun a b=>if a < b then b else a) x
theorem zk6{ns:List Int}{m:Int}(hm:m∈ns)(h:∀ x∈ns,m<=x):zrS ns=m:=by
 cases ns with
 |nil=>cases hm
 |cons x xs=>
  show xs.foldl (fun a b=>if b < a then b else a) x=m
  have h1:=fold_min xs x;have:xs.foldl (fun a b=>if b < a then b else a) x<=m:=by
   rcases jv.mp hm with e |e
   ·rw[e]; exact h1.2.1
   ·exact h1.2.2 m e
  have:m<=xs.foldl (fun a b=>if b < a then b else a) x:=by
   rcases h1.1 with e |e
   ·rw[e]; exact h x (jT ..)
   ·exact h _ (jw _ e)
  lia
theorem zhy{ns:List Int}{m:Int}(hm:m∈ns)(h:∀ x∈ns,x<=m):zo0 ns=m:=by
 cases ns with
 |nil=>cases hm
 |cons x xs=>
  show xs.foldl (fun a b=>if a < b then b else a) x=m
  have h1:=fold_max xs x;have:m<=xs.foldl (fun a b=>if a < b then b else a) x:=by
   rcases jv.mp hm with e |e
   ·rw[e]; exact h1.2.1
   ·exact h1.2.2 m e
  have:xs.foldl (fun a b=>if a < b then b else a) x<=m:=by
   rcases h1.1 with e |e
   ·rw[e]; exact h x (jT ..)
   ·exact h _ (jw _ e)
  lia
theorem zkQ{zs:Array (Int × Tok)}{ns:List Int}(e:ns=zs.toList.map (·.1))(i:Nat):numAt zs i=ns[i]?.getD 0:=by
 subst e;unfold numAt;rw[jg,gX]
section
theorem znP(hc:X.calm=true):CallR X (.builtin "max") (fun xs H Q=>∃(a:js) (ns:List Int),xs=[V.ref a]/\SqL X.K H a (ns.map V.int)/\0 < ns.length/\Q (.int (zo0 ns)) H):=by
 intro pc s σ H xs us Q I rv h;obtain⟨a,ns,rfl,hq,hn,q⟩:=h;obtain⟨u,rfl,ru⟩:=rv.one;cases ru;obtain⟨its,r,p,hz⟩:=I.list hq;have hi:=zgA r;obtain⟨zs,hx⟩:=hi.allInts.items;have e1:ns=zs.toList.map (·.1):=by
  rw[<-nums_intItems,<-hx];exact(show numsOf its.toArray.toList=ns from hi.numsOf).symm
 have el:zs.size=ns.length:=by rw[e1]; simp
 refine max_intList (xs:=zs) (I.ok.hd hc) (hx▸p.isList) (by lia) fun v h' tk hv k=>?_
 obtain⟨t,rfl⟩:=intItems_at hv;have b:=argBest_gt (numAt zs) (zs.size - 1);have e2:zo0 ns=numAt zs (argBest (fun i j=>decide (numAt zs i > numAt zs j)) (zs.size - 1)):=by
  refine zhy ?_ fun x hx=>?_
  ·rw[zkQ e1,j3 (by lia)]
   exact Q5 _
  ·obtain⟨j,hj,rfl⟩:=QC hx;have:=b.2 j (by lia)
   rw[zkQ e1 j,j3 hj] at this;exact this
 rw[<-e2];exact⟨.int (zo0 ns),H,I.kept k,⟨_,rfl⟩,q⟩
end
end L2
namespace L2
open PySem PySem.Spec PyProof.Rows
open PySem.W (hideAll hideAll_get of_hideAll hideAll_none funFrames_hide)
structure Fly (P:jH) (w:Qf) (outer:List Env) (H:Hp) (s:jc) (x C:js) (a0:j8) (B:QL) (H':Hp) (s':jc):Prop where
 os:s'.os=s.os
 bare:YU s'.gens
 fly:U2 B outer x (.ref C) a0 s'.heap
 hok:HOk P w H' B
 un:Un (frs outer) [] H H' s.heap s'.heap
 keep:∀ b o,s.heap.get? b=some o->H b=none->b∉frs outer->B.get? b=some o
 has:∀ b o,s.heap.get? b=some o->b∉frs outer->∃ o',B.get? b=some o'
 fr:∀ b∈frs outer,H' b=none
def CX1(P:jH)(w:Qf):CXT:=fun outer H s E e s'=>∃ x C a0 B H',e=.ref x/\Fly P w outer H s x C a0 B H' s'/\E (.ref C) none H'
theorem Fly.on{P:jH}{w:Qf}{outer:List Env}{H H':Hp}{s s':jc}{x C:js}{a0:j8}{B h'':QL}(F:Fly P w outer H s x C a0 B H' s')(st:B.StaysIn h'')(up:s'.heap.UpToSlots h'')(funs:s.heap.FunFrames base outer) :
  Un (frs outer) [] H H' s.heap h'':=by
 have sl:∀ b o,s.heap.get? b=some o->H b=none->b∈frs outer->∃ sl,h''.get? b=some { o with slots:=sl }:=fun b o e n hb=>by
  obtain⟨sl,e1⟩:=F.un.slot b o e n hb (by simp)
  obtain⟨_,o',ho',hd'⟩:=funs.mem hb;rw[e] at ho';obtain rfl:=jf ho';obtain⟨sl2,e2⟩:=up b _ e1 hd';exact⟨sl2,e2⟩
 refine⟨fun b o e n hb _=>st b o (F.keep b o e n hb),fun b o e n hb _=>sl b o e n hb,F.un.free,fun b o e _=>?_,F.un.tups,F.un.frzs,F.un.tbls⟩
 by_cases hb:b∈frs outer
 ·obtain⟨o1,e1⟩:=F.un.there b o e (by simp)
  obtain⟨_,o',ho',hd'⟩:=funs.mem hb
  by_cases n:H b=none
  ·obtain⟨sl,e2⟩:=sl b o e n hb;exact⟨_,e2⟩
  ·obtain⟨_,_,ho2,hd2⟩:=F.fly.2.2.1.mem hb;obtain⟨sl,e2⟩:=up b _ ho2 hd2;exact⟨_,e2⟩
 ·obtain⟨o',e1⟩:=F.has b o e hb;exact⟨o',st b o' e1⟩
end L2
namespace L2
open PySem PySem.Spec PyProof.Rows
def zfA(X:Cx):St:=gT X.N.length none
abbrev Cx.held(X:Cx)(x:js):Cx:={ X with A:=X.A.mark (some (.ref x)),calm:=false,xe:=fun _ _=>False }
section
variable {X:Cx}{pc:List (js × Obj)}{σ:St}{H H':Hp}{s:jc}{x:js}
theorem Inv.held(I:Inv X pc σ H s)(x:js):Inv (X.held x) pc σ H s:=
 ⟨⟨I.ok.mod,I.ok.kind,I.ok.glob,I.ok.blt,I.ok.above,I.ok.inj,I.ok.has,I.ok.cab,(fun z=>by cases z),I.ok.frames,I.ok.stk,I.ok.exf,I.ok.bs,I.ok.bsz,I.ok.noex,I.ok.exfs,I.ok.funs,I.ok.frf⟩,I.os,I.bare,I.base,I.loc,I.cell,I.free,I.freeC,I.pin,I.hok,I.len⟩
theorem Inv.unheld(ok:X.Ok)(I:Inv (X.held x) pc σ H s):Inv X pc σ H s:=
 ⟨ok,I.os,I.bare,I.base,I.loc,I.cell,I.free,I.freeC,I.pin,I.hok,I.len⟩
theorem Inv.nopins(I:Inv X pc σ H s):Inv X [] σ H s:=Inv.unpinned (pc:=[]) (pl:=pc) (by simpa using I)
theorem zoD{i:Nat}{v:V}:(zfA X)[i]?≠some (some v):=fun e=>by
 unfold zfA at e;rw[gB] at e;split at e<;>cases e
theorem Inv.noNames(I:Inv X pc σ H s):Inv X pc (zfA X) H s:=I.forget (by unfold zfA; rw[gV]; exact I.len.symm) fun i v e=>absurd e zoD
end
def PS0(X:Cx)(st:QR)(t:TS):Prop:=∀(s:jc) (σ:St) (H:Hp) (D:Ends),Inv X [] σ H s->t D σ H->jI (jM X.prog X.w) X.A (exec st X.env) (SP X [] D) X.xe s
def zpT(X:Cx)(st:List QR)(t:TS):Prop:=∀(s:jc) (σ:St) (H:Hp) (D:Ends),Inv X [] σ H s->t D σ H->jI (jM X.prog X.w) X.A (execs st X.env) (SP X [] D) X.xe s
section
variable {X:Cx}
theorem Fly.inv{pc:List (js × Obj)}{σ:St}{H1 H':Hp}{s1 s':jc}{x C:js}{a0:j8}{B h'':QL}{tk:Nat}(I1:Inv X pc σ H1 s1)(F:Fly X.prog X.w X.stack H1 s1 x C a0 B H' s')(st:B.StaysIn h'')(up:s'.heap.UpToSlots h''):Inv X [] (zfA X) H' { s' with heap:=h'',toks:=tk }:=
 (I1.nopins.noNames).call' (ch:=[]) (s':={ s' with heap:=h'',toks:=tk }) F.os (F.on st up I1.stack) (F.hok.kept st) F.bare (fun b hb=>by simp at hb)
end
end L2
namespace L2
open PySem PySem.Spec PySem.Calls PyProof.Rows PySem.W Builtin Builtin.ObjectAttr Builtin.Getset_descriptor
def zwE(x C:js)(h:QL):Prop:=∃ o,h.get? x=some o/\o.cls=.ref C
section
variable {prog:jH}{w:Qf}{A:Qg}{E:j8->jc->Prop}{K:Frag}{x C:js}{h:QL}{g:Array Y9}{d:Drawn}{t:Nat}{os:OsState}
theorem zl5(M:U5)(h:QL)(p:zwE x C h):Looks M h (typeOf (.ref x)) (.ref C):=by
 obtain⟨o,h1,h2⟩:=p;exact h2▸(Looks.ld h1).andThen .now
end
end L2
namespace L2
open PySem PySem.Spec PyProof.Rows
theorem ztY{CX:CXT}{P:jH}{w:Qf}{K:jb}{mg:Str->Option j8}{base:QL}{k:Nat}{f:js}{name qual:Str}{params:Wi}{body:List QR}{scope:gN}{dV kV doc pm cdv ct oc:j8}{an od:Option js}
  {osl:Array (Option j8)} {N ps:List Str} {sp:Sp} (lk:K.lookup f=some ⟨oc,od,.func (jX name qual params body scope dV kV doc pm an cdv ct),osl⟩) (hcd:QZ K cdv qual=true) (S:FnScope N ps scope)
  (len:∀ vs H Q E,sp vs H Q E->vs.length=ps.length)
  (hbody:∀(A:Qg) (outer:List Env) (s:jc) (H:Hp) (vs:List V) (Q:VK) (E:XK),Room k (A.deeper (Zp qual scope s.heap.objs.size f cdv))->A.frames=some outer->sp vs H Q E->
   ∃ t,zpT (zhr CX P w K mg base N qual scope f cdv A outer s H E) body t/\t { nx:=fun _ H'=>Q .non H',rt:=Q } (start N vs) H) :
  FnOk P w K mg base CX (k+1) f (jX name qual params body scope dV kV doc pm an cdv ct) ps sp:=by
 refine⟨len,fun A outer s H args us vs Q E hr e0 hb r hsp=>?_⟩;have hl:=len _ _ _ _ hsp;have KX:K.In s.heap:=e0.mod.kin.keeps fun b o e=>(e0.bs b o e).1;have lim:s.heap.NoLimit:=e0.mod.nolimit.keeps fun b o e=>(e0.bs b o e).1;have hkind:∀ y∈ps.zip us,scope.names.lookup y.1=some .local∨(scope.names.lookup y.1=some .cell/\((Wg (s.heap.objs.size+1) scope.names []).lookup y.1).isSome=true):=fun⟨n,v⟩ hy=>by
  rcases S.par n (Yd hy).1 with q |q
  ·exact .inl q
  ·exact .inr ⟨q,gH _ _ _ (.inl q)⟩
 refine gW hr.depth (KX _ _ lk) rfl S.co S.gen rfl (Ys KX hcd) (hb _ _ _ _ ?_);refine ZZ S.kind hkind fun env he s1 x=>?_;subst he;refine⟨lim.keeps x.toInCall.keep,WW ?_⟩;obtain⟨t,ht,hq⟩:=hbody A outer s H vs Q E (hr.deeper _) e0.frames hsp;have I:Inv (zhr CX P w K mg base N qual scope f cdv A outer s H E) [] (start N vs) H s1:=zj5 S hr.hd e0 hl r x;refine jV (ht s1 (start N vs) H _ I hq) (fun fl s' hs=>?_) fun e s' hs=>hs;have fin:∀ {σ':St} {H':Hp} {v:V} {u:j8},Inv (zhr CX P w K mg base N qual scope f cdv A outer s H E) [] σ' H' s'->RelV v u->Q v H'->CE outer P w H s Q u s':=
  fun {σ' H' v u} J rv q=>⟨v,H',J.os,J.bare,J.base,J.hok,rv,q⟩
 cases fl with
 |ret u=>
  obtain⟨v,σ',H',J,rv,q⟩:=hs;exact fin J rv q
 |next=>
  obtain⟨σ',H',J,q⟩:=hs;exact fin (v:=V.non) (u:=YD) J rfl q
 |brk=>
  obtain⟨_,_,_,q⟩:=hs;exact Zf q
 |cont=>
  obtain⟨_,_,_,q⟩:=hs;exact Zf q
theorem PSs.zero{X:Cx}{st:List QR}{t:TS}(h:PSs X st t):zpT X st t:=fun s σ H D I q=>h [] s σ H D I q
def zdm(h:QL)(C:js)(rest:List j8):QL:=(h.push { cls:=.type "tuple",data:=.seq rest.toArray }).push { cls:=.ref C,data:=.fields #[.ref h.objs.size,.none,.none,.none,.bool false,.none] }
section
variable {prog:jH}{w:Qf}{A:Qg}{E:j8->jc->Prop}{h:QL}{g:Array Y9}{d:Drawn}{t:Nat}{os:OsState}
variable {nm q:Str}{C N:js}{bs bm bmB:List j8}{hdct:Bool}{sn:List Str}{sub:List j8}{ab:Bool}{col:Option Bool}{dd:Option js}{k0 k1 k2 k3 k5:Option j8}{B newId initId:String}
theorem zgY(F:ExcBaseFacts B newId initId bmB)(T:OwnTail h bmB bm){mN:Str->Option j8}{rest:List j8}{f:js}{of:Obj}{Q:Fin->jc->Prop}
  (hC:h.get? C=some (Yj nm q C N bs bm hdct sn sub ab col dd k0 k1 k2 k3 k5 newId)) (hn:h.Ns N mN) (hi:mN "__init__"=some (.ref f)) (hfo:h.get? f=some of) (hfc:of.cls=.type "function")
  (hq:jI (jM prog w) A (call (.ref f) (.ref (h.objs.size+1)::rest)) (fun v s'=>v=.none/\Q (.done (.ret (.ref (h.objs.size+1)))) s') E ⟨zdm h C rest,g,d,t,os⟩) (hrest:rest.length<=jr:=by size_fits) :
  jI (jM prog w) A (WN.«type.__call__» ⟨.ref C::rest,[]⟩) Q E ⟨h,g,d,t,os⟩:=by
 repeat (first |with_reducible refine QX hC ?_ |with_reducible refine wpAny_madeBy_exc hC ?_ |wp_step)
 refine codeAny_call_builtin_code (Yv _ F.quiet) (wpAny_check_new_subT F T hC ?_);refine codeAny_exc_new_subT F T hC ?_ hrest;show jI _ _ _ _ _ _;have keep:∀ b o,h.get? b=some o->(zdm h C rest).get? b=some o:=fun b o e=>ja _ (ja _ e);have hC₁:=keep _ _ hC;have hn₁:(zdm h C rest).Ns N mN:=let ⟨o,es,ep,e,r⟩:=hn; ⟨o,es,ep,keep _ _ e,r⟩
 have hget:(zdm h C rest).get? (h.objs.size+1)=some { cls:=.ref C,data:=.fields #[.ref h.objs.size,.none,.none,.none,.bool false,.none] }:=by
  unfold zdm
  heap_get
 have hcC:(Qh C::bm).contains (.ref C)=true:=by simp
 have T₁:=T.keeps keep;have hfo₁:=keep _ _ hfo;unfold zdm at hC₁ hn₁ hget T₁ hfo₁ hq;unfold WP
 repeat (first |with_reducible refine QX hget ?_ |(with_reducible refine gr hC₁ ?_; rw[hcC]) |wp_step)
 show jI _ _ (JD (.ref C) _) _ _ _;refine wpAny_typeLookup_tail hC₁ hn₁ T₁ F.mroIs F.init.lookup ?_;rw[hi];refine Qi (j4 (wpAny_bindSpecial_def hfo₁ hfc ?_));refine j4 (jV hq (fun v s' z=>?_) fun _ _ z=>z);obtain⟨rfl,z⟩:=z;refine jq ?_;show jI _ _ (if (YD != YD)=true then _ else _) _ _ _
 rw[In_ (by decide)]
 exact jq z
theorem znS(F:ExcBaseFacts B newId initId bmB)(T:OwnTail h bmB bm){mN:Str->Option j8}{rest:List j8}{f:js}{of:Obj}{Q:j8->jc->Prop}
  (hC:h.get? C=some (Yj nm q C N bs bm hdct sn sub ab col dd k0 k1 k2 k3 k5 newId)) (hn:h.Ns N mN) (hi:mN "__init__"=some (.ref f)) (hfo:h.get? f=some of) (hfc:of.cls=.type "function")
  (hq:jI (jM prog w) (A.under (.builtin "type.__call__" ⟨.ref C::rest,[]⟩)) (call (.ref f) (.ref (h.objs.size+1)::rest)) (fun v s'=>v=.none/\Q (.ref (h.objs.size+1)) s') E ⟨zdm h C rest,g,d,t,os⟩) (hrest:rest.length<=jr:=by size_fits) :
  jI (jM prog w) A (call (.ref C) rest) Q E ⟨h,g,d,t,os⟩:=by
 have f1:=tc_lookup;have f2:=tc_bind (.ref C);have hT:(⟨h,g,d,t,os⟩:jc).TypeIs (.ref C) "type":=⟨_,hC,rfl⟩;refine WD (codeAny_of_tree ?_);show jI _ _ (callAny (.ref C) _) _ _ _
 repeat (any_goals (first |assumption |with_reducible refine QX hC ?_ |wp_step))
 refine⟨rfl,?_⟩;refine codeAny_call_builtin_at (Yv _ (by decide +kernel)) entry_typeCall (wpAny_check_type_call_sub hC (zgY (hrest:=hrest) F T hC hn hi hfo hfc ?_))
 exact jV hq (fun v s' z=>z) fun e s' z=>z
end
end L2
namespace L2
open PySem PySem.Spec PySem.Calls PyProof.Rows PySem.W Builtin Builtin.ObjectAttr
section
variable {prog:jH}{w:Qf}{A:Qg}{E:j8->jc->Prop}{h:QL}{g:Array Y9}{d:Drawn}{t:Nat}{os:OsState}{K:Frag}{x C D:js}{cd:Jr}{name:Str}{v:j8}
structure XStore (K:Frag) (C D:js) (cd:Jr) (name:Str):Prop where
 cl:clsIn K C=some cd
 mro:cd.mro=[.ref C,.ref D,.type "ValueError",.type "Exception",.type "BaseException",.type "object"]
 hd:cd.hasDict=true
 sa:findIn K (.ref C) "__setattr__"=some (some (.builtin "object.__setattr__"))
 no:findIn K (.ref C) name=some none
theorem ziu{tk:Tok}{Q:Fin->jc->Prop}{o:Obj}(X:K.In h)(c:XStore K C D cd name)(hx:h.get? x=some o)(hc:o.cls=.ref C)(hnc:∀ c,o.data≠.cls c)(hdn:o.dict=none)
  (hq:∀ h' tk',h'.Ns1 h.objs.size (fun y=>if y=name then some v else none)->(∀ b o,b≠x->h.get? b=some o->h'.get? b=some o)->h'.get? x=some { o with dict:=some h.objs.size }->Q (.done (.ret .none)) ⟨h',g,d,tk',os⟩) :
  jI (jM prog w) A (WN.«object.__setattr__» ⟨[.ref x,.str name tk,v],[]⟩) Q E ⟨h,g,d,t,os⟩:=by
 have hpass:=Wt.passes (.ref x);have L0:=zl5 (jM prog w) h ⟨o,hx,hc⟩;have LC:=looks_clsIn (M:=jM prog w) X c.cl;have LM:Looks (jM prog w) h (mroOf (.ref C)) cd.mro:=LC.andThen .now;have LN:=looks_findIn (M:=jM prog w) X c.no;rw[osa_eq,refuse_eq];refine j4 (j4 (L0.at (j4 (LM.at ?_))));rw[c.mro,refuseLoop_ref,refuseLoop_ref,hpass];refine jq (j4 (L0.at (j4 (LN.at (j4 (jq ?_))))));dsimp only
 repeat (first |(with_reducible refine QX hx ?_; rw[hc]) |with_reducible refine LC.at ?_ |wp_step)
 rw[c.hd,In_ (by decide)]
 dsimp only;rw[hdn,In_ (by simp[typeHasDict])]
 split
 ·rename_i hcd;cases hcd
 split
 ·rename_i c' hcd;exact absurd hcd (hnc c')
 ·have hx₁:(h.push { cls:=.type "dict",data:=.dict #[] }).get? x=some o:=ja _ hx;have hxs:x≠h.objs.size:=jC (jj hx);refine j4 (wpAny_alloc' ?_);refine j4 (wpAny_update' hx₁ ?_);refine jq ?_;have hgd:((h.push { cls:=.type "dict",data:=.dict #[] }).update x fun o=>{ cls:=o.cls,dict:=some h.objs.size,data:=o.data,slots:=o.slots }).get? h.objs.size
    = some { cls:=.type "dict",data:=.dict #[] }:=
   (W6 _ _ _ _ hxs.symm).trans (Heap.get?_push_at rfl rfl)
  have hnd:((h.push { cls:=.type "dict",data:=.dict #[] }).update x fun o=>{ cls:=o.cls,dict:=some h.objs.size,data:=o.data,slots:=o.slots }).Ns h.objs.size (fun _=>none):=
   ⟨_,#[],_,hgd,rfl,fun e he=>absurd he (by simp),fun _=>rfl⟩
  show jI _ _ (storeInDict h.objs.size (.str name tk) name v) _ _ _;unfold storeInDict newKeyGuard;refine j4 (jq (j4 (wpAny_nsSet1 (Heap.Ns1.of_empty hnd) fun h' hn' hs=>?_)));obtain⟨oD,esD,epD,hoD,hdD,hcD⟩:=hn'.count (Within.cons name v Within.nil);refine j4 (wpAny_lookBehind hoD (by rw[hdD]; exact pastItsLine_dict (Qc hcD (by rw[jp,ZR,ZQ]; lia))) ?_)
  wp_walk
  refine hq h' _ hn' (fun b ob hbx hb=>?_) ?_
  ·exact(hs.2 b (jC (jj hb))).trans ((W6 _ _ _ _ hbx).trans (ja _ hb))
  ·refine(hs.2 x hxs).trans (Nr _ hx₁ ?_);have hfr:=(Heap.get?_some_iff.mp hx).2;obtain⟨oc,od,odt,osl⟩:=o;cases odt<;>first |rfl |exact hfr
theorem zjC{Q:Unit->jc->Prop}{o:Obj}(X:K.In h)(c:XStore K C D cd name)(hx:h.get? x=some o)(hc:o.cls=.ref C)(hnc:∀ c,o.data≠.cls c)(hdn:o.dict=none)
  (hq:∀ h' tk',h'.Ns1 h.objs.size (fun y=>if y=name then some v else none)->(∀ b o,b≠x->h.get? b=some o->h'.get? b=some o)->h'.get? x=some { o with dict:=some h.objs.size }->Q () ⟨h',g,d,tk',os⟩) :
  jI (jM prog w) A (setAttr (.ref x) name v) Q E ⟨h,g,d,t,os⟩:=by
 have L0:=zl5 (jM prog w) h ⟨o,hx,hc⟩;have LS:=looks_findIn (M:=jM prog w) X c.sa;have LC:=looks_clsIn (M:=jM prog w) X c.cl;have LO:Looks (jM prog w) h (WP (.ref x) (.type "object")) true:=L0.andThen (looks_mroIn X (by unfold mroIn; rw[c.cl,j9,c.mro]; rfl))
 have f3:=Wt.slot.bind (.ref x);have SF:=F.store_object;unfold setAttr callSpecial? specialOf
 repeat (any_goals (first |assumption |with_reducible refine L0.at ?_ |with_reducible refine LS.at ?_ |wp_step))
 refine NR SF.slot.plain SF.entry (@check_slot (jM prog w) _ _ _ "object.__setattr__" "object" "__setattr__" (.ref x) [.str name t,v] [] _ SF.kind SF.split LO (SF.args (.ref x) (.str name t) v) ?_);refine ziu X c hx hc hnc hdn fun h' tk' a1 a2 a3=>?_
 repeat (any_goals (first |assumption |wp_step))
 exact hq h' tk' a1 a2 a3
end
end L2
namespace L2
open PySem PySem.Spec PyProof.Rows
variable {A:Qg}
section
variable {M:U5}{E:j8->jc->Prop}{env:Env}
variable {nm q:Str}{C N:js}{bs bm:List j8}{hdct:Bool}{sn:List Str}{sub:List j8}{ab:Bool}{col:Option Bool}{dd:Option js}{k0 k1 k2 k3 k5:Option j8}{newId:String}
theorem zjN{s:jc}{x:Sem j8}{Q:Flow->jc->Prop}(hbase:bm.contains (.type "BaseException")=true)(hh:A.handled=none)
  (h:jI M A x (fun v s₁=>∃ e t dx sl,v=.ref e/\s₁.heap.get? C=some (Yj nm q C N bs bm hdct sn sub ab col dd k0 k1 k2 k3 k5 newId) /\
   s₁.heap.get? e=some { cls:=.ref C,dict:=dx,data:=.fields #[.ref t,.none,.none,.none,.bool false,.none],slots:=sl }/\E (.ref e) s₁) E s) :
  jI M A (raiseStmt env (some x) none) Q E s:=by
 have hcB:(Qh C::bm).contains (.type "BaseException")=true:=by rw[Yw,hbase,U3]
 unfold raiseStmt;refine j4 (jV h (fun v s₁ h₁=>?_) fun _ _ x=>x);obtain⟨e,t,dx,sl,rfl,hC,he,hE⟩:=h₁;obtain⟨hp,g,d,tk,os⟩:=s₁
 repeat (first |with_reducible refine QX he ?_ |with_reducible refine QX hC ?_ |(with_reducible refine gr hC ?_; rw[hcB]) |wp_step)
 exact wpAny_raiseNew_none hh hE
end
structure MadeD (h h':QL) (e C:js):Prop where
 keeps:∀ b o,h.get? b=some o->h'.get? b=some o
 new:h.get? e=none
 there:∃ t dx sl,h'.get? e=some { cls:=.ref C,dict:=dx,data:=.fields #[.ref t,.none,.none,.none,.bool false,.none],slots:=sl }
section
variable {M:U5}{E:j8->jc->Prop}{s:jc}
theorem zj1{base h:QL}{env:Env}{outer:List Env}{L e C:js}{Q:Unit->jc->Prop}
  (hfr:A.frames=some (env::outer)) (hf:env.frame=some L) (hkb:base.StaysIn h) (hl:h.FunFrames base (env::outer)) (hx:MadeD h s.heap e C)
  (hQ:∀ h' t,U2 base outer e (.ref C) (.ref t) h'->s.heap.UpToSlots h'->Q () { s with heap:=h' }):jI M A (leaving env (.ref e)) Q E s:=by
 obtain⟨t,dx,sl,he⟩:=hx.there;have fresh:∀ b,h.get? b=none->base.get? b=none:=fun b hb=>by
  cases hq:base.get? b with
  |none=>rfl
  |some o'=>have:=hkb b o' hq; rw[hb] at this; cases this
 refine wpAny_leaving_firstW (a0:=.ref t) hfr (hl.of_keeps fun b o hb _=>⟨o,hx.keeps b o hb,rfl⟩) hf he (fun b o hb=>hx.keeps b o (hkb b o hb)) (fresh e hx.new) rfl rfl rfl fun h' hL=>?_;obtain⟨k1,⟨_,_,k2⟩,k3,k4⟩:=hL;exact hQ h' t ⟨k1,fresh e hx.new,k2,k3⟩ k4
end
open PySem.W (hideAll hideAll_get of_hideAll hideAll_none funFrames_hide)
section
variable {P:jH}{w:Qf}{K:jb}{mg:Str->Option j8}{base:QL}{N:List Str}{qual:Str}{scope:gN}{f:js}{cd:j8}{outer:List Env}{s:jc}{H:Hp}{E:XK}
theorem zjM{pc:List (js × Obj)}{σ:St}{Hc:Hp}{s2:jc}{h':QL}{e C:js}{tk:Nat}
  (I:Inv (zhr (CX1 P w) P w K mg base N qual scope f cd A outer s H E) pc σ Hc s2) (hA:A.frames=some outer) (hx:MadeD s2.heap h' e C) (hE:E (.ref C) none Hc) :
  (zhr (CX1 P w) P w K mg base N qual scope f cd A outer s H E).xe (.ref e) { s2 with heap:=h',toks:=tk }:=by
 show jI (jM P w) (A.deeper (Zp qual scope s.heap.objs.size f cd)) (leaving (Zp qual scope s.heap.objs.size f cd) (.ref e)) _ _ _;have stk:=I.stack;have fsub:∀ env∈(Zp qual scope s.heap.objs.size f cd::outer),∀ b,env.frame=some b->b∈frs (Zp qual scope s.heap.objs.size f cd::outer):=fun env he b hb=>Yq.mpr ⟨env,he,hb⟩;refine zj1 (base:=hideAll s2.heap (frs (Zp qual scope s.heap.objs.size f cd::outer))) (NN hA) rfl (fun b o q=>of_hideAll _ q) (funFrames_hide stk fsub) hx fun h'' t x1 x4=>?_;have own:∀ b o,s.heap.get? b=some o->b∉frs outer->b∉frs (Zp qual scope s.heap.objs.size f cd::outer):=fun b o q hb hm=>by
  unfold frs at hm;rw[ZB] at hm;rcases jv.mp hm with z |z
  ·exact absurd (jj q) (by rw[z]; exact jZ _)
  ·exact hb z
 have un:Un (frs outer) [] H Hc s.heap s2.heap:=I.base;have up:s2.heap.UpToSlots h'':=(JR hx.keeps).trans x4;refine⟨e,C,_,hideAll s2.heap (frs (Zp qual scope s.heap.objs.size f cd::outer)),Hc,rfl,⟨I.os,I.bare,x1,fun a o q=>?_,⟨fun b o q n hb _=>?_,fun b o q n hb _=>?_,un.free,fun b o q _=>?_,un.tups,un.frzs,un.tbls⟩,fun b o q n hb=>?_,fun b o q hb=>?_,fun b hb=>?_⟩,hE⟩
 ·have nf:∀ b u,Hc b=some u->b∉frs (Zp qual scope s.heap.objs.size f cd::outer):=fun b u hu hm=>by
   rw[I.stkFree b hm] at hu;cases hu
  exact(I.hok a o q).stay (fun b u hb r=>N5 _ r (by
   rcases hb with rfl |hb
   ·exact nf _ _ q
   ·exact nf _ _ hb)) (fun _ r=>r) fun _ _ r=>r
 ·exact x1.1 b o (N5 _ (un.keep b o q n hb (by simp)) (own b o q hb))
 ·obtain⟨sl,e1⟩:=un.slot b o q n hb (by simp)
  obtain⟨_,o',ho',hd'⟩:=I.funs.mem hb;rw[e1] at ho';obtain rfl:=jf ho';obtain⟨sl2,e2⟩:=up b _ e1 hd';exact⟨sl2,e2⟩
 ·obtain⟨o1,e1⟩:=un.there b o q (by simp)
  by_cases hb:b∈frs outer
  ·obtain⟨_,o',ho',hd'⟩:=I.funs.mem hb;obtain⟨sl2,e2⟩:=up b _ ho' hd';exact⟨_,e2⟩
  ·exact⟨o1,x1.1 b o1 (N5 _ e1 (own b o q hb))⟩
 ·exact N5 _ (un.keep b o q n hb (by simp)) (own b o q hb)
 ·obtain⟨o1,e1⟩:=un.there b o q (by simp)
  exact⟨o1,N5 _ e1 (own b o q hb)⟩
 ·refine I.stkFree b ?_;show b∈frs (Zp qual scope s.heap.objs.size f cd::outer);unfold frs;rw[ZB];exact jw _ hb
end
end L2
namespace L2
open PySem PySem.Spec PyProof.Rows
variable {X:Cx}
theorem zoG{P:jH}{w:Qf}{K:jb}{A:Qg}{E:j8->jc->Prop}{s:jc}{f e C D:js}{cdt:Jr}{u:j8}{o:Obj}{n1 n2:Str}{p1 p2 p3 p4:Pos}
  {name qual:Str} {params:Wi} {scope:gN} {dV kV doc pm cdv ct oc:j8} {an od:Option js} {osl:Array (Option j8)} {Q:j8->jc->Prop}
  (KX:K.In s.heap) (lim:s.heap.NoLimit) (lk:K.lookup f=some ⟨oc,od,.func (jX name qual params [.Assign [.Attribute (.Name n1 p1) n2 p2] (.Name n2 p3) p4] scope dV kV doc pm an cdv ct),osl⟩) (hcd:QZ K cdv qual=true)
  (S:FnScope [n1,n2] [n1,n2] scope) (l1:scope.names.lookup n1=some .local) (l2:scope.names.lookup n2=some .local) (hd1:(n1 == ("__debug__":Str))=false) (hd2:(n2 == ("__debug__":Str))=false)
  (hb:W2 s (jX name qual params [.Assign [.Attribute (.Name n1 p1) n2 p2] (.Name n2 p3) p4] scope dV kV doc pm an cdv ct) ⟨[.ref e,u],[]⟩ ([n1,n2].zip [.ref e,u])) (hdp:A.depth < NY)
  (c:XStore K C D cdt n2) (he:s.heap.get? e=some o) (hc:o.cls=.ref C) (hnc:∀ c,o.data≠.cls c) (hdn:o.dict=none)
  (hq:∀ h' tk dx,(∀ b ob,b≠e->s.heap.get? b=some ob->h'.get? b=some ob)->h'.get? e=some { o with dict:=some dx }->Q .none { s with heap:=h',toks:=tk }) :
  jI (jM P w) A (call (.ref f) [.ref e,u]) Q E s:=by
 have hkind:∀ y∈[n1,n2].zip [Qh e,u],scope.names.lookup y.1=some .local∨(scope.names.lookup y.1=some .cell/\((Wg (s.heap.objs.size+1) scope.names []).lookup y.1).isSome=true):=fun⟨n,v⟩ hy=>by
  rcases jv.mp (show (n,v)∈[(n1,Qh e),(n2,u)] from hy) with z |z
  ·cases z; exact .inl l1
  ·rcases jv.mp z with z |z
   ·cases z; exact .inl l2
   ·cases z
 refine WD (gW hdp (KX _ _ lk) rfl S.co S.gen rfl (Ys KX hcd) (hb _ _ _ _ ?_));refine ZZ S.kind hkind fun env henv s1 x=>?_;subst henv;refine⟨lim.keeps x.toInCall.keep,WW ?_⟩;have hns:=x.toInCall.ns;obtain⟨h1,tk,rfl,hk⟩:=x.done;have nd:[n1,n2].Nodup:=S.nd;have g1:=zeV (kindOf:=(Zp qual scope s.heap.objs.size f cdv).kindOf) (m:=fun _=>none) (i:=0) (vs:=[Qh e,u]) nd rfl rfl l1;have g2:=zeV (kindOf:=(Zp qual scope s.heap.objs.size f cdv).kindOf) (m:=fun _=>none) (i:=1) (vs:=[Qh e,u]) nd rfl rfl l2;refine Y0 (plainObj_wpAny_Assign_Attribute (NJ (Y4 S.kind l2 hns g2 (NJ (Y4 S.kind l1 hns g1 ?_) hd1)) hd2) rfl);refine zjC (KX.keeps hk) c (hk _ _ he) hc hnc hdn fun h' tk' a1 a2 a3=>ZN ?_;exact hq h' tk' h1.objs.size (fun b ob hb q=>a2 b ob hb (hk b ob q)) a3
structure XClsI (K:jb) (h:QL) (C D:js) (bm:List j8):Prop where
 obj:∃ N nm q bs hdct sn sub ab col dd k0 k1 k2 k3 k5 mN f,h.get? C=some (Yj nm q C N bs bm hdct sn sub ab col dd k0 k1 k2 k3 k5 "ValueError.__new__")/\h.Ns N mN/\mN "__init__"=some (.ref f)/\OwnTail h [.type "ValueError",.type "Exception",.type "BaseException",.type "object"] bm /\
  ∃ n1 n2 p1 p2 p3 p4 name qual params scope dV kV doc pm cdv ct od an osl cdt,K.lookup f=some ⟨.type "function",od,.func (jX name qual params [.Assign [.Attribute (.Name n1 p1) n2 p2] (.Name n2 p3) p4] scope dV kV doc pm an cdv ct),osl⟩/\QZ K cdv qual=true /\
   FnScope [n1,n2] [n1,n2] scope/\scope.names.lookup n1=some .local/\scope.names.lookup n2=some .local/\(n1 == ("__debug__":Str))=false/\(n2 == ("__debug__":Str))=false /\
   Binds K (jX name qual params [.Assign [.Attribute (.Name n1 p1) n2 p2] (.Name n2 p3) p4] scope dV kV doc pm an cdv ct) [n1,n2] []/\XStore K C D cdt n2
def zis(X:Cx)(E:XK):Prop:=∀(pc:List (js × Obj)) (σ:St) (H:Hp) (s:jc) (h':QL) (tk:Nat) (e C:js),Inv X pc σ H s->MadeD s.heap h' e C->E (.ref C) none H->X.xe (.ref e) { s with heap:=h',toks:=tk }
theorem zlw{P:jH}{w:Qf}{K:jb}{mg:Str->Option j8}{base:QL}{N:List Str}{qual:Str}{scope:gN}{f:js}{cd:j8}{A:Qg}{outer:List Env}{s:jc}{H:Hp}{E:XK}(hA:A.frames=some outer) :
  zis (zhr (CX1 P w) P w K mg base N qual scope f cd A outer s H E) E:=fun pc σ Hc s2 h' tk e C I hx hE=>zjM (tk:=tk) I hA hx hE
section
variable {E:XK}{C D:js}{bm:List j8}{x:Str}{np cpos pos:Pos}{e0:Q4}{t:TA}
theorem zmT{k:Nat}(hR:zis X E)(hc:X.calm=true)(hr:Room (k+1) X.A)(xc:XClsI X.K X.base C D bm)(hg:Gl X x)(hm:X.mg x=some (.ref C))(ha:PA X [e0] t)
  (he:jd [e0] X.env=(false,eval e0 X.env)::jd [] X.env:=by rfl) (hpl:(QF cpos (jd [] X.env)).any (·.1)=false:=by rfl) (hd:(x == ("__debug__":Str))=false:=by decide) :
  PS X (.Raise (some (.Call (.Name x np) [e0] [] cpos)) none pos) (fun D σ H=>t σ H fun vs H1=>vs.length=1/\E (.ref C) none H1):=by
 intro pc s σ H D' I h;obtain⟨N,nm,q,bs,hdct,sn,sub,ab,col,dd,k0,k1,k2,k3,k5,mN,f,e1,e2,e3,e4,n1,n2,p1,p2,p3,p4,name,qual,params,scope,dV,kV,doc,pm,cdv,ct,od,an,osl,cdt,lk,hcd,S,l1,l2,d1,d2,hbi,xs⟩:=xc.obj;have hbase:=e4.hasType Y6.hasBase;have hplain:(QF cpos (jd [e0] X.env)).any (·.1)=false:=by rw[he]; show (false||(QF cpos (jd [] X.env)).any (·.1))=false; rw[hpl]; rfl
 have start:jI (jM X.prog X.w) X.A (eval (.Name x np) X.env) (fun fv s₁=>fv=.ref C/\jI (jM X.prog X.w) X.A (evalArgs (.ref C) true (QF cpos (jd [e0] X.env)) []) (fun a s₂=>∃ u vs H1,a=⟨[u],[]⟩/\Inv X pc σ H1 s₂/\Vals vs [u]/\E (.ref C) none H1) X.xe s₁) X.xe s:=by
  refine zk9 I hg hm ⟨rfl,?_⟩ hd;have a:=ha cpos pc s σ H _ I h;rw[he] at a ⊢;refine NO (jV a (fun us s2 h2=>?_) fun _ _ y=>y);obtain⟨vs,H1,I1,r,hl,hE⟩:=h2;have hlu:us.length=1:=by rw[<-r.length]; exact hl
  obtain⟨u,rfl⟩:=gK.mp hlu;exact⟨u,vs,H1,rfl,I1,r,hE⟩
 rw[arm_exec_Raise];simp only[evalOpt,Option.map];refine j4 (Z9 (zjN (C:=C) (nm:=nm) (q:=q) (N:=N) (bs:=bs) (bm:=bm) (hdct:=hdct) (sn:=sn) (sub:=sub) (ab:=ab) (col:=col) (dd:=dd) (k0:=k0) (k1:=k1) (k2:=k2) (k3:=k3) (k5:=k5) (newId:="ValueError.__new__") hbase (I.ok.hd hc) ?_));refine j4 (jV (wpAny_Call_ofName (jV start (fun fv s₁ h₁=>?_) fun _ _ y=>y)) (fun v s₃ h₃=>j4 (Z9 (jq h₃))) fun _ _ y=>y);obtain⟨rfl,h₁⟩:=h₁;unfold callWith;refine j4 (Qi (jV h₁ (fun a s₂ h₂=>j4 (Z9 ?_)) fun _ _ y=>y));obtain⟨u,vs,H1,rfl,I1,r,hE⟩:=h₂;have bk:=I1.bk;have hC2:=bk _ _ e1;have KX2:=I1.kIn;have lim2:s₂.heap.NoLimit:=I1.mod.nolimit.keeps bk;obtain⟨hp,g,d,tk,os⟩:=s₂;simp only[hplain];refine j4 (PySem.wpAny_keeperOf_exc hC2 ?_);have kp:∀ b o,hp.get? b=some o->(zdm hp C [u]).get? b=some o:=fun b o q=>ja _ (ja _ q);refine j4 (znS (rest:=[u]) (f:=f) Y6 (e4.keeps bk) hC2 (e2.keeps bk) e3 (KX2 _ _ lk) rfl ?_ (by show 1<=jr; decide))
 have hget:(zdm hp C [u]).get? (hp.objs.size+1)=some { cls:=.ref C,data:=.fields #[.ref hp.objs.size,.none,.none,.none,.bool false,.none] }:=by
  unfold zdm
  heap_get
 refine zoG (s:=⟨zdm hp C [u],g,d,tk,os⟩) (K:=X.K) (D:=D) (KX2.keeps kp) (lim2.keeps kp) lk hcd S l1 l2 d1 d2 (hbi ⟨zdm hp C [u],g,d,tk,os⟩ [.ref (hp.objs.size+1),u] (KX2.keeps kp) rfl) (by rw[zlI]; have:=hr.dp; lia) xs hget rfl (fun c z=>by cases z) rfl fun h' tk' dx a1 a2=>⟨rfl,?_⟩
 have ne:∀ b o,hp.get? b=some o->b≠hp.objs.size+1:=fun b o q z=>absurd (jj q) (by rw[z]; exact Nat.not_lt.mpr (gk _))
 have md:MadeD hp h' (hp.objs.size+1) C:=⟨fun b o q=>a1 b o (ne b o q) (kp b o q),NM (gk _),_,_,_,a2⟩;refine j4 (Qi (wpAny_point (jq ?_)));exact⟨_,_,_,_,rfl,md.keeps _ _ hC2,a2,hR pc σ H1 ⟨hp,g,d,tk,os⟩ h' tk' _ C I1 md hE⟩
end
structure XObj (h:QL) (C:js) (bm:List j8):Prop where
 obj:∃ N nm q bs hdct sn sub ab col dd k0 k1 k2 k3 k5,h.get? C=some (Yj nm q C N bs bm hdct sn sub ab col dd k0 k1 k2 k3 k5 "ValueError.__new__")/\OwnTail h [.type "ValueError",.type "Exception",.type "BaseException",.type "object"] bm
theorem XObj.keeps{h h':QL}{C:js}{bm:List j8}(x:XObj h C bm)(k:∀ b o,h.get? b=some o->h'.get? b=some o):XObj h' C bm:=by
 obtain⟨N,nm,q,bs,hdct,sn,sub,ab,col,dd,k0,k1,k2,k3,k5,e1,e4⟩:=x.obj;exact⟨N,nm,q,bs,hdct,sn,sub,ab,col,dd,k0,k1,k2,k3,k5,k _ _ e1,e4.keeps k⟩
theorem XClsI.o{K:jb}{h:QL}{C D:js}{bm:List j8}(x:XClsI K h C D bm):XObj h C bm:=by
 obtain⟨N,nm,q,bs,hdct,sn,sub,ab,col,dd,k0,k1,k2,k3,k5,mN,f,e1,e2,e3,e4,_⟩:=x.obj;exact⟨N,nm,q,bs,hdct,sn,sub,ab,col,dd,k0,k1,k2,k3,k5,e1,e4⟩
section
variable {M:U5}{A:Qg}{E:j8->jc->Prop}
theorem zjc{h:QL}{g:Array Y9}{d:Drawn}{t:Nat}{os:OsState}{e C D:js}{oe:Obj}{bm bmD:List j8}{Q:Bool->jc->Prop}(xc:XObj h C bm)(xd:XObj h D bmD)(he:h.get? e=some oe)(hcls:oe.cls=.ref C)(hm:(Qh C::bm).contains (.ref D)=true)
  (hq:Q true ⟨h,g,d,t,os⟩):jI M A (excMatches (.ref e) (.ref D)) Q E ⟨h,g,d,t,os⟩:=by
 obtain⟨N,nm,q,bs,hdct,sn,sub,ab,col,dd,k0,k1,k2,k3,k5,hC,_⟩:=xc.obj;obtain⟨N',nm',q',bs',hdct',sn',sub',ab',col',dd',k0',k1',k2',k3',k5',hD,T⟩:=xd.obj;have hcB:(Qh D::bmD).contains (.type "BaseException")=true:=by rw[Yw,T.hasType (X:="BaseException") (b:=true) Y6.hasBase,U3]
 have f:=tc_notTuple;unfold excMatches
 repeat (first |(with_reducible refine QX he ?_; rw[hcls]) |with_reducible refine QX hD ?_ |(with_reducible refine gr hD ?_; rw[hcB]) |(with_reducible refine gr hC ?_; rw[hm]) |wp_step)
 exact hq
end
section
def zlf(X:Cx)(D:js)(ts:TS)(En:Ends):XK:=fun cls _ H'=>∃ C bm,cls=.ref C/\XObj X.base C bm/\(Qh C::bm).contains (.ref D)=true/\ts { nx:=fun _ _=>False,rt:=En.rt } (zfA X) H'
theorem zmS{body suite:List QR}{b0:QR}{d:Str}{np hpos pos:Pos}{tb:XK->TS}{ts:TS}{D:js}{bmD:List j8}
  (hb:∀ W E,zfD (CX1 X.prog X.w) (X.wish W) E->PSs (X.wish W) body (tb E)) (hst:X.stack=X.env::X.outer) (hfr:X.env.frame=some X.env.locals) (hex:X.ex=[])
  (hgd:Gl X d) (hmd:X.mg d=some (.ref D)) (xd:XObj X.base D bmD) (hs:∀ x,PSs (X.held x) (b0::suite) ts)
  (hdb:(d == ("__debug__":Str))=false:=by decide) :
  PS0 X (.Try body [.ExceptHandler (some (.Name d np)) none (b0::suite) hpos] [] [] pos) (fun En σ H=>tb (zlf X D ts En) En σ H):=by
 intro s σ H En I h;refine wpAny_Try_except ?_;have pass:zfD (CX1 X.prog X.w) (X.wish (fun e s1=>jI (jM X.prog X.w) X.A (Jn e X.env) (fun _ s2=>jI (jM X.prog X.w) X.A (setFlight e none) (fun _ s3=>jI (jM X.prog X.w) X.A (handleBy e X.env [.ExceptHandler (some (.Name d np)) none (b0::suite) hpos]) (SP X [] En) X.xe s3) X.xe s2) X.xe s1)) (zlf X D ts En):=by
  intro pc σ' H1 s1 ev s' I1 hq;obtain⟨x,C,a0,B,H',rfl,F,C',bm,eC,xc,hm,hsuite⟩:=hq;obtain rfl:C=C':=by injection eC
  have I1:=I1.unwish;have F:Fly X.prog X.w X.stack H1 s1 x C a0 B H' s':=F;have fl:=F.fly;rw[hst] at fl;have hA:X.A.frames=some (X.env::X.outer):=by rw[<-hst]; exact I.ok.frames
  show jI (jM X.prog X.w) X.A (Jn (.ref x) X.env) _ _ _;refine wpAny_looks_onW hA hfr fl fun h4 held4 up4=>?_;refine wpAny_landsW held4 fun h5 fly5 up5=>?_;have J5:Inv X [] (zfA X) H' { s' with heap:=h5 }:=F.inv (tk:=s'.toks) I1 fly5.1 (up4.trans up5);obtain⟨oe,he,hcls⟩:=fly5.there;refine wpAny_handleBy_cons (codeAny_handlers_test ?_) (by intro q; cases q)
  refine zk9 (J5.held x) hgd hmd ?_ hdb;refine zjc (xc.keeps J5.bk) (xd.keeps J5.bk) he hcls hm ?_;show Yc _ _ _ _ _;refine codeAny_handlers_suite ?_;refine lands_againW fly5 fun h6 fly6 up6=>?_;have J6:Inv X [] (zfA X) H' { s' with heap:=h6 }:=F.inv (tk:=s'.toks) I1 fly6.1 ((up4.trans up5).trans up6);refine jV (hs x [] _ _ _ _ (J6.held x) hsuite) (fun f s9 q=>?_) fun _ _ z=>Zf z;cases f with
  |next=>obtain⟨_,_,_,q⟩:=q; exact q.elim
  |brk=>obtain⟨_,_,_,q⟩:=q; exact q.elim
  |cont=>obtain⟨_,_,_,q⟩:=q; exact q.elim
  |ret u=>
   obtain⟨v,σ9,H9,I9,r,q⟩:=q;exact⟨v,σ9,H9,I9.unheld I.ok,r,q⟩
 refine jV (hb _ _ pass [] s σ H En (I.wish _) h) (fun f s1 q=>?_) fun _ _ z=>z;have q:=q.unwish;cases f with
 |next=>exact ZN q
 |brk=>exact q
 |cont=>exact q
 |ret u=>exact q
end
section
theorem zl1:zwD X (zuA X.K):=by
 intro pc s σ H o i ov iv Q I ro ri h;obtain⟨p,xs,k,z,rfl,rfl,hq,he,q⟩:=h;cases ro;obtain⟨t,rfl⟩:=ri;obtain⟨its,r,pl,hz⟩:=I.list hq;obtain⟨j,h1,h2,h3,h4,h5⟩:=zin he;obtain⟨w,ew,rw'⟩:=r.get h2;have hl:=r.length;have hn:=zfB;have fin:EP X pc σ Q w s:=⟨z,H,I,rw',q⟩
 by_cases h0:0<=k
 ·have hj:k.toNat=j:=by
   rw[W3 h0 h5] at h1;exact jf h1
  exact wpAny_getItem_list pl.isList h0 (by lia) (by rw[hj]; simpa using ew) fin
 ·have hj:(k+(its.toArray.size:Int)).toNat=j:=by
   rw[Nq (by lia) h4] at h1
   rw[jh,<-hl];exact jf h1
  exact Nj pl.isList (by lia) (by rw[jh]<;>lia) (by lia) (by rw[hj]; simpa using ew) fin
end
section
theorem zfM{ns:List Int}{its:List j8}(r:Vals (ns.map V.int) its){i:Nat}{v:j8}(h:its.toArray[i]?=some v):∃ t,v=.int (ns[i]?.getD 0) t:=by
 have hl:=r.length;rw[NB] at h;have hi:i < its.length:=(j7.mp h).1;have hi':i < (ns.map V.int).length:=by rw[hl]; exact hi
 obtain⟨w,ew,rw'⟩:=r.get (j3 hi');rw[ew] at h;obtain rfl:=jf h;have hn:i < ns.length:=by simpa using hi'
 rw[Zi] at rw';obtain⟨t,rfl⟩:=rw';exact⟨t,by rw[j3 hn]; rfl⟩
theorem znN(hc:X.calm=true):CallR X (.builtin "min") (fun xs H Q=>∃(a:js) (ns:List Int),xs=[V.ref a]/\SqT X.K H a (ns.map V.int)/\0 < ns.length/\Q (.int (zrS ns)) H):=by
 intro pc s σ H xs us Q I rv h;obtain⟨a,ns,rfl,hq,hn,q⟩:=h;obtain⟨u,rfl,ru⟩:=rv.one;cases ru;obtain⟨its,r,p,hz⟩:=I.tuple hq;have hl:ns.length=its.length:=by have:=r.length; simpa using this
 have p':s.heap.IsTuple a its.toArray:=p;obtain⟨o,ho,hcl,n0,hd⟩:=p';have hlt:a < s.heap.objs.size:=jj ho;refine call_min_walk (Yp (show s.heap.IsTuple a its.toArray from ⟨o,ho,hcl,n0,hd⟩) ?_);refine⟨_,[s.heap.objs.size,a],[s.heap.objs.size],its.toArray.size,fun i v=>its.toArray[i]?=some v,_,_,rfl,Ub (by exact I.ok.hd hc) _ _ (jC hlt) _,⟨⟨_,jG _ rfl,rfl,rfl⟩,o,ja _ ho,hcl,n0,hd⟩,fun b hb=>?_,by rw[jh]; lia,CmpOf.ints_lt (fun i=>ns[i]?.getD 0) (fun i v hv=>zfM r hv),fun v h' tk hv k=>?_⟩
 ·rw[Zm];rcases jv.mp hb with z |z
  ·rw[z]; exact Z8 _
  ·rw[je.mp z]; exact Qv hlt
 ·have b:=argBest_lt (fun i=>ns[i]?.getD 0) (its.toArray.size - 1);obtain⟨t,rfl⟩:=zfM r hv;rw[jh] at b ⊢;have e2:zrS ns=ns[argBest (fun i j=>decide (ns[i]?.getD 0 < ns[j]?.getD 0)) (its.length - 1)]?.getD 0:=by
   refine zk6 ?_ fun x hx=>?_
   ·rw[j3 (by lia)]
    exact Q5 _
   ·obtain⟨j,hj,rfl⟩:=QC hx;have:=b.2 j (by lia)
    rw[j3 hj] at this;exact this
  rw[<-e2];exact⟨.int (zrS ns),H,I.kept fun b o e=>k b o (fun z=>by rw[je.mp z] at e; exact jZ _ (jj e)) (ja _ e),⟨_,rfl⟩,q⟩
theorem znO(hc:X.calm=true):CallR X (.builtin "max") (fun xs H Q=>∃(a:js) (ns:List Int),xs=[V.ref a]/\SqT X.K H a (ns.map V.int)/\0 < ns.length/\Q (.int (zo0 ns)) H):=by
 intro pc s σ H xs us Q I rv h;obtain⟨a,ns,rfl,hq,hn,q⟩:=h;obtain⟨u,rfl,ru⟩:=rv.one;cases ru;obtain⟨its,r,p,hz⟩:=I.tuple hq;have hl:ns.length=its.length:=by have:=r.length; simpa using this
 have p':s.heap.IsTuple a its.toArray:=p;obtain⟨o,ho,hcl,n0,hd⟩:=p';have hlt:a < s.heap.objs.size:=jj ho;refine call_max_walk (Yp (show s.heap.IsTuple a its.toArray from ⟨o,ho,hcl,n0,hd⟩) ?_);refine⟨_,[s.heap.objs.size,a],[s.heap.objs.size],its.toArray.size,fun i v=>its.toArray[i]?=some v,_,_,rfl,Ub (by exact I.ok.hd hc) _ _ (jC hlt) _,⟨⟨_,jG _ rfl,rfl,rfl⟩,o,ja _ ho,hcl,n0,hd⟩,fun b hb=>?_,by rw[jh]; lia,CmpOf.ints_gt (fun i=>ns[i]?.getD 0) (fun i v hv=>zfM r hv),fun v h' tk hv k=>?_⟩
 ·rw[Zm];rcases jv.mp hb with z |z
  ·rw[z]; exact Z8 _
  ·rw[je.mp z]; exact Qv hlt
 ·have b:=argBest_gt (fun i=>ns[i]?.getD 0) (its.toArray.size - 1);obtain⟨t,rfl⟩:=zfM r hv;rw[jh] at b ⊢;have e2:zo0 ns=ns[argBest (fun i j=>decide (ns[i]?.getD 0 > ns[j]?.getD 0)) (its.length - 1)]?.getD 0:=by
   refine zhy ?_ fun x hx=>?_
   ·rw[j3 (by lia)]
    exact Q5 _
   ·obtain⟨j,hj,rfl⟩:=QC hx;have:=b.2 j (by lia)
    rw[j3 hj] at this;exact this
  rw[<-e2];exact⟨.int (zo0 ns),H,I.kept fun b o e=>k b o (fun z=>by rw[je.mp z] at e; exact jZ _ (jj e)) (ja _ e),⟨_,rfl⟩,q⟩
end
end L2
namespace L3
open PySem PySem.Spec PyProof.Rows L2
variable [TheK]
variable {X:Cx}{M:List Nat}{a b c e:Q4}{fa fb fe:DE}{p pos:Pos}
def zjB(caps:List (Option Nat))(s:Sg):Sg:=caps.map fun o=>o.bind fun j=>(s[j]?).join
def zax(M:List Nat):List (Option Nat)->Sg->Sg->Sg
 |some j::cs,x::xs,s=>zax M cs xs (if M.contains j then s.set j x else s)
 |none::cs,_::xs,s=>zax M cs xs s
 |_,_,s=>s
structure CapOk (caps:List (Option Nat)) (M Mi:List Nat):Prop where
 yes:∀(i:Nat),i∈Mi->∃ j,caps[i]?=some (some j)/\j∈M
 no:∀(i j:Nat),caps[i]?=some (some j)->i∉Mi->j∉M
 inj:∀(i i' j:Nat),caps[i]?=some (some j)->caps[i']?=some (some j)->i=i'
def zrV(caps:List (Option Nat))(M Mi:List Nat):Bool:=
 Mi.all (fun i=>match caps[i]? with |some (some j)=>M.contains j |_=>false) &&
 (j5 caps.length).all (fun i=>match caps[i]? with |some (some j)=>Mi.contains i||!M.contains j |_=>true) &&
 (j5 caps.length).all (fun i=>(j5 caps.length).all fun i'=>match caps[i]?,caps[i']? with |some (some j),some (some j')=>j != j'||i == i' |_,_=>true)
theorem CapOk.of{caps:List (Option Nat)}{M Mi:List Nat}(h:zrV caps M Mi=true):CapOk caps M Mi:=by
 unfold zrV at h;rw[jL,jL] at h;obtain⟨⟨h1,h2⟩,h3⟩:=h;have lt:∀ {i:Nat} {o:Option Nat},caps[i]?=some o->i∈j5 caps.length:=fun e=>ji.mpr (j7.mp e).1;refine⟨fun i hi=>?_,fun i j e n=>?_,fun i i' j e e'=>?_⟩
 ·have:=jx.mp h1 i hi;cases hc:caps[i]? with
  |none=>rw[hc] at this; cases this
  |some o=>cases o with
   |none=>rw[hc] at this; cases this
   |some j=>rw[hc] at this; exact⟨j,rfl,by simpa using this⟩
 ·have:=jx.mp h2 i (lt e);rw[e] at this;intro hj;have a:Mi.contains i=false:=by simpa using n
  have b:M.contains j=true:=by simpa using hj
  dsimp only at this;rw[a,b] at this;cases this
 ·have:=jx.mp (jx.mp h3 i (lt e)) i' (lt e');rw[e,e'] at this;simpa using this
theorem zlg{caps:List (Option Nat)}{s:Sg}{i:Nat}{t:T}(h:(zjB caps s)[i]?=some (some t)):∃ j,caps[i]?=some (some j)/\s[j]?=some (some t):=by
 unfold zjB at h;rw[jg] at h;obtain⟨o,h1,h2⟩:=Qm h;cases o with
 |none=>cases h2
 |some j=>exact⟨j,h1,zab h2⟩
theorem zjo{caps:List (Option Nat)}{σ:L2.St}{i j:Nat}(h:caps[i]?=some (some j)):(zbj caps σ)[i]?=some (σ[j]?).join:=by
 unfold zbj;rw[jg,h];rfl
theorem zbM{caps:List (Option Nat)}{σ:L2.St}{i:Nat}{v:V}(h:(zbj caps σ)[i]?=some (some v)):∃ j,caps[i]?=some (some j)/\σ[j]?=some (some v):=by
 unfold zbj at h;rw[jg] at h;obtain⟨o,h1,h2⟩:=Qm h;cases o with
 |none=>cases h2
 |some j=>
  refine⟨j,h1,?_⟩;have h2:(σ[j]?).join=some v:=h2;cases e:σ[j]? with
  |none=>rw[e] at h2; cases h2
  |some x=>rw[e] at h2; cases x with
   |none=>cases h2
   |some y=>injection h2 with h2; rw[h2]
theorem Rel.cap{F:Fr}{O:js->Prop}{M Mi:List Nat}{s:Sg}{σ:L2.St}{H:Hp}{caps:List (Option Nat)}(R:Rel F O M s σ H)(c:CapOk caps M Mi):Rel F O Mi (zjB caps s) (zbj caps σ) H:=by
 refine⟨by unfold zjB zbj; simp,fun i t e n=>?_,fun i t e n=>?_,fun i a hi e=>?_,fun i i' a hi hi' e e'=>?_,R.keep,R.dom,R.fresh,R.inD,R.al⟩
 ·obtain⟨j,h1,h2⟩:=zlg e;obtain⟨v,h3,h4⟩:=R.val j t h2 (c.no i j h1 n);exact⟨v,by rw[zjo h1,h3]; rfl,h4⟩
 ·obtain⟨j,h1,h2⟩:=zlg e;obtain⟨j',h1',h3⟩:=c.yes i n;rw[h1] at h1';obtain rfl:j=j':=by injection h1' with h; injection h
  obtain⟨a,h4,L⟩:=R.own j t h2 h3;exact⟨a,by rw[zjo h1,h4]; rfl,L⟩
 ·obtain⟨j,h1,h2⟩:=zbM e;obtain⟨j',h1',h3⟩:=c.yes i hi;rw[h1] at h1';obtain rfl:j=j':=by injection h1' with h; injection h
  exact R.ow j a h3 h2
 ·obtain⟨j,h1,h2⟩:=zbM e;obtain⟨j',h1',h2'⟩:=zbM e';obtain⟨k,hk,h3⟩:=c.yes i hi;obtain⟨k',hk',h3'⟩:=c.yes i' hi';rw[h1] at hk;rw[h1'] at hk';obtain rfl:j=k:=by injection hk with h; injection h
  obtain rfl:j'=k':=by injection hk' with h; injection h
  have:=R.dis j j' a h3 h3' h2 h2';subst this;exact c.inj i i' j h1 h1'
theorem ze1(M:List Nat):∀(caps:List (Option Nat)) (si s:Sg),(zax M caps si s).length=s.length
 |[],_,_=>by unfold zax; rfl
 |none::cs,[],s=>by unfold zax; rfl
 |some j::cs,[],s=>by unfold zax; rfl
 |none::cs,x::xs,s=>by unfold zax; exact ze1 M cs xs s
 |some j::cs,x::xs,s=>by
  unfold zax;rw[ze1 M cs xs];split
  ·rw[Qd]
  ·rfl
theorem zcX(M:List Nat){j:Nat}:∀(caps:List (Option Nat)) (si s:Sg),(j∉M∨∀ i:Nat,caps[i]?≠some (some j))->(zax M caps si s)[j]?=s[j]?
 |[],_,_,_=>by unfold zax; rfl
 |none::cs,[],s,_=>by unfold zax; rfl
 |some k::cs,[],s,_=>by unfold zax; rfl
 |none::cs,x::xs,s,h=>by
  unfold zax;exact zcX M cs xs s (h.imp id fun z i=>by simpa using z (i+1))
 |some k::cs,x::xs,s,h=>by
  unfold zax;rw[zcX M cs xs _ (h.imp id fun z i=>by simpa using z (i+1))]
  split
  ·rename_i hk;refine jo fun z=>?_;subst z;rcases h with h |h
   ·exact h (by simpa using hk)
   ·exact h 0 rfl
  ·rfl
theorem zgP(M:List Nat){j:Nat}(hj:j∈M):∀(caps:List (Option Nat)) (si s:Sg) (i:Nat),caps[i]?=some (some j)->(∀ i':Nat,caps[i']?=some (some j)->i'=i)->i < si.length->j < s.length->(zax M caps si s)[j]?=si[i]?
 |[],_,_,i,e,_,_,_=>by simp at e
 |c::cs,[],s,i,_,_,hi,_=>by simp at hi
 |none::cs,x::xs,s,i,e,u,hi,hl=>by
  unfold zax;cases i with
  |zero=>simp at e
  |succ i=>
   rw[gF];exact zgP M hj cs xs s i (by simpa using e) (fun i' e'=>by simpa using u (i'+1) (by simpa using e')) (by simpa using hi) hl
 |some k::cs,x::xs,s,i,e,u,hi,hl=>by
  unfold zax;cases i with
  |zero=>
   have hk:k=j:=by simpa using e
   subst hk;rw[zcX M cs xs _ (.inr fun i' e'=>by simpa using u (i'+1) (by simpa using e')),Ip_ (by simpa using hj),jU hl]
   rfl
  |succ i=>
   rw[gF];refine zgP M hj cs xs _ i (by simpa using e) (fun i' e'=>by simpa using u (i'+1) (by simpa using e')) (by simpa using hi) ?_
   split
   ·rw[Qd]; exact hl
   ·exact hl
theorem Rel.back{F:Fr}{O:js->Prop}{M Mi:List Nat}{s si:Sg}{σ σ2:L2.St}{H2 H4:Hp}{caps:List (Option Nat)}(R:Rel F O M s σ H2)(c:CapOk caps M Mi)(S:Step σ2 Mi H2 H4)(Ri:Rel F O Mi si σ2 H4)
  (hk:∀(i j:Nat),caps[i]?=some (some j)->σ2[i]?=(zbj caps σ)[i]?) (hl:si.length=caps.length):Rel F O M (zax M caps si s) σ H4:=by
 have addr:∀(i:Nat) b,i∈Mi->σ2[i]?=some (some (.ref b))->∃ j,caps[i]?=some (some j)/\j∈M/\σ[j]?=some (some (.ref b)):=fun i b hi e=>by
  obtain⟨j,h1,h2⟩:=c.yes i hi;rw[hk i j h1] at e;obtain⟨j',h3,h4⟩:=zbM e;rw[h1] at h3;obtain rfl:j=j':=by injection h3 with h; injection h
  exact⟨j,h1,h2,h4⟩
 have kf:∀ b u,Free F O b->H2 b=some u->H4 b=some u:=fun b u z e=>S.keep b u (fun i hi e'=>by
  obtain⟨j,_,h2,h3⟩:=addr i b hi e'
  exact z.1 (R.ow j b h2 h3)) e
 refine⟨by rw[ze1]; exact R.len,fun j t e n=>?_,fun j t e n=>?_,R.ow,R.dis,Ri.keep,Ri.dom,R.fresh,R.inD,Ri.al⟩
 ·rw[zcX M caps si s (.inl n)] at e;obtain⟨v,h1,h2⟩:=R.val j t e n;exact⟨v,h1,h2.mono (fun _ c=>c) kf⟩
 ·by_cases hc:∃ i:Nat,caps[i]?=some (some j)
  ·obtain⟨i,hi⟩:=hc;have hlt:i < caps.length:=(j7.mp hi).1;have hjl:j < s.length:=by
    have:=(j7.mp e).1
    rwa [ze1] at this
   rw[zgP M n caps si s i hi (fun i' e'=>c.inj i' i j e' hi) (by lia) hjl] at e
   have him:i∈Mi:=Decidable.byContradiction fun z=>c.no i j hi z n;obtain⟨a,h1,L⟩:=Ri.own i t e him;obtain⟨j',h2,_,h3⟩:=addr i a him h1;rw[hi] at h2;obtain rfl:j=j':=by injection h2 with h; injection h
   exact⟨a,h3,L⟩
  ·rw[zcX M caps si s (.inr fun i z=>hc ⟨i,z⟩)] at e;obtain⟨a,h1,L⟩:=R.own j t e n;refine⟨a,h1,L.mono (fun _ c=>c) kf fun u e'=>S.keep a u (fun i hi e''=>?_) e'⟩;obtain⟨j',h2,h3,h4⟩:=addr i a hi e'';have:=R.dis j j' a n h3 h1 h4;subst this;exact hc ⟨i,h2⟩
def zpQ(g:TG)(dg:DG)(Mi:List Nat)(caps:List (Option Nat)):Prop:=∀ F O s t s' v σ H (Q:L2.St->Hp->Prop),Rel F O Mi s σ H->Rep (Free F O) H v t->dg t s=some s'->
 (∀ σ',Rel F O Mi s' σ' H->(∀(i j:Nat),caps[i]?=some (some j)->σ'[i]?=σ[i]?)->σ'.length=σ.length->Q σ' H)->g v σ H Q
theorem zbg{i:Nat}{Mi:List Nat}{caps:List (Option Nat)}(hc:caps[i]?=some none:=by rfl)(hi:Mi.contains i=false:=by rfl):zpQ (zcJ i) (dGn i) Mi caps:=by
 intro F O s t s' v σ H Q R r hg q;have hi':i∉Mi:=by simpa using hi
 unfold dGn at hg;split at hg
 ·rename_i hl;injection hg with hg;subst hg;refine q _ (R.setE (fun j hj=>⟨hj,fun z=>hi' (z▸hj)⟩) (fun j hj=>.inl hj) hl r) (fun k j e=>?_) ?_;exact jo fun z=>by subst z; rw[hc] at e; cases e
  exact Qd
 ·cases hg
theorem zpb{Mi:List Nat}{caps:List (Option Nat)}{F:Fr}{O:js->Prop}{H:Hp}{Q:L2.St->Hp->Prop}:∀ {is:List Nat} {ts:List T} {vs:List V} {s s':Sg} {σ:L2.St},Rel F O Mi s σ H->(∀ i,i∈is->i∉Mi/\caps[i]?=some none)->Reps (Free F O) H vs ts->zbC is ts s=some s'->
  (∀ σ',Rel F O Mi s' σ' H->(∀(i j:Nat),caps[i]?=some (some j)->σ'[i]?=σ[i]?)->σ'.length=σ.length->Q σ' H)->gsN is vs σ H Q
 |[],[],vs,s,s',σ,R,_,h,e,q=>by
  injection e with e;subst e;exact⟨h.none,q σ R (fun _ _ _=>rfl) rfl⟩
 |[],t::ts,vs,s,s',σ,R,_,h,e,q=>by cases e
 |i::is,[],vs,s,s',σ,R,_,h,e,q=>by cases e
 |i::is,t::ts,[],s,s',σ,R,_,h,e,q=>by have:=h.1; simp at this
 |i::is,t::ts,v::vs,s,s',σ,R,hm,h,e,q=>by
  unfold zbC at e;split at e
  ·rename_i hl;obtain⟨hi,hc⟩:=hm i jT;refine⟨v,vs,rfl,zpb (R.setE (fun j hj=>⟨hj,fun z=>hi (z▸hj)⟩) (fun j hj=>.inl hj) hl h.head) (fun j hj=>hm j (jw _ hj)) h.tail e fun σ' R' k l=>q σ' R' (fun k' j e'=>(k k' j e').trans ?_) (l.trans Qd)⟩;exact jo fun z=>by subst z; rw[hc] at e'; cases e'
  ·cases e
theorem zh9:∀ {is:List Nat} {ts:List T} {s s':Sg},zbC is ts s=some s'->ts.length=is.length
 |[],[],_,_,_=>rfl
 |[],_::_,_,_,e=>by cases e
 |_::_,[],_,_,e=>by cases e
 |i::is,t::ts,s,s',e=>by
  unfold zbC at e;split at e
  ·rw[jp,jp,zh9 e]
  ·cases e
theorem zmk{is:List Nat}{n:Nat}{K:jb}{Mi:List Nat}{caps:List (Option Nat)}(hn:is.length=n:=by rfl)(h:is.all (fun i=>!Mi.contains i&&caps[i]? == some none)=true:=by rfl):zpQ (zlP K n (gsN is)) (dGt is) Mi caps:=by
 intro F O s t s' v σ H Q R r hg q;obtain⟨ts,rfl⟩:∃ ts,t=.tup ts:=by cases t<;>first |exact⟨_,rfl⟩ |cases hg
 have hg:zbC is ts s=some s':=hg;obtain⟨a,vs,rfl,ha,ra⟩:=BRep.tup (.inl r);refine⟨a,vs,rfl,SqT.of ha,by rw[ra.1,zh9 hg,hn],zpb R (fun i hi=>?_) ra hg q⟩
 have:=jx.mp h i hi;rw[jL] at this;exact⟨by simpa using this.1,by simpa using this.2⟩
@[irreducible] def zfJ:Nat:=1000000
theorem zkV:zfJ=1000000:=by unfold zfJ; rfl
def zpv(M:List Nat)(caps:List (Option Nat))(dg:DG)(ft:DT)(fe:DE):List T->List T->Sg->Option (List T × Sg)
 |[],acc,s=>some (acc,s)
 |x::xs,acc,s=>(dg x (zjB caps s)).bind fun s1=>(ft s1).bind fun p=>if p.1 then (fe p.2).bind fun q=>zpv M caps dg ft fe xs (acc++[q.1]) (zax M caps q.2 s) else zpv M caps dg ft fe xs acc (zax M caps p.2 s)
def dLC(M:List Nat)(caps:List (Option Nat))(fi:DI)(dg:DG)(ft:DT)(fe:DE):DE:=fun s=>(fi s).bind fun p=>if p.1.length<=zfJ then (zpv M caps dg ft fe p.1 [] p.2).map fun q=>(.lst q.1,q.2) else none
def zfL:DT:=fun s=>some (true,s)
theorem ztC{M Mi:List Nat}{caps:List (Option Nat)}{fi:DI}{g:TG}{dg:DG}{ft:DT}{fe:DE}{tt:TT}(c:CapOk caps M Mi)(hg:zpQ g dg Mi caps)(htt:∀ σ H Q,cT Mi ft σ H Q->tt σ H Q) :
  ∀ σ H Q,cE .n M (dLC M caps fi dg ft fe) σ H Q->tLC caps (cI M fi) g tt (cE .e Mi fe) σ H Q:=by
 intro σ H Q h_;refine cE_ h_ fun F O s t s' R hf q=>?_;obtain⟨⟨its,s1⟩,h1,h2⟩:=Qb hf;split at h2
 case isFalse=>cases h2
 rename_i hsz;have hsz:its.length<=zfJ:=hsz;rw[zkV] at hsz;obtain⟨⟨tsE,sE⟩,h3,h4⟩:=Qm h2;injection h4 with h4 h5;subst h4 h5;refine⟨F,O,s,its,s1,R,h1,fun J H1 S1 R1 IT D hD=>?_⟩;have nD:∀(j:Nat),j∈M->σ[j]?≠some (some (.ref D)):=fun j hj e=>R1.al D (R1.ow j D hj e) hD;have RD:=R1.new hD (.lst [])
 refine⟨fun i m H'=>m=its.length - i/\i<=its.length/\∃ s' acc ys,Rel F (fun b=>O b∨b=D) M s' σ H'/\H' D=some (.lst ys)/\ys.length<=i/\Reps (Free F (fun b=>O b∨b=D)) H' ys acc/\Step σ M H H' /\
  (∀ b o,Free F O b->H1 b=some o->H' b=some o)/\zpv M caps dg ft fe (its.drop i) acc s'=some (tsE,sE),⟨its.length,by simp,QV _,s1,[],[],RD,zah,jm _,.nil,S1.trans (.new hD _),fun b o _ e=>by rw[za8 (za9 e hD)]; exact e,h3⟩,?_⟩
 rintro i m H2 ⟨rfl,hi,s2,acc,ys,R2,hD2,hy,ry,S2,k2,hl⟩;have it:=IT H2 k2 i
 by_cases hlt:i < its.length
 ·refine .inr ?_;obtain⟨go,yl⟩:=it.1 its[i] (j3 hlt);rw[Zn hlt] at hl;unfold zpv at hl;obtain⟨si1,hdg,hl⟩:=Qb hl;obtain⟨⟨b,si2⟩,hft,hl⟩:=Qb hl;refine⟨go,fun x H3 hy3=>?_⟩;obtain⟨y1,y2⟩:=yl x H3 hy3
  -- what was yielded is free of D
  have R3:Rel F (fun b=>O b∨b=D) M s2 σ H3/\(∀ b u,H2 b=some u->H3 b=some u)/\(∀ b,H3 b=none->H2 b=none):=by
   rcases y1 with rfl |⟨p,o,hp,rfl⟩
   ·exact⟨R2,fun _ _ e=>e,fun _ e=>e⟩
   ·exact⟨(R2.new hp o).less (fun b z=>.inl z) R2.ow R2.inD,fun b u e=>by rw[za8 (za9 e hp)]; exact e,fun b e=>by
     unfold upd at e;split at e
     ·cases e
     ·exact e⟩
  obtain⟨R3,k3,dm3⟩:=R3
  have rx:Rep (Free F (fun b=>O b∨b=D)) H3 x its[i]:=y2.mono (fun b z=>by
   rcases z with ⟨z,n⟩ |n
   ·exact⟨fun y=>y.elim z.1 fun y=>n (y▸hD),z.2⟩
   ·exact⟨fun y=>R2.al b y n,.inr (R2.dom b n)⟩) fun _ _ _ e=>e
  have ry3:Reps (Free F (fun b=>O b∨b=D)) H3 ys acc:=ry.mono (fun _ z=>z) fun b o _ e=>k3 b o e;have hD3:=k3 _ _ hD2;refine hg F _ (zjB caps s2) its[i] si1 x (zbj caps σ) H3 _ (R3.cap c) rx hdg fun σ4 R4 hk4 hl4=>?_;have hsl:∀ {sx:Sg} {Hx:Hp},Rel F (fun b=>O b∨b=D) Mi sx σ4 Hx->sx.length=caps.length:=fun {sx Hx} Rx=>by
   rw[Rx.len,hl4];unfold zbj;rw[j6]
  have nD4:∀(k:Nat),k∈Mi->σ4[k]?≠some (some (.ref D)):=fun k hk e=>by
   obtain⟨j,e1,e2⟩:=c.yes k hk;rw[hk4 k j e1] at e;obtain⟨j',e3,e4⟩:=zbM e;rw[e1] at e3;obtain rfl:j=j':=by injection e3 with h; injection h
   exact nD j e2 e4
  refine htt _ _ _ ⟨F,_,si1,b,si2,R4,hft,fun H5 S5 R5=>?_⟩;have freeK:∀ {Hx Hy:Hp},Step σ4 Mi Hx Hy->∀ b o,(Free F O b/\b≠D)->Hx b=some o->Hy b=some o:=fun {Hx Hy} Sx b o z e=>Sx.keep b o (R4.notOwned fun y=>y.elim z.1.1 z.2) e
  have S3':∀ {Hx:Hp},Step σ4 Mi H3 Hx->Step σ M H Hx:=fun {Hx} Sx=>⟨fun b o n e=>Sx.keep b o (fun k hk e'=>by
   obtain⟨j,e1,e2⟩:=c.yes k hk;rw[hk4 k j e1] at e';obtain⟨j',e3,e4⟩:=zbM e';rw[e1] at e3;obtain rfl:j=j':=by injection e3 with h; injection h
   exact n j e2 e4) (k3 b o (S2.keep b o n e)),fun b e=>S2.dom b (dm3 b (Sx.dom b e))⟩
  have keepF:∀ {Hx:Hp},Step σ4 Mi H3 Hx->∀ b o,Free F O b->H1 b=some o->Hx b=some o:=fun {Hx} Sx b o z e=>freeK Sx b o ⟨z,fun y=>by rw[y,hD] at e; cases e⟩ (k3 b o (k2 b o z e))
  cases b with
  |false=>
   rw[In_ jJ] at hl;dsimp only;rw[In_ jJ];exact⟨its.length - (i+1),by lia,rfl,hlt,zax M caps si2 s2,acc,ys,R3.back c S5 R5 hk4 (hsl R5),S5.keep D _ nD4 hD3,WS hy,ry3.mono (fun _ z=>z) fun b o z e=>S5.keep b o (R4.notOwned z.1) e,S3' S5,keepF S5,hl⟩
  |true=>
   rw[Ip_ rfl] at hl;dsimp only;rw[Ip_ rfl];obtain⟨⟨te,si3⟩,hfe,hl⟩:=Qb hl;refine⟨F,_,si2,te,si3,R5,hfe,fun y H6 S6 p6=>?_⟩;have S56:=S5.trans S6;have hD6:H6 D=some (.lst ys):=S56.keep D _ nD4 hD3;have R6:=R3.back c S56 p6.1 hk4 (hsl p6.1);refine⟨ys,hD6,by rw[ZQ]; lia,its.length - (i+1),by lia,rfl,hlt,zax M caps si3 s2,acc++[te],ys++[y],?_,zah,by rw[jk,Zj]; lia,?_,?_,?_,hl⟩
   ·-- D is nobody's: writing there keeps the relation
    have kD:∀ b u,b≠D->H6 b=some u->upd H6 D (.lst (ys++[y])) b=some u:=fun b u n e=>by rw[za8 n]; exact e
    refine⟨R6.len,fun j t e n=>?_,fun j t e n=>?_,R6.ow,R6.dis,fun b u n e=>?_,fun b e=>?_,R6.fresh,R6.inD,fun b z e=>?_⟩
    ·obtain⟨v,a1,a2⟩:=R6.val j t e n;exact⟨v,a1,a2.mono (fun _ z=>z) fun b u z e=>kD b u (fun w=>z.1 (.inr w)) e⟩
    ·obtain⟨a,a1,a2⟩:=R6.own j t e n;exact⟨a,a1,a2.mono (fun _ z=>z) (fun b u z e=>kD b u (fun w=>z.1 (.inr w)) e) fun u e=>kD a u (fun w=>nD j n (w▸a1)) e⟩
    ·refine kD b u (fun w=>?_) (R6.keep b u n e);subst w;have:=R1.dom b hD;rw[this] at e; cases e
    ·refine R6.dom b ?_;unfold upd at e;split at e
     ·cases e
     ·exact e
    ·refine R6.al b z ?_;unfold upd at e;split at e
     ·cases e
     ·exact e
   ·have r1:Reps (Free F (fun b=>O b∨b=D)) H6 (ys++[y]) (acc++[te]):=(ry3.mono (fun _ z=>z) fun b o z e=>S56.keep b o (R4.notOwned z.1) e).snoc p6.2;exact r1.mono (fun _ z=>z) fun b u z e=>by rw[za8 (fun w=>z.1 (.inr w))]; exact e
   ·exact⟨fun b o n e=>by rw[za8 (za9 e (S1.dom D hD))]; exact(S3' S56).keep b o n e,fun b e=>(S3' S56).dom b (by
     unfold upd at e;split at e
     ·cases e
     ·exact e)⟩
   ·exact fun b o z e=>by rw[za8 (za9 e hD)]; exact keepF S56 b o z e
 ·have e:i=its.length:=by lia
  subst e;rw[N9] at hl;injection hl with hl;injection hl with e1 e2;subst e1 e2;exact .inl ⟨it.2 (jm _),q _ H2 S2 ⟨D,rfl,S1.dom D hD,R2,.lst hD2 ry⟩⟩
theorem ztg{X:Cx}{e:Q4}{t t':TE}(h:PE X e t)(h':PE X e t'):PE X e (fun σ H Q=>t σ H Q∨t' σ H Q):=fun pc s σ H Q I q=>q.elim (h pc s σ H Q I) (h' pc s σ H Q I)
theorem zxQ{X:Cx}{e:Q4}{t t':TT}(h:PT X e t)(h':PT X e t'):PT X e (fun σ H Q=>t σ H Q∨t' σ H Q):=fun pc s σ H Q I q=>q.elim (h pc s σ H Q I) (h' pc s σ H Q I)
theorem zvT{X:Cx}{tg e:Q4}{t t':TI}(h:PI X tg e t)(h':PI X tg e t'):PI X tg e (fun σ H R=>t σ H R∨t' σ H R):=fun pc s σ H R I q=>q.elim (h pc s σ H R I) (h' pc s σ H R I)
theorem zjg{M:List Nat}{k k' k2:Kd}{f f' f2:DE}(hs:∀ s p,f2 s=some p->f s=some p∨f' s=some p)(hk:∀ F O σ H s' t v H' (s:Sg),Rel F O M s σ H->Post k F O M σ H s' t v H'->Post k2 F O M σ H s' t v H')(hk':∀ F O σ H s' t v H' (s:Sg),Rel F O M s σ H->Post k' F O M σ H s' t v H'->Post k2 F O M σ H s' t v H') :
  ∀ σ H Q,cE k2 M f2 σ H Q->cE k M f σ H Q∨cE k' M f' σ H Q:=by
 intro σ H Q h_;refine cE_ h_ fun F O s t s' R hf q=>?_;rcases hs s _ hf with h |h
 ·exact .inl ⟨F,O,s,t,s',R,h,fun v H' S p=>q v H' S (hk F O σ H s' t v H' s R p)⟩
 ·exact .inr ⟨F,O,s,t,s',R,h,fun v H' S p=>q v H' S (hk' F O σ H s' t v H' s R p)⟩
def orG(g g':T->T->Option T):T->T->Option T:=fun x y=>match g x y with
 |some t=>some t
 |none=>g' x y
theorem zpr{g g':T->T->Option T}{x y:T}{t:T}(h:orG g g' x y=some t):g x y=some t∨g' x y=some t:=by
 unfold orG at h;cases e:g x y with
 |none=>rw[e] at h; exact .inr h
 |some u=>rw[e] at h; exact .inl h
theorem zoV{g g':T->T->Option T}{fa fb:DE}:∀ s p,d2 (orG g g') fa fb s=some p->d2 g fa fb s=some p∨d2 g' fa fb s=some p:=fun s p h=>by
 obtain⟨t,s'⟩:=p;obtain⟨x,s1,y,h1,h2,h3⟩:=zij h;rcases zpr h3 with e |e
 ·left; unfold d2; rw[h1,j9,h2,j9,e]; rfl
 ·right; unfold d2; rw[h1,j9,h2,j9,e]; rfl
theorem zua{g g':T->T->Option T}{i:Nat}{fb:DE}:∀ s p,d2v (orG g g') i fb s=some p->d2v g i fb s=some p∨d2v g' i fb s=some p:=fun s p h=>by
 obtain⟨t,s'⟩:=p;obtain⟨x0,x,y,h0,h1,h2,h3⟩:=zii h;have j0:(s[i]?).join=some x0:=by rw[h0]; rfl
 have j2:(s'[i]?).join=some x:=by rw[h2]; rfl
 rcases zpr h3 with e |e
 ·left; unfold d2v; rw[j0,j9,h1,j9,j2,j9,e]; rfl
 ·right; unfold d2v; rw[j0,j9,h1,j9,j2,j9,e]; rfl
def za7:=orG gIx zrm
def ztV:=orG gIn zxX
def zaC:=orG zj6 zkg
def zat:=orG zro zoJ
section
theorem idE:∀(F:Fr) (O:js->Prop) (σ:L2.St) (H:Hp) (s':Sg) (t:T) (v:V) (H':Hp) (s:Sg),Rel F O M s σ H->Post .e F O M σ H s' t v H'->Post .e F O M σ H s' t v H':=fun _ _ _ _ _ _ _ _ _ _ p=>p
theorem neE:∀(F:Fr) (O:js->Prop) (σ:L2.St) (H:Hp) (s':Sg) (t:T) (v:V) (H':Hp) (s:Sg),Rel F O M s σ H->Post .n F O M σ H s' t v H'->Post .e F O M σ H s' t v H':=fun _ _ _ _ _ _ _ _ _ R p=>p.ne R
theorem zrr{f f' f2:DE}(hs:∀ s p,f2 s=some p->f s=some p∨f' s=some p):∀ σ H Q,cT M (dB f2) σ H Q->cT M (dB f) σ H Q∨cT M (dB f') σ H Q:=by
 intro σ H Q h_;refine cT_ h_ fun F O s b s' R hf q=>?_;rcases hs s _ (zih hf) with h |h
 ·exact .inl ⟨F,O,s,b,s',R,by unfold dB; rw[h]; rfl,q⟩
 ·exact .inr ⟨F,O,s,b,s',R,by unfold dB; rw[h]; rfl,q⟩
def zev(x:T)(lo hi:Option Int):Option T:=match x with
 |.str _=>zpD x lo hi
 |_=>gSl x lo hi
theorem zu8{fl fh:DO}:∀ s p,dSl zev fa fl fh s=some p->dSl zpD fa fl fh s=some p∨dSl gSl fa fl fh s=some p:=fun s p h=>by
 obtain⟨p1,h1,h2⟩:=Qb h;obtain⟨q1,h3,h4⟩:=Qb h2;obtain⟨r1,h5,h6⟩:=Qb h4;obtain⟨t,h7,h8⟩:=Qm h6;have e:zpD p1.1 q1.1 r1.1=some t∨gSl p1.1 q1.1 r1.1=some t:=by
  unfold zev at h7;split at h7
  ·exact .inl h7
  ·exact .inr h7
 rcases e with e |e
 ·left; unfold dSl; rw[h1,j9,h3,j9,h5,j9,e]; exact congrArg some h8
 ·right; unfold dSl; rw[h1,j9,h3,j9,h5,j9,e]; exact congrArg some h8
def kT:Key->T
 |.inl i=>.int i
 |.inr x=>.str x
theorem ztL{C:js->Prop}{H:Hp}(k:Key):Rep C H (kV k) (kT k):=by
 cases k with
 |inl i=>exact .int i
 |inr x=>exact .str x
theorem zeM{C:js->Prop}{H:Hp}:∀ {vs:List (Key × V)} {ts:List (Key × T)},vs.map (·.1)=ts.map (·.1)->Reps C H (vs.map fun kv=>kV kv.1) (ts.map fun kv=>kT kv.1)
 |[],[],_=>.nil
 |p::vs,[],h=>by simp at h
 |[],q::ts,h=>by simp at h
 |p::vs,q::ts,h=>by
  rw[jt,jt] at h;injection h with h1 h2;rw[jt,jt,h1];exact .cons (ztL _) (zeM h2)
def zlq(c:Nat):T:=.str ⟨#[c]⟩
def zcs(f:DE):DI:=fun s=>(f s).bind fun p=>match p.1 with
 |.lst xs=>some (xs,p.2)
 |.scr ns=>some (ns.map .int,p.2)
 |.tup xs=>some (xs,p.2)
 |.fd kvs=>some (kvs.map fun kv=>kT kv.1,p.2)
 |.str x=>some (x.cps.toList.map zlq,p.2)
 |_=>none
def zx8(f:DE):DI:=fun s=>(f s).bind fun p=>match p.1 with
 |.fd kvs=>some (kvs.map fun kv=>kT kv.1,p.2)
 |_=>none
def zx7(f:DE):DI:=fun s=>(f s).bind fun p=>match p.1 with
 |.str x=>some (x.cps.toList.map zlq,p.2)
 |_=>none
theorem zra{F:Fr}{O:js->Prop}{H1:Hp}{a:js}{o:Obj}{kvs:List (Key × V)}{f:Key × V->V}{ts:List T}(fr:Free F O a)(ha:H1 a=some (.frz o (.dK kvs)))(r:Reps (Free F O) H1 (kvs.map f) ts):zrW F O ts (Itd f a o) H1:=by
 intro H2 k i;have h2:=k a _ fr ha;have hl0:kvs.length=ts.length:=by have:=r.1; simpa using this
 refine⟨fun t ht=>?_,fun hl=>⟨kvs,h2,by rw[hl0]; exact hl⟩⟩
 obtain⟨v,hv,rv⟩:=r.get ht;rw[jg] at hv;obtain⟨y,hy,hyv⟩:=Qm hv;refine⟨⟨kvs,y,h2,hy⟩,fun x H3 ⟨e1,e2⟩=>⟨.inl e1,?_⟩⟩;have:=e2 kvs h2;rw[hy] at this;have hx:f y=x:=jf this;subst hx hyv e1;exact rv.there.mono (fun b c=>.inl c) fun b o c e=>k b o c.1 e
theorem zxV{tg:Q4}(h:PE X e (cE .e M fe)):PI X tg e (cI M (zx8 fe)):=zhx (zqQ h) (by
 intro σ H R h_;refine cI_ h_ fun F O s its s' Rl hf q=>?_;obtain⟨⟨p1,p2⟩,h1,h2⟩:=Qb hf;obtain⟨ks,rfl⟩:∃ ks,p1=.fd ks:=by cases p1<;>first |exact⟨_,rfl⟩ |cases h2
 injection h2 with h2;injection h2 with h3 h4;subst h3 h4;refine⟨F,O,s,_,_,Rl,h1,fun v H1 S1 p=>?_⟩;obtain⟨a,o,kvs,rfl,ha,ra,fr⟩:=BRep.fd (.inl p.2)
 exact⟨a,o,kvs,rfl,ha,q _ H1 S1 p.1 (zra fr ha (zeM ra.1))⟩)
theorem ztS{tg:Q4}(h:PE X e (cE .e M fe)):PI X tg e (cI M (zx7 fe)):=zhx (zqN h) (by
 intro σ H R h_;refine cI_ h_ fun F O s its s' Rl hf q=>?_;obtain⟨⟨p1,p2⟩,h1,h2⟩:=Qb hf;obtain⟨x,rfl⟩:∃ x,p1=.str x:=by cases p1<;>first |exact⟨_,rfl⟩ |cases h2
 injection h2 with h2;injection h2 with h3 h4;subst h3 h4;refine⟨F,O,s,_,_,Rl,h1,fun v H1 S1 p=>?_⟩;refine⟨x,BRep.str (.inl p.2),q _ H1 S1 p.1 ?_⟩;intro H2 k i;refine⟨fun t ht=>?_,fun hl=>by simpa[Its] using hl⟩
 rw[jg] at ht;obtain⟨c,hc,rfl⟩:=Qm ht;have hc':x.cps[i]?=some c:=by simpa using hc
 refine⟨(Yo.mp hc').1,fun y H3 ⟨e1,c',e2,e3⟩=>⟨.inl e1,?_⟩⟩;rw[hc'] at e2;cases e2;subst e3
 exact .str _)
variable {es:List Q4}{fs:DA}{x:Str}{k:Nat}{f:js}{fd:Z5}{ps:List Str}{np:Nat}
theorem zct{Mi:List Nat}:∀ σ H Q,cT Mi zfL σ H Q->zvw σ H Q:=by
 intro σ H Q h_;refine cT_ h_ fun F O s b s' R hf q=>?_;injection hf with hf;injection hf with h1 h2;subst h1 h2;exact q H .refl R
theorem zrO{st:QR}{t t':TE}{g:TG}(h:PS X st (zh7 t g))(hw:∀ σ H Q,t' σ H Q->t σ H Q):PS X st (zh7 t' g):=zcZ h fun D σ H q=>hw σ H _ q
end
def zo4(M:List Nat)(caps:List (Option Nat))(dg:DG)(ft:DT)(fk fe:DE):List T->List (Key × T)->Sg->Option (List (Key × T) × Sg)
 |[],acc,s=>some (acc,s)
 |x::xs,acc,s=>(dg x (zjB caps s)).bind fun s1=>(ft s1).bind fun p=>if p.1 then (fk p.2).bind fun r=>(zgX r.1).bind fun k=>(fe r.2).bind fun q=>zo4 M caps dg ft fk fe xs (zf6 acc k q.1) (zax M caps q.2 s) else zo4 M caps dg ft fk fe xs acc (zax M caps p.2 s)
def dDC(M:List Nat)(caps:List (Option Nat))(fi:DI)(dg:DG)(ft:DT)(fk fe:DE):DE:=fun s=>(fi s).bind fun p=>if p.1.length<=zfJ then (zo4 M caps dg ft fk fe p.1 [] p.2).map fun q=>(.dct q.1,q.2) else none
theorem zu6{M Mi:List Nat}{caps:List (Option Nat)}{fi:DI}{g:TG}{dg:DG}{ft:DT}{fk fe:DE}{tt:TT}(c:CapOk caps M Mi)(hg:zpQ g dg Mi caps)(htt:∀ σ H Q,cT Mi ft σ H Q->tt σ H Q) :
  ∀ σ H Q,cE .n M (dDC M caps fi dg ft fk fe) σ H Q->tDC caps (cI M fi) g tt (cE .e Mi fk) (cE .e Mi fe) σ H Q:=by
 intro σ H Q h_;refine cE_ h_ fun F O s t s' R hf q=>?_;obtain⟨⟨its,s1⟩,h1,h2⟩:=Qb hf;split at h2
 case isFalse=>cases h2
 rename_i hsz;have hsz:its.length<=zfJ:=hsz;rw[zkV] at hsz;obtain⟨⟨tsE,sE⟩,h3,h4⟩:=Qm h2;injection h4 with h4 h5;subst h4 h5;refine⟨F,O,s,its,s1,R,h1,fun J H1 S1 R1 IT D hD=>?_⟩;have nD:∀(j:Nat),j∈M->σ[j]?≠some (some (.ref D)):=fun j hj e=>R1.al D (R1.ow j D hj e) hD;have RD:=R1.new hD (.dK [])
 refine⟨fun i m H'=>m=its.length - i/\i<=its.length/\∃ s' acc ys,Rel F (fun b=>O b∨b=D) M s' σ H'/\H' D=some (.dK ys)/\ys.length<=i/\RepK (Free F (fun b=>O b∨b=D)) H' ys acc/\Step σ M H H' /\
  (∀ b o,Free F O b->H1 b=some o->H' b=some o)/\zo4 M caps dg ft fk fe (its.drop i) acc s'=some (tsE,sE),⟨its.length,by simp,QV _,s1,[],[],RD,zah,jm _,⟨rfl,fun i v t e=>by simp at e⟩,S1.trans (.new hD _),fun b o _ e=>by rw[za8 (za9 e hD)]; exact e,h3⟩,?_⟩
 rintro i m H2 ⟨rfl,hi,s2,acc,ys,R2,hD2,hy,ry,S2,k2,hl⟩;have it:=IT H2 k2 i
 by_cases hlt:i < its.length
 ·refine .inr ?_;obtain⟨go,yl⟩:=it.1 its[i] (j3 hlt);rw[Zn hlt] at hl;unfold zo4 at hl;obtain⟨si1,hdg,hl⟩:=Qb hl;obtain⟨⟨b,si2⟩,hft,hl⟩:=Qb hl;refine⟨go,fun x H3 hy3=>?_⟩;obtain⟨y1,y2⟩:=yl x H3 hy3
  -- what was yielded is free of D
  have R3:Rel F (fun b=>O b∨b=D) M s2 σ H3/\(∀ b u,H2 b=some u->H3 b=some u)/\(∀ b,H3 b=none->H2 b=none):=by
   rcases y1 with rfl |⟨p,o,hp,rfl⟩
   ·exact⟨R2,fun _ _ e=>e,fun _ e=>e⟩
   ·exact⟨(R2.new hp o).less (fun b z=>.inl z) R2.ow R2.inD,fun b u e=>by rw[za8 (za9 e hp)]; exact e,fun b e=>by
     unfold upd at e;split at e
     ·cases e
     ·exact e⟩
  obtain⟨R3,k3,dm3⟩:=R3
  have rx:Rep (Free F (fun b=>O b∨b=D)) H3 x its[i]:=y2.mono (fun b z=>by
   rcases z with ⟨z,n⟩ |n
   ·exact⟨fun y=>y.elim z.1 fun y=>n (y▸hD),z.2⟩
   ·exact⟨fun y=>R2.al b y n,.inr (R2.dom b n)⟩) fun _ _ _ e=>e
  have ry3:RepK (Free F (fun b=>O b∨b=D)) H3 ys acc:=ry.mono (fun _ z=>z) fun b o _ e=>k3 b o e;have hD3:=k3 _ _ hD2;refine hg F _ (zjB caps s2) its[i] si1 x (zbj caps σ) H3 _ (R3.cap c) rx hdg fun σ4 R4 hk4 hl4=>?_;have hsl:∀ {sx:Sg} {Hx:Hp},Rel F (fun b=>O b∨b=D) Mi sx σ4 Hx->sx.length=caps.length:=fun {sx Hx} Rx=>by
   rw[Rx.len,hl4];unfold zbj;rw[j6]
  have nD4:∀(k:Nat),k∈Mi->σ4[k]?≠some (some (.ref D)):=fun k hk e=>by
   obtain⟨j,e1,e2⟩:=c.yes k hk;rw[hk4 k j e1] at e;obtain⟨j',e3,e4⟩:=zbM e;rw[e1] at e3;obtain rfl:j=j':=by injection e3 with h; injection h
   exact nD j e2 e4
  refine htt _ _ _ ⟨F,_,si1,b,si2,R4,hft,fun H5 S5 R5=>?_⟩;have freeK:∀ {Hx Hy:Hp},Step σ4 Mi Hx Hy->∀ b o,(Free F O b/\b≠D)->Hx b=some o->Hy b=some o:=fun {Hx Hy} Sx b o z e=>Sx.keep b o (R4.notOwned fun y=>y.elim z.1.1 z.2) e
  have S3':∀ {Hx:Hp},Step σ4 Mi H3 Hx->Step σ M H Hx:=fun {Hx} Sx=>⟨fun b o n e=>Sx.keep b o (fun k hk e'=>by
   obtain⟨j,e1,e2⟩:=c.yes k hk;rw[hk4 k j e1] at e';obtain⟨j',e3,e4⟩:=zbM e';rw[e1] at e3;obtain rfl:j=j':=by injection e3 with h; injection h
   exact n j e2 e4) (k3 b o (S2.keep b o n e)),fun b e=>S2.dom b (dm3 b (Sx.dom b e))⟩
  have keepF:∀ {Hx:Hp},Step σ4 Mi H3 Hx->∀ b o,Free F O b->H1 b=some o->Hx b=some o:=fun {Hx} Sx b o z e=>freeK Sx b o ⟨z,fun y=>by rw[y,hD] at e; cases e⟩ (k3 b o (k2 b o z e))
  cases b with
  |false=>
   rw[In_ jJ] at hl;dsimp only;rw[In_ jJ];exact⟨its.length - (i+1),by lia,rfl,hlt,zax M caps si2 s2,acc,ys,R3.back c S5 R5 hk4 (hsl R5),S5.keep D _ nD4 hD3,WS hy,ry3.mono (fun _ z=>z) fun b o z e=>S5.keep b o (R4.notOwned z.1) e,S3' S5,keepF S5,hl⟩
  |true=>
   rw[Ip_ rfl] at hl;dsimp only;rw[Ip_ rfl];obtain⟨⟨tk,si3⟩,hfk,hl⟩:=Qb hl;obtain⟨k,hkk,hl⟩:=Qb hl;obtain⟨⟨te,si4⟩,hfe,hl⟩:=Qb hl;refine⟨F,_,si2,tk,si3,R5,hfk,fun ky H5' S5' p5=>⟨F,_,si3,te,si4,p5.1,hfe,fun y H6 S6 p6=>?_⟩⟩;have S56:=(S5.trans S5').trans S6;have hD6:H6 D=some (.dK ys):=S56.keep D _ nD4 hD3;have R6:=R3.back c S56 p6.1 hk4 (hsl p6.1);obtain rfl:=zfc (.inl p5.2) hkk;have lp:=zd8 ys k y;refine⟨ys,k,hD6,rfl,by rw[ZQ]; lia,its.length - (i+1),by lia,rfl,hlt,zax M caps si4 s2,zf6 acc k te,zhh ys k y,?_,zah,by lia,?_,?_,?_,hl⟩
   ·-- D is nobody's: writing there keeps the relation
    have kD:∀ b u,b≠D->H6 b=some u->upd H6 D (.dK (zhh ys k y)) b=some u:=fun b u n e=>by rw[za8 n]; exact e
    refine⟨R6.len,fun j t e n=>?_,fun j t e n=>?_,R6.ow,R6.dis,fun b u n e=>?_,fun b e=>?_,R6.fresh,R6.inD,fun b z e=>?_⟩
    ·obtain⟨v,a1,a2⟩:=R6.val j t e n;exact⟨v,a1,a2.mono (fun _ z=>z) fun b u z e=>kD b u (fun w=>z.1 (.inr w)) e⟩
    ·obtain⟨a,a1,a2⟩:=R6.own j t e n;exact⟨a,a1,a2.mono (fun _ z=>z) (fun b u z e=>kD b u (fun w=>z.1 (.inr w)) e) fun u e=>kD a u (fun w=>nD j n (w▸a1)) e⟩
    ·refine kD b u (fun w=>?_) (R6.keep b u n e);subst w;have:=R1.dom b hD;rw[this] at e; cases e
    ·refine R6.dom b ?_;unfold upd at e;split at e
     ·cases e
     ·exact e
    ·refine R6.al b z ?_;unfold upd at e;split at e
     ·cases e
     ·exact e
   ·have r1:RepK (Free F (fun b=>O b∨b=D)) H6 (zhh ys k y) (zf6 acc k te):=(ry3.mono (fun _ z=>z) fun b o z e=>S56.keep b o (R4.notOwned z.1) e).put p6.2;exact r1.mono (fun _ z=>z) fun b u z e=>by rw[za8 (fun w=>z.1 (.inr w))]; exact e
   ·exact⟨fun b o n e=>by rw[za8 (za9 e (S1.dom D hD))]; exact(S3' S56).keep b o n e,fun b e=>(S3' S56).dom b (by
     unfold upd at e;split at e
     ·cases e
     ·exact e)⟩
   ·exact fun b o z e=>by rw[za8 (za9 e hD)]; exact keepF S56 b o z e
 ·have e:i=its.length:=by lia
  subst e;rw[N9] at hl;injection hl with hl;injection hl with e1 e2;subst e1 e2;exact .inl ⟨it.2 (jm _),q _ H2 S2 ⟨D,rfl,S1.dom D hD,R2,.dct hD2 ry⟩⟩
section
variable {fc fk:DE}
def zbZ:T->Option T
 |.lst xs=>some (.lst xs) |.tup xs=>some (.lst xs) |.scr ns=>some (.lst (ns.map .int)) |.dct kvs=>some (.lst (kvs.map fun kv=>kT kv.1)) |.fd kvs=>some (.lst (kvs.map fun kv=>kT kv.1))
 |_=>none
theorem zqj:S1N (fun xs H Q=>(∃ p ys,xs=[.ref p]/\(SqL TheK.K H p ys∨SqT TheK.K H p ys)/\∀ l,H l=none->Q (.ref l) (upd H l (.lst ys)))∨∃ a kvs,xs=[V.ref a]/\Rd H a (.dK kvs)/\∀ l,H l=none->Q (.ref l) (upd H l (.lst (kvs.map fun kv=>kV kv.1)))) zbZ:=by
 intro C H x tx t Q bx hg q;cases tx with
 |dct ts=>
  injection hg with hg; subst hg;obtain⟨a,kvs,rfl,ha,ra⟩:=bx.dct;exact .inr ⟨a,kvs,rfl,.inl ha,fun p hp=>q p _ hp fun C' hC=>.lst zah (zeM ra.1)⟩
 |fd ts=>
  injection hg with hg; subst hg;obtain⟨a,ob,kvs,rfl,ha,ra,_⟩:=bx.fd;exact .inr ⟨a,kvs,rfl,.inr ⟨ob,ha⟩,fun p hp=>q p _ hp fun C' hC=>.lst zah (zeM ra.1)⟩
 |lst ts=>exact .inl (zmw C H x (.lst ts) t Q bx hg q)
 |tup ts=>exact .inl (zmw C H x (.tup ts) t Q bx hg q)
 |scr ts=>exact .inl (zmw C H x (.scr ts) t Q bx hg q)
 |_=>cases hg
def zm5:T->Option T
 |.int i=>some (.int (-i))
 |_=>none
end
def zuD:T->Option T
 |.lst xs=>some (.lst xs.reverse)
 |_=>none
def zww(f:DE)(k:DO):DE:=fun s=>(f s).bind fun p=>(k p.2).bind fun q=>if q.1=some (-1) then (zuD p.1).map fun t=>(t,q.2) else none
section
variable {st:Q4}{fk:DO}{p2:Pos}
def dLR(f:DA):DE:=fun s=>(f s).bind fun p=>match p.1 with
 |[.int j]=>if zgk j=true then some (.lst (zaU 0 j.toNat),p.2) else none
 |_=>none
theorem zlv{j:Int}(h:zgk j=true):-16777216<=j/\j<=16777216:=by
 have:=ZU h;lia
end
def zpN:List T->Option (List Bool)
 |[]=>some []
 |.bl b::ts=>(zpN ts).map (b::·)
 |_=>none
theorem znW{C:js->Prop}{H:Hp}:∀ {vs:List V} {ts:List T} {bs:List Bool},Reps C H vs ts->zpN ts=some bs->vs=bs.map V.bl
 |[],[],bs,_,h=>by injection h with h; subst h; rfl
 |[],_::_,_,r,_=>by have:=r.1; simp at this
 |_::_,[],_,r,_=>by have:=r.1; simp at this
 |v::vs,t::ts,bs,r,h=>by
  obtain⟨b,rfl⟩:∃ b,t=.bl b:=by cases t<;>first |exact⟨_,rfl⟩ |cases h
  obtain⟨l,h1,rfl⟩:=Qm (show (zpN ts).map (b::·)=some bs from h)
  rw[znW r.tail h1,BRep.bl (.inl r.head)]; rfl
def zrU:T->Option T
 |.lst ts=>(zpN ts).map fun bs=>.bl (bs.all id)
 |_=>none
def zx4:T->Option T
 |.lst ts=>(zpN ts).map fun bs=>.bl (bs.any id)
 |_=>none
theorem zvD:S1E (fun xs H Q=>∃(a:js) (bs:List Bool),xs=[V.ref a]/\SqL TheK.K H a (bs.map V.bl)/\Q (.bl (bs.all id)) H) zrU:=by
 intro C H x tx t Q bx hg q;obtain⟨ts,rfl⟩:∃ ts,tx=.lst ts:=by cases tx<;>first |exact⟨_,rfl⟩ |cases hg
 obtain⟨bs,h1,rfl⟩:=Qm (show (zpN ts).map (fun bs=>T.bl (bs.all id))=some t from hg);obtain⟨a,us,rfl,ha,ra⟩:=bx.lst;rw[znW ra h1] at ha;exact⟨a,bs,rfl,SqL.of ha,q _ (.bl _)⟩
theorem zuf:Qp "all"=some (.builtin "all"):=by first |exact PyProof.Rows.boot_all |decide +kernel
def zxG(t:TS):TS:=fun D σ H=>∃ a kvs,H a=some (.dK kvs)/\∀ o,t D σ (upd H a (.frz o (.dK kvs)))
theorem zov{X:Cx}{st:QR}{t:TS}(h:PS X st t):PS X st (zxG t):=fun pc s σ H D I ⟨a,kvs,e,q⟩=>by
 obtain⟨o,I2⟩:=I.known e;exact h pc s σ _ D I2 (q o)
def zrA(i:Nat)(d:DS):DS:=fun s=>match (s[i]?).join with
 |some (.dct kvs)=>d (s.set i (some (.fd kvs)))
 |_=>none
def zkd:List T->Option (List Int)
 |[]=>some []
 |.int i::ts=>(zkd ts).map (i::·)
 |_=>none
theorem zi5{C:js->Prop}{H:Hp}:∀ {vs:List V} {ts:List T} {ns:List Int},Reps C H vs ts->zkd ts=some ns->vs=ns.map V.int
 |[],[],ns,_,h=>by injection h with h; subst h; rfl
 |[],_::_,_,r,_=>by have:=r.1; simp at this
 |_::_,[],_,r,_=>by have:=r.1; simp at this
 |v::vs,t::ts,ns,r,h=>by
  obtain⟨b,rfl⟩:∃ b,t=.int b:=by cases t<;>first |exact⟨_,rfl⟩ |cases h
  obtain⟨l,h1,rfl⟩:=Qm (show (zkd ts).map (b::·)=some ns from h)
  rw[zi5 r.tail h1,BRep.int (.inl r.head)]; rfl
def znK:DS:=fun _=>none
theorem zp3:Qp "tuple"=some (.type "tuple"):=by decide +kernel
def zj9:T->Bool
 |.non |.bl _ |.int _ |.str _=>true
 |_=>false
theorem zl3{C C':js->Prop}{H H':Hp}{v:V}{t:T}(h:Rep C H v t)(f:zj9 t=true):Rep C' H' v t:=by
 cases h<;>first |exact .non |exact .bl _ |exact .int _ |exact .str _ |cases f
def zjl(fn:List T->Option T)(i:Nat)(fa:DA):DE:=fun s=>(s[i]?).join.bind fun _=>(fa s).bind fun p=>(p.2[i]?).join.bind fun t0=>(fn (t0::p.1)).bind fun t=>if zj9 t=true then some (t,p.2) else none
theorem zrI{M:List Nat}{fa:DA}{np:Nat}{fn:List T->Option T}{i:Nat}(hn:Ar fa np)(hi:M.contains i=true):∀ σ H Q,cE .e M (zjl fn i fa) σ H Q->zjI (spP .e (np+1) fn) [] E0 (zey (ze3 i) (cA M fa)) σ H Q:=by
 intro σ H Q h_;refine cE_ h_ fun F O s t s' R hf q=>?_;have hi':i∈M:=by simpa using hi
 obtain⟨x0,h0,hf⟩:=Qb hf;obtain⟨p,h1,hf⟩:=Qb hf;obtain⟨t0,h2,hf⟩:=Qb hf;obtain⟨w,h3,h4⟩:=Qb hf;split at h4
 ·rename_i hfl;injection h4 with h4;injection h4 with h4 h5;subst h4 h5;obtain⟨a,e1,_⟩:=R.own i x0 (zab h0) hi';refine⟨_,e1,F,O,s,p.1,p.2,R,h1,fun vs H1 S1 R1 rs=>?_⟩;obtain⟨b,e2,L⟩:=R1.own i t0 (zab h2) hi';rw[e1] at e2;injection e2 with e2;injection e2 with e2;injection e2 with e2;subst e2
  try dsimp only
  rw[Qt];refine⟨fun _=>True,t0::p.1,w,by rw[jp,hn _ _ _ h1],.cons (L.rep (fun _ _=>trivial) trivial) (rs.mono (fun _ _=>trivial) fun _ _ _ e=>e),h3,fun v H2 c=>q v H2 (S1.trans ⟨fun b o _ e=>c.keep b o e,c.dom⟩) ⟨R1.ext c.keep c.dom,?_⟩⟩
  exact zl3 c.res hfl
 ·cases h4
theorem znT:Qp "set"=some (.type "set"):=by decide +kernel
theorem Rel.plus{F:Fr}{O:js->Prop}{M:List Nat}{s:Sg}{σ:L2.St}{H:Hp}{l:js}(R:Rel F O M s σ H)(h:H l=none)(o:HO):Rel F O M s σ (upd H l o):=
 R.ext (fun b u e=>by rw[za8 (za9 e h)]; exact e) fun b e=>by
  unfold upd at e;split at e
  ·cases e
  ·exact e
section
def zrw:DE:=fun s=>some (.set (fun _=>false) 0,s)
def zrx(i:Nat)(fe:DE):DE:=fun s=>(s[i]?).join.bind fun t0=>match t0 with
 |.set _ _=>(fe s).bind fun p=>(p.2[i]?).join.bind fun t1=>match p.1,t1 with
  |.int k,.set S n=>if n < 1000 then some (.non,p.2.set i (some (.set (fun j=>S j||decide (j=k)) (if S k then n else n+1)))) else none
  |_,_=>none
 |_=>none
def zlQ:T->T->Option T
 |.int k,.set S _=>some (.bl (!S k))
 |_,_=>none
theorem BRep.setI{C:js->Prop}{H:Hp}{v:V}{S:Int->Bool}{n:Nat}(h:BRep C H v (.set S n)):∃ a,v=.ref a/\H a=some (.set S n):=by
 rcases h with h |⟨a,rfl,h⟩
 ·cases h with |set c r=>exact⟨_,rfl,r⟩
 ·cases h with |set r=>exact⟨_,rfl,r⟩
theorem zsH:S2E (fun x y H Q=>∃ k a S n,x=.int k/\y=.ref a/\H a=some (.set S n)/\Q (.bl (!S k)) H) zlQ:=by
 intro C H x y tx ty t Q bx by' hg q;obtain⟨k,rfl⟩:∃ k,tx=.int k:=by cases tx<;>first |exact⟨_,rfl⟩ |cases hg
 obtain⟨S,n,rfl⟩:∃ S n,ty=.set S n:=by cases ty<;>first |exact⟨_,_,rfl⟩ |cases hg
 injection hg with hg;subst hg;obtain rfl:=BRep.int bx;obtain⟨a,rfl,r⟩:=BRep.setI by';exact⟨k,a,S,n,rfl,rfl,r,q _ (.bl _)⟩
end
def zgM(fn:List T->Option T)(i:Nat)(f0:DE)(fa:DA):DE:=fun s=>(f0 s).bind fun p=>(p.2[i]?).join.bind fun _=>(fa p.2).bind fun q=>(q.2[i]?).join.bind fun t0=>(fn (p.1::t0::q.1)).bind fun t=>if zj9 t=true then some (t,q.2) else none
theorem zp1{M:List Nat}{f0:DE}{fa:DA}{np:Nat}{fn:List T->Option T}{i:Nat}(hn:Ar fa np)(hi:M.contains i=true):∀ σ H Q,cE .e M (zgM fn i f0 fa) σ H Q->zjI (spP .e (np+2) fn) [] E0 (zey (cE .e M f0) (zey (ze3 i) (cA M fa))) σ H Q:=by
 intro σ H Q h_;refine cE_ h_ fun F O s t s' R hf q=>?_;have hi':i∈M:=by simpa using hi
 obtain⟨p,h0,hf⟩:=Qb hf;obtain⟨x0,h1,hf⟩:=Qb hf;obtain⟨r,h2,hf⟩:=Qb hf;obtain⟨t0,h3,hf⟩:=Qb hf;obtain⟨w,h4,h5⟩:=Qb hf
 by_cases hfl:zj9 w=true
 ·rw[Ip_ hfl] at h5;injection h5 with h5;injection h5 with h5 h6;subst h5 h6;refine⟨F,O,s,p.1,p.2,R,h0,fun v H1 S1 p1=>?_⟩;obtain⟨a,e1,_⟩:=p1.1.own i x0 (zab h1) hi';refine⟨_,e1,F,O,p.2,r.1,r.2,p1.1,h2,fun vs H2 S2 R2 rs=>?_⟩;obtain⟨b,e2,L⟩:=R2.own i t0 (zab h3) hi';rw[e1] at e2;injection e2 with e2;injection e2 with e2;injection e2 with e2;subst e2;have rv:=p1.1.stay S2 p1.2
  try dsimp only
  rw[Qt];refine⟨fun _=>True,p.1::t0::r.1,w,by rw[jp,jp,hn _ _ _ h2],.cons (rv.mono (fun _ _=>trivial) fun _ _ _ e=>e) (.cons (L.rep (fun _ _=>trivial) trivial) (rs.mono (fun _ _=>trivial) fun _ _ _ e=>e)),h4,fun v H3 c=>q v H3 ((S1.trans S2).trans ⟨fun b o _ e=>c.keep b o e,c.dom⟩) ⟨R2.ext c.keep c.dom,?_⟩⟩
  exact zl3 c.res hfl
 ·rw[In_ hfl] at h5; cases h5
theorem zgx:∀(l acc:List Str),acc.Nodup->(l.foldl Dw.stp acc).Nodup
 |[],_,h=>h
 |x::l,acc,h=>by
  rw[Zv];refine zgx l _ ?_;unfold Dw.stp;split
  ·exact h
  ·rename_i hx;exact jP.mpr ⟨h,by simp,fun a ha b hb e=>by rw[je] at hb; subst hb e; exact hx ha⟩
theorem zeP(l:List Str):(Dw.za1 l).Nodup:=zgx l [] Zo
def znV(xs ys:List Str):Nat:=((Dw.za1 xs).filter fun x=>decide (x∈Dw.za1 ys)).length
def zi7:T->T->Option T
 |.lst xs,.lst ys=>(zhA xs).bind fun a=>(zhA ys).bind fun b=>if a.length < 900 then if b.length < 900 then some (.int (znV a b)) else none else none
 |_,_=>none
section
theorem zrJ:Qp "min"=some (.builtin "min"):=by first |exact PySem.boot_min |exact PyProof.Rows.boot_min |decide +kernel
end
def zpV(xs ys:List T):List T:=(xs.zip ys).map fun p=>.tup [p.1,p.2]
theorem zoz{F:Fr}{O:js->Prop}{H1 H2:Hp}{p:js}{x y:V}{t u:T}(k:∀ b o,Free F O b->H1 b=some o->H2 b=some o)(hp:H2 p=none)(rx:Rep (Free F O) H1 x t)(ry:Rep (Free F O) H1 y u) :
  Rep (fun b=>(Free F O b/\H1 b≠none)∨H2 b=none) (upd H2 p (.tup [x,y])) (.ref p) (.tup [t,u]):=by
 have up:∀ {v:V} {w:T},Rep (Free F O) H1 v w->Rep (fun b=>(Free F O b/\H1 b≠none)∨H2 b=none) (upd H2 p (.tup [x,y])) v w:=fun r=>
  r.there.mono (fun b c=>.inl c) fun b o c e=>by rw[za8 (za9 (k b o c.1 e) hp)]; exact k b o c.1 e
 have rr:Reps (fun b=>(Free F O b/\H1 b≠none)∨H2 b=none) (upd H2 p (.tup [x,y])) [x,y] [t,u]:=.cons (up rx) (.cons (up ry) .nil);exact .tup (.inr hp) zah rr.1 rr.2
def zuE(f:DA):DI:=fun s=>(f s).bind fun p=>match p.1 with
 |[.lst xs,.lst ys]=>some (zpV xs ys,p.2)
 |_=>none
def zx3(f:List Int->Int):T->Option T
 |.lst ts=>(zkd ts).bind fun ns=>if 0 < ns.length then some (.int (f ns)) else none
 |_=>none
def znt:=zx3 zo0
theorem zvz{f:List Int->Int}:S1E (fun xs H Q=>∃(a:js) (ns:List Int),xs=[V.ref a]/\SqL TheK.K H a (ns.map V.int)/\0 < ns.length/\Q (.int (f ns)) H) (zx3 f):=by
 intro C H x tx t Q bx hg q;cases tx with
 |lst ts=>
  obtain⟨ns,h1,h2⟩:=Qb (show ((zkd ts).bind fun ns=>if 0 < ns.length then some (T.int (f ns)) else none)=some t from hg)
  split at h2
  ·rename_i hn;injection h2 with h2; subst h2;obtain⟨a,us,rfl,ha,ra⟩:=bx.lst;rw[zi5 ra h1] at ha;exact⟨a,ns,rfl,SqL.of ha,hn,q _ (.int _)⟩
  ·cases h2
 |_=>cases hg
theorem znU:Qp "max"=some (.builtin "max"):=by first |exact PySem.boot_max |exact PyProof.Rows.boot_max |decide +kernel
def zwH(i j:Int):Prop:=i.natAbs < 2 ^ 200/\j.natAbs < 2 ^ 200
theorem znX{k:Int}(h:k.natAbs < 2 ^ 200):W7 k<=2 ^ 20:=by
 unfold W7;split
 ·exact QV _
 ·rename_i hne;have h0:k.natAbs≠0:=by
   intro z;exact hne (by simpa using z)
  have:=(Nat.log2_lt h0).mpr h;have e:(2:Nat) ^ 20=1048576:=by decide
  lia
theorem zqX{X:Cx}:OpR X (gz .Mult) (rI zwH fun i j=>.int (i*j)):=opI fun _ _ _ _ _ _ _ hc q=>mul_int q (.of_bits (znX hc.1) (znX hc.2))
def zug(i j:Int):Bool:=Nat.ble i.natAbs 10000000000000000000000000000000000000000&&Nat.ble j.natAbs 10000000000000000000000000000000000000000
def zri:=gI zug fun i j=>i*j
abbrev DR:=Sg->Bool
def cR(E:XK)(N:js)(d:DR):TS:=fun D σ H=>∃ F O s,Rel F O [] s σ H/\Ios F [] [] σ/\d s=true/\∀ O' H',KeepO O H O' H'->E (.ref N) none H'
def zu9(ft:DT)(da db:DR):DR:=fun s=>match ft s with
 |some (b,s')=>if b then da s' else db s'
 |none=>false
def zlX(d1:DR)(dn:DS)(d2:DR):DR:=fun s=>d1 s||match dn s with
 |some (.nx s')=>d2 s'
 |_=>false
def spR(N:js)(np:Nat)(rs:List T->Bool):Sp:=fun vs H _ E=>∃ C ts,ts.length=np/\Reps C H vs ts/\rs ts=true/\∀ H',(∀ b o,H b=some o->H' b=some o)->(∀ b,H' b=none->H b=none)->E (.ref N) none H'
def zrz:DR:=fun _=>false
section
variable {E:XK}{N:js}{da db d1 d2:DR}{dn:DS}{ft:DT}{a b sts:List QR}{st:QR}
theorem zxN(hc:PT X c (cT [] ft))(ha:PSs X a (cR E N da))(hb:PSs X b (cR E N db)):PS X (.If c a b pos) (cR E N (zu9 ft da db)):=zcZ (zta hc ha hb) (by
 intro D σ H hz; obtain⟨F,O,s,R,I,hd,q⟩:=hz;unfold zu9 at hd;split at hd
 case h_2=>cases hd
 rename_i k s' hf;refine⟨F,O,s,k,s',R,hf,fun H1 S1 R1=>?_⟩;have k1:=S1.keepO R;cases k with
 |true=>exact⟨F,O,s',R1,I,hd,fun O' H' k=>q O' H' (k1.trans k)⟩
 | false=>exact⟨F,O,s',R1,I,hd,fun O' H' k=>q O' H' (k1.trans k)⟩)
theorem zxM:PSs X sts (cR E N zrz):=fun pc s σ H D I hz=>by
 obtain⟨F,O,s,R,I,hd,q⟩:=hz;cases hd
theorem zvJ:PS X st (cR E N zrz):=fun pc s σ H D I hz=>by
 obtain⟨F,O,s,R,I,hd,q⟩:=hz;cases hd
theorem zvI(h:PS X st (cR E N da)):PSs X [st] (cR E N da):=zkz (zgp h) (fun D σ H hz=>hz)
theorem zvH{rk:Kd}(h1:PS X st (cR E N d1))(hn:PS X st (cS rk [] [] [] [] dn))(h2:PSs X sts (cR E N d2)):PSs X (st::sts) (cR E N (zlX d1 dn d2)):=by
 intro pc s0 σ H D I0 hz;obtain⟨F,O,s,R,I,hd,q⟩:=hz;unfold zlX at hd;rcases Bool.or_eq_true_iff.mp hd with hd |hd
 ·exact zhT h1 h2 pc s0 σ H D I0 ⟨F,O,s,R,I,hd,q⟩
 ·split at hd
  case h_2=>cases hd
  rename_i s' hf;refine zhT hn h2 pc s0 σ H D I0 ⟨F,O,s,_,R,I,hf,fun O' σ' H' k R' I'=>⟨F,O',s',R',I',hd,fun O2 H2 k2=>q O2 H2 (k.trans k2)⟩⟩
end
def zkq(fe:DE):DR:=fun s=>(fe s).isSome
section
variable {E:XK}{N D:js}
theorem zok{k:Nat}{bm:List j8}{x:Str}{np cpos:Pos}{e0:Q4}{fe:DE}(hR:zis X E)(hc:X.calm=true)(hr:Room (k+1) X.A)(xc:XClsI X.K X.base N D bm)(hg:Gl X x)(hm:X.mg x=some (.ref N))(he0:PE X e0 (cE .e [] fe))
  (he:jd [e0] X.env=(false,eval e0 X.env)::jd [] X.env:=by rfl) (hpl:(QF cpos (jd [] X.env)).any (·.1)=false:=by rfl) (hd:(x == ("__debug__":Str))=false:=by decide) :
  PS X (.Raise (some (.Call (.Name x np) [e0] [] cpos)) none pos) (cR E N (zkq fe)):=zcZ (zmT hR hc hr xc hg hm (zaL he0 zcT he) he hpl hd) (by
 intro D' σ H hz; obtain⟨F,O,s,R,I,hd,q⟩:=hz;obtain⟨⟨t,s'⟩,h1⟩:=gv.mp (show (fe s).isSome=true from hd)
 exact⟨F,O,s,t,s',R,h1,fun v H' S po=>⟨rfl,q O H' (S.keepO R)⟩⟩)
end
def zlY(i:Nat)(fk:DE)(b:Int):DS:=fun s=>(s[i]?).join.bind fun _=>(fk s).bind fun q=>(q.2[i]?).join.bind fun t=>match t,q.1 with
 |.lst xs,.int k=>(ixN xs.length k).bind fun j=>(xs[j]?).bind fun x=>match x with
  |.int a=>some (.nx (q.2.set i (some (.lst (xs.set j (.int (a+b)))))))
  |_=>none
 |_,_=>none
def zwl(f:List Int->Int):T->Option T
 |.tup ts=>(zkd ts).bind fun ns=>if 0 < ns.length then some (.int (f ns)) else none
 |_=>none
def zrj:=zwl zrS
def zrk:=zwl zo0
theorem zsG{f:List Int->Int}:S1E (fun xs H Q=>∃(a:js) (ns:List Int),xs=[V.ref a]/\SqT TheK.K H a (ns.map V.int)/\0 < ns.length/\Q (.int (f ns)) H) (zwl f):=by
 intro C H x tx t Q bx hg q;cases tx with
 |tup ts=>
  obtain⟨ns,h1,h2⟩:=Qb (show ((zkd ts).bind fun ns=>if 0 < ns.length then some (T.int (f ns)) else none)=some t from hg)
  split at h2
  ·rename_i hn;injection h2 with h2; subst h2;obtain⟨a,us,rfl,ha,ra⟩:=bx.tup;rw[zi5 ra h1] at ha;exact⟨a,ns,rfl,SqT.of ha,hn,q _ (.int _)⟩
  ·cases h2
 |_=>cases hg
end L3
namespace L3
open PySem PySem.Spec PyProof.Rows L2
def Here(K:jb)(mg:Str->Option j8)(x:Str)(st:QR)(ps:List Str):Prop:=
 ∃ f fd,Fun K x x st f fd/\Binds K fd ps []/\Q2 K (.ref f)=true/\mg x=some (.ref f)
def Cal(P:jH)(w:Qf)(K:jb)(mg:Str->Option j8)(base:QL)(n:Nat)(x:Str)(ps:List Str)(sp:Sp):Prop:=
 ∃ f fd,FnOk P w K mg base CX0 n f fd ps sp/\Binds K fd ps []/\Q2 K (.ref f)=true/\mg x=some (.ref f)
theorem zrg{K:jb}{h:QL}{mg:Str->Option j8}(X:K.In h)(G:h.Ns jO mg){x:Str}{st:QR}{ps:List Str}{f:js}{oc:j8}{od an:Option js}{osl:Array (Option j8)}{kV doc pm cdv ct:j8}
  (hb:∀(kV doc pm:j8) (an:Option js) (cdv ct:j8) (us:List j8),us.length=ps.length->Ya (jX x x (zbi st) (zar st) (za0 st) .none kV doc pm an cdv ct) ⟨us,[]⟩=pure (ps.zip us))
  (a:Qe K jO x=some (some (.ref f))) (l:K.lookup f=some ⟨oc,od,.func (jX x x (zbi st) (zar st) (za0 st) .none kV doc pm an cdv ct),osl⟩)
  (c:QZ K cdv x=true) (k:Q2 K (.ref f)=true):Here K mg x st ps:=by
 have F:=zpE (st:=st) l c k;exact⟨f,_,F,F.binds hb,k,Wu X G a⟩
section
variable {P:jH}{w:Qf}{K:jb}{mg:Str->Option j8}{base:QL}
theorem Here.ok{x:Str}{st:QR}{N ps:List Str}{k:Nat}{sp:Sp}(h:Here K mg x st ps)(S:FnScope N ps (za0 st))(len:∀ vs H Q E,sp vs H Q E->vs.length=ps.length)
  (hbody:∀(f:js) (cdv:j8) (A:Qg) (outer:List Env) (s:jc) (H:Hp) (vs:List V) (Q:VK) (E:XK),Room k (A.deeper (Zp x (za0 st) s.heap.objs.size f cdv))->sp vs H Q E->
   ∃ t,PSs (zhr CX0 P w K mg base N x (za0 st) f cdv A outer s H E).nox (zar st) t/\t { nx:=fun _ H'=>Q .non H',rt:=Q } (L2.start N vs) H):Cal P w K mg base (k+1) x ps sp:=by
 obtain⟨f,fd,F,b,kp,m⟩:=h;exact⟨f,fd,F.ok S len fun cdv A outer s H vs Q E hr hs=>hbody f cdv A outer s H vs Q E hr hs,b,kp,m⟩
theorem Cal.mono{j k:Nat}{x:Str}{ps:List Str}{sp:Sp}(h:Cal P w K mg base j x ps sp)(hjk:j<=k):Cal P w K mg base k x ps sp:=by
 obtain⟨f,fd,F,b,kp,m⟩:=h;exact⟨f,fd,F.mono hjk,b,kp,m⟩
end
def zuw(tk:TheK)(P:jH)(w:Qf)(mg:Str->Option j8)(base:QL)(k:Nat)(x:Str)(st:QR)(N:List Str)(t:TS):Prop:=
 ∀(f:js) (cdv:j8) (A:Qg) (outer:List Env) (s:jc) (H:Hp) (E:XK),Room k (A.deeper (Zp x (za0 st) s.heap.objs.size f cdv))->PSs (zhr CX0 P w tk.K mg base N x (za0 st) f cdv A outer s H E).nox (zar st) t
variable [tk:TheK]
section
variable {P:jH}{w:Qf}{mg:Str->Option j8}{base:QL}{x:Str}{st:QR}{N ps:List Str}{k:Nat}{d:DS}{M' Mb:List Nat}
theorem Here.okP(h:Here tk.K mg x st ps)(S:FnScope N ps (za0 st))(hb:zuw tk P w mg base k x st N (cS .e [] [] M' Mb d))(hN:ps.length<=N.length:=by decide):Cal P w tk.K mg base (k+1) x ps (spP .e ps.length (fnP N.length d)):=by
 refine h.ok S (fun vs H Q E ⟨C,ts,t,hl,r,_⟩=>by rw[r.1,hl]) fun f cdv A outer s H vs Q E hr hs=>⟨_,hb f cdv A outer s H E hr,?_⟩
 refine zqo (fun ts t e=>?_) (.inl rfl) hN hs;unfold fnP at e;split at e
 ·injection e with e; subst e; exact .inl ⟨_,by assumption⟩
 ·injection e with e; subst e; exact .inr ⟨rfl,rfl,_,by assumption⟩
 ·cases e
theorem Here.okN(h:Here tk.K mg x st ps)(S:FnScope N ps (za0 st))(hb:zuw tk P w mg base k x st N (cS .n [] [] M' Mb d))(hN:ps.length<=N.length:=by decide):Cal P w tk.K mg base (k+1) x ps (spP .n ps.length (zo2 N.length d)):=by
 refine h.ok S (fun vs H Q E ⟨C,ts,t,hl,r,_⟩=>by rw[r.1,hl]) fun f cdv A outer s H vs Q E hr hs=>⟨_,hb f cdv A outer s H E hr,?_⟩
 refine zqo (fun ts t e=>?_) (.inr rfl) hN hs;unfold zo2 at e;split at e
 ·injection e with e; subst e; exact .inl ⟨_,by assumption⟩
 ·cases e
theorem zmm{rk:Kd}{np:Nat}{fn:List T->Option (T × T)}{vs:List V}{H:Hp}{Q:VK}{E:XK}(h:spI rk np fn vs H Q E):vs.length=np:=by
 obtain⟨C,a,us,t0,ts,t,t1,hl,rfl,_,_,r,_⟩:=h;rw[<-hl,jp,jp,r.1]
theorem Here.okI(h:Here tk.K mg x st ps)(S:FnScope N ps (za0 st))(hb:zuw tk P w mg base k x st N (cS .e [0] [0] M' Mb d))(hN:ps.length<=N.length:=by decide):Cal P w tk.K mg base (k+1) x ps (spI .e ps.length (fnI N.length d)):=
 h.ok S (fun vs H Q E h=>zmm h) fun f cdv A outer s H vs Q E hr hs=>⟨_,hb f cdv A outer s H E hr,zsN (.inl rfl) hN hs⟩
def zlp(K:jb):Sp:=fun vs H Q _=>∃(a:js) (ns:List Int),vs=[.ref a]/\zuJ H/\SqL K H a (ns.map V.int)/\ns.length<=63/\∀ H',Q (.bl true) H'
theorem ztD{fw:js}{dw:Z5}(F:Fun tk.K x x st fw dw)(S:FnScope N [ps0] (za0 st))(hb:zuw tk P w mg base k x st N (cS .e [] [] M' Mb d))(hN:1<=N.length)(hd:∀ ns:List Int,ns.length<=63->fnP N.length d [.scr ns]=some (.bl true)):FnOk P w tk.K mg base CX0 (k+1) fw dw [ps0] (zlp tk.K):=by
 refine F.ok S (fun vs H Q E ⟨a,ns,e,_⟩=>by rw[e]; rfl) fun cdv A outer s H vs Q E hr hs=>⟨_,hb fw cdv A outer s H E hr,?_⟩
 obtain⟨a,ns,rfl,hO,hS,h63,q⟩:=hs;have rp:Rep (fun _=>True) H (.ref a) (.scr ns):=by
  rcases hS with (hS |⟨o,hS⟩) |hS
  ·rcases hO a with z |⟨_,_,z⟩<;>rw[hS] at z<;>cases z
  ·exact .scr trivial hS
  ·exact .scrK fun H'=>.inr hS
 refine zqo (np:=1) (N:=N) (fn:=L3.fnP N.length d) (fun ts t e=>?_) (.inl rfl) hN (E:=E) ⟨fun _=>True,[.scr ns],.bl true,rfl,.cons rp .nil,hd ns h63,fun v H' c=>?_⟩
 ·unfold L3.fnP at e;split at e
  ·injection e with e; subst e; exact .inl ⟨_,by assumption⟩
  ·injection e with e; subst e; exact .inr ⟨rfl,rfl,_,by assumption⟩
  ·cases e
 ·have:v=.bl true:=BRep.bl (.inl c.res);rw[this];exact q H'
end
end L3
namespace L3
open PySem PySem.Spec PyProof.Rows L2
variable {X:Cx}{p p2 pos:Pos}{a c e iter o tg:Q4}{es:List Q4}{N ps:List Str}{M M' Mb io:List Nat}{fa fb fe fk:DE}{ft:DT}{rk:Kd}{st:QR}{fs:DA}{x:Str}{k np:Nat}{f:js}{fd:Z5}{P:jH}{w:Qf}{mg:Str->Option j8}{base:QL}
theorem zbn{A:Qg}{k:Nat}(hr:Room k A):A.units+8 < gG:=by have:=hr.un; lia
structure QE (X:Cx) (e:Q4) (t:TE):Prop where
 un:L2.PE X e t
structure QT (X:Cx) (e:Q4) (t:TT):Prop where
 un:L2.PT X e t
structure QW (X:Cx) (e:Q4) (t:TT):Prop where
 un:L2.PW X e t
structure QA (X:Cx) (e:List Q4) (t:TA):Prop where
 un:L2.PA X e t
structure QSs (X:Cx) (e:List QR) (t:TS):Prop where
 un:L2.PSs X e t
structure QS (X:Cx) (e:QR) (t:TS):Prop where
 un:L2.PS X e t
structure QI (X:Cx) (tg iter:Q4) (t:TI):Prop where
 un:L2.PI X tg iter t
structure QGs (X:Cx) (e:List Q4) (t:TGs):Prop where
 un:L2.PGs X e t
structure QG (X:Cx) (e:Q4) (t:TG):Prop where
 un:L2.PG X e t
structure QTs (X:Cx) (e:List Q4) (t:TT):Prop where
 un:L2.PTs X e t
structure QO (X:Cx) (e:Option Q4) (t:TO):Prop where
 un:L2.PO X e t
section
theorem zmH{i j pos}:QE X (.Constant (.int i) j pos) (tC (.int i)):=⟨L2.zpq ⟩
theorem zeH{x:Str}{v:V}{u:j8}{pos:Pos}(hg:Gl X x)(hm:X.mg x=none)(hv:Qp x=some u)(r:RelV v u)(hn:x≠"__name__":=by decide)(hd:(x == ("__debug__":Str))=false:=by decide):QE X (.Name x pos) (tC v):=⟨L2.zqU hg hm hv r hn hd⟩
end
section
theorem za4{i:Nat}{x:Str}(hN:X.N.Nodup)(hi:X.N[i]?=some x)(hx:Loc X.env.scope x)(hf:X.fn x=true∨X.env.scope.names.lookup x=some .local:=by first |exact .inl rfl |exact .inr rfl |assumption):QG X (.Name x pos) (zcJ i):=⟨L2.zqT hN hi hx hf⟩
theorem zaS :QGs X [] zrh:=⟨L2.zqR ⟩
theorem zaf{e:Q4}{es:List Q4}{t:TG}{u:TGs}(h1:QG X e t)(h2:QGs X es u)(hs:(Qr (e::es) X.env).map (·.2)=gU e X.env::(Qr es X.env).map (·.2):=by rfl):QGs X (e::es) (zj8 t u):=⟨L2.zow h1.un h2.un hs⟩
theorem zdD{es:List Q4}{k:Nat}{t:TGs}{n:Nat}(hc:X.calm=true)(h:QGs X es t)(hn:(Qr es X.env).length=n:=by rfl)(hst:(Qr es X.env).findIdx? (·.1)=none:=by rfl):QG X (.Tuple es k pos) (zlP X.K n t):=⟨L2.zpo hc h.un hn hst⟩
theorem zhP{o i:Q4}{to ti:TE}{t:zrP}(ho:QE X o to)(hi:QE X i ti)(hs:zup X t)(ha:∀ v,gU (.Subscript o i pos) X.env v=(do
   let ov <-Y1 [v] (eval o X.env)
   let iv <-Y1 [v,ov] (eval i X.env)
   standAt pos
   Y1 [v,ov,iv] (Jj ov iv v)
   release [v,ov,iv] []):=by intro _; rfl):QG X (.Subscript o i pos) (zwk to ti t):=⟨L2.ztf ho.un hi.un hs ha⟩
theorem zek{tg e:Q4}{te:TE}{g:TG}(he:QE X e te)(hg:QG X tg g)(hs:swapsWithSole [tg] e pos.line X.env=pure false:=by rfl)(hw:swappedStores [tg] e X.env=pure none:=by rfl)(h1:(Qr [tg] X.env).map (·.2)=[gU tg X.env]:=by rfl):QS X (.Assign [tg] e pos) (zh7 te g):=⟨L2.ztc he.un hg.un hs hw h1⟩
theorem za6{i:Nat}{x:Str}{e:Q4}{te:TE}{pos':Pos}(hN:X.N.Nodup)(hi:X.N[i]?=some x)(hx:Loc X.env.scope x)(he:QE X e te)(hs:ZO e (some (.Name x pos')) pos.line X.env=pure false:=by rfl)(hf:X.fn x=true∨X.env.scope.names.lookup x=some .local:=by first |exact .inl rfl |exact .inr rfl |assumption):QS X (.Assign [.Name x pos'] e pos) (zh7 te (zcJ i)):=⟨L2.zpn hN hi hx he.un hs hf⟩
theorem zkK{o i e:Q4}{to ti te:TE}{tget:V->V->Hp->VK->Prop}{tip:TIp}{tset:zrP}{op:JK}{tpos:Pos}(ho:QE X o to)(hi:QE X i ti)(hg:zwD X tget)(he:QE X e te)(hp:PIp X op tip)(hs:zup X tset)(ha:∀ ov iv new,augStore i ov iv new=(do Y1 [new,ov,iv] (Jj ov iv new); release [new,ov,iv] []; pure .next):=by intros; rfl):QS X (.AugAssign (.Subscript o i tpos) op e pos) (zqb to ti te tget tip tset):=⟨L2.zqJ ho.un hi.un hg he.un hp hs ha⟩
end
section
theorem zaK{iter:Q4}{body:List QR}{wi:TI}{g:TG}{tb:TS}{pos:Pos}(hp:Jk (jM X.prog X.w) X.A X.env X.xe)(hc:X.calm=true)(hi:QI X tg iter wi)(hg:QG X tg g)(hb:QSs X body tb)(hs:∀ x,Qu iter X.env x=pure x:=by intro _; rfl):QS X (.For tg iter body [] pos) (zuy wi g tb):=⟨L2.ztb hp hc hi.un hg.un hb.un hs⟩
end
section
variable {te:TE}{t:TA}
theorem zmI :QA X [] zod:=⟨L2.zcT ⟩
theorem zkL(ha:QE X e te)(hr:QA X es t)(hs:jd (e::es) X.env=(false,eval e X.env)::jd es X.env:=by rfl):QA X (e::es) (zey te t):=⟨L2.zaL ha.un hr.un hs⟩
end
section
variable {b:Q4}{ta tb:TE}
variable {to:TE}{t:TA}{name:Str}{apos cpos:Pos}{T id:String}{r:V->List V->Hp->VK->Prop}
theorem zhQ(pa:WF T)(slot:Slot T name id)(hty:typeOf (.builtin id)=pure (.type "method_descriptor"))(hm:MtR X id r)(ho:QE X o to)(hbase:YY o name X.env (eval o X.env)=eval o X.env:=by rfl)(hline:(apos.endLine == cpos.line)=true:=by rfl):QE X (.Call (.Attribute o name apos) [] [] cpos) (zuz X.K T r to):=⟨L2.ztq pa slot hty hm ho.un hbase hline⟩
theorem ze7(pa:WF T)(slot:Slot T name id)(hty:typeOf (.builtin id)=pure (.type "method_descriptor"))(hm:MtR X id r)(ho:QE X o to)(ha:QA X (e::es) t)(hbase:YY o name X.env (eval o X.env)=eval o X.env:=by rfl)(hfew:((QF cpos (jd (e::es) X.env)).all (fun x=>!x.1)&&(backToKw cpos (keywordEach [] X.env)).all (fun x=>x.1.isSome)
   && decide ((e::es).length+([]:List Keyword).length+(if ([]:List Keyword).isEmpty then 0 else 1) < 30))=true:=by rfl) (hline:(apos.endLine == cpos.line)=true:=by rfl) (hs:jd (e::es) X.env=(false,eval e X.env)::jd es X.env:=by rfl) (hplain:(QF cpos (jd es X.env)).any (·.1)=false:=by rfl):QE X (.Call (.Attribute o name apos) (e::es) [] cpos) (tBM X.K T r to t):=⟨L2.zvX pa slot hty hm ho.un ha.un hbase hfew hline hs hplain⟩
end
section
variable {i value:Q4}{pos' tpos:Pos}{td ty tv:TE}
theorem zdU(hu:X.A.units+1 < gG)(ho:QE X o td)(hi:QE X i ty)(hv:QE X value tv)(hs:ZO value (some (.Subscript o i pos')) pos.line X.env=pure false):QS X (.Assign [.Subscript o i pos'] value pos) (zqn td ty tv):=⟨L2.zqI hu ho.un hi.un hv.un hs⟩
end
section
theorem qpv(i:Nat){x:Str}{pos:Pos}(hN:X.N[i]?=some x:=by rfl)(hv:Vis X.env.scope x:=by first |exact jD rfl |exact g9 (jD rfl) |exact g9 (g9 rfl))(hd:(x == ("__debug__":Str))=false:=by decide)(hcd:(x == ("__classdict__":Str))=false:=by decide):QE X (.Name x pos) (ze3 i):=⟨L2.pv i hN hv hd hcd⟩
end
section
theorem zaR{X:Cx}:QTs X [] zvw:=⟨L2.zqF ⟩
theorem zfV{X:Cx}{c:Q4}{t:TT}(h:QT X c t):QTs X [c] t:=⟨L2.zqE h.un⟩
end
section
variable {scope:gN}{caps:List (Option Nat)}{elt:Q4}{ifs:List Q4}{wi:TI}{g:TG}{tt:TT}{te:TE}
theorem zdE(hc:X.calm=true)(hi:QI X tg iter wi)(hg:∀ cl C s0 H0 fp,QG (zap X N scope cl C s0 H0 fp) tg g)(hgk:zeX caps g)(ht:∀ cl C s0 H0 fp,QTs (zap X N scope cl C s0 H0 fp) ifs tt)(he:∀ cl C s0 H0 fp,QE (zap X N scope cl C s0 H0 fp) elt te)(hcap:capOk N X.N scope X.env.scope caps=true:=by rfl)(hkind:scope.kind=.function:=by rfl)(hcell:scope.names.all (fun p=>p.2 != .cell)=true:=by rfl)(hnames:scope.names.all (fun p=>p.2 != .local||scope.names.lookup p.1 == some .local)=true:=by rfl)(hfr:scope.names.all (fun p=>p.2 != .free||(X.env.scope.names.lookup p.1 == some .cell||X.env.scope.names.lookup p.1 == some .free))=true:=by rfl)(hs:∀ x,Qu iter X.env x=pure x:=by intro _; rfl):QE X (.ListComp elt [⟨tg,iter,ifs,0⟩] scope pos) (tLC caps wi g tt te):=⟨L2.zvV hc hi.un (fun cl C s0 H0 fp=>(hg cl C s0 H0 fp).un) hgk (fun cl C s0 H0 fp=>(ht cl C s0 H0 fp).un) (fun cl C s0 H0 fp=>(he cl C s0 H0 fp).un) hcap hkind hcell hnames hfr hs⟩
theorem zdC{i:Nat}{y:Str}{py spos:Pos}(hN:X.N.Nodup)(hiy:X.N[i]?=some y)(hy:X.env.scope.names.lookup y=some .local)(hc:X.calm=true)(hi:QI X tg iter wi)(hg:∀ cl C s0 H0 fp,QG (zap X N scope cl C s0 H0 fp) tg g)(hgk:zeX caps g)(ht:∀ cl C s0 H0 fp,QTs (zap X N scope cl C s0 H0 fp) ifs tt)(he:∀ cl C s0 H0 fp,QE (zap X N scope cl C s0 H0 fp) elt te)(hsw:ZO (.ListComp elt [⟨tg,iter,ifs,0⟩] scope pos) (some (.Name y py)) spos.line X.env=pure true:=by rfl)(hcap:capOk N X.N scope X.env.scope caps=true:=by rfl)(hkind:scope.kind=.function:=by rfl)(hcell:scope.names.all (fun p=>p.2 != .cell)=true:=by rfl)(hnames:scope.names.all (fun p=>p.2 != .local||scope.names.lookup p.1 == some .local)=true:=by rfl)(hfr:scope.names.all (fun p=>p.2 != .free||(X.env.scope.names.lookup p.1 == some .cell||X.env.scope.names.lookup p.1 == some .free))=true:=by rfl)(hs:∀ x,Qu iter X.env x=pure x:=by intro _; rfl):QS X (.Assign [.Name y py] (.ListComp elt [⟨tg,iter,ifs,0⟩] scope pos) spos) (zh7 (tLC caps wi g tt te) (zcJ i)):=⟨L2.zot hN hiy hy hc hi.un (fun cl C s0 H0 fp=>(hg cl C s0 H0 fp).un) hgk (fun cl C s0 H0 fp=>(ht cl C s0 H0 fp).un) (fun cl C s0 H0 fp=>(he cl C s0 H0 fp).un) hsw hcap hkind hcell hnames hfr hs⟩
end
section
variable {K:jb}
theorem zhO{es:List Q4}{k:Nat}{t:TGs}{n:Nat}{pos:Pos}(hK:X.K=K)(hc:X.calm=true)(h:QGs X es t)(hn:(Qr es X.env).length=n:=by rfl)(hst:(Qr es X.env).findIdx? (·.1)=none:=by rfl):QG X (.Tuple es k pos) (zlP K n t):=⟨L2.zqS hK hc h.un hn hst⟩
end
section
theorem zjT{es:List Q4}{k:Nat}{t:TGs}{n:Nat}(hc:X.calm=true)(h:QGs X es t)(hn:(Qr es X.env).length=n:=by rfl)(hst:(Qr es X.env).findIdx? (·.1)=none:=by rfl):QG X (.Tuple es k pos) (zwj X.K n t):=⟨L2.zte hc h.un hn hst⟩
end
section
variable {scope:gN}{caps:List (Option Nat)}{kx vx:Q4}{ifs:List Q4}{wi:TI}{g:TG}{tt:TT}{tk tv:TE}
theorem zsW(hc:X.calm=true)(hi:QI X tg iter wi)(hg:∀ cl C s0 H0 fp,QG (zap X N scope cl C s0 H0 fp) tg g)(hgk:zeX caps g)(ht:∀ cl C s0 H0 fp,QTs (zap X N scope cl C s0 H0 fp) ifs tt)(hk:∀ cl C s0 H0 fp,QE (zap X N scope cl C s0 H0 fp) kx tk)(he:∀ cl C s0 H0 fp,QE (zap X N scope cl C s0 H0 fp) vx tv)(hcap:capOk N X.N scope X.env.scope caps=true:=by rfl)(hkind:scope.kind=.function:=by rfl)(hcell:scope.names.all (fun p=>p.2 != .cell)=true:=by rfl)(hnames:scope.names.all (fun p=>p.2 != .local||scope.names.lookup p.1 == some .local)=true:=by rfl)(hfr:scope.names.all (fun p=>p.2 != .free||(X.env.scope.names.lookup p.1 == some .cell||X.env.scope.names.lookup p.1 == some .free))=true:=by rfl)(hs:∀ x,Qu iter X.env x=pure x:=by intro _; rfl):QE X (.DictComp kx vx [⟨tg,iter,ifs,0⟩] scope pos) (tDC caps wi g tt tk tv):=⟨L2.zvW hc hi.un (fun cl C s0 H0 fp=>(hg cl C s0 H0 fp).un) hgk (fun cl C s0 H0 fp=>(ht cl C s0 H0 fp).un) (fun cl C s0 H0 fp=>(hk cl C s0 H0 fp).un) (fun cl C s0 H0 fp=>(he cl C s0 H0 fp).un) hcap hkind hcell hnames hfr hs⟩
theorem zmG{i:Nat}{y:Str}{py spos:Pos}(hN:X.N.Nodup)(hiy:X.N[i]?=some y)(hy:X.env.scope.names.lookup y=some .local)(hc:X.calm=true)(hi:QI X tg iter wi)(hg:∀ cl C s0 H0 fp,QG (zap X N scope cl C s0 H0 fp) tg g)(hgk:zeX caps g)(ht:∀ cl C s0 H0 fp,QTs (zap X N scope cl C s0 H0 fp) ifs tt)(hk:∀ cl C s0 H0 fp,QE (zap X N scope cl C s0 H0 fp) kx tk)(he:∀ cl C s0 H0 fp,QE (zap X N scope cl C s0 H0 fp) vx tv)(hsw:ZO (.DictComp kx vx [⟨tg,iter,ifs,0⟩] scope pos) (some (.Name y py)) spos.line X.env=pure true:=by rfl)(hcap:capOk N X.N scope X.env.scope caps=true:=by rfl)(hkind:scope.kind=.function:=by rfl)(hcell:scope.names.all (fun p=>p.2 != .cell)=true:=by rfl)(hnames:scope.names.all (fun p=>p.2 != .local||scope.names.lookup p.1 == some .local)=true:=by rfl)(hfr:scope.names.all (fun p=>p.2 != .free||(X.env.scope.names.lookup p.1 == some .cell||X.env.scope.names.lookup p.1 == some .free))=true:=by rfl)(hs:∀ x,Qu iter X.env x=pure x:=by intro _; rfl):QS X (.Assign [.Name y py] (.DictComp kx vx [⟨tg,iter,ifs,0⟩] scope pos) spos) (zh7 (tDC caps wi g tt tk tv) (zcJ i)):=⟨L2.zou hN hiy hy hc hi.un (fun cl C s0 H0 fp=>(hg cl C s0 H0 fp).un) hgk (fun cl C s0 H0 fp=>(ht cl C s0 H0 fp).un) (fun cl C s0 H0 fp=>(hk cl C s0 H0 fp).un) (fun cl C s0 H0 fp=>(he cl C s0 H0 fp).un) hsw hcap hkind hcell hnames hfr hs⟩
end
section
variable [TheK]
variable {b:Q4}
theorem qne(h:QE X e (cE .n M fa)):QE X e (cE .e M fa):=⟨L3.ne h.un⟩
theorem qeb(h:QE X e (cE .e M fa)):QE X e (cE .b M fa):=⟨L3.eb h.un⟩
theorem qnb(h:QE X e (cE .n M fa)):QE X e (cE .b M fa):=⟨L3.nb h.un⟩
theorem qv_{i:Nat}(hi:M.contains i=false)(h:QE X e (ze3 i)):QE X e (cE .e M (dV i)):=⟨have h:=h.un;weak h fun σ H Q h_=>cE_ h_ fun F O s t s' R hf q=>by
 obtain⟨e1,rfl⟩:=zko hf;obtain⟨v,h1,h2⟩:=R.val i t e1 (by simpa using hi)
 exact⟨v,h1,q v H .refl ⟨R,h2⟩⟩⟩
theorem zcR{i:Nat}(hi:M.contains i=true)(h:QE X e (ze3 i)):QE X e (cE .b M (dV i)):=⟨have h:=h.un;weak h fun σ H Q h_=>cE_ h_ fun F O s t s' R hf q=>by
 obtain⟨e1,rfl⟩:=zko hf;obtain⟨a,h1,h2⟩:=R.own i t e1 (by simpa using hi)
 exact⟨_,h1,q _ H .refl ⟨R,.inr ⟨i,by simpa using hi,h1,e1⟩⟩⟩⟩
theorem qi_{i j pos}:QE X (.Constant (.int i) j pos) (cE .e M (dC (.int i))):=⟨zoQ (fun _ _=>.int i) zpq⟩
theorem zly{i j pos}:QE X (.Constant (.bool i) j pos) (cE .e M (dC (.bl i))):=⟨zoQ (fun _ _=>.bl i) zvY⟩
theorem ze8{i j pos}:QE X (.Constant (.str i) j pos) (cE .e M (dC (.str i))):=⟨zoQ (fun _ _=>.str i) ztj⟩
theorem zea{j pos}:QE X (.Constant .none j pos) (cE .e M (dC .non)):=⟨zoQ (fun _ _=>.non) zpp⟩
end
section
variable [TheK]
variable {b:Q4}
theorem zqB{i:Nat}(hi:M.contains i=true)(ha:QE X a (ze3 i))(hb:QE X b (cE .b M fb)):QE X (.BinOp a .Add b pos) (cE .n M (d2v zoJ i fb)):=⟨have ha:=ha.un;have hb:=hb.un;weak (zh2 zpt ha hb) (zso hi zsL)⟩
theorem zkM(ha:QE X a (cE .e M fa))(hb:QE X b (cE .b M fb)):QE X (.BinOp a .Sub b pos) (cE .e M (d2 gSb fa fb)):=⟨have ha:=ha.un;have hb:=hb.un;weak (zh2 zts ha hb) (zce zxL)⟩
theorem zb4(ha:QE X a (cE .e M fa))(hb:QE X b (cE .b M fb)):QE X (.BinOp a .Mult b pos) (cE .e M (d2 zeO fa fb)):=⟨have ha:=ha.un;have hb:=hb.un;weak (zh2 ztu ha hb) (zce (s_I fun i j h=>by
 unfold zpO at h;rw[Zc,decide_eq_true_iff,decide_eq_true_iff] at h
 exact h))⟩
theorem zbY(ha:QE X a (cE .e M fa))(hb:QE X b (cE .b M fb)):QE X (.BinOp a .FloorDiv b pos) (cE .e M (d2 zgD fa fb)):=⟨have ha:=ha.un;have hb:=hb.un;weak (zh2 zqY ha hb) (zce (s_I fun i j h=>of_decide_eq_true (p:=0 < j/\j < 1073741824) h))⟩
theorem zaP(ha:QE X a (cE .e M fa))(hb:QE X b (cE .b M fb)):QE X (.BinOp a .Mod b pos) (cE .e M (d2 zed fa fb)):=⟨have ha:=ha.un;have hb:=hb.un;weak (zh2 ztv ha hb) (zce (s_I fun i j h=>of_decide_eq_true h))⟩
theorem zmK(ha:QE X a (cE .e M fa))(hb:QE X b (cE .b M fb)):QE X (.BinOp a .Pow b pos) (cE .e M (d2 zrT fa fb)):=⟨have ha:=ha.un;have hb:=hb.un;weak (zh2 ztt ha hb) (zce (s_I fun i j h=>of_decide_eq_true (p:=0<=j/\j<=1000000/\i.natAbs < 2 ^ 64) h))⟩
end
section
variable [TheK]
variable {b:Q4}
theorem zqA(hu:X.A.units+8 < gG)(ha:QE X a (cE .e M fa))(hb:QE X b (cE .b M fb)):QE X (.Compare a [.Eq] [b] pos) (cE .e M (d2 gEq fa fb)):=⟨have ha:=ha.un;have hb:=hb.un;weak (zhV (zn2 hu) ha hb (zeb _)) (zce zvB)⟩
theorem zvP(hu:X.A.units+8 < gG)(ha:QE X a (cE .e M fa))(hb:QE X b (cE .b M fb)):QE X (.Compare a [.NotEq] [b] pos) (cE .e M (d2 gNe fa fb)):=⟨have ha:=ha.un;have hb:=hb.un;weak (zhV (zps hu) ha hb (zeb _)) (zce zwR)⟩
theorem zt2{i:Nat}(hi:M.contains i=true)(hu:X.A.units+8 < gG)(ha:QE X a (ze3 i))(hb:QE X b (cE .b M fb)):QE X (.Compare a [.Eq] [b] pos) (cE .e M (d2v gEq i fb)):=⟨have ha:=ha.un;have hb:=hb.un;weak (zhV (zn2 hu) ha hb (zeb _)) (zme hi zvB)⟩
end
section
variable [TheK]
variable {b:Q4}{fu:DT}{k:Kd}
theorem ze6(h:QE X a (cE .b M fa))(he:∀ whole,JA a X.env whole=(do let v <-whole; standAt a.pos; Y1 [v] (truthy v)):=by intro _; rfl):QT X a (cT M (zlW fa)):=⟨have h:=h.un;zeY (zor h he) (by
 intro σ H Q h_;refine cT_ h_ fun F O s b s' R hf q=>?_;obtain⟨p,h1,h2⟩:=Qb hf;obtain⟨b',h3,h4⟩:=Qm h2;injection h4 with h4 h5;subst h4 h5
 exact⟨F,O,s,p.1,p.2,R,h1,fun v H' S po=>⟨b',zq6 po.view h3,q H' S po.1⟩⟩)⟩
theorem zf5(hu:X.A.units+8 < gG)(ha:QE X a (cE .e M fa))(hb:QE X b (cE .b M fb)):QT X (.Compare a [.Eq] [b] pos) (cT M (dB (d2 gEq fa fb))):=⟨have ha:=ha.un;have hb:=hb.un;zeY (zd4 (zn2 hu) ha hb (zeb _)) (tst (zce zvB))⟩
theorem zjS(hu:X.A.units+8 < gG)(ha:QE X a (cE .e M fa))(hb:QE X b (cE .b M fb)):QT X (.Compare a [.NotEq] [b] pos) (cT M (dB (d2 gNe fa fb))):=⟨have ha:=ha.un;have hb:=hb.un;zeY (zd4 (zps hu) ha hb (zeb _)) (tst (zce zwR))⟩
theorem zqs(ha:QE X a (cE .e M fa))(hb:QE X b (cE .b M fb)):QT X (.Compare a [.Lt] [b] pos) (cT M (dB (d2 gLt fa fb))):=⟨have ha:=ha.un;have hb:=hb.un;zeY (zd4 (op_lt.or zn1) ha hb (zeb _)) (tst (zce zvC))⟩
theorem zlx(ha:QE X a (cE .e M fa))(hb:QE X b (cE .b M fb)):QT X (.Compare a [.Gt] [b] pos) (cT M (dB (d2 gGt fa fb))):=⟨have ha:=ha.un;have hb:=hb.un;zeY (zd4 zvZ ha hb (zeb _)) (tst (zce zwT))⟩
theorem zsT(ha:QE X a (cE .e M fa))(hb:QE X b (cE .b M fb)):QT X (.Compare a [.GtE] [b] pos) (cT M (dB (d2 gGe fa fb))):=⟨have ha:=ha.un;have hb:=hb.un;zeY (zd4 zw0 ha hb (zeb _)) (tst (zce zwT))⟩
theorem zsS(ha:QE X a (cE .e M fa))(hb:QE X b (cE .b M fb)):QT X (.Compare a [.Is] [b] pos) (cT M (dB (d2 gIs fa fb))):=⟨have ha:=ha.un;have hb:=hb.un;zeY (zd4 (op_isF.or ztw) ha hb (zeb _)) (tst (zce zxK))⟩
theorem zfU(ha:QE X a (cE .e M fa))(hb:QE X b (cE .b M fb)):QT X (.Compare a [.IsNot] [b] pos) (cT M (dB (d2 zbu fa fb))):=⟨have ha:=ha.un;have hb:=hb.un;zeY (zd4 (op_isnotF.or zqV) ha hb (zeb _)) (tst (zce zql))⟩
theorem zhe(h:QT X a (cT M ft)):QT X (.UnaryOp .Not a pos) (cT M (zpI ft)):=⟨have h:=h.un;zeY (zt7 h) (by
 intro σ H Q h_;refine cT_ h_ fun F O s b s' R hf q=>?_;obtain⟨p,h1,h2⟩:=Qm hf;injection h2 with h2 h3;subst h2 h3
 exact⟨F,O,s,p.1,p.2,R,h1,fun H' S R'=>q H' S R'⟩)⟩
theorem zjR(h:QT X a (cT M ft)):QW X (.BoolOp .And [a] pos) (cT M ft):=⟨have h:=h.un;zqD h⟩
theorem ziM(h:QT X a (cT M ft)):QW X (.BoolOp .Or [a] pos) (cT M ft):=⟨have h:=h.un;zt4 h⟩
theorem zkI{rest:List Q4}(ha:QT X a (cT M ft))(hb:QW X (.BoolOp .And (b::rest) pos) (cT M fu)):QW X (.BoolOp .And (a::b::rest) pos) (cT M (zpK ft fu)):=⟨have ha:=ha.un;have hb:=hb.un;zrX (zt5 ha hb) (by
 intro σ H Q h_;refine cT_ h_ fun F O s b s' R hf q=>?_;obtain⟨p,h1,h2⟩:=Qb hf;refine⟨F,O,s,p.1,p.2,R,h1,fun H' S R'=>?_⟩;split at h2
 ·rename_i hp;rw[Ip_ hp];exact⟨F,O,p.2,b,s',R',h2,fun H2 S2 R2=>q H2 (S.trans S2) R2⟩
 ·rename_i hp;rw[In_ hp];injection h2 with h2;injection h2 with h2 h3;subst h2 h3
  exact q H' S R')⟩
theorem ziN{rest:List Q4}(ha:QT X a (cT M ft))(hb:QW X (.BoolOp .Or (b::rest) pos) (cT M fu)):QW X (.BoolOp .Or (a::b::rest) pos) (cT M (dOr ft fu)):=⟨have ha:=ha.un;have hb:=hb.un;zrX (zvR ha hb) (by
 intro σ H Q h_;refine cT_ h_ fun F O s b s' R hf q=>?_;obtain⟨p,h1,h2⟩:=Qb hf;refine⟨F,O,s,p.1,p.2,R,h1,fun H' S R'=>?_⟩;split at h2
 ·rename_i hp;rw[Ip_ hp];injection h2 with h2;injection h2 with h2 h3;subst h2 h3;exact q H' S R'
 ·rename_i hp;rw[In_ hp]
  exact⟨F,O,p.2,b,s',R',h2,fun H2 S2 R2=>q H2 (S.trans S2) R2⟩)⟩
theorem zmL{op}(h:QE X a (cE .e M fa)):QE X (.BoolOp op [a] pos) (cE .e M fa):=⟨have h:=h.un;ztl h⟩
theorem zkO{rest:List Q4}(ha:QE X a (cE .e M fa))(hb:QE X (.BoolOp .And (b::rest) pos) (cE .e M fb)):QE X (.BoolOp .And (a::b::rest) pos) (cE .e M (zlZ fa fb)):=⟨have ha:=ha.un;have hb:=hb.un;weak (ztr ha hb) (by
 intro σ H Q h_;refine cE_ h_ fun F O s t s' R hf q=>?_;obtain⟨p,h1,h2⟩:=Qb hf;refine⟨F,O,s,.bl p.1,p.2,R,zih h1,fun v H' S po=>⟨p.1,BRep.bl (.inl po.2),?_⟩⟩;split at h2
 ·rename_i hp;rw[Ip_ hp];exact⟨F,O,p.2,t,s',po.1,h2,fun w H2 S2 p2=>q w H2 (S.trans S2) p2⟩
 ·rename_i hp;rw[In_ hp];injection h2 with h2;injection h2 with h2 h3;subst h2 h3
  exact q _ H' S ⟨po.1,.bl false⟩)⟩
theorem zt0(ha:QE X a (cE .e M fa)):QE X (.UnaryOp .Not a pos) (cE .e M (zry fa)):=⟨have ha:=ha.un;weak (ztm ha) (by
 intro σ H Q h_;refine cE_ h_ fun F O s t s' R hf q=>?_;obtain⟨p,h1,h2⟩:=Qm hf;injection h2 with h2 h3;subst h2 h3
 exact⟨F,O,s,.bl p.1,p.2,R,zih h1,fun v H' S po=>⟨p.1,BRep.bl (.inl po.2),q _ H' S ⟨po.1,.bl _⟩⟩⟩)⟩
theorem zt1(hc:QT X c (cT M ft))(ha:QE X a (cE .e M fa))(hb:QE X b (cE .e M fb)):QE X (.IfExp c a b pos) (cE .e M (dIf ft fa fb)):=⟨have hc:=hc.un;have ha:=ha.un;have hb:=hb.un;weak (zox hc ha hb) (by
 intro σ H Q h_;refine cE_ h_ fun F O s t s' R hf q=>?_;obtain⟨p,h1,h2⟩:=Qb hf;refine⟨F,O,s,p.1,p.2,R,h1,fun H' S R'=>?_⟩;split at h2
 ·rename_i hp;rw[Ip_ hp];exact⟨F,O,p.2,t,s',R',h2,fun w H2 S2 p2=>q w H2 (S.trans S2) p2⟩
 ·rename_i hp;rw[In_ hp]
  exact⟨F,O,p.2,t,s',R',h2,fun w H2 S2 p2=>q w H2 (S.trans S2) p2⟩)⟩
end
section
variable [TheK]
variable {fa:DA}
theorem za3 :QA X [] (cA M dAn):=⟨zrZ zcT (by
 rintro σ H Q ⟨F,O,s,ts,s',R,hf,q⟩;injection hf with hf;injection hf with h1 h2;subst h1 h2
 exact q [] H .refl R .nil)⟩
theorem qa_(h:QE X e (cE .e M fe))(ha:QA X es (cA M fa))(hs:jd (e::es) X.env=(false,eval e X.env)::jd es X.env:=by rfl):QA X (e::es) (cA M (dAc fe fa)):=⟨have h:=h.un;have ha:=ha.un;zrZ (zaL h ha hs) (by
 rintro σ H Q ⟨F,O,s,ts,s',R,hf,q⟩;obtain⟨p,h1,h2⟩:=Qb hf;obtain⟨r,h3,h4⟩:=Qm h2;injection h4 with h4 h5;subst h4 h5;refine⟨F,O,s,p.1,p.2,R,h1,fun v H1 S1 p1=>⟨F,O,p.2,r.1,r.2,p1.1,h3,fun vs H2 S2 R2 rs=>?_⟩⟩
 exact q _ H2 (S1.trans S2) R2 (.cons (p1.1.stay S2 p1.2) rs))⟩
theorem zaJ(h:QA X es (cA M fa)):QE X (.List es pos) (cE .n M (zeT fa)):=⟨have h:=h.un;weak (ztn h) (by
 intro σ H Q h_;refine cE_ h_ fun F O s t s' R hf q=>?_;obtain⟨p,h1,h2⟩:=Qb hf;split at h2
 ·rename_i hl;injection h2 with h2;injection h2 with h2 h3;subst h2 h3;refine⟨F,O,s,p.1,p.2,R,h1,fun vs H1 S1 R1 rs=>⟨by rw[rs.1]; exact hl,fun a ha=>?_⟩⟩
  exact q _ _ (S1.trans (.new ha _)) (.mkN R R1 S1 ha fun C hC=>.lst zah (rs.there.mono hC fun c o _ e=>by rw[za8 (za9 e ha)]; exact e))
 ·cases h2)⟩
theorem zdl{x1}(h:QA X es (cA M fa)):QE X (.Tuple es x1 pos) (cE .e M (zjj fa)):=⟨have h:=h.un;weak (zti h) (by
 intro σ H Q h_;refine cE_ h_ fun F O s t s' R hf q=>?_;obtain⟨p,h1,h2⟩:=Qb hf;split at h2
 ·rename_i hl;injection h2 with h2;injection h2 with h2 h3;subst h2 h3;refine⟨F,O,s,p.1,p.2,R,h1,fun vs H1 S1 R1 rs=>⟨by rw[rs.1]; exact hl,fun a ha=>?_⟩⟩
  refine q _ _ (S1.trans (.new ha _)) (.mkE R1 ha fun C hC hp=>?_);have:=rs.there.mono (C':=C) (H':=upd H1 a (.tup vs)) hC fun c o _ e=>by rw[za8 (za9 e ha)]; exact e
  exact .tup hp zah this.1 this.2
 ·cases h2)⟩
theorem zgo :QE X (.Dict [] [] pos) (cE .n M zkr):=⟨weak zoy (by
 intro σ H Q h_;refine cE_ h_ fun F O s t s' R hf q=>?_;injection hf with hf;injection hf with h1 h2;subst h1 h2;intro a ha
 exact q _ _ (.new ha _) (.mkN R R .refl ha fun C hC=>.dct zah ⟨rfl,fun i v t e=>by simp at e⟩))⟩
end
section
variable [TheK]
variable {lo hi:Option Q4}{fl fh:DO}
theorem zci :QO X none (cO M dOn):=⟨fun pc s σ H Q I h=>by
 obtain⟨F,O,s',t,s'',R,hf,q⟩:=h;injection hf with hf;injection hf with h1 h2;subst h1 h2
 exact zqL pc s σ H Q I (q H .refl R)⟩
theorem zbr(h:QE X e (cE .e M fe)):QO X (some e) (cO M (dOs fe)):=⟨have h:=h.un;fun pc s σ H Q I hw=>by
 obtain⟨F,O,s',t,s'',R,hf,q⟩:=hw;obtain⟨⟨t',s1⟩,h1,h2⟩:=Qb hf;cases t'<;>simp at h2
 rename_i i;obtain⟨h2,h3⟩:=h2;subst h2 h3
 exact zqK h pc s σ H Q I ⟨F,O,s',.int i,s1,R,h1,fun v H' S p=>⟨i,BRep.int (.inl p.2),q H' S p.1⟩⟩⟩
theorem zvO(hK:X.K=TheK.K)(he:QE X e (cE .e M fe))(hl:QO X lo (cO M fl))(hu:QO X hi (cO M fh)):QE X (.Subscript e (.Slice lo hi none p2) pos) (cE .n M (dSl gSl fe fl fh)):=⟨L3.zx5 hK he.un hl.un hu.un⟩
theorem zsY{i:Nat}(hK:X.K=TheK.K)(hi':M.contains i=true)(he:QE X e (ze3 i))(hl:QO X lo (cO M fl))(hu:QO X hi (cO M fh)):QE X (.Subscript e (.Slice lo hi none p2) pos) (cE .n M (zuF gSl i fl fh)):=⟨have he:=he.un;have hl:=hl.un;have hu:=hu.un;weak (zhU (hK▸zmp) he hl hu) (zvx hi' zwQ)⟩
end
section
variable [TheK]
variable {F:Fr}{O O' O'':js->Prop}{s s':Sg}{σ:L2.St}{H H' H'':Hp}{v:V}{t:T}{a:js}
theorem ziO{X:Cx}{st:QR}{d:DS}{Mx:List Nat}(h:QS X st (cS rk io M' Mx Mb d))(hM:M'.all (M.contains ·)=true:=by rfl)(hio:io.all (M'.contains ·)=true:=by rfl):QS X st (cS rk io M Mx Mb d):=⟨have h:=h.un;zcZ h (by
 intro D σ H h_;refine cS_ h_ fun F O s r R I hd q=>?_;obtain⟨O',w,R',I'⟩:=R.freeze I (zdp hM) (zdp hio)
 exact⟨F,O',s,r,R',I',hd,q.more ⟨fun b o n h=>⟨h,fun z=>n (w b z)⟩,fun _ h=>h⟩⟩)⟩
theorem zhM{X:Cx}{st:List QR}{d:DS}{Mx:List Nat}(h:QSs X st (cS rk io M M' Mb d))(hM:Mx.all (M'.contains ·)=true:=by rfl)(hio:io.all (Mx.contains ·)=true:=by rfl):QSs X st (cS rk io M Mx Mb d):=⟨have h:=h.un;zkz h (by
 intro D σ H h_;refine cS_ h_ fun F O s r R I hd q=>?_
 exact⟨F,O,s,r,R,I,hd,zoO (zdp hM) (zdp hio) q⟩)⟩
end
section
variable [TheK]
variable {M'':List Nat}{sts:List QR}{a b:List QR}{d d':DS}{pos':Pos}
theorem zan :QSs X [] (cS rk io M M Mb zaH):=⟨zkz zqG (by
 intro D σ H h_;refine cS_ h_ fun F O s r R I hd q=>?_;injection hd with hd;subst hd
 exact q O σ H .refl R I)⟩
theorem za2(h:QS X st (cS rk io M M' Mb d)):QSs X [st] (cS rk io M M' Mb d):=⟨have h:=h.un;zgp h⟩
theorem qs_(h:QS X st (cS rk io M M' Mb d))(h2:QSs X sts (cS rk io M' M'' Mb d')):QSs X (st::sts) (cS rk io M M'' Mb (zai d d')):=⟨have h:=h.un;have h2:=h2.un;zkz (zhT h h2) (by
 intro D σ H h_;refine cS_ h_ fun F O s r R I hd q=>?_;obtain⟨r1,h1,h2⟩:=Qb hd;refine⟨F,O,s,r1,R,I,h1,?_⟩;cases r1 with
 |nx s1=>exact fun O1 σ1 H1 k1 R1 I1=>⟨F,O1,s1,r,R1,I1,h2,q.more k1⟩
 |bk s1=>injection h2 with h2; subst h2; exact q
 |ct s1=>injection h2 with h2; subst h2; exact q
 | rt t s1=>injection h2 with h2; subst h2; exact q)⟩
theorem zbp(hc:QT X c (cT M ft))(ha:QSs X a (cS rk io M M' Mb d))(hb:QSs X b (cS rk io M M' Mb d')):QS X (.If c a b pos) (cS rk io M M' Mb (zcY ft d d')):=⟨have hc:=hc.un;have ha:=ha.un;have hb:=hb.un;zcZ (zta hc ha hb) (by
 intro D σ H h_;refine cS_ h_ fun F O s r R I hd q=>?_;obtain⟨p,h1,h2⟩:=Qb hd;refine⟨F,O,s,p.1,p.2,R,h1,fun H1 S1 R1=>?_⟩;have k:=S1.keepO R;dsimp only;split at h2
 ·rename_i hp;rw[Ip_ hp];exact⟨F,O,p.2,r,R1,I,h2,q.more k⟩
 ·rename_i hp;rw[In_ hp]
  exact⟨F,O,p.2,r,R1,I,h2,q.more k⟩)⟩
theorem zac{i:Nat}(h:QS X st (zh7 (cE .e M fe) (zcJ i)))(hM:zsB M M' io i=true:=by rfl):QS X st (cS rk io M M' Mb (zaF i fe)):=⟨have h:=h.un;zcZ h (by
 unfold zsB at hM;rw[jL,jL,jL] at hM;obtain⟨⟨⟨m1,m2⟩,m3⟩,m4⟩:=hM;intro D σ H h_;refine cS_ h_ fun F O s r R I hd q=>?_;obtain⟨p,h1,h2⟩:=Qb hd;split at h2
 ·rename_i hi;injection h2 with h2;subst h2;refine⟨F,O,s,p.1,p.2,R,h1,fun v H1 S1 p1=>?_⟩;refine q O _ H1 (S1.keepO R) (p1.1.setE (fun j hj=>?_) (fun j hj=>?_) hi p1.2) (I.set (by simpa using m3) (zdp m4))
  ·simpa using jx.mp m1 j hj
  ·simpa using jx.mp m2 j hj
 ·cases h2)⟩
theorem zaz{i:Nat}(h:QS X st (zh7 (cE .n M fe) (zcJ i)))(hM:zsA M M' io i=true:=by rfl):QS X st (cS rk io M M' Mb (zaF i fe)):=⟨have h:=h.un;zcZ h (by
 unfold zsA at hM;rw[jL,jL,jL,jL] at hM;obtain⟨⟨⟨⟨m1,m2⟩,m5⟩,m3⟩,m4⟩:=hM;intro D σ H h_;refine cS_ h_ fun F O s r R I hd q=>?_;obtain⟨p,h1,h2⟩:=Qb hd;split at h2
 ·rename_i hi;injection h2 with h2;subst h2;refine⟨F,O,s,p.1,p.2,R,h1,fun v H1 S1 p1=>?_⟩;obtain⟨a,rfl,h0,R1,L⟩:=p1;have k:KeepO O H (fun b=>O b∨b=a) H1:=⟨fun b o n h=>⟨S1.keep b o (R.notOwned n) h,fun z=>z.elim n fun z=>by rw[z,h0] at h; cases h⟩,S1.dom⟩
  refine q _ _ H1 k (R1.setN (fun j hj=>?_) (fun j hj=>?_) hi (by simpa using m5) (.inr rfl) (fun j hj _ e=>R.al a (R.ow j a hj e) h0) L) (I.set (by simpa using m3) (zdp m4))
  ·simpa using jx.mp m1 j hj
  ·simpa using jx.mp m2 j hj
 ·cases h2)⟩
theorem zgm{k:Kd}(hk:k=.e∨k=.b)(he:QE X e (cE k M fe))(hs:ZO e none pos.line X.env=pure false:=by rfl):QS X (.Expr e pos) (cS rk io M M Mb (dDo fe)):=⟨have he:=he.un;zcZ (zqH he hs) (by
 intro D σ H h_;refine cS_ h_ fun F O s r R I hd q=>?_;obtain⟨p,h1,h2⟩:=Qm hd;subst h2;refine⟨F,O,s,p.1,p.2,R,h1,fun v H1 S1 p1=>?_⟩;rcases hk with rfl |rfl
 ·exact q O σ H1 (S1.keepO R) p1.1 I
 ·exact q O σ H1 (S1.keepO R) p1.1 I)⟩
theorem zaa(he:QE X e (cE .e M fe)):QS X (.Return (some e) pos) (cS .e io M M' Mb (zal io fe)):=⟨have he:=he.un;zcZ (zkP he) (by
 intro D σ H h_;refine cS_ h_ fun F O s r R I hd q=>?_;obtain⟨p,h1,h2⟩:=Qb hd;split at h2
 ·rename_i hh;injection h2 with h2;subst h2;exact⟨F,O,s,p.1,p.2,R,h1,fun v H1 S1 p1=>q v H1 (zsP p1.1 I (hasAll.get hh) p1.2)⟩
 ·cases h2)⟩
theorem zmC(he:QE X e (cE .n M fe)):QS X (.Return (some e) pos) (cS .n io M M' Mb (zal io fe)):=⟨have he:=he.un;zcZ (zkP he) (by
 intro D σ H h_;refine cS_ h_ fun F O s r R I hd q=>?_;obtain⟨p,h1,h2⟩:=Qb hd;split at h2
 ·rename_i hh;injection h2 with h2;subst h2;refine⟨F,O,s,p.1,p.2,R,h1,fun v H1 S1 p1=>?_⟩;obtain⟨a,rfl,h0,R1,L⟩:=p1;exact q _ H1 (zsO R1 I (hasAll.get hh) (.inr rfl) (R.dom a h0) (fun z=>R.al a (R.inD a z) h0) L)
 ·cases h2)⟩
theorem zqt{i:Nat}(hi:M.contains i=true)(hn:io.contains i=false)(he:QE X e (ze3 i)):QS X (.Return (some e) pos) (cS .n io M M' Mb (zal io (dV i))):=⟨have he:=he.un;zcZ (zkP he) (by
 intro D σ H h_;refine cS_ h_ fun F O s r R I hd q=>?_;obtain⟨p,h1,h2⟩:=Qb hd;obtain⟨t,s1⟩:=p;obtain⟨h3,h4⟩:=zko h1;subst h4;split at h2
 ·rename_i hh;injection h2 with h2;subst h2;have hi':i∈M:=by simpa using hi
  obtain⟨a,e1,L⟩:=R.own i t h3 hi';have nd:¬ F.D a:=fun z=>by
   obtain⟨j,hj,rfl⟩:=I.D a z;obtain⟨h5,h6⟩:=I.at_ j hj;have:=R.dis i j _ hi' h5 e1 h6;subst this;have:io.contains i=true:=by simpa using hj
   rw[hn] at this; cases this
  refine⟨_,e1,q _ H (zsO R I (hasAll.get hh) (R.ow i a hi' e1) ?_ nd L)⟩;rcases R.fresh a (R.ow i a hi' e1) with z |z
  ·exact absurd z nd
  ·exact z
 ·cases h2)⟩
end
section
variable [TheK]
variable {fv:DE}
theorem zhf{i:Nat}(hi:M.contains i=true)(h:QS X st (zqn (ze3 i) (cE .e M fk) (cE .e M fv))):QS X st (cS rk io M M Mb (zoU i fk fv)):=⟨have h:=h.un;zcZ h (by
 intro D σ H h_;refine cS_ h_ fun F O s r R I hd q=>?_;have hi':i∈M:=by simpa using hi
 obtain⟨p,h1,hd⟩:=Qb hd;obtain⟨t0,h0,hd⟩:=Qb hd;obtain⟨w,h2,hd⟩:=Qb hd;obtain⟨t1,h3,hd⟩:=Qb hd;obtain⟨kvs,rfl⟩:∃ kvs,t1=.dct kvs:=by cases t1<;>first |exact⟨_,rfl⟩ |cases hd
 have hd:((zgX w.1).bind fun k=>if kvs.length < jr then some (Fl.nx (w.2.set i (some (.dct (zf6 kvs k p.1))))) else none)=some r:=hd
 obtain⟨k,h4,hd⟩:=Qb hd;split at hd
 case isFalse=>cases hd
 rename_i h5;injection hd with h6;subst h6;refine⟨F,O,s,p.1,p.2,R,h1,fun v H1 S1 p1=>?_⟩;obtain⟨a,e1,_⟩:=p1.1.own i t0 (zab h0) hi';refine⟨_,e1,F,O,p.2,w.1,w.2,p1.1,h2,fun y H2 S2 p2=>?_⟩;obtain⟨b,e2,L⟩:=p2.1.own i _ (zab h3) hi';rw[e1] at e2;injection e2 with e2;injection e2 with e2;injection e2 with e2;subst e2;have ne:=L.ne;cases L with
 |dct hr hk=>
  obtain rfl:=zfc (.inl p2.2) h4;refine⟨a,_,rfl,DPut.k hr (by rw[hk.len]; exact h5),?_⟩
  have rv:=p1.1.stay S2 p1.2;have R2:=p2.1.write (t':=.dct (zf6 kvs k p.1)) hi' e1 (zab h3) (fun Hx kx ex=>.dct ex ((hk.put rv).mono (fun _ c=>c) kx))
  exact q O σ _ (((S1.trans S2).trans (.write hi' e1 ne)).keepO R) R2 I)⟩
theorem zhN{i:Nat}(hi:M.contains i=true)(h:QS X st (zh7 (cE .e M fv) (zwk (ze3 i) (cE .e M fk) zqq))):QS X st (cS rk io M M Mb (zjk i fk fv)):=⟨have h:=h.un;zcZ h (by
 intro D σ H h_;refine cS_ h_ fun F O s r R I hd q=>?_;have hi':i∈M:=by simpa using hi
 obtain⟨p,h1,hd⟩:=Qb hd;obtain⟨t0,h0,hd⟩:=Qb hd;obtain⟨⟨w1,w2⟩,h2,hd⟩:=Qb hd;obtain⟨t1,h3,hd⟩:=Qb hd;obtain⟨xs,rfl⟩:∃ xs,t1=.lst xs:=by cases t1<;>first |exact⟨_,rfl⟩ |cases hd
 obtain⟨k,rfl⟩:∃ k,w1=.int k:=by cases w1<;>first |exact⟨_,rfl⟩ |cases hd
 obtain⟨j,h4,h6⟩:=Qm (show (ixN xs.length k).map (fun j=>Fl.nx (w2.set i (some (.lst (xs.set j p.1)))))=some r from hd);subst h6;refine⟨F,O,s,p.1,p.2,R,h1,fun v H1 S1 p1=>?_⟩;obtain⟨a,e1,_⟩:=p1.1.own i t0 (zab h0) hi';refine⟨_,e1,F,O,p.2,_,_,p1.1,h2,fun y H2 S2 p2=>?_⟩;obtain⟨b,e2,L⟩:=p2.1.own i _ (zab h3) hi';rw[e1] at e2;injection e2 with e2;injection e2 with e2;injection e2 with e2;subst e2;have ne:=L.ne;obtain⟨vs,hr,hk⟩:=L.lst';obtain rfl:y=.int k:=BRep.int (.inl p2.2);refine⟨a,vs,k,j,rfl,rfl,hr,by rw[hk.1]; exact h4,?_⟩
 have rv:=p1.1.stay S2 p1.2;have R2:=p2.1.write (t':=.lst (xs.set j p.1)) hi' e1 (zab h3) (fun Hx kx ex=>.lst ex ((hk.set j rv).mono (fun _ c=>c) kx))
 exact q O σ _ (((S1.trans S2).trans (.write hi' e1 ne)).keepO R) R2 I)⟩
theorem zmB{is:List Nat}{n:Nat}{K:jb}{fe:DE}(h:QS X st (zh7 (cE .e M fe) (fun v σ H Q=>zwj K n (gsN is) v σ H Q∨zlP K n (gsN is) v σ H Q)))(hn:is.length=n)(hm:is.all (fun i=>!M.contains i)=true)(hio:io.all (M.contains ·)=true):QS X st (cS rk io M M Mb (dUn is fe)):=⟨have h:=h.un;zcZ h (by
 intro D σ H h_;refine cS_ h_ fun F O s r R I hd q=>?_;obtain⟨⟨p1,p2⟩,h1,hd⟩:=Qb hd;obtain⟨ts,h2,hd⟩:=Qb hd;obtain⟨s2,h3,hd⟩:=Qm hd;subst hd;have hl:∀ {is:List Nat} {ts:List T} {s s':Sg},zbC is ts s=some s'->ts.length=is.length:=by
  intro is
  induction is with
  |nil=>intro ts s s' e; cases ts with
   |nil=>rfl
   |cons=>cases e
  |cons i is ih=>intro ts s s' e; cases ts with
   |nil=>cases e
   |cons t ts=>
    unfold zbC at e;split at e
    ·rw[jp,jp,ih e]
    ·cases e
 have hmm:∀ i,i∈is->i∉M:=fun i hi=>by simpa using jx.mp hm i hi
 refine⟨F,O,s,p1,p2,R,h1,fun v H1 S1 po=>?_⟩;cases p1<;>simp[zkX] at h2
 ·subst h2;obtain⟨a,vs,rfl,ha,ra⟩:=BRep.lst (.inl po.2);exact .inl ⟨a,vs,rfl,SqL.of ha,by rw[ra.1,hl h3,hn],zhE po.1 I hmm (zdp hio) ra h3 fun σ' R' I'=>q O σ' H1 (S1.keepO R) R' I'⟩
 ·subst h2;obtain⟨a,vs,rfl,ha,ra⟩:=BRep.tup (.inl po.2)
  exact .inr ⟨a,vs,rfl,SqT.of ha,by rw[ra.1,hl h3,hn],zhE po.1 I hmm (zdp hio) ra h3 fun σ' R' I'=>q O σ' H1 (S1.keepO R) R' I'⟩)⟩
end
section
variable [TheK]
variable {fa:DA}
theorem zdF{a:Q4}{p pos:Pos}(hg:Gl X "range")(hm:X.mg "range"=none)(ha:QA X [a] (cA M fa))(hs:jd [a] X.env=[(false,eval a X.env)]:=by rfl):QI X tg (.Call (.Name "range" p) [a] [] pos) (cI M (znJ fa)):=⟨have ha:=ha.un;zhx (zmW hg hm ha hs) (by
 intro σ H R h_;refine cI_ h_ fun F O s its s' Rl hf q=>?_;obtain⟨⟨p1,p2⟩,h1,h2⟩:=Qb hf;refine⟨F,O,s,p1,p2,Rl,h1,fun vs H1 S1 R1 rs=>?_⟩;dsimp only at h2;split at h2
 case h_2=>cases h2
 ·rename_i j;have h2:(if zgk j=true then some (zaU 0 j.toNat,p2) else none)=some (its,s'):=h2
  split at h2
  ·rename_i hj;have hj:=zfS hj;injection h2 with h2;injection h2 with h3 h4;subst h3 h4;obtain⟨v,rfl,rv⟩:=rs.one;obtain rfl:v=.int j:=BRep.int (.inl rv);exact⟨j,rfl,hj.1,hj.2,q _ H1 S1 R1 zkY⟩
  ·cases h2)⟩
theorem zmJ{a b:Q4}{p pos:Pos}(hg:Gl X "range")(hm:X.mg "range"=none)(ha:QA X [a,b] (cA M fa))(hs:jd [a,b] X.env=[(false,eval a X.env),(false,eval b X.env)]:=by rfl)(hs2:jd [b] X.env=[(false,eval b X.env)]:=by rfl):QI X tg (.Call (.Name "range" p) [a,b] [] pos) (cI M (zuG fa)):=⟨have ha:=ha.un;zhx (zmV hg hm ha hs hs2) (by
 intro σ H R h_;refine cI_ h_ fun F O s its s' Rl hf q=>?_;obtain⟨⟨p1,p2⟩,h1,h2⟩:=Qb hf;refine⟨F,O,s,p1,p2,Rl,h1,fun vs H1 S1 R1 rs=>?_⟩;dsimp only at h2;split at h2
 case h_2=>cases h2
 ·rename_i i j;have h2:(if zgk i=true/\zgk j=true then some (zaU i (j - i).toNat,p2) else none)=some (its,s'):=h2
  split at h2
  ·rename_i hj;have hj:-(2 ^ 62)<=i/\i < 2 ^ 62/\-(2 ^ 62)<=j/\j < 2 ^ 62:=⟨(zfS hj.1).1,(zfS hj.1).2,zfS hj.2⟩;injection h2 with h2;injection h2 with h3 h4;subst h3 h4
   match vs,rs with
   |v::vs,rs=>
    obtain⟨u,rfl,ru⟩:=rs.tail.one;obtain rfl:v=.int i:=BRep.int (.inl rs.head);obtain rfl:u=.int j:=BRep.int (.inl ru);exact⟨i,j,rfl,hj,q _ H1 S1 R1 zkY⟩
   |[],rs=>exact absurd rs.1 (by simp)
  ·cases h2)⟩
theorem zhR{elts:List Q4}{x1:Nat}{tp:Pos}{a:Q4}{p pos:Pos}(hg:Gl X "enumerate")(hm:X.mg "enumerate"=none)(ha:QA X [a] (cA M fa))(hs:jd [a] X.env=[(false,eval a X.env)]:=by rfl):QI X (.Tuple elts x1 tp) (.Call (.Name "enumerate" p) [a] [] pos) (cI M (dEn fa)):=⟨have ha:=ha.un;zhx (zqP hg hm ha hs) (by
 intro σ H R h_;refine cI_ h_ fun F O s its s' Rl hf q=>?_;obtain⟨⟨p1,p2⟩,h1,h2⟩:=Qb hf;refine⟨F,O,s,p1,p2,Rl,h1,fun vs H1 S1 R1 rs=>?_⟩;dsimp only at h2;split at h2
 case h_2=>cases h2
 ·rename_i xs;injection h2 with h2;injection h2 with h3 h4;subst h3 h4;obtain⟨v,rfl,rv⟩:=rs.one;cases rv with
  |@lst a us _ c r l h=>
   refine⟨a,rfl,⟨us,SqL.of r⟩,q _ H1 S1 R1 ?_⟩;intro H2 k i;have h2:=k a _ c r;have hlen:(zfj xs).length=us.length:=by unfold zfj; rw[j6,QH,l]
   refine⟨fun t ht=>?_,fun hl=>⟨us,SqL.of h2,by rw[<-hlen]; exact hl⟩⟩
   have hi:i < us.length:=by rw[<-hlen]; exact(j7.mp ht).1
   have hx:i < xs.length:=by rw[<-l]; exact hi
   have et:t=.tup [.int i,xs[i]]:=by
    unfold zfj at ht;rw[jg,ZF hx] at ht;have:=jf ht;rw[<-this];simp[List.getD,j3 hx]
   subst et;refine⟨⟨us,us[i],SqL.of h2,j3 hi⟩,fun x H3 ⟨p',x',e1,e2,e3,e4⟩=>⟨.inr ⟨p',_,e2,e3⟩,?_⟩⟩;have:=e4 us (SqL.of h2);rw[j3 hi] at this;obtain rfl:us[i]=x':=jf this;subst e1 e3;have ri:=h i _ _ (j3 hi) (j3 hx);have ri2:Rep (fun b=>(Free F O b/\H1 b≠none)∨H2 b=none) (upd H2 p' (.tup [.int i,us[i]])) us[i] xs[i]:=
    ri.there.mono (fun b c=>.inl c) fun b o c e=>by rw[za8 (za9 (k b o c.1 e) e2)]; exact k b o c.1 e
   have rr:Reps (fun b=>(Free F O b/\H1 b≠none)∨H2 b=none) (upd H2 p' (.tup [.int i,us[i]])) [.int i,us[i]] [.int i,xs[i]]:=.cons (.int _) (.cons ri2 .nil)
   exact .tup (.inr e2) zah rr.1 rr.2)⟩
end
section
variable [TheK]
variable {body:List QR}{fi:DI}{g:DG}{db:DS}
theorem zbs{i:Nat}(h:QG X tg (zcJ i))(hi:M.contains i=false:=by rfl)(hio:io.all (M.contains ·)=true:=by rfl):QG X tg (cG io M (dGn i)):=⟨have h:=h.un;zrY h (gn hi hio)⟩
theorem ziP{is:List Nat}{n:Nat}{K:jb}(h:QG X tg (zlP K n (gsN is)))(hn:is.length=n:=by rfl)(hm:is.all (fun i=>!M.contains i)=true:=by rfl)(hio:io.all (M.contains ·)=true:=by rfl):QG X tg (cG io M (dGt is)):=⟨have h:=h.un;zrY h (gt hn hm hio)⟩
theorem zbq(h:QS X (.For tg iter body [] pos) (zuy (cI M fi) (cG io M g) (cS rk io M M M db))):QS X (.For tg iter body [] pos) (cS rk io M M Mb (zew fi g db)):=⟨have h:=h.un;zcZ h ztX⟩
theorem zdT{c:Q4}{ft:DT}(n:Nat)(hp:Jk (jM X.prog X.w) X.A X.env X.xe)(hc:QT X c (cT M ft))(hb:QSs X body (cS rk io M M M db)):QS X (.While c body [] pos) (cS rk io M M Mb (zbB ft db n)):=⟨have hc:=hc.un;have hb:=hb.un;zcZ (zos hp hc hb) zo9⟩
end
section
variable [TheK]
variable {b:Q4}
theorem zad(hK:X.K=TheK.K)(hu:X.A.units+1 < gG)(ha:QE X a (cE .e M fa))(hb:QE X b (cE .b M fb))(hs:zgW b):QE X (.Subscript a b pos) (cE .e M (d2 za7 fa fb)):=⟨have ha:=ha.un;have hb:=hb.un;weak (ztg (zxY hK ha hb hs) (zwr hu ha hb hs)) (zjg zoV idE idE)⟩
theorem zb0{i:Nat}(hK:X.K=TheK.K)(hi:M.contains i=true)(hu:X.A.units+1 < gG)(ha:QE X a (ze3 i))(hb:QE X b (cE .b M fb))(hs:zgW b):QE X (.Subscript a b pos) (cE .e M (d2v za7 i fb)):=⟨have ha:=ha.un;have hb:=hb.un;weak (ztg (zwq hK hi ha hb hs) (zu5 hi hu ha hb hs)) (zjg zua idE idE)⟩
theorem zmM(hu:X.A.units+1 < gG)(ha:QE X a (cE .e M fa))(hb:QE X b (cE .b M fb))(hm:Qy .NotIn b=false):QE X (.Compare a [.NotIn] [b] pos) (cE .e M (d2 zaC fa fb)):=⟨have ha:=ha.un;have hb:=hb.un;weak (ztg (zrs ha hb hm) (zoP hu ha hb hm)) (zjg zoV idE idE)⟩
theorem zch(hu:X.A.units+1 < gG)(ha:QE X a (cE .e M fa))(hb:QE X b (cE .b M fb))(hm:Qy .NotIn b=false):QT X (.Compare a [.NotIn] [b] pos) (cT M (dB (d2 zaC fa fb))):=⟨have ha:=ha.un;have hb:=hb.un;zeY (zxQ (zq8 ha hb hm) (zoc hu ha hb hm)) (zrr zoV)⟩
theorem zao(ha:QE X a (cE .e M fa))(hb:QE X b (cE .b M fb)):QE X (.BinOp a .Add b pos) (cE .e M (d2 zat fa fb)):=⟨have ha:=ha.un;have hb:=hb.un;weak (ztg (zwt ha hb) (zws ha hb)) (zjg zoV idE neE)⟩
theorem ze9{lo hi:Option Q4}{fl fh:DO}{p2:Pos}(hK:X.K=TheK.K)(he:QE X e (cE .e M fe))(hl:QO X lo (cO M fl))(hu:QO X hi (cO M fh)):QE X (.Subscript e (.Slice lo hi none p2) pos) (cE .e M (dSl zev fe fl fh)):=⟨have he:=he.un;have hl:=hl.un;have hu:=hu.un;weak (ztg (zwp he hl hu) (zx5 hK he hl hu)) (zjg zu8 idE neE)⟩
theorem zaI{tg:Q4}(hK:X.K=TheK.K)(h:QE X e (cE .e M fe)):QI X tg e (cI M (zcs fe)):=⟨have h:=h.un;zhx (zvT (zvT (ztT hK h) (zwc h)) (zvT (zxV h) (ztS h))) (by
 intro σ H R h_;refine cI_ h_ fun F O s its s' Rl hf q=>?_;obtain⟨⟨p1,p2⟩,h1,h2⟩:=Qb hf;cases p1 with
 |lst xs=>exact .inl (.inl ⟨F,O,s,its,s',Rl,by unfold dIt; rw[h1]; exact h2,q⟩)
 |scr xs=>exact .inl (.inl ⟨F,O,s,its,s',Rl,by unfold dIt; rw[h1]; exact h2,q⟩)
 |tup xs=>exact .inl (.inr ⟨F,O,s,its,s',Rl,by unfold zx6; rw[h1]; exact h2,q⟩)
 |fd xs=>exact .inr (.inl ⟨F,O,s,its,s',Rl,by unfold zx8; rw[h1]; exact h2,q⟩)
 |str x=>exact .inr (.inr ⟨F,O,s,its,s',Rl,by unfold zx7; rw[h1]; exact h2,q⟩)
 | _=>cases h2)⟩
end
section
variable [TheK]
variable {b:Q4}
theorem zqC{fn:List T->Option T}(F:FnOk X.prog X.w X.K X.mg X.base CX0 k f fd ps (spP .e np fn))(hr:Room k X.A)(hg:Gl X x)(hm:X.mg x=some (.ref f))(hk:Q2 X.K (.ref f)=true)(hb:Binds X.K fd ps [])(ha:QA X (e::es) (cA M fs))(ar:Ar fs np)(hdb:(x == ("__debug__":Str))=false:=by decide)(he:jd (e::es) X.env=(false,eval e X.env)::jd es X.env:=by rfl)(hpl:(QF pos (jd es X.env)).any (·.1)=false:=by rfl):QE X (.Call (.Name x p) (e::es) [] pos) (cE .e M (zaj fn fs)):=⟨have ha:=ha.un;weak (zel F hr hg hm hk hb .nil zlB ha hdb he hpl) (zud ar)⟩
theorem zoo{fn:List T->Option T}(F:FnOk X.prog X.w X.K X.mg X.base CX0 k f fd ps (spP .n np fn))(hr:Room k X.A)(hg:Gl X x)(hm:X.mg x=some (.ref f))(hk:Q2 X.K (.ref f)=true)(hb:Binds X.K fd ps [])(ha:QA X (e::es) (cA M fs))(ar:Ar fs np)(hdb:(x == ("__debug__":Str))=false:=by decide)(he:jd (e::es) X.env=(false,eval e X.env)::jd es X.env:=by rfl)(hpl:(QF pos (jd es X.env)).any (·.1)=false:=by rfl):QE X (.Call (.Name x p) (e::es) [] pos) (cE .n M (zaj fn fs)):=⟨have ha:=ha.un;weak (zel F hr hg hm hk hb .nil zlB ha hdb he hpl) (zuc ar)⟩
theorem zop{fn:List T->Option (T × T)}{i:Nat}(hi:M.contains i=true)(F:FnOk X.prog X.w X.K X.mg X.base CX0 k f fd ps (spI .e (np+1) fn))(hr:Room k X.A)(hg:Gl X x)(hm:X.mg x=some (.ref f))(hk:Q2 X.K (.ref f)=true)(hb:Binds X.K fd ps [])(h0:QE X e (ze3 i))(ha:QA X es (cA M fs))(ar:Ar fs np)(hdb:(x == ("__debug__":Str))=false:=by decide)(he:jd (e::es) X.env=(false,eval e X.env)::jd es X.env:=by rfl)(hpl:(QF pos (jd es X.env)).any (·.1)=false:=by rfl):QE X (.Call (.Name x p) (e::es) [] pos) (cE .e M (zeU fn i fs)):=⟨have h0:=h0.un;have ha:=ha.un;weak (zel F hr hg hm hk hb .nil zlB (zaL h0 ha he) hdb he hpl) (zrH ar hi)⟩
theorem zon{fn:List T->Option (T × T)}{rk:Kd}(hrk:rk=.e∨rk=.n)(F:FnOk X.prog X.w X.K X.mg X.base CX0 k f fd ps (spI rk (np+1) fn))(hr:Room k X.A)(hg:Gl X x)(hm:X.mg x=some (.ref f))(hk:Q2 X.K (.ref f)=true)(hb:Binds X.K fd ps [])(h0:QE X e (cE .n M fe))(ha:QA X es (cA M fs))(ar:Ar fs np)(hdb:(x == ("__debug__":Str))=false:=by decide)(he:jd (e::es) X.env=(false,eval e X.env)::jd es X.env:=by rfl)(hpl:(QF pos (jd es X.env)).any (·.1)=false:=by rfl):QE X (.Call (.Name x p) (e::es) [] pos) (cE rk M (zgL fn fe fs)):=⟨have h0:=h0.un;have ha:=ha.un;weak (zel F hr hg hm hk hb .nil zlB (zaL h0 ha he) hdb he hpl) (zrG hrk ar)⟩
theorem zbt(hK:X.K=TheK.K)(hg:Gl X "len")(hm:X.mg "len"=none)(h:QE X e (cE .b M fe))(he:jd [e] X.env=(false,eval e X.env)::jd [] X.env:=by rfl)(hpl:(QF pos (jd [] X.env)).any (·.1)=false:=by rfl):QE X (.Call (.Name "len" p) [e] [] pos) (cE .e M (d1 zdo fe)):=⟨have h:=h.un; weak (zd6 (((show CallR X _ _ from hK▸zjs).or zjr).or znR) hg hm Jv (zaL h zcT he) (by decide) (by decide) he hpl) (zn3 zvA)⟩
theorem ziR{cn:String}{ce:Q4}(hc:zuC cn=true)(hg:Gl X "isinstance")(hm:X.mg "isinstance"=none)(h:QE X e (cE .b M fe))(h2:QE X ce (tC (.ty cn)))(he:jd [e,ce] X.env=(false,eval e X.env)::jd [ce] X.env:=by rfl)(he2:jd [ce] X.env=(false,eval ce X.env)::jd [] X.env:=by rfl)(hpl:(QF pos (jd [ce] X.env)).any (·.1)=false:=by rfl):QE X (.Call (.Name "isinstance" p) [e,ce] [] pos) (cE .e M (zpJ cn fe)):=⟨have h:=h.un;have h2:=h2.un;weak (zd6 zoZ hg hm zim (zaL h (zaL h2 zcT he2) he) (by decide) (by decide) he hpl) (zwb hc)⟩
theorem zcS{i:Nat}{o:Q4}{apos:Pos}(hi:M.contains i=true)(h:QE X (.Call (.Attribute o "append" apos) (e::es) [] pos) (tBM X.K "list" zjQ (ze3 i) (cA M fs))):QE X (.Call (.Attribute o "append" apos) (e::es) [] pos) (cE .e M (zhq zk4 i fs)):=⟨have h:=h.un;weak h (zr1 hi zw6)⟩
theorem ziS{i:Nat}{o:Q4}{apos:Pos}(hi:M.contains i=true)(h:QE X (.Call (.Attribute o "extend" apos) (e::es) [] pos) (tBM X.K "list" zjO (ze3 i) (cA M fs))):QE X (.Call (.Attribute o "extend" apos) (e::es) [] pos) (cE .e M (zhq zpu i fs)):=⟨have h:=h.un;weak h (zr1 hi zw5)⟩
theorem zkN{i:Nat}{o:Q4}{apos:Pos}(hi:M.contains i=true)(h:QE X (.Call (.Attribute o "pop" apos) [] [] pos) (zuz X.K "list" zvK (ze3 i))):QE X (.Call (.Attribute o "pop" apos) [] [] pos) (cE .e M (zhq zo1 i dAn)):=⟨have h:=h.un;weak h (ztx hi zw4)⟩
theorem zom{o:Q4}{apos:Pos}(h:QE X (.Call (.Attribute o "count" apos) [e] [] pos) (tBM X.K "list" zjP (cE .e M fa) (zey (cE .b M fe) zod))):QE X (.Call (.Attribute o "count" apos) [e] [] pos) (cE .e M (d2L zho fa fe)):=⟨have h:=h.un;weak h (zxS zqm)⟩
theorem zgn{Mi:List Nat}{caps:List (Option Nat)}{fi:DI}{g:TG}{dg:DG}{ft:DT}{tt:TT}(c:zrV caps M Mi=true)(hg:zpQ g dg Mi caps)(htt:∀ σ H Q,cT Mi ft σ H Q->tt σ H Q)(h:QE X e (tLC caps (cI M fi) g tt (cE .e Mi fe))):QE X e (cE .n M (dLC M caps fi dg ft fe)):=⟨have h:=h.un;weak h (ztC (.of c) hg htt)⟩
theorem zmD{st:QR}{Mi:List Nat}{caps:List (Option Nat)}{fi:DI}{g:TG}{g2:TG}{dg:DG}{ft:DT}{tt:TT}(c:zrV caps M Mi=true)(hg:zpQ g dg Mi caps)(htt:∀ σ H Q,cT Mi ft σ H Q->tt σ H Q)(h:QS X st (zh7 (tLC caps (cI M fi) g tt (cE .e Mi fe)) g2)):QS X st (zh7 (cE .n M (dLC M caps fi dg ft fe)) g2):=⟨have h:=h.un;zrO h (ztC (.of c) hg htt)⟩
theorem zsU{st:QR}{g2:TG}{ff:DE}(h:QS X st (zh7 (cE .n M ff) g2)):QS X st (zh7 (cE .e M ff) g2):=⟨have h:=h.un;zrO h fun σ H Q h_=>cE_ h_ fun F O s t s' R hf q=>⟨F,O,s,t,s',R,hf,fun v H' S p=>q v H' S (p.ne R)⟩⟩
theorem zqu{tg:Q4}{t t':TG}(h:QG X tg t)(h':QG X tg t'):QG X tg (fun v σ H Q=>t v σ H Q∨t' v σ H Q):=⟨have h:=h.un;have h':=h'.un;fun pc s σ H v u Q I r q=>q.elim (h pc s σ H v u Q I r) (h' pc s σ H v u Q I r)⟩
end
section
variable [TheK]
variable {b:Q4}{fc:DE}
theorem zvQ{Mi:List Nat}{caps:List (Option Nat)}{fi:DI}{g:TG}{dg:DG}{ft:DT}{tt:TT}(c:zrV caps M Mi=true)(hg:zpQ g dg Mi caps)(htt:∀ σ H Q,cT Mi ft σ H Q->tt σ H Q)(h:QE X e (tDC caps (cI M fi) g tt (cE .e Mi fk) (cE .e Mi fe))):QE X e (cE .n M (dDC M caps fi dg ft fk fe)):=⟨have h:=h.un;weak h (zu6 (.of c) hg htt)⟩
theorem zvL{st:QR}{Mi:List Nat}{caps:List (Option Nat)}{fi:DI}{g:TG}{g2:TG}{dg:DG}{ft:DT}{tt:TT}(c:zrV caps M Mi=true)(hg:zpQ g dg Mi caps)(htt:∀ σ H Q,cT Mi ft σ H Q->tt σ H Q)(h:QS X st (zh7 (tDC caps (cI M fi) g tt (cE .e Mi fk) (cE .e Mi fe)) g2)):QS X st (zh7 (cE .n M (dDC M caps fi dg ft fk fe)) g2):=⟨have h:=h.un;zrO h (zu6 (.of c) hg htt)⟩
theorem zd3(hK:X.K=TheK.K)(hc:X.calm=true)(hg:Gl X "list")(hm:X.mg "list"=none)(h:QE X e (cE .b M fe))(he:jd [e] X.env=(false,eval e X.env)::jd [] X.env:=by rfl)(hpl:(QF pos (jd [] X.env)).any (·.1)=false:=by rfl):QE X (.Call (.Name "list" p) [e] [] pos) (cE .n M (d1 zbZ fe)):=⟨have h:=h.un; weak (zgq (CallR.or (show CallR X _ _ from hK▸zjq) (zh6 hc)) hg hm zkw (zaL h zcT he) (by decide) (by decide) he hpl) (zw2 zqj)⟩
theorem zhg(h:QE X a (cE .b M fa)):QE X (.UnaryOp .USub a pos) (cE .e M (d1 zm5 fa)):=⟨have h:=h.un;weak (zvU zsn h) (by
 intro σ H Q h_;refine cE_ h_ fun F O s t s' R hf q=>?_;obtain⟨⟨p1,p2⟩,h1,h2⟩:=Qb hf;obtain⟨t',h3,h4⟩:=Qm h2;injection h4 with h4 h5;subst h4 h5;obtain⟨i,rfl⟩:∃ i,p1=.int i:=by cases p1<;>first |exact⟨_,rfl⟩ |cases h3
 injection h3 with h3;subst h3
 exact⟨F,O,s,_,_,R,h1,fun v H1 S1 p1=>⟨i,p1.view.int,q _ H1 S1 ⟨p1.1,.int _⟩⟩⟩)⟩
end
section
variable [TheK]
variable {st:Q4}{fk:DO}
theorem zsZ(hK:X.K=TheK.K)(he:QE X e (cE .e M fe))(hs:QO X (some st) (cO M fk)):QE X (.Subscript e (.Slice none none (some st) p2) pos) (cE .n M (zww fe fk)):=⟨have he:=he.un;have hs:=hs.un;weak (ztk he hs) (by
 intro σ H Q h_;refine cE_ h_ fun F O s t s' R hf q=>?_;obtain⟨p,h1,h2⟩:=Qb hf;obtain⟨l,h3,h4⟩:=Qb h2;split at h4
 case isFalse=>cases h4
 rename_i hk;obtain⟨t',h7,h8⟩:=Qm h4;injection h8 with h8 h9;subst h8 h9;refine⟨F,O,s,p.1,p.2,R,h1,fun v H1 S1 p1=>⟨F,O,p.2,l.1,l.2,p1.1,h3,fun H2 S2 R2=>⟨hk,?_⟩⟩⟩;have r2:=p1.1.stay S2 p1.2;obtain⟨pt,ps⟩:=p;cases pt<;>simp[zuD] at h7
 rename_i xs;subst h7;obtain⟨a,vs,rfl,ha,ra⟩:=BRep.lst (.inl r2)
 refine⟨a,vs,rfl,hK▸SqL.of ha,fun b hb=>q _ _ ((S1.trans S2).trans (.new hb _)) (.mkN R R2 (S1.trans S2) hb fun C' hC=>.lst zah (ra.rev.there.mono hC fun c o _ e=>by rw[za8 (za9 e hb)]; exact e))⟩)⟩
theorem ziQ{a:Q4}{fa:DA}{p p' pos':Pos}(hc:X.calm=true)(hg:Gl X "list")(hm:X.mg "list"=none)(hg':Gl X "range")(hm':X.mg "range"=none)(ha:QA X [a] (cA M fa))(hs:jd [a] X.env=[(false,eval a X.env)]:=by rfl)(hs':jd [.Call (.Name "range" p') [a] [] pos'] X.env=[(false,eval (.Call (.Name "range" p') [a] [] pos') X.env)]:=by rfl):QE X (.Call (.Name "list" p) [.Call (.Name "range" p') [a] [] pos'] [] pos) (cE .n M (dLR fa)):=⟨have ha:=ha.un;weak (ziT hc hg hm hg' hm' ha hs hs') (by
 intro σ H Q h_;refine cE_ h_ fun F O s t s' R hf q=>?_;obtain⟨⟨p1,p2⟩,h1,h2⟩:=Qb hf;refine⟨F,O,s,p1,p2,R,h1,fun vs H1 S1 R1 rs=>?_⟩;dsimp only at h2;split at h2
 case h_2=>cases h2
 ·rename_i j;have h2:(if zgk j=true then some (T.lst (zaU 0 j.toNat),p2) else none)=some (t,s'):=h2
  split at h2
  ·rename_i hj;have hj:=zlv hj;injection h2 with h2;injection h2 with h3 h4;subst h3 h4;obtain⟨v,rfl,rv⟩:=rs.one;obtain rfl:v=.int j:=BRep.int (.inl rv);refine⟨j,rfl,by lia,hj.2,fun b hb=>q _ _ (S1.trans (.new hb _)) (.mkN R R1 S1 hb fun C' hC=>.lst zah ?_)⟩
   have e:((j5 j.toNat).map fun(k:Nat)=>V.int k)=((j5 j.toNat).map fun(k:Nat)=>(k:Int)).map V.int:=by rw[jY]; rfl
   have e':zaU 0 j.toNat=((j5 j.toNat).map fun(k:Nat)=>(k:Int)).map T.int:=by
    unfold zaU;rw[jY];refine QY fun k _=>?_;rw[Nu]; rfl
   rw[e,e'];exact zdB _
  ·cases h2)⟩
end
section
variable [TheK]
variable {apos:Pos}
theorem zt3(hK:X.K=TheK.K)(hc:X.calm=true)(hg:Gl X "all")(hm:X.mg "all"=none)(h:QE X e (cE .b M fe))(he:jd [e] X.env=(false,eval e X.env)::jd [] X.env:=by rfl)(hpl:(QF pos (jd [] X.env)).any (·.1)=false:=by rfl):QE X (.Call (.Name "all" p) [e] [] pos) (cE .e M (d1 zrU fe)):=⟨have h:=h.un; weak (zd6 (show CallR X _ _ from hK▸zp0 hc) hg hm zuf (zaL h zcT he) (by decide) (by decide) he hpl) (zn3 zvD)⟩
end
section
variable [TheK]
theorem zol{X:Cx}{st:QR}{d:DS}{rk:Kd}{io M M' Mx Mb:List Nat}{i:Nat}(h:QS X st (cS rk io M' Mx Mb d))(hi:M.contains i=true:=by rfl)(hM:M'.all (fun j=>M.contains j&&j != i)=true:=by rfl)(hM2:M.all (fun j=>M'.contains j||j == i)=true:=by rfl)(hio:io.all (M'.contains ·)=true:=by rfl):QS X st (cS rk io M Mx Mb (zrA i d)):=⟨have h:=h.un;zcZ (zov h) (by
 intro D σ H h_;refine cS_ h_ fun F O s r R I hd q=>?_;have hi':i∈M:=by simpa using hi
 have m1:∀ j,j∈M'->j∈M/\j≠i:=fun j hj=>by have:=jx.mp hM j hj; simpa using this
 have m2:∀ j,j∈M->j∈M'∨j=i:=fun j hj=>by have:=jx.mp hM2 j hj; simpa using this
 have mi:i∉M':=fun z=>(m1 i z).2 rfl;have mio:∀ j,j∈io->j∈M':=fun j hj=>by have:=jx.mp hio j hj; simpa using this
 unfold zrA at hd;split at hd
 ·rename_i ks e;have e:=zab e;obtain⟨a,ha,L⟩:=R.own i _ e hi';obtain⟨kvs,hr,rk'⟩:∃ kvs,H a=some (.dK kvs)/\RepK (Free F O) H kvs ks:=by
   cases L with |dct r h=>exact⟨_,r,h⟩
  have hsl:i < s.length:=(j7.mp e).1
  -- what stays owned
  have oth:∀(j:Nat) b,j∈M'->σ[j]?=some (some (.ref b))->b≠a:=fun j b hj e1 z=>by
   subst z;exact(m1 j hj).2 (R.dis j i b (m1 j hj).1 hi' e1 ha)
  have hD:¬ F.D a:=fun z=>by
   obtain⟨j,hj,e1⟩:=I.D a z;have e2:=(I.at_ j hj).2;rw[<-e1] at e2;exact oth j a (mio j hj) e2 rfl
  have hF0:F.H0 a=none:=(R.fresh a (R.ow i a hi' ha)).resolve_left hD;refine⟨a,kvs,hr,fun o=>?_⟩;have kD:∀ b u,b≠a->H b=some u->upd H a (.frz o (.dK kvs)) b=some u:=fun b u n e=>by rw[za8 n]; exact e
  have wk:∀ b,Free F O b->Free F (fun b=>O b/\b≠a) b:=fun b z=>z.weak fun c y=>y.1;have fra:Free F (fun b=>O b/\b≠a) a:=⟨fun z=>z.2 rfl,.inr hF0⟩;have na:∀ b,Free F O b->b≠a:=fun b z y=>z.1 (y▸R.ow i a hi' ha);have R':Rel F (fun b=>O b/\b≠a) M' (s.set i (some (.fd ks))) σ (upd H a (.frz o (.dK kvs))):=by
   refine⟨by rw[Qd]; exact R.len,fun j t e' n=>?_,fun j t e' n=>?_,fun j b hj e1=>⟨R.ow j b (m1 j hj).1 e1,oth j b hj e1⟩,fun j k b hj hk e1 e2=>R.dis j k b (m1 j hj).1 (m1 k hk).1 e1 e2,fun b u n e1=>?_,fun b e1=>?_,fun b z=>R.fresh b z.1,fun b z=>⟨R.inD b z,fun y=>hD (y▸z)⟩,fun b z e1=>?_⟩
   ·by_cases hji:j=i
    ·subst hji;rw[jU hsl] at e';cases e';exact⟨_,ha,.fd fra zah rk'.1 fun k v t e1 e2=>(rk'.2 k v t e1 e2).mono wk fun b u z e=>kD b u (na b z) e⟩
    ·rw[jo (fun z=>hji z.symm)] at e';obtain⟨v,a1,a2⟩:=R.val j t e' (fun z=>(m2 j z).elim n hji);exact⟨v,a1,a2.mono wk fun b u z e=>kD b u (na b z) e⟩
   ·have hji:i≠j:=fun z=>mi (z▸n);rw[jo hji] at e';obtain⟨c,a1,a2⟩:=R.own j t e' (m1 j n).1;exact⟨c,a1,a2.mono wk (fun b u z e=>kD b u (na b z) e) fun u e=>kD c u (oth j c n a1) e⟩
   ·exact kD b u (fun z=>by rw[z,hF0] at e1; cases e1) (R.keep b u n e1)
   ·refine R.dom b ?_;unfold upd at e1;split at e1
    ·cases e1
    ·exact e1
   ·refine R.al b z.1 ?_;rw[za8 z.2] at e1;exact e1
  refine⟨F,_,_,r,R',⟨fun j hj=>⟨mio j hj,(I.at_ j hj).2⟩,I.D⟩,hd,q.more ⟨fun b u n e1=>⟨kD b u (fun z=>n (z▸R.ow i a hi' ha)) e1,fun z=>n z.1⟩,fun b e1=>?_⟩⟩;unfold upd at e1;split at e1
  ·cases e1
  ·exact e1
 ·cases hd)⟩
theorem zkJ{X:Cx}{st:QR}{rk:Kd}{io M M' Mb:List Nat}:QS X st (cS rk io M M' Mb znK):=⟨fun pc s σ H D I ⟨F,O,s',r,R,Io,hd,q⟩=>by cases hd⟩
end
section
variable [TheK]
theorem zoq{fn:List T->Option T}{i:Nat}(hi:M.contains i=true)(F:FnOk X.prog X.w X.K X.mg X.base CX0 k f fd ps (spP .e (np+1) fn))(hr:Room k X.A)(hg:Gl X x)(hm:X.mg x=some (.ref f))(hk:Q2 X.K (.ref f)=true)(hb:Binds X.K fd ps [])(h0:QE X e (ze3 i))(ha:QA X es (cA M fs))(ar:Ar fs np)(hdb:(x == ("__debug__":Str))=false:=by decide)(he:jd (e::es) X.env=(false,eval e X.env)::jd es X.env:=by rfl)(hpl:(QF pos (jd es X.env)).any (·.1)=false:=by rfl):QE X (.Call (.Name x p) (e::es) [] pos) (cE .e M (zjl fn i fs)):=⟨have h0:=h0.un;have ha:=ha.un;weak (zel F hr hg hm hk hb .nil zlB (zaL h0 ha he) hdb he hpl) (zrI ar hi)⟩
end
section
variable [TheK]
variable {b:Q4}
theorem zqv(hg:Gl X "set")(hm:X.mg "set"=none):QE X (.Call (.Name "set" p) [] [] pos) (cE .n M zrw):=⟨weak (zlz znM hg hm znT) (by
 intro σ H Q h_;refine cE_ h_ fun F O s t s' R hf q=>?_;injection hf with hf;injection hf with h1 h2;subst h1 h2
 exact⟨rfl,fun l hl=>q _ _ (.new hl _) (.mkN R R .refl hl fun C _=>.set zah)⟩)⟩
theorem zqw{i:Nat}{o:Q4}{apos:Pos}(hi:M.contains i=true)(h:QE X (.Call (.Attribute o "add" apos) [e] [] pos) (tBM X.K "set" zsR (ze3 i) (zey (cE .e M fe) zod))):QE X (.Call (.Attribute o "add" apos) [e] [] pos) (cE .e M (zrx i fe)):=⟨have h:=h.un;weak h (by
 intro σ H Q h_;refine cE_ h_ fun F O s t s' R hf q=>?_;have hi':i∈M:=by simpa using hi
 obtain⟨t0,h0,hf⟩:=Qb hf;obtain⟨S0,n0,rfl⟩:∃ S0 n0,t0=.set S0 n0:=by cases t0<;>first |exact⟨_,_,rfl⟩ |cases hf
 obtain⟨⟨p1,p2⟩,h1,hf⟩:=Qb hf;obtain⟨t1,h2,hf⟩:=Qb hf;obtain⟨k,rfl⟩:∃ k,p1=.int k:=by cases p1<;>first |exact⟨_,rfl⟩ |cases hf
 obtain⟨S,n,rfl⟩:∃ S n,t1=.set S n:=by cases t1<;>first |exact⟨_,_,rfl⟩ |cases hf
 replace hf:(if n < 1000 then some (T.non,p2.set i (some (.set (fun j=>S j||decide (j=k)) (if S k then n else n+1)))) else none)=some (t,s'):=hf
 by_cases hn:n < 1000
 ·rw[Ip_ hn] at hf;injection hf with hf;injection hf with h3 h4;subst h3 h4;obtain⟨a,e1,L0⟩:=R.own i _ (zab h0) hi';have r0:H a=some (.set S0 n0):=by cases L0 with |set r=>exact r
  refine⟨_,e1,.inr (.inr (.inr ⟨rfl,_,_,r0⟩)),F,O,s,_,p2,R,h1,fun v H1 S1 p1=>?_⟩;obtain rfl:v=.int k:=BRep.int (.inl p1.2);obtain⟨b,e2,L⟩:=p1.1.own i _ (zab h2) hi';rw[e1] at e2;injection e2 with e2;injection e2 with e2;injection e2 with e2;subst e2;have r1:H1 a=some (.set S n):=by cases L with |set r=>exact r
  refine⟨a,S,n,k,rfl,rfl,r1,hn,q _ _ (S1.trans (.write hi' e1 L.ne)) ⟨?_,.non⟩⟩;exact p1.1.write hi' e1 (zab h2) fun Hx kx ex=>.set ex
 ·rw[In_ hn] at hf; cases hf)⟩
theorem zqr(ha:QE X a (cE .e M fa))(hb:QE X b (cE .b M fb))(hm:Qy .NotIn b=false):QT X (.Compare a [.NotIn] [b] pos) (cT M (dB (d2 zlQ fa fb))):=⟨have ha:=ha.un;have hb:=hb.un;zeY (zd4 zqW ha hb hm) (tst (zce zsH))⟩
end
section
variable [TheK]
variable {e1 e2:Q4}{f0:DE}
theorem zmP{fn:List T->Option T}{i:Nat}(hi:M.contains i=true)(F:FnOk X.prog X.w X.K X.mg X.base CX0 k f fd ps (spP .e (np+2) fn))(hr:Room k X.A)(hg:Gl X x)(hm:X.mg x=some (.ref f))(hk:Q2 X.K (.ref f)=true)(hb:Binds X.K fd ps [])(h0:QE X e1 (cE .e M f0))(h1:QE X e2 (ze3 i))(ha:QA X es (cA M fs))(ar:Ar fs np)(hdb:(x == ("__debug__":Str))=false:=by decide)(he:jd (e1::e2::es) X.env=(false,eval e1 X.env)::jd (e2::es) X.env:=by rfl)(he2:jd (e2::es) X.env=(false,eval e2 X.env)::jd es X.env:=by rfl)(hpl:(QF pos (jd (e2::es) X.env)).any (·.1)=false:=by rfl):QE X (.Call (.Name x p) (e1::e2::es) [] pos) (cE .e M (zgM fn i f0 fs)):=⟨have h0:=h0.un;have h1:=h1.un;have ha:=ha.un;weak (zel F hr hg hm hk hb .nil zlB (zaL h0 (zaL h1 ha he2) he) hdb he hpl) (zp1 ar hi)⟩
end
section
variable [TheK]
variable {e1 e2:Q4}{f1 f2:DE}{p3 pos2 pos3 pos4:Pos}
theorem zmO(hK:X.K=TheK.K)(hc:X.calm=true)(hg:Gl X "len")(hm:X.mg "len"=none)(hg2:Gl X "set")(hm2:X.mg "set"=none)(h1:QE X e1 (cE .b M f1))(h2:QE X e2 (cE .b M f2))(he1:jd [e1] X.env=(false,eval e1 X.env)::jd [] X.env:=by rfl)(hpl1:(QF pos2 (jd [] X.env)).any (·.1)=false:=by rfl)(he2:jd [e2] X.env=(false,eval e2 X.env)::jd [] X.env:=by rfl)(hpl2:(QF pos3 (jd [] X.env)).any (·.1)=false:=by rfl)(he:jd [.BinOp (.Call (.Name "set" p2) [e1] [] pos2) .BitAnd (.Call (.Name "set" p3) [e2] [] pos3) pos4] X.env=(false,eval (.BinOp (.Call (.Name "set" p2) [e1] [] pos2) .BitAnd (.Call (.Name "set" p3) [e2] [] pos3) pos4) X.env)::jd [] X.env:=by rfl)(hpl:(QF pos (jd [] X.env)).any (·.1)=false:=by rfl):QE X (.Call (.Name "len" p) [.BinOp (.Call (.Name "set" p2) [e1] [] pos2) .BitAnd (.Call (.Name "set" p3) [e2] [] pos3) pos4] [] pos) (cE .e M (d2 zi7 f1 f2)):=⟨have h1:=h1.un;have h2:=h2.un; weak (zd6 znQ hg hm Jv (zaL (zh2 zqZ (zgq (zjp hc) hg2 hm2 znT (zaL h1 zcT he1) (by decide) (by decide) he1 hpl1) (zgq (zjp hc) hg2 hm2 znT (zaL h2 zcT he2) (by decide) (by decide) he2 hpl2)) zcT he) (by decide) (by decide) he hpl) (by
 intro σ H Q h_;refine cE_ h_ fun F O s t s' R hf q=>?_;obtain⟨x,s1,y,d1,d2,d3⟩:=zij hf;obtain⟨xs,rfl⟩:∃ xs,x=.lst xs:=by cases x<;>first |exact⟨_,rfl⟩ |cases d3
 obtain⟨ys,rfl⟩:∃ ys,y=.lst ys:=by cases y<;>first |exact⟨_,rfl⟩ |cases d3
 obtain⟨as,h5,d4⟩:=Qb (show ((zhA xs).bind fun a=>(zhA ys).bind fun b=>if a.length < 900 then if b.length < 900 then some (T.int (znV a b)) else none else none)=some t from d3)
 obtain⟨bs,h6,d5⟩:=Qb d4;split at d5
 ·rename_i hl1;split at d5
  ·rename_i hl2;injection d5 with d5;subst d5;refine⟨F,O,s,_,_,R,d1,fun v H1 S1 p1=>?_⟩;obtain⟨a,us,rfl,ha,ra⟩:=p1.view.lst;rw[zhz ra h5] at ha;refine⟨a,as,rfl,SqL.of ha,by lia,fun l hn=>?_⟩
   have R1:=p1.1.plus hn (zkE X l (Dw.za1 as));refine⟨F,O,s1,_,_,R1,d2,fun v2 H2 S2 p2=>?_⟩;obtain⟨b,us2,rfl,hb,rb⟩:=p2.view.lst;rw[zhz rb h6] at hb;have no:¬ O l:=fun z=>p1.1.al l z hn;have hl:H2 l=some (zkE X l (Dw.za1 as)):=S2.keep l _ (R1.notOwned no) zah;refine⟨b,bs,rfl,SqL.of hb,by lia,fun m hm=>?_⟩
   have hlm:l≠m:=fun e=>by subst e; rw[hl] at hm; cases hm
   have fl:∀ ss:List Str,(Dw.za1 ss).length<=ss.length:=fun ss=>by
    have:=zhB ss [];rw[ZR,Z4] at this;exact this
   have f1:=fl as;have f2:=fl bs;refine⟨l,m,_,_,rfl,rfl,hlm,by rw[za8 hlm]; exact hl,zah,zeP _,zeP _,by lia,fun c hc'=>?_⟩
   have S12:=(S1.trans (.new hn _)).trans S2;refine⟨c,_,rfl,zah,q _ _ ((S12.trans (.new hm _)).trans (.new hc' _)) ⟨(p2.1.plus hm _).plus hc' _,.int _⟩⟩
  ·cases d5
 ·cases d5)⟩
end
section
variable [TheK]
variable {fa:DA}
theorem zsX{elts:List Q4}{x1:Nat}{tp:Pos}{a b:Q4}{p pos:Pos}(hK:X.K=TheK.K)(hg:Gl X "zip")(hm:X.mg "zip"=none)(ha:QA X [a,b] (cA M fa))(hs:jd [a,b] X.env=(false,eval a X.env)::jd [b] X.env:=by rfl)(hs2:(QF pos (jd [b] X.env)).any (·.1)=false:=by rfl):QI X (.Tuple elts x1 tp) (.Call (.Name "zip" p) [a,b] [] pos) (cI M (zuE fa)):=⟨have ha:=ha.un;zhx (zqM hg hm ha hs hs2) (by
 intro σ H R h_;refine cI_ h_ fun F O s its s' Rl hf q=>?_;obtain⟨⟨p1,p2⟩,h1,h2⟩:=Qb hf;refine⟨F,O,s,p1,p2,Rl,h1,fun vs H1 S1 R1 rs=>?_⟩;dsimp only at h2;split at h2
 case h_2=>cases h2
 ·rename_i xs ys;injection h2 with h2;injection h2 with h3 h4;subst h3 h4;obtain⟨u,h6,h7⟩:=rs.get (i:=0) rfl;obtain⟨v,h8,h9⟩:=rs.get (i:=1) rfl;have hvl:=rs.1;cases h7 with
  |@lst a1 us _ c r l h=>
   cases h9 with
   |@lst a2 ws _ c2 r2 l2 hw=>
    refine⟨a1,a2,us,ws,?_,hK▸SqL.of r,hK▸SqL.of r2,q _ H1 S1 R1 ?_⟩
    ·match vs,hvl with
     |[x,y],_=>
      simp at h6 h8;rw[h6,h8]
    intro H2 k i;have k1:=k a1 _ c r;have k2:=k a2 _ c2 r2;have hlen:(zpV xs ys).length=min us.length ws.length:=by unfold zpV; rw[j6,List.length_zip,<-l,<-l2]
    refine⟨fun t ht=>?_,fun hl=>⟨us,ws,SqL.of k1,SqL.of k2,by rw[hlen] at hl; lia⟩⟩
    have hi:=(j7.mp ht).1;rw[hlen] at hi;have hiu:i < us.length:=by lia
    have hik:i < ws.length:=by lia
    have hix:i < xs.length:=by lia
    have hiy:i < ys.length:=by lia
    have et:t=.tup [xs[i],ys[i]]:=by
     unfold zpV at ht;rw[jg] at ht;obtain⟨pr,hpr,rfl⟩:=Qm ht;rw[List.getElem?_zip_eq_some,j3 hix,j3 hiy] at hpr;obtain⟨g1,g2⟩:=hpr;rw[<-jf g1,<-jf g2]
    subst et;refine⟨⟨us,us[i],ws,ws[i],SqL.of k1,j3 hiu,SqL.of k2,j3 hik⟩,fun x H3 ⟨p',x',y',e1,e2,e3,e4,e5⟩=>⟨.inr ⟨p',_,e2,e3⟩,?_⟩⟩;have f1:=e4 us (SqL.of k1);rw[j3 hiu] at f1;obtain rfl:us[i]=x':=jf f1;have f2:=e5 ws (SqL.of k2);rw[j3 hik] at f2;obtain rfl:ws[i]=y':=jf f2;subst e1 e3
    exact zoz k e2 (h i _ _ (j3 hiu) (j3 hix)) (hw i _ _ (j3 hik) (j3 hiy)))⟩
end
section
variable [TheK]
theorem zmN(hK:X.K=TheK.K)(hc:X.calm=true)(hg:Gl X "max")(hm:X.mg "max"=none)(h:QE X e (cE .b M fe))(he:jd [e] X.env=(false,eval e X.env)::jd [] X.env:=by rfl)(hpl:(QF pos (jd [] X.env)).any (·.1)=false:=by rfl):QE X (.Call (.Name "max" p) [e] [] pos) (cE .e M (d1 znt fe)):=⟨have h:=h.un; weak (zd6 (show CallR X _ _ from hK▸znP hc) hg hm znU (zaL h zcT he) (by decide) (by decide) he hpl) (zn3 zvz)⟩
end
section
variable [TheK]
variable {b:Q4}
theorem zqx(ha:QE X a (cE .e M fa))(hb:QE X b (cE .b M fb)):QE X (.BinOp a .Mult b pos) (cE .e M (d2 zri fa fb)):=⟨have ha:=ha.un;have hb:=hb.un;weak (zh2 zqX ha hb) (zce (s_I fun i j h=>by
 unfold zug at h;rw[jL] at h;have h1:=ZU h.1;have h2:=ZU h.2;have e:(10000000000000000000000000000000000000000:Nat) < 2 ^ 200:=by decide
 exact⟨Yu h1 e,Yu h2 e⟩))⟩
end
section
variable [TheK]
theorem zmE{i:Nat}{b:Int}(hi:M.contains i=true)(h:QS X st (zqb (ze3 i) (cE .e M fk) (tC (.int b)) (zuA X.K) (ipI fun i j=>i+j) zqq)):QS X st (cS rk io M M Mb (zlY i fk b)):=⟨have h:=h.un;zcZ h (by
 intro D σ H h_;refine cS_ h_ fun F O s r R I hd q=>?_;have hi':i∈M:=by simpa using hi
 obtain⟨t0,h0,hd⟩:=Qb hd;obtain⟨⟨w1,w2⟩,h2,hd⟩:=Qb hd;obtain⟨t1,h3,hd⟩:=Qb hd;obtain⟨xs,rfl⟩:∃ xs,t1=.lst xs:=by cases t1<;>first |exact⟨_,rfl⟩ |cases hd
 obtain⟨k,rfl⟩:∃ k,w1=.int k:=by cases w1<;>first |exact⟨_,rfl⟩ |cases hd
 obtain⟨j,h4,hd⟩:=Qb hd;obtain⟨x,h5,hd⟩:=Qb hd;obtain⟨a0,rfl⟩:∃ a,x=.int a:=by cases x<;>first |exact⟨_,rfl⟩ |cases hd
 obtain rfl:=jf hd;obtain⟨a,e1,_⟩:=R.own i t0 (zab h0) hi';refine⟨_,e1,F,O,s,_,_,R,h2,fun y H2 S2 p2=>?_⟩;obtain⟨b',e2,L⟩:=p2.1.own i _ (zab h3) hi';rw[e1] at e2;injection e2 with e2;injection e2 with e2;injection e2 with e2;subst e2;have ne:=L.ne;obtain⟨vs,hr,hk⟩:=L.lst';obtain rfl:y=.int k:=BRep.int (.inl p2.2);obtain⟨v,hv,rv⟩:=hk.at (i:=k) (t:=.int a0) (by unfold atI; rw[h4]; exact h5)
 obtain rfl:v=.int a0:=BRep.int (.inl rv);refine⟨a,vs,k,_,rfl,rfl,.inl (.inl hr),hv,?_⟩;refine⟨a0,b,rfl,rfl,?_⟩;refine⟨a,vs,k,j,rfl,rfl,hr,by rw[hk.1]; exact h4,?_⟩
 have R2:=p2.1.write (t':=.lst (xs.set j (.int (a0+b)))) hi' e1 (zab h3) (fun Hx kx ex=>.lst ex ((hk.set j (.int (a0+b))).mono (fun _ c=>c) kx))
 exact q O σ _ ((S2.trans (.write hi' e1 ne)).keepO R) R2 I)⟩
end
section
variable [TheK]
theorem zqy(hK:X.K=TheK.K)(hc:X.calm=true)(hg:Gl X "min")(hm:X.mg "min"=none)(h:QE X e (cE .b M fe))(he:jd [e] X.env=(false,eval e X.env)::jd [] X.env:=by rfl)(hpl:(QF pos (jd [] X.env)).any (·.1)=false:=by rfl):QE X (.Call (.Name "min" p) [e] [] pos) (cE .e M (d1 zrj fe)):=⟨have h:=h.un; weak (zd6 (show CallR X _ _ from hK▸znN hc) hg hm zrJ (zaL h zcT he) (by decide) (by decide) he hpl) (zn3 zsG)⟩
theorem zqz(hK:X.K=TheK.K)(hc:X.calm=true)(hg:Gl X "max")(hm:X.mg "max"=none)(h:QE X e (cE .b M fe))(he:jd [e] X.env=(false,eval e X.env)::jd [] X.env:=by rfl)(hpl:(QF pos (jd [] X.env)).any (·.1)=false:=by rfl):QE X (.Call (.Name "max" p) [e] [] pos) (cE .e M (d1 zrk fe)):=⟨have h:=h.un; weak (zd6 (show CallR X _ _ from hK▸znO hc) hg hm znU (zaL h zcT he) (by decide) (by decide) he hpl) (zn3 zsG)⟩
end
theorem QW.pt{X:Cx}{e:Q4}{t:TT}(h:QW X e t):QT X e t:=⟨h.un.pt⟩
def QBody(tk:TheK)(P:jH)(w:Qf)(mg:Str->Option j8)(base:QL)(k:Nat)(x:Str)(st:QR)(N:List Str)(t:TS):Prop:=
 ∀(f:js) (cdv:j8) (A:Qg) (outer:List Env) (s:jc) (H:Hp) (E:XK),Room k (A.deeper (Zp x (za0 st) s.heap.objs.size f cdv))->QSs (zhr CX0 P w tk.K mg base N x (za0 st) f cdv A outer s H E).nox (zar st) t
theorem QBody.b{tk:TheK}{P:jH}{w:Qf}{mg:Str->Option j8}{base:QL}{k:Nat}{x:Str}{st:QR}{N:List Str}{t:TS}(h:QBody tk P w mg base k x st N t):zuw tk P w mg base k x st N t:=fun f cdv A outer s H E hr=>(h f cdv A outer s H E hr).un
section
variable [tk:TheK]{d:DS}
theorem Here.qP(h:Here tk.K mg x st ps)(S:FnScope N ps (za0 st))(hb:QBody tk P w mg base k x st N (cS .e [] [] M' Mb d))(hN:ps.length<=N.length:=by decide):Cal P w tk.K mg base (k+1) x ps (spP .e ps.length (fnP N.length d)):=h.okP S hb.b hN
theorem Here.qN(h:Here tk.K mg x st ps)(S:FnScope N ps (za0 st))(hb:QBody tk P w mg base k x st N (cS .n [] [] M' Mb d))(hN:ps.length<=N.length:=by decide):Cal P w tk.K mg base (k+1) x ps (spP .n ps.length (zo2 N.length d)):=h.okN S hb.b hN
theorem Here.qI(h:Here tk.K mg x st ps)(S:FnScope N ps (za0 st))(hb:QBody tk P w mg base k x st N (cS .e [0] [0] M' Mb d))(hN:ps.length<=N.length:=by decide):Cal P w tk.K mg base (k+1) x ps (spI .e ps.length (fnI N.length d)):=h.okI S hb.b hN
theorem zwa{ps0:Str}{fw:js}{dw:Z5}(F:Fun tk.K x x st fw dw)(S:FnScope N [ps0] (za0 st))(hb:QBody tk P w mg base k x st N (cS .e [] [] M' Mb d))(hN:1<=N.length)(hd:∀ ns:List Int,ns.length<=63->fnP N.length d [.scr ns]=some (.bl true)):FnOk P w tk.K mg base CX0 (k+1) fw dw [ps0] (zlp tk.K):=ztD F S hb.b hN hd
end
def CalR(P:jH)(w:Qf)(K:jb)(mg:Str->Option j8)(base:QL)(n:Nat)(x:Str)(ps:List Str)(sp:Sp):Prop:=
 ∃ f fd,FnOk P w K mg base (CX1 P w) n f fd ps sp/\Binds K fd ps []/\Q2 K (.ref f)=true/\mg x=some (.ref f)
section
variable {K:jb}{sp:Sp}
theorem CalR.mono{j:Nat}(h:CalR P w K mg base j x ps sp)(hjk:j<=k):CalR P w K mg base k x ps sp:=by
 obtain⟨f,fd,F,b,kp,m⟩:=h;exact⟨f,fd,F.mono hjk,b,kp,m⟩
theorem Here.okX{CX:CXT}(h:Here K mg x st ps)(S:FnScope N ps (za0 st))(len:∀ vs H Q E,sp vs H Q E->vs.length=ps.length)
  (hbody:∀(f:js) (cdv:j8) (A:Qg) (outer:List Env) (s:jc) (H:Hp) (vs:List V) (Q:VK) (E:XK),Room k (A.deeper (Zp x (za0 st) s.heap.objs.size f cdv))->A.frames=some outer->sp vs H Q E->
   ∃ t,zpT (zhr CX P w K mg base N x (za0 st) f cdv A outer s H E) (zar st) t/\t { nx:=fun _ H'=>Q .non H',rt:=Q } (L2.start N vs) H) :
  ∃ f fd,FnOk P w K mg base CX (k+1) f fd ps sp/\Binds K fd ps []/\Q2 K (.ref f)=true/\mg x=some (.ref f):=by
 obtain⟨f,fd,F,b,kp,m⟩:=h;obtain⟨oc,od,kV,doc,pm,an,cdv,ct,osl,rfl,lk,hcd⟩:=F.ex;exact⟨f,_,ztY lk hcd S len fun A outer s H vs Q E hr hA hs=>hbody f cdv A outer s H vs Q E hr hA hs,b,kp,m⟩
end
variable [tk:TheK]
def fnR(n:Nat)(d:DR):List T->Bool:=fun ts=>d (zaO n ts)
theorem zqe{C:js}{np:Nat}{rs:List T->Bool}{vs:List V}{H:Hp}{Q:VK}{E:XK}(h:spR C np rs vs H Q E):vs.length=np:=by
 obtain⟨C,ts,hl,r,_⟩:=h;rw[r.1,hl]
theorem zvF{C:js}{np:Nat}{N:List Str}{d:DR}(hN:np<=N.length){vs:List V}{H:Hp}{Q:VK}{E:XK}{D:Ends}(h:spR C np (fnR N.length d) vs H Q E):cR E C d D (L2.start N vs) H:=by
 obtain⟨C,ts,hl,r,hf,q⟩:=h;obtain⟨l1,l2⟩:=zg9 (N:=N) r (by lia)
 have w:∀ b,C b->Free ⟨H,C,fun _=>False,fun _=>0⟩ (fun _=>False) b:=fun b c=>⟨fun z=>z,.inl c⟩;have R:Rel ⟨H,C,fun _=>False,fun _=>0⟩ (fun _=>False) [] (zaO N.length ts) (L2.start N vs) H:=by
  refine⟨l1,fun i t e _=>?_,fun i t e n=>by simp at n,fun i a n=>by simp at n,fun i j a n=>by simp at n,fun b o _ e=>e,fun b e=>e,fun a z=>z.elim,fun a z=>z,fun a z=>z.elim⟩
  obtain⟨v,h1,_,_,rv⟩:=l2 i t e;exact⟨v,h1,rv.mono w fun _ _ _ e=>e⟩
 exact⟨_,_,_,R,⟨fun i hi=>by simp at hi,fun a z=>z.elim⟩,hf,fun O' H' k=>q H' (fun b o e=>(k.1 b o (fun z=>z) e).1) k.2⟩
section
variable {d:DR}{C:js}
theorem Here.okR(h:Here tk.K mg x st ps)(S:FnScope N ps (za0 st))
  (hb:∀(f:js) (cdv:j8) (A:Qg) (outer:List Env) (s:jc) (H:Hp) (E:XK),Room k (A.deeper (Zp x (za0 st) s.heap.objs.size f cdv))->A.frames=some outer->
   PSs (zhr (CX1 P w) P w tk.K mg base N x (za0 st) f cdv A outer s H E) (zar st) (cR E C d)) (hN:ps.length<=N.length:=by decide):CalR P w tk.K mg base (k+1) x ps (spR C ps.length (fnR N.length d)):=
 h.okX S (fun vs H Q E h=>zqe h) fun f cdv A outer s H vs Q E hr hA hs=>⟨_,(hb f cdv A outer s H E hr hA).zero,zvF hN hs⟩
end
section
variable {E:XK}{N:js}{da db d1 d2:DR}{dn:DS}{a b sts:List QR}
theorem zvN(hc:QT X c (cT [] ft))(ha:QSs X a (cR E N da))(hb:QSs X b (cR E N db)):QS X (.If c a b pos) (cR E N (zu9 ft da db)):=⟨zxN hc.un ha.un hb.un⟩
theorem zvM:QSs X sts (cR E N zrz):=⟨zxM⟩
theorem zpk:QS X st (cR E N zrz):=⟨zvJ⟩
theorem zpj(h:QS X st (cR E N da)):QSs X [st] (cR E N da):=⟨zvI h.un⟩
theorem zpi{rk:Kd}(h1:QS X st (cR E N d1))(hn:QS X st (cS rk [] [] [] [] dn))(h2:QSs X sts (cR E N d2)):QSs X (st::sts) (cR E N (zlX d1 dn d2)):=⟨zvH h1.un hn.un h2.un⟩
end
theorem zt9{X:Cx}{st:List QR}{t1 t2:TS}(h1:PSs X st t1)(h2:PSs X st t2):PSs X st (fun D σ H=>t1 D σ H∨t2 D σ H):=fun pc s σ H D I z=>z.elim (h1 pc s σ H D I) (h2 pc s σ H D I)
def zpS(tk:TheK)(P:jH)(w:Qf)(mg:Str->Option j8)(base:QL)(k:Nat)(x:Str)(st:QR)(N:List Str)(C:js)(d:DR):Prop:=
 ∀(f:js) (cdv:j8) (A:Qg) (outer:List Env) (s:jc) (H:Hp) (E:XK),Room k (A.deeper (Zp x (za0 st) s.heap.objs.size f cdv))->A.frames=some outer->
  QSs (zhr (CX1 P w) P w tk.K mg base N x (za0 st) f cdv A outer s H E) (zar st) (cR E C d)
theorem Here.qR{P:jH}{w:Qf}{mg:Str->Option j8}{base:QL}{x:Str}{st:QR}{N ps:List Str}{k:Nat}{d:DR}{C:js}(h:Here tk.K mg x st ps)(S:FnScope N ps (za0 st))(hb:zpS tk P w mg base k x st N C d)(hN:ps.length<=N.length:=by decide):CalR P w tk.K mg base (k+1) x ps (spR C ps.length (fnR N.length d)):=
 h.okR S (fun f cdv A outer s H E hr hA=>(hb f cdv A outer s H E hr hA).un) hN
end L3
namespace L3
open PySem PySem.Spec PyProof.Rows L2
theorem zo7{K:jb}{h:QL}{C D N f:js}{nm q:Str}{bs bm:List j8}{hdct:Bool}{sn:List Str}{sub:List j8}{ab:Bool}{col:Option Bool}{dd:Option js}{k0 k1 k2 k3 k5:Option j8}{n1 n2:Str}{p1 p2 p3 p4:Pos}
  {name qual:Str} {params:Wi} {scope:gN} {dV kV doc pm cdv ct:j8} {an od:Option js} {osl:Array (Option j8)} {cdt:Jr} (X:K.In h)
  (xl:K.lookup C=some (Yj nm q C N bs bm hdct sn sub ab col dd k0 k1 k2 k3 k5 "ValueError.__new__")) (xi:Qe K N "__init__"=some (some (.ref f))) (xn:PySem.W.nsOkIn K N=true)
  (xt:PySem.W.tailIn K [.type "ValueError",.type "Exception",.type "BaseException",.type "object"] bm=true)
  (lk:K.lookup f=some ⟨.type "function",od,.func (jX name qual params [.Assign [.Attribute (.Name n1 p1) n2 p2] (.Name n2 p3) p4] scope dV kV doc pm an cdv ct),osl⟩) (hcd:QZ K cdv qual=true)
  (S:FnScope [n1,n2] [n1,n2] scope) (l1:scope.names.lookup n1=some .local) (l2:scope.names.lookup n2=some .local) (d1:(n1 == ("__debug__":Str))=false) (d2:(n2 == ("__debug__":Str))=false)
  (hb:∀ us:List j8,us.length=2->Ya (jX name qual params [.Assign [.Attribute (.Name n1 p1) n2 p2] (.Name n2 p3) p4] scope dV kV doc pm an cdv ct) ⟨us,[]⟩=pure ([n1,n2].zip us))
  (c1:PySem.W.clsIn K C=some cdt) (c2:cdt.mro=[.ref C,.ref D,.type "ValueError",.type "Exception",.type "BaseException",.type "object"]) (c3:cdt.hasDict=true)
  (c4:Yz K (.ref C) "__setattr__"=some (some (.builtin "object.__setattr__"))) (c5:Yz K (.ref C) n2=some none):XClsI K h C D bm:=by
 have G:h.Ns N (h.nsMap N):=.of_isNs (PySem.W.isNs_of_in X xn);have gi:h.nsMap N "__init__"=some (.ref f):=by
  obtain⟨o,es,ep,ho,hd,_,hf⟩:=G;unfold Qe at xi;split at xi
  ·rename_i c d es' n' sl qq;have:=X _ _ qq;rw[ho] at this;cases this;cases hd;split at xi
   ·rename_i en he;have xi:some (some en.val)=some (some (Qh f)):=xi;rw[<-hf];unfold nsFind findBy;rw[<-Wd,he];exact jf xi
   ·split at xi<;>cases xi
  ·cases xi
 exact⟨N,nm,q,bs,hdct,sn,sub,ab,col,dd,k0,k1,k2,k3,k5,_,f,X _ _ xl,G,gi,PySem.W.tail_of_in X xt,n1,n2,p1,p2,p3,p4,name,qual,params,scope,dV,kV,doc,pm,cdv,ct,od,an,osl,cdt,lk,hcd,S,l1,l2,d1,d2,.all hb,⟨c1,c2,c3,c4,c5⟩⟩
theorem zmR{X:Cx}{st:QR}{sts:List QR}{t u:TS}(h1:PS0 X st t)(h2:PSs X sts u):zpT X (st::sts) (zwO t u):=by
 intro s σ H D I h;refine Y0 (jV (h1 s σ H { D with nx:=u D } I h) (fun f s1 q=>?_) fun _ _ z=>z);cases f with
 |next=>
  obtain⟨σ',H',I',q⟩:=q;exact h2 [] s1 σ' H' D I' q
 |ret v=>exact q
 |brk=>exact q
 |cont=>exact q
variable [tk:TheK]
theorem zoe{X:Cx}{st:QR}{sts:List QR}{rk:Kd}{io M M' M'' Mb:List Nat}{d d':DS}(h:PS0 X st (cS rk io M M' Mb d))(h2:PSs X sts (cS rk io M' M'' Mb d')):zpT X (st::sts) (cS rk io M M'' Mb (zai d d')):=by
 intro s0 σ H D I0 hz;refine zmR h h2 s0 σ H D I0 ?_;obtain⟨F,O,s,r,R,I,hd,q⟩:=hz;obtain⟨r1,h1,h2⟩:=Qb hd;refine⟨F,O,s,r1,R,I,h1,?_⟩;cases r1 with
 |nx s1=>exact fun O1 σ1 H1 k1 R1 I1=>⟨F,O1,s1,r,R1,I1,h2,q.more k1⟩
 |bk s1=>injection h2 with h2; subst h2; exact q
 |ct s1=>injection h2 with h2; subst h2; exact q
 |rt t s1=>injection h2 with h2; subst h2; exact q
theorem zmA{X:Cx}{st:QR}{sts:List QR}{rk:Kd}{io M M' M'' Mb:List Nat}{d d':DS}(h:PS0 X st (cS rk io M M' Mb d))(h2:QSs X.nox sts (cS rk io M' M'' Mb d')):zpT X (st::sts) (cS rk io M M'' Mb (zai d d')):=zoe h h2.un.nox
theorem Rel.up{F:Fr}{O:js->Prop}{M:List Nat}{s:Sg}{σ:L2.St}{H H':Hp}(R:Rel F O M s σ H)(k:∀ b o,H b=some o->H' b=some o)(d:∀ b,H' b=none->H b=none):Rel F O M s σ H':=by
 refine⟨R.len,fun i t e n=>?_,fun i t e n=>?_,R.ow,R.dis,fun b o n e=>k b o (R.keep b o n e),fun b e=>R.dom b (d b e),R.fresh,R.inD,fun a o e=>R.al a o (d a e)⟩
 ·obtain⟨v,h1,h2⟩:=R.val i t e n;exact⟨v,h1,h2.mono (fun _ c=>c) fun b o _ e=>k b o e⟩
 ·obtain⟨a,h1,h2⟩:=R.own i t e n;exact⟨a,h1,h2.mono (fun _ c=>c) (fun b o _ e=>k b o e) fun o e=>k a o e⟩
def zkp(io:List Nat)(np:Nat)(rs:List T->Bool)(fa:DA)(dn:DS):DS:=fun s=>match dn s with
 |some r=>some r
 |none=>match fa s with
  |some (ts,s')=>if (decide (ts.length=np)&&rs ts&&hasAll io s')=true then some (.rt .non s') else none
  |none=>none
def cRM(E:XK)(N:js)(M:List Nat)(np:Nat)(rs:List T->Bool)(fa:DA):TS:=fun D σ H=>∃ F O s ts s',Rel F O M s σ H/\fa s=some (ts,s')/\ts.length=np/\rs ts=true/\∀ H',Rel F O M s' σ H'->E (.ref N) none H'
section
variable {X:Cx}{E:XK}{N D:js}{pos:Pos}{io M M' Mb:List Nat}{np:Nat}{rs:List T->Bool}{fa:DA}{dn:DS}{st:QR}
theorem zvG{CX:CXT}{k i:Nat}{f:js}{fd:Z5}{ps:List Str}{x y:Str}{p cpos pos':Pos}{e:Q4}{es:List Q4}(hN:X.N.Nodup)(hi:X.N[i]?=some y)(hl:Loc X.env.scope y)(F:FnOk X.prog X.w X.K X.mg X.base CX k f fd ps (spR N np rs))(hr:Room k X.A)(hg:Gl X x)(hm:X.mg x=some (.ref f))(hk:Q2 X.K (.ref f)=true)(hb:Binds X.K fd ps [])(hx:zfD CX X E)
  (ha:PA X (e::es) (cA M fa)) (hf:X.fn y=true∨X.env.scope.names.lookup y=some .local) (hs:ZO (.Call (.Name x p) (e::es) [] cpos) (some (.Name y pos')) pos.line X.env=pure false:=by rfl) (hdb:(x == ("__debug__":Str))=false:=by decide) (he:jd (e::es) X.env=(false,eval e X.env)::jd es X.env:=by rfl) (hpl:(QF cpos (jd es X.env)).any (·.1)=false:=by rfl) :
  PS X (.Assign [.Name y pos'] (.Call (.Name x p) (e::es) [] cpos) pos) (cRM E N M np rs fa):=zcZ (zpn hN hi hl (zel F hr hg hm hk hb .nil hx ha hdb he hpl) hs hf) (by
 intro D σ H hz; obtain⟨F,O,s,ts,s',R,hf,hl,hrs,q⟩:=hz;refine⟨F,O,s,ts,s',R,hf,fun vs H1 S1 R1 rr=>?_⟩
 exact⟨Free F O,ts,hl,by rw[Qt]; exact rr,hrs,fun H' k1 k2=>q H' (R1.up k1 k2)⟩)
theorem zsV{CX:CXT}{k i:Nat}{f:js}{fd:Z5}{ps:List Str}{x y:Str}{p cpos pos':Pos}{e:Q4}{es:List Q4}(hN:X.N.Nodup)(hi:X.N[i]?=some y)(hl:Loc X.env.scope y)(F:FnOk X.prog X.w X.K X.mg X.base CX k f fd ps (spR N np rs))(hr:Room k X.A)(hg:Gl X x)(hm:X.mg x=some (.ref f))(hk:Q2 X.K (.ref f)=true)(hb:Binds X.K fd ps [])(hx:zfD CX X E)
  (ha:QA X (e::es) (cA M fa)) (hf:X.fn y=true∨X.env.scope.names.lookup y=some .local) (hs:ZO (.Call (.Name x p) (e::es) [] cpos) (some (.Name y pos')) pos.line X.env=pure false:=by rfl) (hdb:(x == ("__debug__":Str))=false:=by decide) (he:jd (e::es) X.env=(false,eval e X.env)::jd es X.env:=by rfl) (hpl:(QF cpos (jd es X.env)).any (·.1)=false:=by rfl) :
  QS X (.Assign [.Name y pos'] (.Call (.Name x p) (e::es) [] cpos) pos) (cRM E N M np rs fa):=⟨zvG hN hi hl F hr hg hm hk hb hx ha.un hf hs hdb he hpl⟩
theorem zsF{bm bmD:List j8}{d:Str}{p1 p2 p3 hpos:Pos}{j:Nat}(hn:∀ W,QS (X.wish W) st (cS .e io M M' Mb dn))(hc:∀ W E,zfD (CX1 X.prog X.w) (X.wish W) E->QS (X.wish W) st (cRM E N M np rs fa))
  (hst:X.stack=X.env::X.outer) (hfr:X.env.frame=some X.env.locals) (hex:X.ex=[]) (hgd:Gl X d) (hmd:X.mg d=some (.ref D)) (xd:XObj X.base D bmD) (xn:XObj X.base N bm) (hm:(Qh N::bm).contains (.ref D)=true)
  (hdb:(d == ("__debug__":Str))=false:=by decide) :
  PS0 X (.Try [st] [.ExceptHandler (some (.Name d p1)) none [.Return (some (.Constant .none j p2)) p3] hpos] [] [] pos) (cS .e io M M' Mb (zkp io np rs fa dn)):=by
 intro s0 σ H En I0 hz;refine zmS (tb:=fun E' D' σ' H'=>cS .e io M M' Mb dn D' σ' H'∨cRM E' N M np rs fa D' σ' H') (ts:=zwP (tC .non)) (fun W E' hp=>zt9 (zgp (hn W).un) (zgp (hc W E' hp).un)) hst hfr hex hgd hmd xd (fun x=>zgp (zkP zpp)) hdb s0 σ H En I0 ?_;obtain⟨F,O,s,r,R,I,hd,q⟩:=hz;unfold zkp at hd;split at hd
 ·rename_i r1 h1;obtain rfl:=jf hd;exact .inl ⟨F,O,s,_,R,I,h1,q⟩
 split at hd
 case h_2=>cases hd
 rename_i ts s' hf;split at hd
 case isFalse=>cases hd
 rename_i hc;obtain rfl:=jf hd;obtain⟨hc,hio⟩:=NT.mp hc;obtain⟨hl,hrs⟩:=NT.mp hc;refine .inr ⟨F,O,s,ts,s',R,hf,of_decide_eq_true hl,hrs,fun H' R'=>⟨N,bm,rfl,xn,hm,?_⟩⟩;exact q .non H' (zsP R' I (hasAll.get hio) .non)
end
section
variable {P:jH}{w:Qf}{mg:Str->Option j8}{base:QL}{x:Str}{st:QR}{N ps:List Str}{k:Nat}{d:DS}{M' Mb:List Nat}
theorem Here.okI0(h:Here tk.K mg x st ps)(S:FnScope N ps (za0 st))
  (hb:∀(f:js) (cdv:j8) (A:Qg) (outer:List Env) (s:jc) (H:Hp) (E:XK),Room k (A.deeper (Zp x (za0 st) s.heap.objs.size f cdv))->A.frames=some outer->
   zpT (zhr CX0 P w tk.K mg base N x (za0 st) f cdv A outer s H E) (zar st) (cS .e [0] [0] M' Mb d)) (hN:ps.length<=N.length:=by decide):Cal P w tk.K mg base (k+1) x ps (spI .e ps.length (fnI N.length d)):=
 h.okX S (fun vs H Q E h=>zmm h) fun f cdv A outer s H vs Q E hr hA hs=>⟨_,hb f cdv A outer s H E hr hA,zsN (.inl rfl) hN hs⟩
end
section
variable {X:Cx}{E:XK}{N D:js}{pos:Pos}
theorem zmF{k:Nat}{bm:List j8}{x:Str}{np cpos:Pos}{e0:Q4}{fe:DE}(hR:zis X E)(hc:X.calm=true)(hr:Room (k+1) X.A)(xc:XClsI X.K X.base N D bm)(hg:Gl X x)(hm:X.mg x=some (.ref N))(he0:QE X e0 (cE .e [] fe))
  (he:jd [e0] X.env=(false,eval e0 X.env)::jd [] X.env:=by rfl) (hpl:(QF cpos (jd [] X.env)).any (·.1)=false:=by rfl) (hd:(x == ("__debug__":Str))=false:=by decide) :
  QS X (.Raise (some (.Call (.Name x np) [e0] [] cpos)) none pos) (cR E N (zkq fe)):=⟨zok hR hc hr xc hg hm he0.un he hpl hd⟩
end
end L3
namespace L3
open PySem PySem.Spec PyProof.Rows L2
variable {ps:List Str}{x:Str}{st:QR}{K:jb}{mg:Str->Option j8}
theorem zr6{α:Type}(x:α):(some (some x):Option (Option α)).join=some x:=rfl
theorem zc2{n:Nat}(h:n<=1000000):n<=jr:=by rw[ZQ]; lia
theorem zc1{n:Nat}(h:n<=1000000):n < jr:=by rw[ZQ]; lia
theorem zr3{n:Nat}(h:n<=1000000):n<=zfJ:=by rw[show zfJ=1000000 by unfold zfJ; rfl]; exact h
theorem zej{j:Int}(h0:-2000<=j)(h:j<=2000):zgk j=true:=by
 unfold zgk;refine Nat.ble_eq_true_of_le ?_;lia
theorem zuh{α:Type}{xs:List α}{i:Nat}{x:α}(h:xs[i]?=some x):atI xs (i:Int)=some x:=by
 have h2:i < xs.length:=(j7.mp h).1;unfold atI ixN;rw[Ip_ (by lia),Ip_ (by lia),j9,Qa,h]
theorem zki{g:DG}{db:DS}(I:Nat->Sg->Prop):∀(xs:List T) (i:Nat) (s:Sg),I i s->(∀ j x s,xs[j]?=some x->I (i+j) s->∃ s1,g x s=some s1/\∃ s2,(db s1=some (.nx s2)∨db s1=some (.ct s2))/\I (i+j+1) s2)->
  ∃ s',zdn g db xs s=some (.nx s')/\I (i+xs.length) s'
 |[],i,s,h0,_=>⟨s,by unfold zdn; rfl,h0⟩
 |x::xs,i,s,h0,h=>by
  obtain⟨s1,h1,s2,h2,h3⟩:=h 0 x s rfl h0;obtain⟨s',h4,h5⟩:=zki I xs (i+1) s2 h3 fun j y s e q=>by
   have z:=h (j+1) y s (by simpa using e)
   rw[show i+(j+1)=i+1+j by lia] at z
   exact z q
  refine⟨s',?_,by rw[jp,show i+(xs.length+1)=i+1+xs.length by lia]; exact h5⟩
  unfold zdn;rw[h1,j9];rcases h2 with h2 |h2<;>rw[h2,j9]<;>exact h4
theorem zjf(n:Nat)(x y:T):eqD (n+1) x y=eqS n x y:=by cases x<;>cases y<;>rfl
theorem znD{n:Nat}{x y:T}{b:Bool}(h:scE x y=some b):eqD n x y=some b:=by
 cases n with
 |zero=>unfold eqD; exact h
 |succ n=>rw[zjf]; unfold eqS; cases x<;>cases y<;>simp[scE] at h<;>simpa[scE] using h
theorem zkm(n:Nat)(i j:Int):eqD n (.int i) (.int j)=some (i == j):=znD rfl
theorem zpG(n:Nat)(i j:Bool):eqD n (.bl i) (.bl j)=some (i == j):=znD rfl
theorem zkl(n:Nat)(i j:Str):eqD n (.str i) (.str j)=some (i == j):=znD rfl
theorem zlk{α:Type}[DecidableEq α]{f:T->T->Option Bool}{enc:α->T}(h:∀ a b,f (enc a) (enc b)=some (decide (a=b))):∀(xs ys:List α),xs.length=ys.length->zhu f (xs.map enc) (ys.map enc)=some (decide (xs=ys))
 |[],[],_=>rfl
 |[],_::_,hl=>by simp at hl
 |_::_,[],hl=>by simp at hl
 |x::xs,y::ys,hl=>by
  rw[jt,jt];unfold zhu;rw[h,j9,zlk h xs ys (by simpa using hl),jR]
  refine congrArg some ?_
  by_cases h1:x=y<;>by_cases h2:xs=ys<;>simp[h1,h2]
theorem znE{α:Type}[DecidableEq α]{n:Nat}{enc:α->T}(h:∀ a b,eqD n (enc a) (enc b)=some (decide (a=b)))(xs ys:List α):eqD (n+1) (.lst (xs.map enc)) (.lst (ys.map enc))=some (decide (xs=ys)):=by
 rw[zjf];unfold eqS;dsimp only;rw[j6,j6]
 by_cases hl:xs.length=ys.length
 ·rw[Ip_ hl,zlk h xs ys hl]
 ·rw[In_ hl,Df_ (fun z=>hl (by rw[z]))]
theorem zl6{n:Nat}(xs ys:List Str):eqD (n+1) (.lst (xs.map T.str)) (.lst (ys.map T.str))=some (decide (xs=ys)):=znE (fun a b=>by rw[zkl]; refine congrArg some ?_; by_cases h:a=b<;>simp[h]) xs ys
theorem zg6(xs:List Str):zkB (xs.map T.str)=some (xs.map V.str):=by
 induction xs with
 |nil=>rfl
 |cons x xs ih=>rw[jt]; unfold zkB; rw[ih]; rfl
theorem zkZ(x:Str)(xs:List Str):inV (.str x) (xs.map V.str)=decide (x∈xs):=by
 unfold inV;rw[J1,Zd,Ng,decide_eq_true_iff];constructor
 ·rintro⟨y,hy,e⟩;have:y=x:=by simpa[eqV] using e
  exact this▸hy
 ·intro h;exact⟨x,h,by simp[eqV]⟩
theorem zkv(x:Str)(xs:List Str):(xs.map V.str).countP (fun u=>eqV u (.str x))=xs.count x:=by
 rw[List.countP_map,List.count_eq_countP];refine List.countP_congr fun y hy=>?_;simp[eqV]
theorem zsD{f g:DS}{s s':Sg}{r:Option Fl}(h:f s=some (.nx s'))(k:g s'=r):zai f g s=r:=by
 unfold zai;rw[h,j9];exact k
theorem zpg{f g:DS}{s s':Sg}{t:T}(h:f s=some (.rt t s')):zai f g s=some (.rt t s'):=by
 unfold zai;rw[h];rfl
theorem znw{n:Nat}{d:DS}{ts:List T}{t:T}{s:Sg}(h:d (zaO n ts)=some (.rt t s)):fnP n d ts=some t:=by unfold fnP; rw[h]
theorem znv{n:Nat}{d:DS}{ts:List T}{t:T}{s:Sg}(h:d (zaO n ts)=some (.rt t s)):zo2 n d ts=some t:=by unfold zo2; rw[h]
theorem zu0{n:Nat}{d:DS}{ts:List T}{t u:T}{s:Sg}(h:d (zaO n ts)=some (.rt t s))(hs:s[0]?=some (some u)):fnI n d ts=some (t,u):=by unfold fnI; rw[h]; simp[hs]
theorem zl2{fi:DI}{g:DG}{db:DS}{s s1 s2:Sg}{its:List T}(h:fi s=some (its,s1))(k:zdn g db its s1=some (.nx s2)):zew fi g db s=some (.nx s2):=by unfold zew; rw[h,j9]; exact k
theorem ziL{lo:Int}{n j:Nat}{x:T}(h:(zaU lo n)[j]?=some x):j < n/\x=.int (lo+j):=by
 unfold zaU at h;rw[jg] at h;obtain⟨i,h1,h2⟩:=Qm h;have hj:j < n:=by simpa using (j7.mp h1).1
 rw[ZF hj] at h1;injection h1 with h1;subst h1;exact⟨hj,h2.symm⟩
theorem ziK(lo:Int)(n:Nat):(zaU lo n).length=n:=by unfold zaU; simp
theorem zkt{α:Type}(xs:List α){t:Int}(h0:0<=t)(h:t<=xs.length):zfC xs none (some t)=xs.take t.toNat:=by
 unfold zfC HT.sIx;simp only[NZ,Nat.sub_zero];split
 ·lia
 ·rw[Yk (by lia)]
theorem zgN{α:Type}(xs:List α){t:Int}(h0:0<=t)(h:t<=xs.length):zfC xs (some t) none=xs.drop t.toNat:=by
 unfold zfC HT.sIx;dsimp only;split
 ·lia
 ·rw[Yk (by lia),Q0 (by rw[QQ]; lia)]
theorem zoW{α:Type}(xs:List α){t u:Int}(h0:0<=t)(h:t<=u)(hu:u<=xs.length):zfC xs (some t) (some u)=(xs.drop t.toNat).take (u.toNat - t.toNat):=by
 unfold zfC HT.sIx;dsimp only;split<;>split<;>first |lia |rw[Yk (by lia),Yk (by lia)]
def Run(d:DS)(s:Sg)(Q:Fl->Prop):Prop:=∃ r,d s=some r/\Q r
def zuq(P:Sg->Prop):Fl->Prop
 |.nx s=>P s
 |.ct s=>P s
 |_=>False
theorem zav{d:DS}{s:Sg}{Q:Fl->Prop}{r:Fl}(h:d s=some r)(k:Q r):Run d s Q:=⟨r,h,k⟩
theorem zgi{f g:DS}{s s':Sg}{Q:Fl->Prop}(h:f s=some (.nx s'))(k:Run g s' Q):Run (zai f g) s Q:=by
 obtain⟨r,h1,h2⟩:=k;exact⟨r,zsD h h1,h2⟩
theorem zhJ{f g:DS}{s:Sg}{Q:Fl->Prop}(P:Sg->Prop)(h:Run f s fun r=>match r with |.nx s'=>P s' |_=>False)(k:∀ s',P s'->Run g s' Q):Run (zai f g) s Q:=by
 obtain⟨r,h1,h2⟩:=h;cases r with
 |nx s'=>exact zgi h1 (k s' h2)
 |_=>exact h2.elim
theorem zbR{fi:DI}{g:DG}{db d:DS}{s s1:Sg}{its:List T}{Q:Fl->Prop}(I:Nat->Sg->Prop)(h:fi s=some (its,s1))(h0:I 0 s1)
  (hs:∀ j x s,its[j]?=some x->I j s->∃ s1,g x s=some s1/\Run db s1 (zuq (I (j+1)))) (k:∀ s',I its.length s'->Run d s' Q):Run (zai (zew fi g db) d) s Q:=by
 obtain⟨s',h1,h2⟩:=zki (g:=g) (db:=db) I its 0 s1 h0 fun j x s e q=>by
  rw[Z4] at q ⊢;obtain⟨s1,h1,r,h2,h3⟩:=hs j x s e q;refine⟨s1,h1,?_⟩;cases r with
  |nx s2=>exact⟨s2,.inl h2,h3⟩
  |ct s2=>exact⟨s2,.inr h2,h3⟩
  |bk s2=>exact h3.elim
  |rt t s2=>exact h3.elim
 rw[Z4] at h2;exact zgi (zl2 h h1) (k s' h2)
theorem zfy{fi:DI}{g:DG}{db:DS}{s s1:Sg}{its:List T}{Q:Fl->Prop}(I:Nat->Sg->Prop)(h:fi s=some (its,s1))(h0:I 0 s1)
  (hs:∀ j x s,its[j]?=some x->I j s->∃ s1,g x s=some s1/\Run db s1 (zuq (I (j+1)))) (k:∀ s',I its.length s'->Q (.nx s')):Run (zew fi g db) s Q:=by
 obtain⟨s',h1,h2⟩:=zki (g:=g) (db:=db) I its 0 s1 h0 fun j x s e q=>by
  rw[Z4] at q ⊢;obtain⟨s1,h1,r,h2,h3⟩:=hs j x s e q;refine⟨s1,h1,?_⟩;cases r with
  |nx s2=>exact⟨s2,.inl h2,h3⟩
  |ct s2=>exact⟨s2,.inr h2,h3⟩
  |bk s2=>exact h3.elim
  |rt t s2=>exact h3.elim
 rw[Z4] at h2;exact⟨_,zl2 h h1,k s' h2⟩
theorem zdA{ft:DT}{db d:DS}{n:Nat}{s:Sg}{Q:Fl->Prop}(I:Sg->Prop)(μ:Sg->Nat)(hn:μ s < n)(h0:I s)(hs:∀ s,I s->∃ b s1,ft s=some (b,s1)/\if b=true then Run db s1 (zuq fun s2=>I s2/\μ s2 < μ s) else True)
  (k:∀ s0 s',I s0->ft s0=some (false,s')->Run d s' Q):Run (zai (zbB ft db n) d) s Q:=by
 have key:∀ n s,μ s < n->I s->∃ s0 s',zbB ft db n s=some (.nx s')/\I s0/\ft s0=some (false,s'):=by
  intro n
  induction n with
  |zero=>intro s hn; exact absurd hn (ZS _)
  |succ n ih=>
   intro s hn h0;obtain⟨b,s1,h1,h2⟩:=hs s h0;unfold zbB;rw[h1,j9];dsimp only;cases b with
   |true=>
    rw[Ip_ rfl] at h2;obtain⟨r,h3,h4⟩:=h2;rw[Ip_ rfl,h3,j9];cases r with
    |nx s2=>exact ih s2 (by have:=h4.2; lia) h4.1
    |ct s2=>exact ih s2 (by have:=h4.2; lia) h4.1
    |bk s2=>exact h4.elim
    |rt t s2=>exact h4.elim
   |false=>exact⟨s,s1,by rw[In_ jJ],h0,h1⟩
 obtain⟨s0,s',h1,h2,h3⟩:=key n s hn h0;exact zgi h1 (k s0 s' h2 h3)
theorem zbV{n:Nat}{d:DS}{ts:List T}{Q:T->Prop}(h:Run d (zaO n ts) fun r=>∃ t s,r=.rt t s/\Q t):∃ t,fnP n d ts=some t/\Q t:=by
 obtain⟨r,h1,t,s,rfl,h2⟩:=h;exact⟨t,znw h1,h2⟩
theorem zia{n:Nat}{d:DS}{ts:List T}{Q:T->T->Prop}(h:Run d (zaO n ts) fun r=>∃ t u s,r=.rt t (some u::s)/\Q t u):∃ t u,fnI n d ts=some (t,u)/\Q t u:=by
 obtain⟨r,h1,t,u,s,rfl,h2⟩:=h;exact⟨t,u,zu0 h1 rfl,h2⟩
structure Ev where
 P:jH
 w:Qf
 mg:Str->Option j8
 base:QL
abbrev Cl[tk:TheK](v:Ev)(k:Nat)(x:Str)(ps:List Str)(sp:Sp):Prop:=Cal v.P v.w tk.K v.mg v.base k x ps sp
theorem scm{N P:List Str}{sc:gN}(h1:sc.kind=.function:=by rfl)(h2:sc.isCoroutine=false:=by rfl)(h3:sc.isGenerator=false:=by rfl)(h4:N.Nodup:=by decide +kernel)(h5:N.take P.length=P:=by rfl)
  (h6:∀ x∈P,sc.names.lookup x=some .local∨sc.names.lookup x=some .cell:=by decide +kernel) (h7:∀ y∈sc.names,y.2≠.free:=by decide +kernel):FnScope N P sc:=⟨h1,h2,h3,h4,h5,h6,h7⟩
theorem Cal.up{P:jH}{w:Qf}{K:jb}{mg:Str->Option j8}{base:QL}{j k:Nat}{x:Str}{ps:List Str}{sp:Sp}(h:Cal P w K mg base j x ps sp)(hjk:j<=k:=by decide):Cal P w K mg base k x ps sp:=h.mono hjk
section
variable [TheK]{f1 f2 f3 f4 f5 f6:DE}
theorem ar1:Ar (dAc f1 dAn) 1:=ar_ zui
theorem ar2:Ar (dAc f1 (dAc f2 dAn)) 2:=ar_ ar1
theorem ar3:Ar (dAc f1 (dAc f2 (dAc f3 dAn))) 3:=ar_ ar2
theorem ar4:Ar (dAc f1 (dAc f2 (dAc f3 (dAc f4 dAn)))) 4:=ar_ ar3
end
section
variable [TheK]{X:Cx}{M:List Nat}{e e1 e2:Q4}{es:List Q4}{fe f0:DE}{fs:DA}{p pos:Pos}{k np i:Nat}{fn:List T->Option T}{fi:List T->Option (T × T)}
theorem qc(C:Cal X.prog X.w X.K X.mg X.base k x ps (spP .e np fn))(hr:Room k X.A)(hg:Gl X x)(ha:QA X (e::es) (cA M fs))(ar:Ar fs np)(hdb:(x == ("__debug__":Str))=false:=by decide)(he:jd (e::es) X.env=(false,eval e X.env)::jd es X.env:=by rfl)(hpl:(QF pos (jd es X.env)).any (·.1)=false:=by rfl):QE X (.Call (.Name x p) (e::es) [] pos) (cE .e M (zaj fn fs)):=by
 obtain⟨f,fd,F,hb,hk,hm⟩:=C;exact zqC F hr hg hm hk hb ha ar hdb he hpl
theorem qcN(C:Cal X.prog X.w X.K X.mg X.base k x ps (spP .n np fn))(hr:Room k X.A)(hg:Gl X x)(ha:QA X (e::es) (cA M fs))(ar:Ar fs np)(hdb:(x == ("__debug__":Str))=false:=by decide)(he:jd (e::es) X.env=(false,eval e X.env)::jd es X.env:=by rfl)(hpl:(QF pos (jd es X.env)).any (·.1)=false:=by rfl):QE X (.Call (.Name x p) (e::es) [] pos) (cE .n M (zaj fn fs)):=by
 obtain⟨f,fd,F,hb,hk,hm⟩:=C;exact zoo F hr hg hm hk hb ha ar hdb he hpl
theorem qcI(hi:M.contains i=true)(C:Cal X.prog X.w X.K X.mg X.base k x ps (spI .e (np+1) fi))(hr:Room k X.A)(hg:Gl X x)(h0:QE X e (ze3 i))(ha:QA X es (cA M fs))(ar:Ar fs np)(hdb:(x == ("__debug__":Str))=false:=by decide)(he:jd (e::es) X.env=(false,eval e X.env)::jd es X.env:=by rfl)(hpl:(QF pos (jd es X.env)).any (·.1)=false:=by rfl):QE X (.Call (.Name x p) (e::es) [] pos) (cE .e M (zeU fi i fs)):=by
 obtain⟨f,fd,F,hb,hk,hm⟩:=C;exact zop hi F hr hg hm hk hb h0 ha ar hdb he hpl
theorem qcT{rk:Kd}(hrk:rk=.e∨rk=.n)(C:Cal X.prog X.w X.K X.mg X.base k x ps (spI rk (np+1) fi))(hr:Room k X.A)(hg:Gl X x)(h0:QE X e (cE .n M fe))(ha:QA X es (cA M fs))(ar:Ar fs np)(hdb:(x == ("__debug__":Str))=false:=by decide)(he:jd (e::es) X.env=(false,eval e X.env)::jd es X.env:=by rfl)(hpl:(QF pos (jd es X.env)).any (·.1)=false:=by rfl):QE X (.Call (.Name x p) (e::es) [] pos) (cE rk M (zgL fi fe fs)):=by
 obtain⟨f,fd,F,hb,hk,hm⟩:=C;exact zon hrk F hr hg hm hk hb h0 ha ar hdb he hpl
theorem qcB(hi:M.contains i=true)(C:Cal X.prog X.w X.K X.mg X.base k x ps (spP .e (np+1) fn))(hr:Room k X.A)(hg:Gl X x)(h0:QE X e (ze3 i))(ha:QA X es (cA M fs))(ar:Ar fs np)(hdb:(x == ("__debug__":Str))=false:=by decide)(he:jd (e::es) X.env=(false,eval e X.env)::jd es X.env:=by rfl)(hpl:(QF pos (jd es X.env)).any (·.1)=false:=by rfl):QE X (.Call (.Name x p) (e::es) [] pos) (cE .e M (zjl fn i fs)):=by
 obtain⟨f,fd,F,hb,hk,hm⟩:=C;exact zoq hi F hr hg hm hk hb h0 ha ar hdb he hpl
theorem zxP(hi:M.contains i=true)(C:Cal X.prog X.w X.K X.mg X.base k x ps (spP .e (np+2) fn))(hr:Room k X.A)(hg:Gl X x)(h0:QE X e1 (cE .e M f0))(h1:QE X e2 (ze3 i))(ha:QA X es (cA M fs))(ar:Ar fs np)(hdb:(x == ("__debug__":Str))=false:=by decide)(he:jd (e1::e2::es) X.env=(false,eval e1 X.env)::jd (e2::es) X.env:=by rfl)(he2:jd (e2::es) X.env=(false,eval e2 X.env)::jd es X.env:=by rfl)(hpl:(QF pos (jd (e2::es) X.env)).any (·.1)=false:=by rfl):QE X (.Call (.Name x p) (e1::e2::es) [] pos) (cE .e M (zgM fn i f0 fs)):=by
 obtain⟨f,fd,F,hb,hk,hm⟩:=C;exact zmP hi F hr hg hm hk hb h0 h1 ha ar hdb he he2 hpl
end
section
variable [tk:TheK]{v:Ev}{N:List Str}
theorem _root_.L3.Here.vP(k:Nat)(M':List Nat)(d:DS)(h:Here tk.K v.mg x st ps)(S:FnScope N ps (za0 st))(hb:QBody tk v.P v.w v.mg v.base k x st N (cS .e [] [] M' [] d))(hN:ps.length<=N.length:=by decide):Cl v (k+1) x ps (spP .e ps.length (fnP N.length d)):=h.qP S hb hN
theorem _root_.L3.Here.vN(k:Nat)(M':List Nat)(d:DS)(h:Here tk.K v.mg x st ps)(S:FnScope N ps (za0 st))(hb:QBody tk v.P v.w v.mg v.base k x st N (cS .n [] [] M' [] d))(hN:ps.length<=N.length:=by decide):Cl v (k+1) x ps (spP .n ps.length (zo2 N.length d)):=h.qN S hb hN
theorem _root_.L3.Here.vI(k:Nat)(M':List Nat)(d:DS)(h:Here tk.K v.mg x st ps)(S:FnScope N ps (za0 st))(hb:QBody tk v.P v.w v.mg v.base k x st N (cS .e [0] [0] M' [] d))(hN:ps.length<=N.length:=by decide):Cl v (k+1) x ps (spI .e ps.length (fnI N.length d)):=h.qI S hb hN
end
def Fd(K:jb)(x:Str)(st:QR):Prop:=∃(f:js) (oc:j8) (od:Option js) (sl:Array (Option j8)) (kV dc pm:j8) (an:Option js) (cd ct:j8),Qe K jO x=some (some (.ref f))/\K.lookup f=some ⟨oc,od,.func (jX x x (zbi st) (zar st) (za0 st) .none kV dc pm an cd ct),sl⟩/\QZ K cd x=true/\Q2 K (.ref f)=true
section
variable {h:QL}{p1 p2 p3 p4 p5 p6:Str}
theorem Fd.mk{f:js}{oc:j8}{od:Option js}{sl:Array (Option j8)}{kV dc pm:j8}{an:Option js}{cd ct:j8}(a:Qe K jO x=some (some (.ref f)))(l:K.lookup f=some ⟨oc,od,.func (jX x x (zbi st) (zar st) (za0 st) .none kV dc pm an cd ct),sl⟩)(c:QZ K cd x=true)(k:Q2 K (.ref f)=true):Fd K x st:=⟨f,oc,od,sl,kV,dc,pm,an,cd,ct,a,l,c,k⟩
def Bd(x:Str)(st:QR)(ps:List Str):Prop:=∀(kV doc pm:j8) (an:Option js) (cdv ct:j8) (us:List j8),us.length=ps.length->Ya (jX x x (zbi st) (zar st) (za0 st) .none kV doc pm an cdv ct) ⟨us,[]⟩=pure (ps.zip us)
theorem Fd.here{ps:List Str}(X:K.In h)(G:h.Ns jO mg)(a:Fd K x st)(hb:Bd x st ps):Here K mg x st ps:=by
 obtain⟨f,oc,od,sl,kV,dc,pm,an,cd,ct,a,l,c,k⟩:=a;exact zrg X G hb a l c k
theorem bd1(h:∀(kV doc pm:j8) (an:Option js) (cdv ct u1:j8),Ya (jX x x (zbi st) (zar st) (za0 st) .none kV doc pm an cdv ct) ⟨[u1],[]⟩=pure [(p1,u1)]):Bd x st [p1]:=fun a b c d e f us hl=>by
 cases us with
 |nil=>cases hl
 |cons u us=>cases us with
  |nil=>exact h a b c d e f u
  |cons _ _=>cases hl
theorem bd2(h:∀(kV doc pm:j8) (an:Option js) (cdv ct u1 u2:j8),Ya (jX x x (zbi st) (zar st) (za0 st) .none kV doc pm an cdv ct) ⟨[u1,u2],[]⟩=pure [(p1,u1),(p2,u2)]):Bd x st [p1,p2]:=fun a b c d e f us hl=>by
 obtain⟨u1,u2,rfl⟩:∃ u1 u2,us=[u1,u2]:=by
  cases us with
  |nil=>cases hl
  |cons u us=>obtain⟨u2,rfl⟩:=gK.mp (WY hl); exact⟨u,u2,rfl⟩
 exact h a b c d e f u1 u2
theorem zx0{us:List j8}(h:us.length=3):∃ u1 u2 u3,us=[u1,u2,u3]:=by
 match us,h with
 |[a,b,c],_=>exact⟨a,b,c,rfl⟩
theorem bd3(h:∀(kV doc pm:j8) (an:Option js) (cdv ct u1 u2 u3:j8),Ya (jX x x (zbi st) (zar st) (za0 st) .none kV doc pm an cdv ct) ⟨[u1,u2,u3],[]⟩=pure [(p1,u1),(p2,u2),(p3,u3)]):Bd x st [p1,p2,p3]:=fun a b c d e f us hl=>by
 obtain⟨u1,u2,u3,rfl⟩:=zx0 hl;exact h a b c d e f u1 u2 u3
theorem bd4(h:∀(kV doc pm:j8) (an:Option js) (cdv ct u1 u2 u3 u4:j8),Ya (jX x x (zbi st) (zar st) (za0 st) .none kV doc pm an cdv ct) ⟨[u1,u2,u3,u4],[]⟩=pure [(p1,u1),(p2,u2),(p3,u3),(p4,u4)]):Bd x st [p1,p2,p3,p4]:=fun a b c d e f us hl=>by
 cases us with
 |nil=>cases hl
 |cons u us=>obtain⟨u1,u2,u3,rfl⟩:=zx0 (WY hl); exact h a b c d e f u u1 u2 u3
end
theorem zuM{l:Ye}{q:jH}{loose:List Str}{XP:(Str->Option j8)->QL->Prop}{YP:Qf->QL->Prop}{d:DefRec}{K:Params->jb}{x:Str}{k:Nat}(hn:l.most=some 63)(hdf:d.params.defaults=[])(hk:k < 60)
  (hY:∀(w:Qf) (h:QL),YP w h->(K w.params).In h)
  (F:∀(w:Qf) (mg:Str->Option j8) (fa:js) (h:QL),(K w.params).In h->h.Ns jO mg->mg d.name=some (.ref fa)->
   ∃ fd:Z5,(∀(s:jc) (u:j8),W2 s fd ⟨[u],[]⟩ [(x,u)])/\∀ base:QL,(K w.params).In base->base.Ns jO mg->FnOk l.prog w (K w.params) mg base CX0 k fa fd [x] (zlp (K w.params))) :
  JL q loose XP YP l.row.toRowW d [] (fun f vs=>JF f vs):=
 L2.zpW (n:=63) (k:=k) (x:=x) (CX:=fun _=>CX0) (sp:=fun w=>zlp (K w.params)) hn (by decide) hdf (Room.mono (k:=60) ⟨rfl,by decide,by decide⟩ (by lia)) hY F (fun _ _ a ns hl hO hS=>⟨a,ns,rfl,hO,hS,hl,fun _=>rfl⟩) fun _ _ _ _ _ z=>z
structure Ax where
 (C D r1 r2 r3 r4:js)
section
variable [tk:TheK](v:Ev)
abbrev ClR(k:Nat)(x:Str)(ps:List Str)(sp:Sp):Prop:=CalR v.P v.w tk.K v.mg v.base k x ps sp
abbrev Nd(a:Ax):Prop:=∃ bm,XClsI tk.K v.base a.r2 a.D bm
end
section
variable {P:jH}{w:Qf}{base:QL}{j k:Nat}{sp:Sp}
theorem CalR.up(h:CalR P w K mg base j x ps sp)(hjk:j<=k:=by decide):CalR P w K mg base k x ps sp:=h.mono hjk
end
section
variable [tk:TheK]{v:Ev}{N:List Str}
theorem _root_.L3.Here.vR(k:Nat)(C:js)(d:DR)(h:Here tk.K v.mg x st ps)(S:FnScope N ps (za0 st))(hb:zpS tk v.P v.w v.mg v.base k x st N C d)(hN:ps.length<=N.length:=by decide):ClR v (k+1) x ps (spR C ps.length (fnR N.length d)):=h.qR S hb hN
theorem _root_.L3.Here.vI0(k:Nat)(M':List Nat)(d:DS)(h:Here tk.K v.mg x st ps)(S:FnScope N ps (za0 st))
  (hb:∀(f:js) (cdv:j8) (A:Qg) (outer:List Env) (s:jc) (H:Hp) (E:XK),Room k (A.deeper (Zp x (za0 st) s.heap.objs.size f cdv))->A.frames=some outer->
   zpT (zhr CX0 v.P v.w tk.K v.mg v.base N x (za0 st) f cdv A outer s H E) (zar st) (cS .e [0] [0] M' [] d)) (hN:ps.length<=N.length:=by decide):Cl v (k+1) x ps (spI .e ps.length (fnI N.length d)):=h.okI0 S hb hN
end
section
variable {h:QL}
theorem zoE{l:Ye}{w:Qf}{fa:js}{N:List Str}{p:Str}{k:Nat}{d:DS}{M' Mb:List Nat}(X:K.In h)(G:h.Ns jO mg)(hfa:mg "law"=some (.ref fa))(a:Fd K "law" st)(sc:FnScope N [p] (za0 st))
  (hbt:∀(kV dc pm:j8) (an:Option js) (cd ct v:j8),Ya (jX "law" "law" (zbi st) (zar st) (za0 st) .none kV dc pm an cd ct) ⟨[v],[]⟩=pure [(p,v)]) (hN:1<=N.length)
  (hd:∀ ns:List Int,fnP N.length d [.scr ns]=some (.bl true)) (hb:∀ base:QL,K.In base->base.Ns jO mg->QBody ⟨K⟩ l.prog w mg base k "law" st N (@cS ⟨K⟩ .e [] [] M' Mb d)) :
  ∃ fd:Z5,(∀(s:jc) (v:j8),W2 s fd ⟨[v],[]⟩ [(p,v)])/\∀ base:QL,K.In base->base.Ns jO mg->FnOk l.prog w K mg base CX0 (k+1) fa fd [p] (zlp K):=by
 obtain⟨f,oc,od,sl,kV,dc,pm,an,cd,ct,a,ll,c,kk⟩:=a;have e:=hfa.symm.trans (Wu X G a);cases e;exact⟨jX "law" "law" (zbi st) (zar st) (za0 st) .none kV dc pm an cd ct,fun s v=>.of_eq (hbt kV dc pm an cd ct v),fun base KB GB=>zwa (tk:=⟨K⟩) (zpE (st:=st) ll c kk) sc (hb base KB GB) hN fun ns _=>hd ns⟩
end
theorem vdV(i:Nat)(s:Sg):dV i s=(s[i]?).join.map fun t=>(t,s):=rfl
theorem vdC(t:T)(s:Sg):dC t s=some (t,s):=rfl
theorem vd2(g:T->T->Option T)(fa fb:DE)(s:Sg):d2 g fa fb s=(fa s).bind fun p=>(fb p.2).bind fun q=>(g p.1 q.1).map fun t=>(t,q.2):=rfl
theorem zxn(g:T->T->Option T)(i:Nat)(fb:DE)(s:Sg):d2v g i fb s=(s[i]?).join.bind fun _=>(fb s).bind fun q=>(q.2[i]?).join.bind fun x=>(g x q.1).map fun t=>(t,q.2):=rfl
theorem vdB(f:DE)(s:Sg):dB f s=(f s).bind fun p=>match p.1 with
 |.bl b=>some (b,p.2)
 |_=>none:=rfl
theorem zuR(f:DE)(s:Sg):zlW f s=(f s).bind fun p=>(tru p.1).map fun b=>(b,p.2):=rfl
theorem zv6(f g:DT)(s:Sg):zpK f g s=(f s).bind fun p=>if p.1 then g p.2 else some (false,p.2):=rfl
theorem zxd(f g:DT)(s:Sg):dOr f g s=(f s).bind fun p=>if p.1 then some (true,p.2) else g p.2:=rfl
theorem zuZ(f:DT)(s:Sg):zpI f s=(f s).map fun p=>(!p.1,p.2):=rfl
theorem zsf(f g:DE)(s:Sg):zlZ f g s=(dB f s).bind fun p=>if p.1 then g p.2 else some (.bl false,p.2):=rfl
theorem zsa(f:DE)(s:Sg):zry f s=(dB f s).map fun p=>(.bl (!p.1),p.2):=rfl
theorem zxg(c:DT)(f g:DE)(s:Sg):dIf c f g s=(c s).bind fun p=>if p.1 then f p.2 else g p.2:=rfl
theorem zxl(s:Sg):dAn  s=some ([],s):=rfl
theorem zxm(f:DE)(g:DA)(s:Sg):dAc f g s=(f s).bind fun p=>(g p.2).map fun q=>(p.1::q.1,q.2):=rfl
theorem zv1(f:DA)(s:Sg):zeT f s=(f s).bind fun p=>if p.1.length<=jr then some (.lst p.1,p.2) else none:=rfl
theorem zuQ(f:DA)(s:Sg):zjj f s=(f s).bind fun p=>if p.1.length<=jr then some (.tup p.1,p.2) else none:=rfl
theorem zsc(s:Sg):zkr  s=some (.dct [],s):=rfl
theorem zxe(s:Sg):dOn  s=some (none,s):=rfl
theorem zxc(f:DE)(s:Sg):dOs f s=(f s).bind fun p=>match p.1 with
 |.int i=>some (some i,p.2)
 |_=>none:=rfl
theorem zxb(g:T->Option Int->Option Int->Option T)(f:DE)(l h:DO)(s:Sg):dSl g f l h s=(f s).bind fun p=>(l p.2).bind fun q=>(h q.2).bind fun r=>(g p.1 q.1 r.1).map fun t=>(t,r.2):=rfl
theorem zuS(g:T->Option Int->Option Int->Option T)(i:Nat)(l h:DO)(s:Sg):zuF g i l h s=(s[i]?).join.bind fun _=>(l s).bind fun q=>(h q.2).bind fun r=>(r.2[i]?).join.bind fun x=>(g x q.1 r.1).map fun t=>(t,r.2):=rfl
theorem zuU(f g:DS)(s:Sg):zai f g s=(f s).bind fun r=>match r with
 |.nx s'=>g s'
 |r=>some r:=rfl
theorem zsb(s:Sg):zaH  s=some (.nx s):=rfl
theorem zuT(i:Nat)(f:DE)(s:Sg):zaF i f s=(f s).bind fun p=>if i < p.2.length then some (.nx (p.2.set i (some p.1))) else none:=rfl
theorem zv4(c:DT)(f g:DS)(s:Sg):zcY c f g s=(c s).bind fun p=>if p.1 then f p.2 else g p.2:=rfl
theorem zxk(f:DE)(s:Sg):dDo f s=(f s).map fun p=>.nx p.2:=rfl
theorem zs9(io:List Nat)(f:DE)(s:Sg):zal io f s=(f s).bind fun p=>if hasAll io p.2 then some (.rt p.1 p.2) else none:=rfl
theorem zv0(g:T->List T->Option (T × T))(i:Nat)(fa:DA)(s:Sg):zhq g i fa s=(s[i]?).join.bind fun t0=>if znn t0 then (fa s).bind fun p=>(p.2[i]?).join.bind fun t=>(g t p.1).map fun q=>(q.2,p.2.set i (some q.1)) else none:=rfl
theorem zuY(i:Nat)(fk fv:DE)(s:Sg):zoU i fk fv s=(fv s).bind fun p=>(p.2[i]?).join.bind fun _=>(fk p.2).bind fun q=>(q.2[i]?).join.bind fun t=>match t with
 |.dct kvs=>(zgX q.1).bind fun k=>if kvs.length < jr then some (.nx (q.2.set i (some (.dct (zf6 kvs k p.1))))) else none
 |_=>none:=rfl
theorem zs6(i:Nat)(fk fv:DE)(s:Sg):zjk i fk fv s=(fv s).bind fun p=>(p.2[i]?).join.bind fun _=>(fk p.2).bind fun q=>(q.2[i]?).join.bind fun t=>match t,q.1 with
 |.lst xs,.int k=>(ixN xs.length k).map fun j=>.nx (q.2.set i (some (.lst (xs.set j p.1))))
 |_,_=>none:=rfl
theorem zxa(is:List Nat)(f:DE)(s:Sg):dUn is f s=(f s).bind fun p=>(zkX p.1).bind fun ts=>(zbC is ts p.2).map .nx:=rfl
theorem zuW(f:DA)(s:Sg):znJ f s=(f s).bind fun p=>match p.1 with
 |[.int j]=>if zgk j=true then some (zaU 0 j.toNat,p.2) else none
 |_=>none:=rfl
theorem zuV(f:DA)(s:Sg):zuG f s=(f s).bind fun p=>match p.1 with
 |[.int i,.int j]=>if zgk i=true/\zgk j=true then some (zaU i (j - i).toNat,p.2) else none
 |_=>none:=rfl
theorem zxj(f:DA)(s:Sg):dEn f s=(f s).bind fun p=>match p.1 with
 |[.lst xs]=>some (zfj xs,p.2)
 |_=>none:=rfl
theorem zxi(i:Nat)(t:T)(s:Sg):dGn i t s=if i < s.length then some (s.set i (some t)) else none:=rfl
theorem zxh(is:List Nat)(t:T)(s:Sg):dGt is t s=match t with
 |.tup ts=>zbC is ts s
 |_=>none:=rfl
theorem zsd(fn:List T->Option T)(fa:DA)(s:Sg):zaj fn fa s=(fa s).bind fun p=>(fn p.1).map fun t=>(t,p.2):=rfl
theorem zpY(fn:List T->Option (T × T))(i:Nat)(fa:DA)(s:Sg):zeU fn i fa s=(s[i]?).join.bind fun _=>(fa s).bind fun p=>(p.2[i]?).join.bind fun t0=>(fn (t0::p.1)).map fun q=>(q.1,p.2.set i (some q.2)):=rfl
theorem zpX(fn:List T->Option (T × T))(f0:DE)(fa:DA)(s:Sg):zgL fn f0 fa s=(f0 s).bind fun p=>(fa p.2).bind fun q=>(fn (p.1::q.1)).map fun r=>(r.1,q.2):=rfl
theorem vd1(g:T->Option T)(f:DE)(s:Sg):d1 g f s=(f s).bind fun p=>(g p.1).map fun t=>(t,p.2):=rfl
theorem zxo(g:T->T->Option T)(fa fb:DE)(s:Sg):d2L g fa fb s=(fa s).bind fun p=>if znn p.1 then (fb p.2).bind fun q=>(g p.1 q.1).map fun t=>(t,q.2) else none:=rfl
theorem zv2(f:DE)(s:Sg):zcs f s=(f s).bind fun p=>match p.1 with
 |.lst xs=>some (xs,p.2)
 |.scr ns=>some (ns.map .int,p.2)
 |.tup xs=>some (xs,p.2)
 |.fd kvs=>some (kvs.map fun kv=>kT kv.1,p.2)
 |.str x=>some (x.cps.toList.map zlq,p.2)
 |_=>none:=rfl
theorem zuX(f:DE)(k:DO)(s:Sg):zww f k s=(f s).bind fun p=>(k p.2).bind fun q=>if q.1=some (-1) then (zuD p.1).map fun t=>(t,q.2) else none:=rfl
theorem zxf(f:DA)(s:Sg):dLR f s=(f s).bind fun p=>match p.1 with
 |[.int j]=>if zgk j=true then some (.lst (zaU 0 j.toNat),p.2) else none
 |_=>none:=rfl
theorem zv5(i:Nat)(d:DS)(s:Sg):zrA i d s=match (s[i]?).join with
 |some (.dct kvs)=>d (s.set i (some (.fd kvs)))
 |_=>none:=rfl
theorem zpZ(fn:List T->Option T)(i:Nat)(fa:DA)(s:Sg):zjl fn i fa s=(s[i]?).join.bind fun _=>(fa s).bind fun p=>(p.2[i]?).join.bind fun t0=>(fn (t0::p.1)).bind fun t=>if zj9 t=true then some (t,p.2) else none:=rfl
theorem zs7(s:Sg):zrw  s=some (.set (fun _=>false) 0,s):=rfl
theorem zs8(i:Nat)(fe:DE)(s:Sg):zrx i fe s=(s[i]?).join.bind fun t0=>match t0 with
 |.set _ _=>(fe s).bind fun p=>(p.2[i]?).join.bind fun t1=>match p.1,t1 with
  |.int k,.set S n=>if n < 1000 then some (.non,p.2.set i (some (.set (fun j=>S j||decide (j=k)) (if S k then n else n+1)))) else none
  |_,_=>none
 |_=>none:=rfl
theorem zoa(fn:List T->Option T)(i:Nat)(f0:DE)(fa:DA)(s:Sg):zgM fn i f0 fa s=(f0 s).bind fun p=>(p.2[i]?).join.bind fun _=>(fa p.2).bind fun q=>(q.2[i]?).join.bind fun t0=>(fn (p.1::t0::q.1)).bind fun t=>if zj9 t=true then some (t,q.2) else none:=rfl
theorem zuO(f:DA)(s:Sg):zuE f s=(f s).bind fun p=>match p.1 with
 |[.lst xs,.lst ys]=>some (zpV xs ys,p.2)
 |_=>none:=rfl
theorem zse(i:Nat)(fk:DE)(b:Int)(s:Sg):zlY i fk b s=(s[i]?).join.bind fun _=>(fk s).bind fun q=>(q.2[i]?).join.bind fun t=>match t,q.1 with
 |.lst xs,.int k=>(ixN xs.length k).bind fun j=>(xs[j]?).bind fun x=>match x with
  |.int a=>some (.nx (q.2.set i (some (.lst (xs.set j (.int (a+b)))))))
  |_=>none
 |_,_=>none:=rfl
theorem zv3(c:String)(f:DE)(s:Sg):zpJ c f s=(f s).bind fun p=>((isi c p.1).map T.bl).map fun t=>(t,p.2):=rfl
theorem zuP(s:Sg):zfL s=some (true,s):=rfl
def nT(k:Nat):T:=.int (k:Int)
theorem vnT(k:Nat):nT k=.int (k:Int):=rfl
theorem zsh(i j:Int):zat (.int i) (.int j)=some (.int (i+j)):=rfl
theorem zma{a b:List T}(h:a.length+b.length<=1000000):zat (.lst a) (.lst b)=some (.lst (a++b)):=by
 have q:a.length+b.length<=jr:=zc2 h;simp only[zat,orG,zro,zoJ,q,if_true]
theorem zvk{a b:List T}(h:a.length+b.length<=1000000):zoJ (.lst a) (.lst b)=some (.lst (a++b)):=by
 have q:a.length+b.length<=jr:=zc2 h;simp only[zoJ,q,if_true]
theorem zsg{a b:Str}(h:a.length+b.length<=1000000):zat (.str a) (.str b)=some (.str (a++b)):=by
 have q:a.length+b.length<=jr:=zc2 h;simp only[zat,orG,zro,q,if_true]
theorem vSb(i j:Int):gSb (.int i) (.int j)=some (.int (i - j)):=rfl
theorem zxt{i j:Int}(h:-1000000000000<=i/\i<=1000000000000∨-1000000000000<=j/\j<=1000000000000):zeO (.int i) (.int j)=some (.int (i*j)):=by
 have:zpO i j=true:=by unfold zpO; rw[Zc,decide_eq_true_iff,decide_eq_true_iff]; lia
 simp only[zeO,gI,this,if_true]
theorem zxB{i j:Int}(h:0 < j/\j<=1000000000):zgD (.int i) (.int j)=some (.int (i / j)):=by
 have:zuI i j=true:=Dt_ (by lia)
 simp only[zgD,gI,this,if_true]
theorem zxu{i j:Int}(h:0 < j):zed (.int i) (.int j)=some (.int (i%j)):=by
 have:zuH i j=true:=Dt_ h;simp only[zed,gI,this,if_true]
theorem zxp(i:Int):zm5 (.int i)=some (.int (-i)):=rfl
theorem vLt(i j:Int):gLt (.int i) (.int j)=some (.bl (decide (i < j))):=rfl
theorem vLe(i j:Int):gLe (.int i) (.int j)=some (.bl (decide (i<=j))):=rfl
theorem vGt(i j:Int):gGt (.int i) (.int j)=some (.bl (decide (j < i))):=rfl
theorem vGe(i j:Int):gGe (.int i) (.int j)=some (.bl (decide (j<=i))):=rfl
theorem zxz(i j:Int):gEq (.int i) (.int j)=some (.bl (decide (i=j))):=by simp only[gEq,zkm,jR]; rfl
theorem zxr(i j:Int):gNe (.int i) (.int j)=some (.bl (!decide (i=j))):=by simp only[gNe,zkm,jR]; rfl
theorem zxA(i j:Bool):gEq (.bl i) (.bl j)=some (.bl (i == j)):=by simp only[gEq,zpG,jR]
theorem zxs(i j:Bool):gNe (.bl i) (.bl j)=some (.bl (!(i == j))):=by simp only[gNe,zpG,jR]
theorem zxy(i j:Str):gEq (.str i) (.str j)=some (.bl (decide (i=j))):=by
 simp only[gEq,zkl,jR]
 by_cases h:i=j<;>simp[h]
theorem zxq(i j:Str):gNe (.str i) (.str j)=some (.bl (!decide (i=j))):=by
 simp only[gNe,zkl,jR]
 by_cases h:i=j<;>simp[h]
theorem zvj(xs ys:List Str):gEq (.lst (xs.map T.str)) (.lst (ys.map T.str))=some (.bl (decide (xs=ys))):=by simp only[gEq,zl6,jR]
theorem zve(xs ys:List Str):gNe (.lst (xs.map T.str)) (.lst (ys.map T.str))=some (.bl (!decide (xs=ys))):=by simp only[gNe,zl6,jR]
theorem zl7{n:Nat}(xs ys:List Nat):eqD (n+1) (.lst (xs.map nT)) (.lst (ys.map nT))=some (decide (xs=ys)):=znE (fun a b=>by
 rw[vnT,vnT,zkm]; refine congrArg some ?_
 by_cases h:a=b
 ·subst h; simp
 ·rw[Df_ h]; simp; lia) xs ys
theorem zsl(xs ys:List Nat):gEq (.lst (xs.map nT)) (.lst (ys.map nT))=some (.bl (decide (xs=ys))):=by simp only[gEq,zl7,jR]
theorem zvf(xs ys:List Nat):gNe (.lst (xs.map nT)) (.lst (ys.map nT))=some (.bl (!decide (xs=ys))):=by simp only[gNe,zl7,jR]
theorem zq2(xs:List T):zdo (.lst xs)=some (.int xs.length):=rfl
theorem zvg(xs:List T):zdo (.tup xs)=some (.int xs.length):=rfl
theorem zvi(xs:List (Key × T)):zdo (.dct xs)=some (.int xs.length):=rfl
theorem zvh(xs:List Int):zdo (.scr xs)=some (.int xs.length):=rfl
theorem zlj{α:Type}(xs:List α)(k:Nat):atI xs (k:Int)=xs[k]?:=by
 unfold atI ixN;rw[Ip_ (by lia)]
 split
 ·simp
 ·rename_i h;rw[Option.bind_none,eq_comm,YC]; lia
theorem zfq(xs:List T)(k:Nat):za7 (.lst xs) (.int (k:Int))=xs[k]?:=by
 have:za7 (.lst xs) (.int (k:Int))=orG gIx zrm (.lst xs) (.int (k:Int)):=rfl;rw[this]; unfold orG;have e:gIx (.lst xs) (.int (k:Int))=xs[k]?:=by show atI xs (k:Int)=_; exact zlj xs k
 rw[e];cases xs[k]?<;>rfl
theorem zsk(xs:List T)(k:Nat):za7 (.tup xs) (.int (k:Int))=xs[k]?:=by
 have:za7 (.tup xs) (.int (k:Int))=orG gIx zrm (.tup xs) (.int (k:Int)):=rfl;rw[this]; unfold orG;have e:gIx (.tup xs) (.int (k:Int))=xs[k]?:=by show atI xs (k:Int)=_; exact zlj xs k
 rw[e];cases xs[k]?<;>rfl
theorem zmb(kvs:List (Key × T))(x:Str):za7 (.dct kvs) (.str x)=zaM kvs (.inr x):=by
 show (match (none:Option T) with |some t=>some t |none=>_)=_
 rfl
theorem zq4(kvs:List (Key × T))(x:Int):za7 (.dct kvs) (.int x)=zaM kvs (.inl x):=rfl
theorem zvd(b:Bool):tru (.bl b)=some b:=rfl
theorem zvb(xs:List T):tru (.lst xs)=some (!xs.isEmpty):=rfl
theorem zvc(i:Int):tru (.int i)=some (i != 0):=rfl
theorem zsj(xs:List T):zbZ (.lst xs)=some (.lst xs):=rfl
theorem zsi(xs:List T):zbZ (.tup xs)=some (.lst xs):=rfl
theorem zsm{xs:List Str}(x:Str)(h:xs.length<=1000000):zk4 (.lst (xs.map T.str)) [.str x]=some (.lst ((xs++[x]).map T.str),.non):=by
 have q:(xs.map T.str).length < jr:=zc1 (by rw[j6]; exact h)
 simp only[zk4,q,if_true,jF,jt,Zz]
theorem zvl{xs:List Nat}(x:Nat)(h:xs.length<=1000000):zk4 (.lst (xs.map nT)) [.int (x:Int)]=some (.lst ((xs++[x]).map nT),.non):=by
 have q:(xs.map nT).length < jr:=zc1 (by rw[j6]; exact h)
 simp only[zk4,q,if_true,jF,jt,Zz,vnT]
theorem zmc{xs:List T}(x:T)(h:xs.length<=1000000):zk4 (.lst xs) [x]=some (.lst (xs++[x]),.non):=by
 have q:xs.length < jr:=zc1 h;simp only[zk4,q,if_true]
theorem zq0(x:Str)(xs:List Str):zaC (.str x) (.lst (xs.map T.str))=some (.bl (!decide (x∈xs))):=by
 simp only[zaC,orG,zj6,zrl,toV,zg6,j9,jR,zkZ]
theorem zxv(x:Str)(xs:List Str):ztV (.str x) (.lst (xs.map T.str))=some (.bl (decide (x∈xs))):=by
 simp only[ztV,orG,gIn,zrl,toV,zg6,j9,jR,zkZ]
theorem ziB(xs:List Nat):zkB (xs.map nT)=some (xs.map fun(k:Nat)=>V.int (k:Int)):=by
 induction xs with
 |nil=>rfl
 |cons x xs ih=>rw[jt]; unfold zkB; rw[ih]; rfl
theorem zl0(x:Nat)(xs:List Nat):inV (.int (x:Int)) (xs.map fun(k:Nat)=>V.int (k:Int))=decide (x∈xs):=by
 unfold inV;rw[J1,Zd,Ng,decide_eq_true_iff];constructor
 ·rintro⟨y,hy,e⟩;have:(y:Int)=x:=by simpa[eqV] using e
  have:y=x:=by lia
  exact this▸hy
 ·intro h;exact⟨x,h,by simp[eqV]⟩
theorem zxw(x:Nat)(xs:List Nat):ztV (.int (x:Int)) (.lst (xs.map nT))=some (.bl (decide (x∈xs))):=by
 simp only[ztV,orG,gIn,zrl,toV,ziB,j9,jR,zl0]
theorem zjE(x:Nat)(xs:List Nat):zaC (.int (x:Int)) (.lst (xs.map nT))=some (.bl (!decide (x∈xs))):=by
 simp only[zaC,orG,zj6,zrl,toV,ziB,j9,jR,zl0]
theorem zxx(x:Str)(kvs:List (Key × T)):ztV (.str x) (.dct kvs)=some (.bl (zaM kvs (.inr x)).isSome):=rfl
theorem zq1(x:Str)(kvs:List (Key × T)):zaC (.str x) (.dct kvs)=some (.bl (!(zaM kvs (.inr x)).isSome)):=rfl
theorem zq5(x:Str)(xs:List Str):zho (.lst (xs.map T.str)) (.str x)=some (.int (xs.count x:Nat)):=by
 simp only[zho,zg6,toV,j9,jR,zkv]
theorem zs2(xs:List T):isi "list" (.lst xs)=some true:=by simp[isi]
theorem zs3(i:Int):isi "int" (.int i)=some true:=by simp[isi]
theorem zs4(i:Int):isi "bool" (.int i)=some false:=by simp[isi]
theorem zs5(b:Bool):isi "bool" (.bl b)=some true:=by simp[isi]
theorem zs0(xs:List T):isi "tuple" (.tup xs)=some true:=by simp[isi]
theorem zs1(x:Str):isi "str" (.str x)=some true:=by simp[isi]
theorem zlO(s:Sg):hasAll [] s=true:=rfl
theorem zlh(bs:List Bool):zpN (bs.map T.bl)=some bs:=by
 induction bs with
 |nil=>rfl
 |cons b bs ih=>rw[jt]; unfold zpN; rw[ih]; rfl
theorem zvn(bs:List Bool):zrU (.lst (bs.map T.bl))=some (.bl (bs.all id)):=by simp only[zrU,zlh,jR]
theorem zvm(bs:List Bool):zx4 (.lst (bs.map T.bl))=some (.bl (bs.any id)):=by simp only[zx4,zlh,jR]
theorem znm(xs:List T):znn (.lst xs)=true:=rfl
theorem sz0:0<=jr:=QV _
theorem sz1:1<=jr:=zc2 (by lia)
theorem sz2:2<=jr:=zc2 (by lia)
theorem sz3:3<=jr:=zc2 (by lia)
theorem sz4:4<=jr:=zc2 (by lia)
theorem rgN{k:Nat}(h:k<=2000):zgk (k:Int)=true:=zej (by lia) (by lia)
theorem zj2{α:Type}{M:List Nat}{caps:List (Option Nat)}{fi:DI}{dg:DG}{ft:DT}{fe:DE}{s:Sg}(xs:List α)(enc:α->T)(b:α->Bool)(e:α->T)(hi:fi s=some (xs.map enc,s))(hl:xs.length<=1000000)
  (h:∀ x∈xs,∃ s1,dg (enc x) (zjB caps s)=some s1/\ft s1=some (b x,s1)/\(b x=true->fe s1=some (e x,s1))/\zax M caps s1 s=s):dLC M caps fi dg ft fe s=some (.lst ((xs.filter b).map e),s):=by
 have key:∀(ys:List α) (acc:List T),(∀ y∈ys,y∈xs)->zpv M caps dg ft fe (ys.map enc) acc s=some (acc++(ys.filter b).map e,s):=by
  intro ys
  induction ys with
  |nil=>intro acc _; unfold zpv; simp
  |cons y ys ih=>
   intro acc hy;obtain⟨s1,h1,h2,h3,h4⟩:=h y (hy y jT);rw[jt];unfold zpv;rw[h1,j9,h2,j9];have ih':=fun acc=>ih acc fun z hz=>hy z (jw _ hz);cases hb:b y with
   |true=>rw[Ip_ rfl,h3 hb,j9,h4,ih',Zg,Ip_ hb,jt,Qn]; rfl
   |false=>rw[In_ jJ,h4,ih',Zg,In_ (by rw[hb]; exact jJ)]
 unfold dLC;rw[hi,j9];have q:(xs.map enc).length<=zfJ:=zr3 (by rw[j6]; exact hl)
 rw[Ip_ q,key xs [] (fun _ h=>h),jR];rfl
theorem zbS{α:Type}{M:List Nat}{caps:List (Option Nat)}{fi:DI}{dg:DG}{fe:DE}{s:Sg}(xs:List α)(enc:α->T)(e:α->T)(hi:fi s=some (xs.map enc,s))(hl:xs.length<=1000000)
  (h:∀ x∈xs,∃ s1,dg (enc x) (zjB caps s)=some s1/\fe s1=some (e x,s1)/\zax M caps s1 s=s):dLC M caps fi dg zfL fe s=some (.lst (xs.map e),s):=by
 have:=zj2 (M:=M) (caps:=caps) (fi:=fi) (dg:=dg) (ft:=zfL) (fe:=fe) (s:=s) xs enc (fun _=>true) e hi hl fun x hx=>by
  obtain⟨s1,h1,h2,h3⟩:=h x hx;exact⟨s1,h1,rfl,fun _=>h2,h3⟩
 rw[this,List.filter_eq_self.mpr (fun _ _=>rfl)]
theorem zhS{kvs:List (Key × T)}{k:Key}(t:T)(h:k∉kvs.map (·.1)):zf6 kvs k t=kvs++[(k,t)]:=by
 unfold zf6;rw[In_];intro z;obtain⟨kv,h1,h2⟩:=Ng.mp z;exact h (jA.mpr ⟨kv,h1,of_decide_eq_true h2⟩)
theorem zu7{α:Type}{M:List Nat}{caps:List (Option Nat)}{fi:DI}{dg:DG}{fk fe:DE}{s:Sg}(xs:List α)(enc:α->T)(k:α->T)(kk:α->Key)(e:α->T)(hi:fi s=some (xs.map enc,s))(hl:xs.length<=1000000)(hn:(xs.map kk).Nodup)
  (h:∀ x∈xs,∃ s1,dg (enc x) (zjB caps s)=some s1/\fk s1=some (k x,s1)/\zgX (k x)=some (kk x)/\fe s1=some (e x,s1)/\zax M caps s1 s=s):dDC M caps fi dg zfL fk fe s=some (.dct (xs.map fun x=>(kk x,e x)),s):=by
 have key:∀(ys:List α) (zs:List α),zs++ys=xs->zo4 M caps dg zfL fk fe (ys.map enc) (zs.map fun x=>(kk x,e x)) s=some (xs.map (fun x=>(kk x,e x)),s):=by
  intro ys
  induction ys with
  |nil=>intro zs hz; rw[Qt] at hz; subst hz; unfold zo4; rfl
  |cons y ys ih=>
   intro zs hz;obtain⟨s1,h1,h2,h3,h4,h5⟩:=h y (by rw[<-hz]; simp)
   rw[jt];unfold zo4;have hk:kk y∉(zs.map fun x=>(kk x,e x)).map (·.1):=by
    rw[jY];intro hm;rw[<-hz,jF,jP] at hn;obtain⟨x,hx,hxe⟩:=jA.mp hm;exact hn.2.2 (kk x) (jA.mpr ⟨x,hx,rfl⟩) (kk y) (by simp) hxe
   rw[h1,j9];simp only[zfL,j9,if_true,h2,h3,h4,h5,zhS _ hk];have:=ih (zs++[y]) (by rw[<-hz]; simp)
   rw[jF] at this;exact this
 unfold dDC;rw[hi,j9];have q:(xs.map enc).length<=zfJ:=zr3 (by rw[j6]; exact hl)
 have k0:=key xs [] rfl;rw[Zz] at k0;rw[Ip_ q,k0,jR]
theorem zdV{α:Type}(xs:List α)(kk:α->Key)(e:α->T)(k:Key):zaM (xs.map fun x=>(kk x,e x)) k=(xs.find? fun x=>decide (kk x=k)).map e:=by
 unfold zaM;rw[List.find?_map,Option.map_map];rfl
theorem zl8{α:Type}(xs:List α)(enc:α->T):zfj (xs.map enc)=xs.zipIdx.map fun p=>T.tup [.int (p.2:Nat),enc p.1]:=by
 unfold zfj;refine gh (by simp) fun i h1 h2=>?_
 have hi:i < xs.length:=by simpa using h2
 rw[Zi,QN,Zi,List.getElem_zipIdx,jy,jg,j3 hi];simp
theorem zfT(m:Nat):zaU 0 m=(j5 m).map nT:=by
 unfold zaU;refine QY fun i _=>?_;rw[Nu]; rfl
theorem za5{f g:DS}{s s':Sg}{Q:Fl->Prop}(h:f s=some (.nx s'))(k:Run g s' Q):Run (zai f g) s Q:=zgi h k
theorem zhd{f g:DS}{s s':Sg}{t:T}{Q:Fl->Prop}(h:f s=some (.rt t s'))(k:Q (.rt t s')):Run (zai f g) s Q:=⟨_,zpg h,k⟩
theorem zc0{n:Nat}{d:DS}{ts:List T}{t:T}(h:Run d (zaO n ts) fun r=>∃ s,r=.rt t s):fnP n d ts=some t:=by
 obtain⟨r,h1,s,rfl⟩:=h;exact znw h1
theorem zi9{n:Nat}{d:DS}{ts:List T}{t:T}(h:Run d (zaO n ts) fun r=>∃ s,r=.rt t s):zo2 n d ts=some t:=by
 obtain⟨r,h1,s,rfl⟩:=h;exact znv h1
theorem zb5{d:DS}{s s':Sg}{t t':T}(h:d s=some (.rt t' s'))(k:t'=t):Run d s fun r=>∃ s,r=.rt t s:=⟨_,h,s',by rw[k]⟩
theorem zv9(s:Sg):zjB [] s=[]:=rfl
theorem zv8(cs:List (Option Nat))(s:Sg):zjB (none::cs) s=none::zjB cs s:=rfl
theorem zv7(j:Nat)(cs:List (Option Nat))(s:Sg):zjB (some j::cs) s=(s[j]?).join::zjB cs s:=rfl
theorem zfR{f g:DS}{s s':Sg}{t t':T}(h:f s=some (.rt t' s'))(k:t'=t):Run (zai f g) s fun r=>∃ s,r=.rt t s:=⟨_,zpg h,s',by rw[k]⟩
theorem zam{d:DS}{s s':Sg}{P:Sg->Prop}(h:d s=some (.nx s'))(k:P s'):Run d s (zuq P):=⟨_,h,k⟩
def znY(P:Sg->Prop)(Q:Fl->Prop):Fl->Prop
 |.nx s=>P s
 |.ct s=>P s
 |.rt t s=>Q (.rt t s)
 |.bk _=>False
theorem znd{g:DG}{db:DS}{Q:Fl->Prop}(I:Nat->Sg->Prop):∀(xs:List T) (i:Nat) (s:Sg),I i s->(∀ j x s,xs[j]?=some x->I (i+j) s->∃ s1,g x s=some s1/\Run db s1 (znY (I (i+j+1)) Q))->
  (∃ s',zdn g db xs s=some (.nx s')/\I (i+xs.length) s')∨∃ t s',zdn g db xs s=some (.rt t s')/\Q (.rt t s')
 |[],i,s,h0,_=>.inl ⟨s,by unfold zdn; rfl,h0⟩
 |x::xs,i,s,h0,h=>by
  obtain⟨s1,h1,r,h2,h3⟩:=h 0 x s rfl h0;have next:∀ s2,I (i+0+1) s2->(∃ s',zdn g db xs s2=some (.nx s')/\I (i+(xs.length+1)) s')∨∃ t s',zdn g db xs s2=some (.rt t s')/\Q (.rt t s'):=fun s2 q=>by
   have:=znd I xs (i+1) s2 q fun j y s e q'=>by
    have z:=h (j+1) y s (by simpa using e)
    rw[show i+(j+1)=i+1+j by lia] at z
    exact z q'
   rw[show i+(xs.length+1)=i+1+xs.length by lia]
   exact this
  rw[jp];cases r with
  |nx s2=>unfold zdn; rw[h1,j9,h2,j9]; exact next s2 h3
  |ct s2=>unfold zdn; rw[h1,j9,h2,j9]; exact next s2 h3
  |bk s2=>exact h3.elim
  |rt t s2=>exact .inr ⟨t,s2,by unfold zdn; rw[h1,j9,h2]; rfl,h3⟩
theorem zhK{fi:DI}{g:DG}{db d:DS}{s s1:Sg}{its:List T}{Q:Fl->Prop}(I:Nat->Sg->Prop)(h:fi s=some (its,s1))(h0:I 0 s1)
  (hs:∀ j x s,its[j]?=some x->I j s->∃ s1,g x s=some s1/\Run db s1 (znY (I (j+1)) Q)) (k:∀ s',I its.length s'->Run d s' Q):Run (zai (zew fi g db) d) s Q:=by
 rcases znd (g:=g) (db:=db) (Q:=Q) I its 0 s1 h0 (fun j x s e q=>by rw[Z4] at q ⊢; exact hs j x s e q) with ⟨s',h1,h2⟩ |⟨t,s',h1,h2⟩
 ·rw[Z4] at h2;exact zgi (zl2 h h1) (k s' h2)
 ·refine⟨.rt t s',?_,h2⟩;unfold zai zew;rw[h,j9,h1];rfl
theorem zeG{fi:DI}{g:DG}{db:DS}{s s1:Sg}{its:List T}{Q:Fl->Prop}(I:Nat->Sg->Prop)(h:fi s=some (its,s1))(h0:I 0 s1)
  (hs:∀ j x s,its[j]?=some x->I j s->∃ s1,g x s=some s1/\Run db s1 (znY (I (j+1)) Q)) (k:∀ s',I its.length s'->Q (.nx s')):Run (zew fi g db) s Q:=by
 rcases znd (g:=g) (db:=db) (Q:=Q) I its 0 s1 h0 (fun j x s e q=>by rw[Z4] at q ⊢; exact hs j x s e q) with ⟨s',h1,h2⟩ |⟨t,s',h1,h2⟩
 ·rw[Z4] at h2;exact⟨_,zl2 h h1,k s' h2⟩
 ·refine⟨.rt t s',?_,h2⟩;unfold zew;rw[h,j9,h1]
theorem zgr{d:DS}{s s':Sg}{P:Sg->Prop}{Q:Fl->Prop}(h:d s=some (.nx s'))(k:P s'):Run d s (znY P Q):=⟨_,h,k⟩
theorem zjV{d:DS}{s s':Sg}{P:Sg->Prop}{Q:Fl->Prop}{t:T}(h:d s=some (.rt t s'))(k:Q (.rt t s')):Run d s (znY P Q):=⟨_,h,k⟩
theorem zuN(c:Nat):zlq c=.str ⟨#[c]⟩:=rfl
end L3
namespace Dw
open PySem PySem.Spec PyProof.Rows L2 L3
theorem zkT(x:Str):∀(wd acc:List Str),x∈wd.foldl stp acc↔x∈acc∨x∈wd
 |[],acc=>by simp
 |y::wd,acc=>by
  rw[Zv,zkT x wd,jv];unfold stp;split
  ·rename_i h;constructor
   ·rintro(q |q)
    ·exact .inl q
    ·exact .inr (.inr q)
   ·rintro(q |q |q)
    ·exact .inl q
    ·exact .inl (q▸h)
    ·exact .inr q
  ·rw[ju,je];constructor
   ·rintro((q |q) |q)
    ·exact .inl q
    ·exact .inr (.inl q)
    ·exact .inr (.inr q)
   ·rintro(q |q |q)
    ·exact .inl (.inl q)
    ·exact .inl (.inr q)
    ·exact .inr q
theorem mem_firsts{x:Str}{wd:List Str}:x∈za1 wd↔x∈wd:=by unfold za1; rw[zkT]; simp
theorem zhj:∀(wd acc:List Str),acc.Nodup->(wd.foldl stp acc).Nodup
 |[],acc,h=>h
 |y::wd,acc,h=>by
  rw[Zv];refine zhj wd _ ?_;unfold stp;split
  ·exact h
  ·rename_i q;rw[jP];exact⟨h,by simp,fun a ha b hb e=>q (by rw[je] at hb; subst hb; subst e; exact ha)⟩
theorem zcz(wd:List Str):(za1 wd).Nodup:=zhj wd [] Zo
theorem zgG(wd:List Str):(za1 wd).length<=wd.length:=by have:=zhp wd []; simpa[za1] using this
def zeN(i j:Nat)(ps:List Nat):List Nat:=ps.filter fun k=>decide (i < k)&&decide (k < j)
theorem ze0{wd:List Str}{i j:Nat}(y:Str)(hij:i < j)(hj:j < wd.length):(zli wd i j).count y=(zeN i j (zae wd y)).length:=by
 rw[<-zdG];unfold zae zeN zli;have hl:((wd.drop (i+1)).take (j - (i+1))).length=j - (i+1):=by rw[Q9,QQ]; lia
 rw[hl];have e:wd.length=(i+1)+((j - (i+1))+(wd.length - j)):=by lia
 rw[Wv];have er:j5 wd.length=j5 (i+1)++((j5 (j - (i+1))).map (fun x=>i+1+x)++(j5 (wd.length - j)).map ((fun x=>i+1+x)∘fun x=>j - (i+1)+x)):=by
  conv=>lhs; rw[e]
  rw[Jw (n:=i+1),Jw (n:=j - (i+1)),jF,jY]
 rw[er,QP,QP];have e1:(j5 (i+1)).filter (fun k=>(decide (i < k)&&decide (k < j))&&decide (wd[k]?=some y))=[]:=by
  refine gL.mpr fun k hk=>?_;have:=ji.mp hk;rw[Df_ (by lia:¬ i < k),Yy,Yy]
  exact jJ
 have e3:((j5 (wd.length - j)).map ((fun x=>i+1+x)∘fun x=>j - (i+1)+x)).filter (fun k=>(decide (i < k)&&decide (k < j))&&decide (wd[k]?=some y))=[]:=by
  refine gL.mpr fun k hk=>?_;obtain⟨m,hm,rfl⟩:=jA.mp hk;have:¬ ((fun x=>i+1+x)∘fun x=>j - (i+1)+x) m < j:=by
   show ¬ i+1+(j - (i+1)+m) < j;lia
  rw[Df_ this,YA,Yy];exact jJ
 rw[e1,e3,NF,Qt,Nw,j6];refine congrArg ZC (YO fun k hk=>?_);have hk':=ji.mp hk;show _=((decide (i < i+1+k)&&decide (i+1+k < j))&&decide (wd[i+1+k]?=some y));rw[Dt_ (by lia:i < i+1+k),Dt_ (by lia:i+1+k < j),Wn,Ip_ hk',Ww]
 rfl
theorem zkf{i j:Nat}:zeN i j [i,j]=[]:=by
 refine gL.mpr fun k hk=>?_;rcases jv.mp hk with rfl |hk
 ·simp
 ·rcases jv.mp hk with rfl |hk
  ·simp
  ·cases hk
theorem zbm{wd:List Str}{x:Str}{k:Nat}(h:k∈zae wd x):wd[k]?=some x:=of_decide_eq_true (jQ.mp h).2
theorem zke{i j k l:Nat}(h1:i < j)(h2:k < l)(a:i≠k)(b:i≠l)(c:j≠k)(d:j≠l):decide ((zeN i j [k,l]).length=1)=decide ((zeN k l [i,j]).length=1):=by
 have f:∀ p q r s:Nat,(zeN p q [r,s]).length=(if p < r/\r < q then 1 else 0)+(if p < s/\s < q then 1 else 0):=fun p q r s=>by
  unfold zeN
  by_cases h:p < r/\r < q<;>by_cases h':p < s/\s < q<;>simp[Zg,h,h']
 rw[f,f,Zd,decide_eq_true_iff,decide_eq_true_iff];split<;>split<;>split<;>split<;>lia
theorem zku{wd:List Str}{x y:Str}{i j k l:Nat}(hx:zae wd x=[i,j])(hy:zae wd y=[k,l]):decide ((zli wd i j).count y=1)=decide ((zli wd k l).count x=1):=by
 obtain⟨a,b⟩:=zaV hx;obtain⟨c,d⟩:=zaV hy;rw[ze0 y a b,ze0 x c d,hx,hy]
 by_cases h:x=y
 ·subst h;rw[hx] at hy;injection hy with e1 e2;injection e2 with e2 _;subst e1 e2;rfl
 ·have mx:∀ p∈[i,j],wd[p]?=some x:=fun p hp=>zbm (hx▸hp);have my:∀ p∈[k,l],wd[p]?=some y:=fun p hp=>zbm (hy▸hp);have ne:∀ p∈[i,j],∀ q∈[k,l],p≠q:=fun p hp q hq e=>h (jf ((mx p hp).symm.trans (e▸my q hq)));exact zke a c (ne i (by simp) k (by simp)) (ne i (by simp) l (by simp)) (ne j (by simp) k (by simp)) (ne j (by simp) l (by simp))
theorem zm0{wd:List Str}{x y:Str}{i j:Nat}(hx:zae wd x=[i,j]):decide ((zli wd i j).count y=1)=(decide (x≠y)&&decide ((zeN i j (zae wd y)).length=1)):=by
 obtain⟨a,b⟩:=zaV hx;rw[ze0 y a b]
 by_cases h:x=y
 ·subst h;rw[hx,zkf];simp
 ·rw[Dt_ h,JS]
theorem zgO{wd:List Str}{x:Str}{i j:Nat}(hx:zae wd x=[i,j]):decide ((zli wd i j).count x=1)=false:=by
 rw[zm0 hx];simp
def crs(wd:List Str)(x y:Str):Bool:=match zae wd x with
 |[i,j]=>decide ((zli wd i j).count y=1)
 |_=>false
theorem zht{wd:List Str}{x:Str}{i j:Nat}(h:zae wd x=[i,j])(y:Str):crs wd x y=decide ((zli wd i j).count y=1):=by unfold crs; rw[h]
theorem zrC{wd:List Str}(g:GoodWord wd){x y:Str}(hx:x∈wd)(hy:y∈wd):crs wd x y=crs wd y x:=by
 obtain⟨i,j,h1⟩:=g.places hx;obtain⟨k,l,h2⟩:=g.places hy;rw[zht h1,zht h2,zku h1 h2]
theorem zoX{wd:List Str}(g:GoodWord wd){x:Str}(hx:x∈wd):crs wd x x=false:=by
 obtain⟨i,j,h1⟩:=g.places hx;rw[zht h1,zgO h1]
theorem zl4{xs:List Str}{x:Str}(h:x∈xs):(xs.find? fun y=>decide ((Zl y:Key)=Zl x))=some x:=by
 induction xs with
 |nil=>cases h
 |cons y ys ih=>
  rw[Z2]
  by_cases e:y=x
  ·subst e; simp
  ·rw[Df_ (fun z=>e (ZM z))];rcases jv.mp h with q |q
   ·exact absurd q.symm e
   ·exact ih q
theorem zg4(kvs:List (Key × T))(x:Str):za7 (.fd kvs) (.str x)=zaM kvs (.inr x):=rfl
theorem ziC:∀(wd ns:List Str),ns.Nodup->(∀ x∈wd,x∈ns)->wd.length=(ns.map fun x=>wd.count x).sum
 |[],ns,_,_=>by
  have:(ns.map fun x=>([]:List Str).count x)=ns.map fun _=>0:=QY fun x _=>by simp
  have z:∀ l:List Str,(l.map fun _=>0).sum=0:=fun l=>by
   induction l with
   |nil=>rfl
   |cons n l ih=>rw[jt,N6,ih]
  rw[this,z];rfl
 |y::wd,ns,hn,h=>by
  have ih:=ziC wd ns hn fun x hx=>h x (jw _ hx);have key:∀(ns:List Str),ns.Nodup->(ns.map fun x=>(y::wd).count x).sum=(ns.map fun x=>wd.count x).sum+if y∈ns then 1 else 0:=by
   intro ns
   induction ns with
   |nil=>intro _; rfl
   |cons n ns ihn=>
    intro hn;rw[Qk] at hn;rw[jt,N6,jt,N6,ihn hn.2,ZT]
    by_cases e:y=n
    ·subst e;rw[Ip_ (by simp),In_ hn.1,Ip_ (by simp)]; lia
    ·rw[In_ (by simpa using e)]
     by_cases e2:y∈ns
     ·rw[Ip_ e2,Ip_ (jw _ e2)]; lia
     ·rw[In_ e2,In_ (by simp[e,e2])]; lia
  rw[key ns hn,Ip_ (h y jT),<-ih,jp]
theorem zg5{wd:List Str}(h:∀ x∈wd,wd.count x=2):wd.length=2*(za1 wd).length:=by
 have:=ziC wd (za1 wd) (zcz wd) fun x hx=>mem_firsts.mpr hx;rw[this];have e:(za1 wd).map (fun x=>wd.count x)=(za1 wd).map fun _=>2:=QY fun x hx=>h x (mem_firsts.mp hx);rw[e];generalize za1 wd=l
 induction l with
 |nil=>rfl
 |cons a l ih=>rw[jt,N6,ih,jp]; lia
theorem zca{wd:List Str}{x:Str}(h:wd.count x=2):∃ i j,zae wd x=[i,j]:=by
 have hl:=zdG wd x;rw[h] at hl
 match h:zae wd x,hl with
 |[i,j],_=>exact⟨i,j,rfl⟩
end Dw
namespace Dw
theorem zgw{α:Type}[DecidableEq α]:∀ {l m:List α},l.Nodup->(∀ x∈l,x∈m)->l.length<=m.length
 |[],m,_,_=>QV _
 |a::l,m,hd,h=>by
  rw[Qk] at hd;have hm:a∈m:=h a (by simp)
  have ih:=zgw (l:=l) (m:=m.erase a) hd.2 fun x hx=>(gc (fun z:x=a=>hd.1 (z▸hx))).mpr (h x (jw _ hx));rw[Zw hm] at ih;have:=gM hm;rw[jp];lia
def itr(f:Nat->Nat):Nat->Nat->Nat
 |0,x=>x
 |k+1,x=>f (itr f k x)
theorem zfd(f:Nat->Nat)(j k x:Nat):itr f (j+k) x=itr f j (itr f k x):=by
 induction j with
 |zero=>rw[Z4]; rfl
 |succ j ih=>rw[Nat.succ_add]; show f (itr f (j+k) x)=f (itr f j (itr f k x)); rw[ih]
structure Perm1 (n:Nat) (f:Nat->Nat):Prop where
 lt:∀ x,x < n->f x < n
 inj:∀ x y,x < n->y < n->f x=f y->x=y
theorem Perm1.itr_lt{n:Nat}{f:Nat->Nat}(h:Perm1 n f)(k:Nat){x:Nat}(hx:x < n):itr f k x < n:=by
 induction k with
 |zero=>exact hx
 |succ k ih=>exact h.lt _ ih
theorem Perm1.itr_inj{n:Nat}{f:Nat->Nat}(h:Perm1 n f)(k:Nat){x y:Nat}(hx:x < n)(hy:y < n)(e:itr f k x=itr f k y):x=y:=by
 induction k with
 |zero=>exact e
 |succ k ih=>exact ih (h.inj _ _ (h.itr_lt k hx) (h.itr_lt k hy) e)
theorem Perm1.back{n:Nat}{f:Nat->Nat}(h:Perm1 n f){x:Nat}(hx:x < n):∃ p,0 < p/\itr f p x=x:=by
 by_cases hd:((j5 (n+1)).map fun k=>itr f k x).Nodup
 ·have:=zgw (m:=j5 n) hd fun y hy=>by
   obtain⟨k,_,rfl⟩:=jA.mp hy;exact ji.mpr (h.itr_lt k hx)
  rw[j6,QH,QH] at this;lia
 ·have:∃ i j,i < j/\itr f i x=itr f j x:=by
   apply Classical.byContradiction;intro hne;apply hd;rw[WT,gR];exact Uf (fun {i j} hij e=>hne ⟨i,j,hij,e⟩) ZL
  obtain⟨i,j,hij,e⟩:=this;refine⟨j - i,by lia,?_⟩
  have e2:itr f j x=itr f i (itr f (j - i) x):=by rw[<-zfd]; congr 1; lia
  rw[e2] at e;exact(h.itr_inj i hx (h.itr_lt _ hx) e).symm
def Orb(f:Nat->Nat)(x y:Nat):Prop:=∃ k,itr f k x=y
theorem Orb.refl(f:Nat->Nat)(x:Nat):Orb f x x:=⟨0,rfl⟩
theorem Orb.trans{f:Nat->Nat}{x y z:Nat}(a:Orb f x y)(b:Orb f y z):Orb f x z:=by
 obtain⟨j,rfl⟩:=a;obtain⟨k,rfl⟩:=b;exact⟨k+j,zfd f k j x⟩
theorem zr8{f:Nat->Nat}{p x:Nat}(h:itr f p x=x)(m:Nat):itr f (m*p) x=x:=by
 induction m with
 |zero=>rw[Nat.zero_mul]; rfl
 |succ m ih=>rw[Nat.succ_mul,zfd,h,ih]
theorem Orb.symm{n:Nat}{f:Nat->Nat}(h:Perm1 n f){x y:Nat}(hx:x < n)(a:Orb f x y):Orb f y x:=by
 obtain⟨k,rfl⟩:=a;obtain⟨p,hp,e⟩:=h.back hx;refine⟨k*p - k,?_⟩;rw[<-zfd,show k*p - k+k=k*p by have:=Nat.le_mul_of_pos_right k hp; lia]
 exact zr8 e k
structure Trav (n:Nat) (R:Nat->Nat->Prop) (L:List Nat):Prop where
 lt:∀ x∈L,x < n
 one:L.Pairwise fun x y=>¬ R x y
 all:∀ x,x < n->∃ y∈L,R y x
end Dw
namespace Dw
open PySem
abbrev Org:=List (Str × Option Str)
def kys(O:Org):List Str:=O.map (·.1)
inductive Way (O:Org):Str->List Str->Prop
 |root {x:Str} (h:(x,none)∈O):Way O x [x]
 |step {x p:Str} {w:List Str} (h:(x,some p)∈O) (k:Way O p w):Way O x (x::w)
section
variable {O O':Org}{x y z m:Str}{w w' a b:List Str}
theorem zdH{e:Str × Option Str}(h:e∈O):e.1∈kys O:=jA.mpr ⟨e,h,rfl⟩
theorem zr4(h:x∈kys O):∃ o,(x,o)∈O:=by
 obtain⟨⟨y,o⟩,h1,h2⟩:=jA.mp h;exact⟨o,by dsimp only at h2; rw[<-h2]; exact h1⟩
theorem zaN:kys (O++O')=kys O++kys O':=by unfold kys; rw[jF]
theorem Way.mono(h:∀ e∈O,e∈O')(k:Way O x w):Way O' x w:=by
 induction k with
 |root q=>exact .root (h _ q)
 |step q _ ih=>exact .step (h _ q) ih
theorem zgI:∀ {O:Org},(kys O).Nodup->∀ {x:Str} {o o':Option Str},(x,o)∈O->(x,o')∈O->o=o'
 |[],_,_,_,_,h,_=>by cases h
 |e::O,nd,x,o,o',h,h'=>by
  obtain⟨n1,n2⟩:=Qk.mp (show (e.1::kys O).Nodup from nd);rcases jv.mp h with h1 |h1<;>rcases jv.mp h' with h2 |h2
  ·have:=h1.trans h2.symm;exact congrArg JT this
  ·have q:x∈kys O:=zdH h2;have q2:x=e.1:=congrArg Ud h1;exact absurd (q2▸q) n1
  ·have q:x∈kys O:=zdH h1;have q2:x=e.1:=congrArg Ud h2;exact absurd (q2▸q) n1
  ·exact zgI n2 h1 h2
theorem Way.one(nd:(kys O).Nodup)(k:Way O x w):∀ {w'},Way O x w'->w=w':=by
 induction k with
 |root q=>
  intro w' k';cases k' with
  |root _=>rfl
  |step q' _=>cases zgI nd q q'
 |step q _ ih=>
  intro w' k';cases k' with
  |root q'=>cases zgI nd q q'
  |step q' k2=>
   have:=zgI nd q q';injection this with this;subst this;rw[ih k2]
theorem Way.head(k:Way O x w):∃ t,w=x::t:=by
 cases k with
 |root _=>exact⟨[],rfl⟩
 |step _ _=>exact⟨_,rfl⟩
theorem Way.from(k:Way O x w):∀ {a b},w=a++z::b->Way O z (z::b):=by
 induction k with
 |root q=>
  intro a b h;cases a with
  |nil=>injection h with h1 h2; subst h1 h2; exact .root q
  |cons c a=>injection h with h1 h2; simp at h2
 |step q k ih=>
  intro a b h;cases a with
  |nil=>injection h with h1 h2; subst h1 h2; exact .step q k
  |cons c a=>injection h with h1 h2; exact ih h2
theorem Way.key(k:Way O x w):∀ u∈w,u∈kys O:=by
 induction k with
 |root q=>intro u hu; rw[je] at hu; subst hu; exact zdH q
 |step q _ ih=>
  intro u hu;rcases jv.mp hu with hu |hu
  ·subst hu; exact zdH q
  ·exact ih u hu
theorem Way.nodup(nd:(kys O).Nodup)(k:Way O x w):w.Nodup:=by
 induction k with
 |root q=>simp
 |@step x p w q k ih=>
  refine Qk.mpr ⟨fun hx=>?_,ih⟩;obtain⟨a,b,rfl⟩:=Yx hx;have k1:Way O x (x::(a++x::b)):=.step q k;have k2:=k.from (z:=x) (a:=a) (b:=b) rfl;have:=k1.one nd k2;have:=congrArg ZC this;simp at this;lia
def Chn(G:Str->Str->Prop):List Str->Prop
 |a::b::l=>G a b/\Chn G (b::l)
 |_=>True
variable {G:Str->Str->Prop}
theorem Chn.join:∀ {l:List Str} {m:Str} {r:List Str},Chn G (l++[m])->Chn G (m::r)->Chn G (l++m::r)
 |[],_,_,_,h=>h
 |[c],_,_,h1,h2=>⟨h1.1,h2⟩
 |c::d::l,_,_,h1,h2=>⟨h1.1,Chn.join (l:=d::l) h1.2 h2⟩
theorem Chn.pre:∀ {l r:List Str},Chn G (l++r)->Chn G l
 |[],_,_=>trivial
 |[_],_,_=>trivial
 |_::d::l,_,h=>⟨h.1,Chn.pre (l:=d::l) h.2⟩
theorem Chn.rev(sy:∀ a b,G a b->G b a):∀ {l:List Str},Chn G l->Chn G l.reverse
 |[],_=>trivial
 |[_],_=>trivial
 |c::d::l,h=>by
  have:=Chn.rev sy (l:=d::l) h.2;rw[QU] at this;rw[QU,QU,Qn];exact Chn.join this ⟨sy _ _ h.1,trivial⟩
theorem Chn.imp{G':Str->Str->Prop}(hi:∀ a b,G a b->G' a b):∀ {l:List Str},Chn G l->Chn G' l
 |[],_=>trivial
 |[_],_=>trivial
 |_::d::l,h=>⟨hi _ _ h.1,Chn.imp hi (l:=d::l) h.2⟩
theorem Way.chn(k:Way O x w):Chn (fun a b=>(a,some b)∈O) w:=by
 induction k with
 |root q=>trivial
 |step q k ih=>
  obtain⟨t,rfl⟩:=k.head;exact⟨q,ih⟩
def evs(ev:Str->Str->Bool):List Str->Nat
 |a::b::l=>(if ev a b then 1 else 0)+evs ev (b::l)
 |_=>0
theorem zjd{ev:Str->Str->Bool}{sd:Str->Bool}:∀(l:List Str) (x y:Str),Chn (fun a b=>ev a b=(sd a != sd b)) (x::l)->(x::l).getLast?=some y->(evs ev (x::l)%2=1↔sd x≠sd y)
 |[],x,y,_,h=>by
  simp at h; subst h;simp[evs]
 |z::l,x,y,c,h=>by
  have ih:=zjd l z y c.2 (by simpa using h)
  have e:=c.1;show (((if ev x z then 1 else 0)+evs ev (z::l))%2=1↔_)
  rw[e];cases h1:sd x<;>cases h2:sd z<;>cases h3:sd y<;>rw[h2,h3] at ih<;>simp at ih ⊢<;>lia
theorem zqp{adj ev:Str->Str->Bool}{sd:Str->Bool}{f n c:List Str}(nd:(kys O).Nodup)(hs:∀ a b,(a,some b)∈O->adj a b=true/\adj b a=true/\ev a b=(sd a != sd b)/\ev b a=(sd a != sd b))
  (hx:Way O x (f++m::c)) (hy:Way O y (n++m::c)) (he:f=[]∨n=[]∨f.getLast?≠n.getLast?) (hxx:adj x x=false) (hyx:adj y x=true) (hw:ev y x≠(sd y != sd x)) (hwy:ev x y=ev y x) :
  (f++m::n.reverse).Nodup/\(∀ u∈f++m::n.reverse,u∈kys O)/\3<=(f++m::n.reverse).length/\Chn (fun a b=>adj a b=true) (f++m::n.reverse)/\(f++m::n.reverse).head?=some x/\(f++m::n.reverse).getLast?=some y/\((if ev y x then 1 else 0)+evs ev (f++m::n.reverse))%2=1:=by
 have ndx:=hx.nodup nd;have ndy:=hy.nodup nd;have sp:∀ {l:List Str},(l++m::c).Nodup->l.Nodup/\m∉l:=fun {l} h=>by
  obtain⟨h1,_,h2⟩:=jP.mp h;exact⟨h1,fun hm=>h2 m hm m (.head _) rfl⟩
 obtain⟨nf,mf⟩:=sp ndx;obtain⟨nn,mn⟩:=sp ndy;have dis:∀ z,z∈f->z∈n->False:=fun z hf hn=>by
  obtain⟨f1,f2,rfl⟩:=Yx hf;obtain⟨n1,n2,rfl⟩:=Yx hn;have k1:=hx.from (z:=z) (a:=f1) (b:=f2++m::c) (by simp)
  have k2:=hy.from (z:=z) (a:=n1) (b:=n2++m::c) (by simp)
  have e:=k1.one nd k2;injection e with _ e;have e:=List.append_cancel_right e;subst e;rcases he with he |he |he
  ·simp at he
  ·simp at he
  ·refine he ?_;have g:∀ l:List Str,(l++z::f2).getLast?=(z::f2).getLast?:=fun l=>by
    rw[Y7];cases h:(z::f2).getLast? with
    |none=>simp at h
    |some q=>rfl
   rw[g,g]
 have hd:∀ {l:List Str} {u:Str},Way O u (l++m::c)->(l++[m]).head?=some u:=fun {l u} k=>by
  obtain⟨t,e⟩:=k.head;cases l with
  |nil=>injection e with e _; rw[e]; rfl
  |cons a l=>injection e with e _; rw[e]; rfl
 have hhx:=hd hx;have hhy:=hd hy;have sy:∀ a b,(adj a b=true/\adj b a=true/\ev a b=(sd a != sd b)/\ev b a=(sd a != sd b))->(adj b a=true/\adj a b=true/\ev b a=(sd b != sd a)/\ev a b=(sd b != sd a)):=fun a b h=>by
  have:(sd b != sd a)=(sd a != sd b):=by cases sd a<;>cases sd b<;>rfl
  rw[this];exact⟨h.2.1,h.1,h.2.2.2,h.2.2.1⟩
 have cx:Chn (fun a b=>adj a b=true/\adj b a=true/\ev a b=(sd a != sd b)/\ev b a=(sd a != sd b)) (f++[m]):=(Chn.pre (l:=f++[m]) (r:=c) (by simpa using hx.chn)).imp hs
 have cy:Chn (fun a b=>adj a b=true/\adj b a=true/\ev a b=(sd a != sd b)/\ev b a=(sd a != sd b)) (n++[m]):=(Chn.pre (l:=n++[m]) (r:=c) (by simpa using hy.chn)).imp hs
 have cr:=Chn.rev sy cy;rw[List.reverse_append] at cr;have ch:=Chn.join cx cr;have last:(f++m::n.reverse).getLast?=some y:=by
  cases n with
  |nil=>simp at hhy; subst hhy; simp
  |cons a n=>
   simp at hhy;subst hhy;rw[Y7,QU];have:(m::(n.reverse++[a])).getLast?=some a:=by rw[show m::(n.reverse++[a])=(m::n.reverse)++[a] from rfl,Y7]; rfl
   rw[this]; rfl
 have first:(f++m::n.reverse).head?=some x:=by
  cases f with
  |nil=>simpa using hhx
  |cons a f=>simpa using hhx
 refine⟨?_,?_,?_,ch.imp fun a b h=>h.1,first,last,?_⟩
 ·refine jP.mpr ⟨nf,Qk.mpr ⟨by simpa using mn,by simpa[WT,List.pairwise_reverse,ne_comm] using nn⟩,fun a ha b hb e=>?_⟩
  subst e;rcases jv.mp hb with hb |hb
  ·subst hb; exact mf ha
  ·exact dis a ha (by simpa using hb)
 ·intro u hu;rcases ju.mp hu with hu |hu
  ·exact hx.key u (jn _ hu)
  ·rcases jv.mp hu with hu |hu
   ·exact hx.key u (by rw[hu]; simp)
   ·exact hy.key u (jn _ (by simpa using hu))
 ·rw[jk,jp,W5];refine J8 fun hlt=>?_;rcases f with _ |⟨u,_ |⟨u2,f⟩⟩
  ·rcases n with _ |⟨u,_ |⟨u2,n⟩⟩
   ·simp at hhx hhy;rw[<-hhx,<-hhy] at hyx;rw[<-hhx] at hxx;rw[hyx] at hxx;cases hxx
   ·simp at hhx hhy;subst hhx hhy;have:=cy.1;exact hw this.2.2.1
   ·simp at hlt; lia
  ·cases n with
   |nil=>
    simp at hhx hhy;subst hhx hhy;have:=(sy _ _ cx.1);exact hw this.2.2.1
   |cons _ _=>simp at hlt; lia
  ·simp at hlt; lia
 ·have ce:Chn (fun a b=>ev a b=(sd a != sd b)) (f++m::n.reverse):=ch.imp fun a b h=>h.2.2.1;obtain⟨l,hl⟩:∃ l,f++m::n.reverse=x::l:=by
   revert first
   cases f++m::n.reverse with
   |nil=>intro h; cases h
   |cons a l=>intro h; injection h with h; exact⟨l,by rw[h]⟩
  rw[hl] at ce last ⊢;have:=zjd l x y ce last;cases hE:ev y x<;>rw[hE] at hw<;>cases h1:sd x<;>cases h2:sd y<;>rw[h1,h2] at this hw<;>simp at this hw ⊢<;>lia
end
structure Gr (ns:List Str) (adj:Str->Str->Bool):Prop where
 nd:ns.Nodup
 sym:∀ x∈ns,∀ y∈ns,adj x y=adj y x
 irr:∀ x∈ns,adj x x=false
 len:ns.length<=30
def mts(ns:List Str)(adj:Str->Str->Bool)(x:Str):List Str:=ns.filter (adj x)
def shr(ns:List Str)(adj:Str->Str->Bool)(x y:Str):Nat:=(ns.filter fun z=>adj x z&&adj y z).length
def evn(ns:List Str)(adj:Str->Str->Bool)(x y:Str):Bool:=decide (shr ns adj x y%2=0)
theorem zkk(ns:List Str)(adj:Str->Str->Bool)(x y:Str):evn ns adj x y=evn ns adj y x:=by
 unfold evn shr;rw[show (fun z=>adj x z&&adj y z)=fun z=>adj y z&&adj x z from funext fun z=>JU _ _]
structure Fo (ns:List Str) (adj:Str->Str->Bool) (O:Org):Prop where
 nd:(kys O).Nodup
 sub:∀ x∈kys O,x∈ns
 ord:∀(i:Nat) x p,O[i]?=some (x,some p)->adj p x=true/\p∈kys (O.take i)
 clo:∀ x∈kys O,∀ y∈ns,adj x y=true->y∈kys O
 way:∀ x∈kys O,∃ w,Way O x w
 rt:∀ x∈kys O,∀ y∈kys O,adj x y=true->∀ w w',Way O x w->Way O y w'->w.getLast?=w'.getLast?
structure Dfs (ns:List Str) (adj:Str->Str->Bool) (b:Str) (O0 O:Org) (wt:List Str):Prop where
 pre:∃ r,O=O0++r
 nd:(kys O).Nodup
 sub:∀ x∈kys O,x∈ns
 ord:∀(i:Nat) x p,O[i]?=some (x,some p)->adj p x=true/\p∈kys (O.take i)
 cur:∀ x∈kys O,x∉kys O0->∃ w,Way O x w/\w.getLast?=some b
 don:∀ x∈kys O,x∉kys O0->x∈wt∨∀ y∈ns,adj x y=true->y∈kys O
 ws:∀ x∈wt,x∈kys O/\x∉kys O0
section
variable {ns:List Str}{adj:Str->Str->Bool}{O O0:Org}{b:Str}
theorem Fo.nil:Fo ns adj []:=⟨Zo,fun x h=>(Zh h).elim,fun i x p h=>by simp at h,fun x h=>(Zh h).elim,fun x h=>(Zh h).elim,fun x h=>(Zh h).elim⟩
theorem zkC{O r:Org}{i:Nat}{x:Str}(h:x∈kys (O.take i)):x∈kys ((O++r).take i):=by
 rw[Jb,zaN];exact jn _ h
theorem Dfs.start(F:Fo ns adj O0)(hb:b∈ns)(hn:b∉kys O0):Dfs ns adj b O0 (O0++[(b,none)]) [b]:=by
 have k:kys (O0++[(b,none)])=kys O0++[b]:=by rw[zaN]; rfl
 have wb:Way (O0++[(b,none)]) b [b]:=.root (by simp)
 refine⟨⟨_,rfl⟩,?_,?_,?_,?_,?_,?_⟩
 ·rw[k];exact jP.mpr ⟨F.nd,by simp,fun a ha c hc e=>by rw[je] at hc; subst hc e; exact hn ha⟩
 ·intro x hx;rw[k] at hx;rcases ju.mp hx with hx |hx
  ·exact F.sub x hx
  ·rw[je] at hx; subst hx; exact hb
 ·intro i x p h
  by_cases hi:i < O0.length
  ·rw[Q3 hi] at h;have:=F.ord i x p h;exact⟨this.1,zkC this.2⟩
  ·rw[Q7 (by lia)] at h
   cases hj:i - O0.length with
   |zero=>rw[hj] at h; simp at h
   |succ j=>rw[hj] at h; simp at h
 ·intro x hx hx0;rw[k] at hx;rcases ju.mp hx with hx |hx
  ·exact absurd hx hx0
  ·rw[je] at hx; subst hx; exact⟨_,wb,rfl⟩
 ·intro x hx hx0;rw[k] at hx;rcases ju.mp hx with hx |hx
  ·exact absurd hx hx0
  ·exact .inl hx
 ·intro x hx;rw[je] at hx; subst hx;exact⟨by rw[k]; simp,hn⟩
theorem Dfs.step(G:Gr ns adj){x:Str}{wt:List Str}(D:Dfs ns adj b O0 O (wt++[x])):Dfs ns adj b O0 (O++((mts ns adj x).filter fun y=>decide (y∉kys O)).map fun y=>(y,some x)) (wt++(mts ns adj x).filter fun y=>decide (y∉kys O)):=by
 obtain⟨hx,hx0⟩:=D.ws x (by simp)
 generalize hf:((mts ns adj x).filter fun y=>decide (y∉kys O))=fr;have fm:∀ y,y∈fr↔y∈ns/\adj x y=true/\y∉kys O:=fun y=>by
  rw[<-hf,jQ,mts,jQ,decide_eq_true_iff,and_assoc]
 have fn:fr.Nodup:=by rw[<-hf]; exact(G.nd.filter _).filter _
 have k:kys (O++fr.map fun y=>(y,some x))=kys O++fr:=by
  rw[zaN]
  congr 1
  unfold kys;rw[jY];exact List.map_id' _
 have up:∀ e∈O,e∈O++fr.map fun y=>(y,some x):=fun e he=>jn _ he;obtain⟨r,hr⟩:=D.pre;obtain⟨wx,hwx,hlx⟩:=D.cur x hx hx0;refine⟨⟨r++fr.map fun y=>(y,some x),by rw[hr,Qn]⟩,?_,?_,?_,?_,?_,?_⟩
 ·rw[k];exact jP.mpr ⟨D.nd,fn,fun a ha c hc e=>by subst e; exact((fm a).mp hc).2.2 ha⟩
 ·intro y hy;rw[k] at hy;rcases ju.mp hy with hy |hy
  ·exact D.sub y hy
  ·exact((fm y).mp hy).1
 ·intro i y p h
  by_cases hi:i < O.length
  ·rw[Q3 hi] at h;have:=D.ord i y p h;exact⟨this.1,zkC this.2⟩
  ·rw[Q7 (by lia),jg] at h
   obtain⟨z,h1,h2⟩:=Qm h;injection h2 with h2 h3;injection h3 with h3;subst h2 h3;refine⟨((fm z).mp (jE h1)).2.1,?_⟩;rw[Jb,zaN,Q0 (by lia)]
   exact jn _ hx
 ·intro y hy hy0;rw[k] at hy;rcases ju.mp hy with hy |hy
  ·obtain⟨w,h1,h2⟩:=D.cur y hy hy0;exact⟨w,h1.mono up,h2⟩
  ·refine⟨y::wx,.step (jz _ (jA.mpr ⟨y,hy,rfl⟩)) (hwx.mono up),?_⟩;obtain⟨t,rfl⟩:=hwx.head;exact hlx
 ·intro y hy hy0;rw[k] at hy ⊢;rcases ju.mp hy with hy |hy
  ·rcases D.don y hy hy0 with h |h
   ·rcases ju.mp h with h |h
    ·exact .inl (jn _ h)
    ·rw[je] at h;subst h;refine .inr fun z hz ha=>?_
     by_cases hk:z∈kys O
     ·exact jn _ hk
     ·exact jz _ ((fm z).mpr ⟨hz,ha,hk⟩)
   ·exact .inr fun z hz ha=>jn _ (h z hz ha)
  ·exact .inl (jz _ hy)
 ·intro y hy;rw[k];rcases ju.mp hy with hy |hy
  ·have:=D.ws y (jn _ hy);exact⟨jn _ this.1,this.2⟩
  ·have:=(fm y).mp hy;refine⟨jz _ hy,fun h0=>this.2.2 ?_⟩;rw[hr,zaN];exact jn _ h0
theorem Dfs.fin(G:Gr ns adj)(F:Fo ns adj O0)(D:Dfs ns adj b O0 O []):Fo ns adj O:=by
 obtain⟨r,hr⟩:=D.pre;have up:∀ e∈O0,e∈O:=fun e he=>by rw[hr]; exact jn _ he
 have upk:∀ x∈kys O0,x∈kys O:=fun x hx=>by rw[hr,zaN]; exact jn _ hx
 have clo:∀ x∈kys O,∀ y∈ns,adj x y=true->y∈kys O:=fun x hx y hy ha=>by
  by_cases h0:x∈kys O0
  ·exact upk y (F.clo x h0 y hy ha)
  ·rcases D.don x hx h0 with h |h
   ·cases h
   ·exact h y hy ha
 refine⟨D.nd,D.sub,D.ord,clo,fun x hx=>?_,fun x hx y hy ha w w' hw hw'=>?_⟩
 ·by_cases h0:x∈kys O0
  ·obtain⟨w,h⟩:=F.way x h0;exact⟨w,h.mono up⟩
  ·obtain⟨w,h,_⟩:=D.cur x hx h0;exact⟨w,h⟩
 ·by_cases h0:x∈kys O0
  ·have hy0:=F.clo x h0 y (D.sub y hy) ha;obtain⟨u,hu⟩:=F.way x h0;obtain⟨u',hu'⟩:=F.way y hy0;rw[hw.one D.nd (hu.mono up),hw'.one D.nd (hu'.mono up)];exact F.rt x h0 y hy0 ha u u' hu hu'
  ·have hy0:y∉kys O0:=fun z=>h0 (F.clo y z x (D.sub x hx) (by rw[<-G.sym x (D.sub x hx) y (D.sub y hy)]; exact ha))
   obtain⟨u,hu,h1⟩:=D.cur x hx h0;obtain⟨u',hu',h2⟩:=D.cur y hy hy0;rw[hw.one D.nd hu,hw'.one D.nd hu',h1,h2]
def zkG(ev:Str->Str->Bool)(f:Str->Bool)(e:Str × Option Str):Str->Bool:=fun z=>if z=e.1 then (match e.2 with |none=>false |some p=>ev p e.1 != f p) else f z
def zf0(ev:Str->Str->Bool)(O:Org):Str->Bool:=O.foldl (zkG ev) (fun _=>false)
theorem ziH(ev:Str->Str->Bool)(O:Org)(e:Str × Option Str):zf0 ev (O++[e])=zkG ev (zf0 ev O) e:=by unfold zf0; rw[WM]; rfl
theorem zkF(ev:Str->Str->Bool):∀(r:Org) (O:Org) (z:Str),z∈kys O->(kys (O++r)).Nodup->zf0 ev (O++r) z=zf0 ev O z
 |[],O,z,_,_=>by rw[Qt]
 |e::r,O,z,hz,nd=>by
  have e1:O++e::r=(O++[e])++r:=by simp
  rw[e1] at nd ⊢;rw[zkF ev r (O++[e]) z (by rw[zaN]; exact jn _ hz) nd,ziH]
  unfold zkG;rw[In_];intro hze;rw[zaN,zaN] at nd;have:=(jP.mp (jP.mp nd).1).2.2 z hz e.1 (by simp[kys])
  exact this hze
theorem zms(ev:Str->Str->Bool){i:Nat}{z:Str}(nd:(kys O).Nodup)(hz:z∈kys (O.take i)):zf0 ev O z=zf0 ev (O.take i) z:=by
 have:=zkF ev (O.drop i) (O.take i) z hz (by rw[Z3]; exact nd)
 rw[Z3] at this;exact this
theorem zvy(ev:Str->Str->Bool){i:Nat}{e:Str × Option Str}(nd:(kys O).Nodup)(h:O[i]?=some e):zf0 ev O e.1=(match e.2 with |none=>false |some p=>ev p e.1 != zf0 ev (O.take i) p):=by
 have h1:O.take (i+1)=O.take i++[e]:=by rw[gd,h]; rfl
 rw[zms ev (i:=i+1) nd (by rw[h1,zaN]; simp[kys]),h1,ziH]
 unfold zkG;rw[Ip_ rfl]
theorem Fo.side(F:Fo ns adj O)(ev:Str->Str->Bool){i:Nat}{e:Str × Option Str}(h:O[i]?=some e):zf0 ev O e.1=(match e.2 with |none=>false |some p=>ev p e.1 != zf0 ev O p):=by
 rw[zvy ev F.nd h];obtain⟨x,o⟩:=e;cases o with
 |none=>rfl
 |some p=>
  dsimp only;rw[zms ev F.nd (F.ord i x p h).2]
theorem Fo.edge(G:Gr ns adj)(F:Fo ns adj O){a p:Str}(h:(a,some p)∈O):adj a p=true/\adj p a=true/\evn ns adj a p=(zf0 (evn ns adj) O a != zf0 (evn ns adj) O p)/\evn ns adj p a=(zf0 (evn ns adj) O a != zf0 (evn ns adj) O p):=by
 obtain⟨i,hi⟩:=List.mem_iff_getElem?.mp h;obtain⟨h1,h2⟩:=F.ord i a p hi;have hs:=F.side (evn ns adj) hi;dsimp only at hs;have ha:a∈ns:=F.sub a (zdH h)
 have hp:p∈ns:=F.sub p (by
  have:O=O.take i++O.drop i:=(Z3 i O).symm
  rw[this,zaN]; exact jn _ h2)
 have e1:evn ns adj p a=(zf0 (evn ns adj) O a != zf0 (evn ns adj) O p):=by
  rw[hs];cases evn ns adj p a<;>cases zf0 (evn ns adj) O p<;>rfl
 exact⟨by rw[G.sym a ha p hp]; exact h1,h1,by rw[zkk]; exact e1,e1⟩
end
end Dw
namespace Dw
variable {M n:Nat}{nm:Nat->Nat}
section
variable [NeZero M]
def sm(l:List Nat)(h:Nat->Fin M):Fin M:=l.foldr (fun k s=>h k+s) 0
theorem zez(h:Nat->Fin M):sm [] h=0:=rfl
theorem zay(k:Nat)(l:List Nat)(h:Nat->Fin M):sm (k::l) h=h k+sm l h:=rfl
theorem zpf(l m:List Nat)(h:Nat->Fin M):sm (l++m) h=sm l h+sm m h:=by
 induction l with
 |nil=>rw[NF,zez]; grind
 |cons k l ih=>rw[Jc,zay,zay,ih]; grind
theorem zqf{l m:List Nat}(p:l.Perm m)(h:Nat->Fin M):sm l h=sm m h:=by
 induction p with
 |nil=>rfl
 |cons x _ ih=>rw[zay,zay,ih]
 |swap x y l=>rw[zay,zay,zay,zay]; grind
 |trans _ _ a b=>rw[a,b]
theorem zaw{l:List Nat}{h h':Nat->Fin M}(e:∀ k∈l,h k=h' k):sm l h=sm l h':=by
 induction l with
 |nil=>rfl
 |cons k l ih=>rw[zay,zay,e k (by simp),ih fun k hk=>e k (jw _ hk)]
theorem zft(l:List Nat)(h h':Nat->Fin M):sm l (fun k=>h k+h' k)=sm l h+sm l h':=by
 induction l with
 |nil=>rw[zez,zez,zez]; grind
 |cons k l ih=>rw[zay,zay,zay,ih]; grind
theorem zsv(l:List Nat)(c:Fin M)(h:Nat->Fin M):sm l (fun k=>c*h k)=c*sm l h:=by
 induction l with
 |nil=>rw[zez,zez]; grind
 |cons k l ih=>rw[zay,zay,ih]; grind
theorem zmn(l:List Nat):sm l (fun _=>(0:Fin M))=0:=by
 induction l with
 |nil=>rfl
 |cons k l ih=>rw[zay,ih]; grind
theorem zc3(k:Nat)(h:Nat->Fin M):sm (j5 (k+1)) h=sm (j5 k) h+h k:=by
 rw[Yl,zpf,zay,zez]; grind
end
structure Cd (n:Nat) (a b nm:Nat->Nat):Prop where
 alt:∀ v,v < n->a v < 2*n
 blt:∀ v,v < n->b v < 2*n
 na:∀ v,v < n->nm (a v)=v
 nb:∀ v,v < n->nm (b v)=v
 ne:∀ v,v < n->a v≠b v
 nlt:∀ p,p < 2*n->nm p < n
 at_:∀ p,p < 2*n->p=a (nm p)∨p=b (nm p)
def prv(n k:Nat):Nat:=if k=0 then 2*n - 1 else k - 1
structure Wf (n:Nat) (a b f:Nat->Nat):Prop where
 c1:∀ v,v < n->f (2*prv n (a v))=2*b v
 c2:∀ v,v < n->f (2*a v+1)=2*prv n (b v)+1
 c3:∀ v,v < n->f (2*prv n (b v))=2*prv n (a v)+1
 c4:∀ v,v < n->f (2*b v+1)=2*a v
section
variable [NeZero M]{a b f:Nat->Nat}
structure Cor (n:Nat) (a b:Nat->Nat) (G:Nat->Fin M):Prop where
 c1:∀ v,v < n->G (2*b v)=G (2*prv n (a v))
 c2:∀ v,v < n->G (2*prv n (b v)+1)=G (2*a v+1)
 c3:∀ v,v < n->G (2*prv n (a v)+1)=G (2*prv n (b v))
 c4:∀ v,v < n->G (2*a v)=G (2*b v+1)
theorem ztR(C:Cd n a b nm)(W:Wf n a b f){G:Nat->Fin M}(h:Cor n a b G):∀ w,w < 4*n->G (f w)=G w:=by
 intro w hw;rcases Q8 w with e |e
 ·obtain⟨k,rfl⟩:∃ k,w=2*k:=⟨w / 2,by lia⟩
  obtain⟨p,hp,rfl⟩:∃ p,p < 2*n/\k=prv n p:=by
   by_cases q:k+1=2*n
   ·exact⟨0,by lia,by unfold prv; rw[Ip_ rfl]; lia⟩
   ·exact⟨k+1,by lia,by unfold prv; rw[In_ (by lia)]; lia⟩
  have hv:=C.nlt p hp;rcases C.at_ p hp with q |q
  ·rw[q,W.c1 _ hv]; exact h.c1 _ hv
  ·rw[q,W.c3 _ hv]; exact h.c3 _ hv
 ·obtain⟨k,rfl⟩:∃ k,w=2*k+1:=⟨w / 2,by lia⟩
  have hp:k < 2*n:=by lia
  have hv:=C.nlt k hp;rcases C.at_ k hp with q |q
  ·rw[q,W.c2 _ hv]; exact h.c2 _ hv
  ·rw[q,W.c4 _ hv]; exact h.c4 _ hv
theorem zeA(C:Cd n a b nm)(h:Nat->Fin M):sm (j5 (2*n)) h=sm (j5 n) fun v=>h (a v)+h (b v):=by
 have p:(j5 (2*n)).Perm ((j5 n).map a++(j5 n).map b):=by
  refine(List.perm_ext_iff_of_nodup ZI ?_).mpr fun p=>?_
  ·rw[jP];refine⟨?_,?_,fun x hx y hy e=>?_⟩
   ·rw[WT,gR];refine Zx (fun {x y} hx hy hne e=>?_) (ZL (n:=n));have h1:=C.na x (ji.mp hx);rw[e,C.na y (ji.mp hy)] at h1;lia
   ·rw[WT,gR];refine Zx (fun {x y} hx hy hne e=>?_) (ZL (n:=n));have h1:=C.nb x (ji.mp hx);rw[e,C.nb y (ji.mp hy)] at h1;lia
   ·obtain⟨u,hu,rfl⟩:=jA.mp hx;obtain⟨v,hv,rfl⟩:=jA.mp hy;have h1:=C.na u (ji.mp hu);rw[e,C.nb v (ji.mp hv)] at h1;subst h1;exact C.ne v (ji.mp hv) e
  ·rw[ju,jA,jA,ji];constructor
   ·intro hp;have hv:=C.nlt p hp;rcases C.at_ p hp with q |q
    ·exact .inl ⟨nm p,ji.mpr hv,q.symm⟩
    ·exact .inr ⟨nm p,ji.mpr hv,q.symm⟩
   ·rintro(⟨v,hv,rfl⟩ |⟨v,hv,rfl⟩)
    ·exact C.alt v (ji.mp hv)
    ·exact C.blt v (ji.mp hv)
 rw[zqf p,zpf,zft];have sm_map:∀(l:List Nat) (g:Nat->Nat),sm (l.map g) h=sm l fun v=>h (g v):=fun l g=>by
  induction l with
  |nil=>rfl
  |cons k l ih=>rw[jt,zay,zay,ih]
 rw[sm_map,sm_map]
def Dd(b nm:Nat->Nat)(d0:Fin M)(x:Nat->Fin M):Nat->Fin M
 |0=>d0
 |k+1=>Dd b nm d0 x k+(if k=b (nm k) then - x (nm k) else x (nm k))
def Cc(a b nm:Nat->Nat)(d0:Fin M)(x:Nat->Fin M)(p:Nat):Fin M:=if p=b (nm p) then Dd b nm d0 x (a (nm p)) else - Dd b nm d0 x (b (nm p)+1)
def La(a b nm:Nat->Nat)(l0 d0:Fin M)(x:Nat->Fin M):Nat->Fin M
 |0=>l0
 |k+1=>La a b nm l0 d0 x k+Cc a b nm d0 x k
theorem zy6(C:Cd n a b nm)(d0:Fin M)(x:Nat->Fin M){v:Nat}(hv:v < n):Dd b nm d0 x (a v+1)=Dd b nm d0 x (a v)+x v:=by
 show Dd b nm d0 x (a v)+(if a v=b (nm (a v)) then _ else _)=_
 rw[C.na v hv,In_ (C.ne v hv)]
theorem zy5(C:Cd n a b nm)(d0:Fin M)(x:Nat->Fin M){v:Nat}(hv:v < n):Dd b nm d0 x (b v+1)=Dd b nm d0 x (b v) - x v:=by
 show Dd b nm d0 x (b v)+(if b v=b (nm (b v)) then _ else _)=_
 rw[C.nb v hv,Ip_ rfl]; grind
theorem zy4(C:Cd n a b nm)(l0 d0:Fin M)(x:Nat->Fin M){v:Nat}(hv:v < n):La a b nm l0 d0 x (a v+1)=La a b nm l0 d0 x (a v) - Dd b nm d0 x (b v+1):=by
 show _+Cc a b nm d0 x (a v)=_;unfold Cc;rw[C.na v hv,In_ (C.ne v hv)]; grind
theorem zy3(C:Cd n a b nm)(l0 d0:Fin M)(x:Nat->Fin M){v:Nat}(hv:v < n):La a b nm l0 d0 x (b v+1)=La a b nm l0 d0 x (b v)+Dd b nm d0 x (a v):=by
 show _+Cc a b nm d0 x (b v)=_;unfold Cc;rw[C.nb v hv,Ip_ rfl]
theorem zuu(d0:Fin M)(x:Nat->Fin M)(k:Nat):Dd b nm d0 x k=d0+sm (j5 k) fun k=>if k=b (nm k) then - x (nm k) else x (nm k):=by
 induction k with
 |zero=>show d0=_; rw[NG,zez]; grind
 |succ k ih=>rw[zc3]; show Dd b nm d0 x k+_=_; rw[ih]; grind
theorem zp9(C:Cd n a b nm)(d0:Fin M)(x:Nat->Fin M):Dd b nm d0 x (2*n)=d0:=by
 rw[zuu,zeA C];have:(sm (j5 n) fun v=>(if a v=b (nm (a v)) then - x (nm (a v)) else x (nm (a v)))+(if b v=b (nm (b v)) then - x (nm (b v)) else x (nm (b v))))=sm (j5 n) fun _=>(0:Fin M):=zaw fun v hv=>by
  have hv:=ji.mp hv;rw[C.na v hv,C.nb v hv,In_ (C.ne v hv),Ip_ rfl]; grind
 rw[this,zmn]; grind
theorem zpU(C:Cd n a b nm)(d0:Fin M)(x:Nat->Fin M){k:Nat}(hk:k < 2*n):Dd b nm d0 x (prv n k+1)=Dd b nm d0 x k:=by
 unfold prv;split
 ·rename_i h; subst h;rw[show 2*n - 1+1=2*n by lia,zp9 C]; rfl
 ·rw[show k - 1+1=k by lia]
def Cnd(n:Nat)(a b nm:Nat->Nat)(l0 d0:Fin M)(x:Nat->Fin M):Prop:=La a b nm l0 d0 x (2*n)=l0/\∀ v,v < n->La a b nm l0 d0 x (a v)=La a b nm l0 d0 x (b v+1)
def Gg(a b nm:Nat->Nat)(l0 d0:Fin M)(x:Nat->Fin M)(w:Nat):Fin M:=if w%2=0 then La a b nm l0 d0 x (w / 2+1) else La a b nm l0 d0 x (w / 2+1) - Dd b nm d0 x (w / 2+1)
theorem zut(l0 d0:Fin M)(x:Nat->Fin M)(k:Nat):Gg a b nm l0 d0 x (2*k)=La a b nm l0 d0 x (k+1):=by
 unfold Gg; rw[Ip_ (by lia),show 2*k / 2=k by lia]
theorem zus(l0 d0:Fin M)(x:Nat->Fin M)(k:Nat):Gg a b nm l0 d0 x (2*k+1)=La a b nm l0 d0 x (k+1) - Dd b nm d0 x (k+1):=by
 unfold Gg; rw[In_ (by lia),show (2*k+1) / 2=k by lia]
theorem zub(C:Cd n a b nm){l0 d0:Fin M}{x:Nat->Fin M}(h:Cnd n a b nm l0 d0 x):Cor n a b (Gg a b nm l0 d0 x):=by
  have lp:∀ k,k < 2*n->La a b nm l0 d0 x (prv n k+1)=La a b nm l0 d0 x k:=fun k hk=>by
    unfold prv;split
    · rename_i q; subst q
      rw[show 2*n - 1+1=2*n by lia,h.1]; rfl
    · rw[show k - 1+1=k by lia]
  have h2:=h.2;refine⟨fun v hv=>?_,fun v hv=>?_,fun v hv=>?_,fun v hv=>?_⟩ <;>
  (have e1:=h2 v hv
   have e2:=lp _ (C.alt v hv);have e3:=lp _ (C.blt v hv);have e4:=zpU C d0 x (C.alt v hv);have e5:=zpU C d0 x (C.blt v hv);have e6:=zy6 C d0 x hv;have e7:=zy5 C d0 x hv;have e8:=zy4 C l0 d0 x hv;have e9:=zy3 C l0 d0 x hv;simp only[zut,zus,e2,e3,e4,e5,e8,e6,e7];rw[e7] at *
   grind)
end
section
variable [NeZero M]{a b f:Nat->Nat}
def l0G(n:Nat)(G:Nat->Fin M):Fin M:=G (2*prv n 0)
def dG(G:Nat->Fin M)(k:Nat):Fin M:=G (2*k) - G (2*k+1)
def xG(n:Nat)(a:Nat->Nat)(G:Nat->Fin M)(v:Nat):Fin M:=dG G (a v) - dG G (prv n (a v))
def par(n:Nat)(a:Nat->Nat)(G:Nat->Fin M):Nat->Fin M
 |0=>l0G n G
 |1=>dG G (prv n 0)
 |v+2=>xG n a G v
theorem zn0{m:Nat}{f:Nat->Nat}(hf:Perm1 m f){G:Nat->Fin M}(h:∀ w,w < m->G (f w)=G w){w w':Nat}(hw:w < m)(o:Orb f w w'):G w'=G w:=by
 obtain⟨k,rfl⟩:=o
 induction k with
 |zero=>rfl
 |succ k ih=>show G (f (itr f k w))=G w; rw[h _ (hf.itr_lt k hw),ih]
end
abbrev F2:=Fin 2
theorem zpF(x:F2):-x=x:=by revert x; decide
theorem zjb(x:F2):x+x=0:=by revert x; decide
theorem znA(x y:F2):x+y=y+x:=by revert x y; decide
theorem zu2(x:F2):x*x=x:=by revert x; decide
def del(u v:Nat):F2:=if u=v then 1 else 0
theorem zfY(u:Nat):del u u=1:=Ip_ rfl
theorem zgK{u v:Nat}(h:u≠v):del u v=0:=In_ h
theorem zoS(u v:Nat):del u v=del v u:=by
 by_cases h:u=v
 ·rw[h]
 ·rw[zgK h,zgK (Zr h)]
theorem zdq{l:List Nat}{h:Nat->F2}(e:∀ k∈l,h k=0):sm l h=0:=by
 rw[zaw e,zmn]
theorem zsx{l:List Nat}(nd:l.Nodup){v:Nat}(hv:v∈l)(h:Nat->F2):sm l (fun u=>h u*del u v)=h v:=by
 induction l with
 |nil=>cases hv
 |cons k l ih=>
  rw[Qk] at nd;rw[zay]
  by_cases q:k=v
  ·subst q;rw[zdq fun u hu=>by rw[zgK (fun z:u=k=>nd.1 (z▸hu))]; exact ZA _,zfY]; grind
  ·rw[ih nd.2 ((jv.mp hv).resolve_left (Zr q)),zgK q]; grind
structure Ij (n:Nat) (i j nm:Nat->Nat):Prop where
 lt:∀ v,v < n->i v < j v
 jlt:∀ v,v < n->j v < 2*n
 ni:∀ v,v < n->nm (i v)=v
 nj:∀ v,v < n->nm (j v)=v
 nlt:∀ p,p < 2*n->nm p < n
 at_:∀ p,p < 2*n->p=i (nm p)∨p=j (nm p)
def aO(i j:Nat->Nat)(hd:Nat->Bool)(v:Nat):Nat:=bif hd v then i v else j v
def bO(i j:Nat->Nat)(hd:Nat->Bool)(v:Nat):Nat:=bif hd v then j v else i v
section
variable {i j:Nat->Nat}{hd:Nat->Bool}
theorem o_t{v:Nat}(h:hd v=true):aO i j hd v=i v/\bO i j hd v=j v:=by unfold aO bO; rw[h]; exact⟨rfl,rfl⟩
theorem o_f{v:Nat}(h:hd v=false):aO i j hd v=j v/\bO i j hd v=i v:=by unfold aO bO; rw[h]; exact⟨rfl,rfl⟩
theorem zm4(i j:Nat->Nat)(hd:Nat->Bool)(v:Nat):(aO i j hd v=i v/\bO i j hd v=j v/\hd v=true)∨(aO i j hd v=j v/\bO i j hd v=i v/\hd v=false):=by
 cases h:hd v
 ·exact .inr ⟨(o_f h).1,(o_f h).2,rfl⟩
 ·exact .inl ⟨(o_t h).1,(o_t h).2,rfl⟩
theorem Ij.cd(I:Ij n i j nm)(hd:Nat->Bool):Cd n (aO i j hd) (bO i j hd) nm:=by
 refine⟨fun v hv=>?_,fun v hv=>?_,fun v hv=>?_,fun v hv=>?_,fun v hv=>?_,I.nlt,fun p hp=>?_⟩
 ·rcases zm4 i j hd v with ⟨a,b,_⟩ |⟨a,b,_⟩<;>rw[a]
  ·exact WX (I.lt v hv) (I.jlt v hv)
  ·exact I.jlt v hv
 ·rcases zm4 i j hd v with ⟨a,b,_⟩ |⟨a,b,_⟩<;>rw[b]
  ·exact I.jlt v hv
  ·exact WX (I.lt v hv) (I.jlt v hv)
 ·rcases zm4 i j hd v with ⟨a,b,_⟩ |⟨a,b,_⟩<;>rw[a]
  ·exact I.ni v hv
  ·exact I.nj v hv
 ·rcases zm4 i j hd v with ⟨a,b,_⟩ |⟨a,b,_⟩<;>rw[b]
  ·exact I.nj v hv
  ·exact I.ni v hv
 ·rcases zm4 i j hd v with ⟨a,b,_⟩ |⟨a,b,_⟩<;>rw[a,b]
  ·exact jC (I.lt v hv)
  ·exact gs (I.lt v hv)
 ·rcases zm4 i j hd (nm p) with ⟨a,b,_⟩ |⟨a,b,_⟩<;>rw[a,b]
  ·exact I.at_ p hp
  ·exact(I.at_ p hp).symm
def inn(i j:Nat->Nat)(u p:Nat):F2:=if i u < p/\p < j u then 1 else 0
def io(i j:Nat->Nat)(u k:Nat):F2:=if i u < k/\k<=j u then 1 else 0
def cr(i j:Nat->Nat)(u v:Nat):F2:=inn i j u (i v)+inn i j u (j v)
def eta(hd:Nat->Bool)(v:Nat):F2:=bif hd v then 0 else 1
theorem zpC{p q:Prop}[Decidable p][Decidable q](h:p↔q):(if p then (1:F2) else 0)=if q then 1 else 0:=by
 by_cases hp:p
 ·rw[Ip_ hp,Ip_ (h.mp hp)]
 ·rw[In_ hp,In_ fun z=>hp (h.mpr z)]
theorem zno{u x:Nat}(h:x≠i u):io i j u (x+1)=inn i j u x:=zpC (by lia)
theorem znp{u x:Nat}(h:x≠j u):io i j u x=inn i j u x:=zpC (by lia)
theorem zre(u:Nat):inn i j u (i u)=0:=In_ fun h=>jZ _ h.1
theorem zrd(u:Nat):inn i j u (j u)=0:=In_ fun h=>jZ _ h.2
theorem zx2(u:Nat):io i j u (i u)=0:=In_ fun h=>jZ _ h.1
theorem ztQ{u:Nat}(h:i u < j u):io i j u (i u+1)=1:=Ip_ ⟨Z8 _,h⟩
theorem zx1{u:Nat}(h:i u < j u):io i j u (j u)=1:=Ip_ ⟨h,jm _⟩
theorem ztP(u:Nat):io i j u (j u+1)=0:=In_ fun h=>jZ _ h.2
theorem zrD(u:Nat):cr i j u u=0:=by unfold cr; rw[zre,zrd]; rfl
theorem Ij.ne(I:Ij n i j nm){u p:Nat}(hp:p < 2*n)(hu:u < n)(h:u≠nm p):p≠i u/\p≠j u:=⟨fun e=>h (by rw[e,I.ni u hu]),fun e=>h (by rw[e,I.nj u hu])⟩
theorem zeZ{v:Nat}(hv:v < n)(h:Nat->F2):sm (j5 n) (fun u=>h u*del u v)=h v:=zsx ZI (ji.mpr hv) h
theorem zwG(I:Ij n i j nm)(d0:F2)(x:Nat->F2):∀ k,k<=2*n->Dd (bO i j hd) nm d0 x k=d0+sm (j5 n) fun u=>x u*io i j u k:=fun k=>by
 induction k with
 |zero=>
  intro _;rw[zdq fun u _=>by rw[show io i j u 0=0 from In_ fun h=>ZS _ h.1]; exact ZA _]
  exact(J2 d0).symm
 |succ k ih=>
  intro hk;have hk':k < 2*n:=hk;have hv:=I.nlt k hk';have e1:Dd (bO i j hd) nm d0 x (k+1)=Dd (bO i j hd) nm d0 x k+x (nm k):=by
   show _+(if k=bO i j hd (nm k) then - x (nm k) else x (nm k))=_
   rw[zpF,ite_self]
  rw[e1,ih (Z1 hk')];have e2:(sm (j5 n) fun u=>x u*io i j u (k+1))=sm (j5 n) fun u=>x u*io i j u k+x u*del u (nm k):=zaw fun u hu=>by
   have hu:=ji.mp hu;have e3:io i j u (k+1)=io i j u k+del u (nm k):=by
    by_cases q:u=nm k
    ·have ha:=I.at_ k hk';have hl:=I.lt u hu;rw[<-q] at ha ⊢;rw[zfY];rcases ha with e |e
     ·rw[e,ztQ hl,zx2]; rfl
     ·rw[e,ztP,zx1 hl]; rfl
    ·have hp:=I.ne hk' hu q;rw[zgK q,zno hp.1,znp hp.2]; exact(J2 _).symm
   rw[e3]; grind
  rw[e2,zft,zeZ hv]; grind
def tau(a b nm:Nat->Nat)(p:Nat):Nat:=if p=b (nm p) then a (nm p) else b (nm p)+1
def Tt(i j nm:Nat->Nat)(hd:Nat->Bool)(u k:Nat):F2:=sm (j5 k) fun p=>io i j u (tau (aO i j hd) (bO i j hd) nm p)
theorem zsq{a b:Nat->Nat}(C:Cd n a b nm){p:Nat}(h:p < 2*n):tau a b nm p<=2*n:=by
 have hv:=C.nlt p h;unfold tau;split
 ·exact Z1 (C.alt _ hv)
 ·exact C.blt _ hv
def ev2(k:Nat)(d:F2):F2:=if k%2=0 then 0 else d
theorem zoL(k:Nat)(d:F2):ev2 (k+1) d=ev2 k d+d:=by
 unfold ev2;rcases Q8 k with q |q
 ·rw[Ip_ q,In_ (by lia)]; exact(Fin.zero_add d).symm
 ·rw[Ip_ (c:=(k+1)%2=0) (by lia),In_ (by lia)]; exact(zjb d).symm
theorem zjy(I:Ij n i j nm)(l0 d0:F2)(x:Nat->F2):∀ k,k<=2*n->La (aO i j hd) (bO i j hd) nm l0 d0 x k=l0+ev2 k d0+sm (j5 n) fun u=>x u*Tt i j nm hd u k:=fun k=>by
 induction k with
 |zero=>
  intro _;rw[zdq fun u _=>by exact ZA (x u)]
  show l0=l0+0+0
  grind
 |succ k ih=>
  intro hk;show La (aO i j hd) (bO i j hd) nm l0 d0 x k+Cc (aO i j hd) (bO i j hd) nm d0 x k=_;have e1:Cc (aO i j hd) (bO i j hd) nm d0 x k=Dd (bO i j hd) nm d0 x (tau (aO i j hd) (bO i j hd) nm k):=by
   unfold Cc tau;split
   ·rfl
   ·rw[zpF]
  rw[e1,ih (Z1 hk),zwG I d0 x _ (zsq (I.cd hd) hk),zoL];have e2:(sm (j5 n) fun u=>x u*Tt i j nm hd u (k+1))=sm (j5 n) fun u=>x u*Tt i j nm hd u k+x u*io i j u (tau (aO i j hd) (bO i j hd) nm k):=zaw fun u hu=>by
   unfold Tt;rw[zc3]; grind
  rw[e2,zft]; grind
theorem zrE(I:Ij n i j nm):(∀(l0 d0:F2) (x:Nat->F2),Cnd n (aO i j hd) (bO i j hd) nm l0 d0 x)↔(∀ w,w < n->(i w+j w)%2=1)/\(∀ u,u < n->Tt i j nm hd u (2*n)=0)/\∀ u w,u < n->w < n->Tt i j nm hd u (bO i j hd w+1)+Tt i j nm hd u (aO i j hd w)=0:=by
 have C:=I.cd hd;have par:∀ w,(i w+j w)%2=1↔∀ d,ev2 (aO i j hd w) d=ev2 (bO i j hd w+1) d:=fun w=>by
  have key:∀ a b:Nat,(a+b)%2=1↔∀ d,ev2 a d=ev2 (b+1) d:=fun a b=>by
   unfold ev2;constructor
   ·intro h d;rcases Q8 a with q |q
    ·rw[Ip_ q,Ip_ (by lia)]
    ·rw[In_ (by lia),In_ (by lia)]
   ·intro h;have h:=h 1;rcases Q8 a with q |q<;>rcases Q8 (b+1) with q' |q'
    ·lia
    ·rw[Ip_ q,In_ (by lia)] at h; cases h
    ·rw[In_ (by lia),Ip_ q'] at h; cases h
    ·lia
  rcases zm4 i j hd w with ⟨a,b,_⟩ |⟨a,b,_⟩<;>rw[a,b]
  ·exact key _ _
  ·rw[Nat.add_comm]; exact key _ _
 constructor
 ·intro h;refine⟨fun w hw=>(par w).mpr fun d=>?_,fun u hu=>?_,fun u w hu hw=>?_⟩
  ·have e:=(h 0 d fun _=>0).2 w hw;rw[zjy I _ _ _ _ (Z1 (C.alt w hw)),zjy I _ _ _ _ (C.blt w hw),zdq fun u _=>by exact gY _,zdq fun u _=>by exact gY _] at e
   grind
  ·have e:=(h 0 0 fun v=>del v u).1;rw[zjy I _ _ _ _ (jm _)] at e;have:(sm (j5 n) fun v=>del v u*Tt i j nm hd v (2*n))=Tt i j nm hd u (2*n):=by
    rw[<-zeZ hu fun v=>Tt i j nm hd v (2*n)];exact zaw fun v _=>J3 _ _
   rw[this,show ev2 (2*n) (0:F2)=0 from ite_self _] at e; grind
  ·have e:=(h 0 0 fun v=>del v u).2 w hw;have z:∀ k,(sm (j5 n) fun v=>del v u*Tt i j nm hd v k)=Tt i j nm hd u k:=fun k=>by
    rw[<-zeZ hu fun v=>Tt i j nm hd v k];exact zaw fun v _=>J3 _ _
   rw[zjy I _ _ _ _ (Z1 (C.alt w hw)),zjy I _ _ _ _ (C.blt w hw),z,z,show ∀ k,ev2 k (0:F2)=0 from fun _=>ite_self _,show ∀ k,ev2 k (0:F2)=0 from fun _=>ite_self _] at e;have:=zjb (Tt i j nm hd u (aO i j hd w))
   grind
 ·rintro⟨hE,hC,hV⟩ l0 d0 x;refine⟨?_,fun w hw=>?_⟩
  ·rw[zjy I _ _ _ _ (jm _),show ev2 (2*n) d0=0 from Ip_ (Nat.mul_mod_right 2 n),zdq fun u hu=>by rw[hC u (ji.mp hu)]; exact ZA _]
   grind
  ·rw[zjy I _ _ _ _ (Z1 (C.alt w hw)),zjy I _ _ _ _ (C.blt w hw),(par w).mp (hE w hw) d0];have e1:(sm (j5 n) fun u=>x u*Tt i j nm hd u (aO i j hd w))=sm (j5 n) fun u=>x u*Tt i j nm hd u (bO i j hd w+1):=zaw fun u hu=>by
    have:=hV u w (ji.mp hu) hw;have:=zjb (Tt i j nm hd u (aO i j hd w))
    grind
   rw[e1]
theorem t_a(I:Ij n i j nm){u v:Nat}(hu:u < n)(hv:v < n):io i j u (tau (aO i j hd) (bO i j hd) nm (aO i j hd v))=inn i j u (bO i j hd v)+eta hd u*del u v:=by
 have C:=I.cd hd;unfold tau;rw[C.na v hv,In_ (C.ne v hv)]
 by_cases q:u=v
 ·subst q;rw[zfY];unfold eta;rcases zm4 i j hd u with ⟨_,b,h⟩ |⟨_,b,h⟩<;>rw[b,h]
  ·rw[ztP,zrd]; rfl
  ·rw[ztQ (I.lt u hu),zre]; rfl
 ·rw[zgK q,zno (I.ne (C.blt v hv) hu (by rw[C.nb v hv]; exact q)).1]; grind
theorem t_b(I:Ij n i j nm){u v:Nat}(hu:u < n)(hv:v < n):io i j u (tau (aO i j hd) (bO i j hd) nm (bO i j hd v))=inn i j u (aO i j hd v)+eta hd u*del u v:=by
 have C:=I.cd hd;unfold tau;rw[C.nb v hv,Ip_ rfl]
 by_cases q:u=v
 ·subst q;rw[zfY];unfold eta;rcases zm4 i j hd u with ⟨a,_,h⟩ |⟨a,_,h⟩<;>rw[a,h]
  ·rw[zx2,zre]; rfl
  ·rw[zx1 (I.lt u hu),zrd]; rfl
 ·rw[zgK q,znp (I.ne (C.alt v hv) hu (by rw[C.na v hv]; exact q)).2]; grind
def zo3(n:Nat)(i j:Nat->Nat)(u:Nat):F2:=sm (j5 n) fun v=>cr i j u v
def zof(n:Nat)(i j:Nat->Nat)(u w:Nat):F2:=sm (j5 n) fun v=>cr i j u v*cr i j w v
theorem zoY(i j:Nat->Nat)(hd:Nat->Bool)(u v:Nat):cr i j u v=inn i j u (aO i j hd v)+inn i j u (bO i j hd v):=by
 unfold cr;rcases zm4 i j hd v with ⟨a,b,_⟩ |⟨a,b,_⟩<;>rw[a,b]
 exact znA _ _
theorem zsw(I:Ij n i j nm)(h:Nat->F2):sm (j5 (2*n)) h=sm (j5 n) fun v=>h (i v)+h (j v):=by
 rw[zeA (I.cd fun _=>true)]; rfl
theorem zwB(I:Ij n i j nm){u:Nat}(hu:u < n):Tt i j nm hd u (2*n)=zo3 n i j u:=by
 unfold Tt zo3;rw[zeA (I.cd hd)];refine zaw fun v hv=>?_;have hv:=ji.mp hv;rw[t_a I hu hv,t_b I hu hv,zoY i j hd];have:=zjb (eta hd u*del u v)
 grind
theorem zpe(h:Nat->F2):∀(N k:Nat),k<=N->sm (j5 k) h=sm (j5 N) fun p=>h p*if p < k then 1 else 0:=fun N=>by
 induction N with
 |zero=>intro k hk; rw[Nat.le_zero.mp hk]; rfl
 |succ N ih=>
  intro k hk
  by_cases q:k=N+1
  ·subst q;refine zaw fun p hp=>?_;rw[Ip_ (ji.mp hp)]; exact(Fin.mul_one _).symm
  ·rw[zc3,ih k (by lia),In_ (by lia)]; grind
theorem zst{p x y:Nat}(h:x < y):(if p < y+1 then (1:F2) else 0)+(if p < x then 1 else 0)=(if x < p/\p < y then 1 else 0)+(del p x+del p y):=by
 unfold del;rcases gS p x with q |q |q
 ·rw[Ip_ (by lia),Ip_ q,In_ (by lia),In_ (by lia),In_ (by lia)]; rfl
 ·rw[Ip_ (by lia),In_ (by lia),In_ (by lia),Ip_ q,In_ (by lia)]; rfl
 ·rcases gS p y with q' |q' |q'
  ·rw[Ip_ (by lia),In_ (by lia),Ip_ ⟨q,q'⟩,In_ (by lia),In_ (by lia)]; rfl
  ·rw[Ip_ (by lia),In_ (by lia),In_ (by lia),In_ (by lia),Ip_ q']; rfl
  ·rw[In_ (by lia),In_ (by lia),In_ (by lia),In_ (by lia),In_ (by lia)]; rfl
theorem zsu{p x y:Nat}(h:x < y):(if p < x+1 then (1:F2) else 0)+(if p < y then 1 else 0)=if x < p/\p < y then 1 else 0:=by
 by_cases q:p < x+1
 ·rw[Ip_ q,Ip_ (by lia),In_ (by lia)]; rfl
 ·by_cases q':p < y
  ·rw[In_ q,Ip_ q',Ip_ (by lia)]; rfl
  ·rw[In_ q,In_ q',In_ (by lia)]; rfl
theorem zum(I:Ij n i j nm){u w:Nat}(hu:u < n)(hw:w < n):Tt i j nm hd u (bO i j hd w+1)+Tt i j nm hd u (aO i j hd w)=(sm (j5 (2*n)) fun p=>inn i j w p*io i j u (tau (aO i j hd) (bO i j hd) nm p))+(1+eta hd w)*cr i j u w:=by
 have C:=I.cd hd;have e0:cr i j u w=io i j u (tau (aO i j hd) (bO i j hd) nm (aO i j hd w))+io i j u (tau (aO i j hd) (bO i j hd) nm (bO i j hd w)):=by
  rw[t_a I hu hw,t_b I hu hw,zoY i j hd];have:=zjb (eta hd u*del u w)
  grind
 rw[e0];unfold Tt;obtain⟨h,hh⟩:∃ h:Nat->F2,∀ p,io i j u (tau (aO i j hd) (bO i j hd) nm p)=h p:=⟨_,fun _=>rfl⟩;simp only[hh];have ea:=zeZ (n:=2*n) (C.alt w hw) h;have eb:=zeZ (n:=2*n) (C.blt w hw) h;rw[zpe h (2*n) _ (C.blt w hw),zpe h (2*n) _ (Z1 (C.alt w hw)),<-zft,<-ea,<-eb,<-zft,<-zsv,<-zft];refine zaw fun p hp=>?_;have hk:(if p < bO i j hd w+1 then (1:F2) else 0)+(if p < aO i j hd w then 1 else 0)=inn i j w p+(1+eta hd w)*(del p (aO i j hd w)+del p (bO i j hd w)):=by
  unfold eta inn;rcases zm4 i j hd w with ⟨a,b,z⟩ |⟨a,b,z⟩<;>rw[a,b,z]
  ·rw[zst (I.lt w hw)]; show _=_+(1+0)*_; grind
  ·rw[zsu (I.lt w hw)]; show _=_+(1+1)*_; grind
 generalize h p=y;generalize (if p < bO i j hd w+1 then (1:F2) else 0)=c1 at hk
 generalize (if p < aO i j hd w then (1:F2) else 0)=c2 at hk
 generalize inn i j w p=c3 at *;generalize eta hd w=c4 at *;generalize del p (aO i j hd w)=c5 at *;generalize del p (bO i j hd w)=c6 at *
 clear hh ea eb e0 hp C
 revert y c1 c2 c3 c4 c5 c6
 decide
def Kk(n:Nat)(i j:Nat->Nat)(u w:Nat):F2:=sm (j5 (2*n)) fun p=>inn i j u p*inn i j w p
theorem zul(I:Ij n i j nm){u w:Nat}(hu:u < n)(hw:w < n):Tt i j nm hd u (bO i j hd w+1)+Tt i j nm hd u (aO i j hd w)=zof n i j u w+Kk n i j u w+eta hd u*cr i j w u+(1+eta hd w)*cr i j u w:=by
 have C:=I.cd hd;rw[zum I hu hw];have e:(sm (j5 (2*n)) fun p=>inn i j w p*io i j u (tau (aO i j hd) (bO i j hd) nm p))=zof n i j u w+Kk n i j u w+eta hd u*cr i j w u:=by
  unfold zof Kk;rw[zeA C,zeA C (fun p=>inn i j u p*inn i j w p)];rw[<-zeZ hu fun v=>eta hd u*cr i j w v,<-zft,<-zft];refine zaw fun v hv=>?_;have hv:=ji.mp hv;rw[t_a I hu hv,t_b I hu hv,zoS u v,zoY i j hd u v,zoY i j hd w v];generalize inn i j u (aO i j hd v)=p1;generalize inn i j u (bO i j hd v)=p2;generalize inn i j w (aO i j hd v)=p3;generalize inn i j w (bO i j hd v)=p4;generalize eta hd u=p5;generalize del v u=p6
  revert p1 p2 p3 p4 p5 p6
  decide
 rw[e]
def n2(k:Nat):F2:=Fin.ofNat 2 k
theorem zhl{j k:Nat}(h:j%2=k%2):n2 j=n2 k:=Fin.ext h
theorem zna(j k:Nat):n2 (j+k)=n2 j+n2 k:=Fin.ext (Nat.add_mod j k 2)
theorem n2_zero{k:Nat}:n2 k=0↔k%2=0:=⟨fun h=>congrArg Fin.val h,fun h=>zhl (k:=0) h⟩
theorem zqg(x y:Nat):∀ N,y<=N->sm (j5 N) (fun p=>if x < p/\p < y then (1:F2) else 0)=n2 (y - (x+1)):=fun N h=>by
 have key:∀ N,sm (j5 N) (fun p=>if x < p/\p < y then (1:F2) else 0)=n2 (min N y - (x+1)):=fun N=>by
  induction N with
  |zero=>rw[NG,zez,Nat.zero_min,Nat.zero_sub]; rfl
  |succ N ih=>
   rw[zc3,ih]
   by_cases q:x < N/\N < y
   ·rw[Ip_ q,show min (N+1) y - (x+1)=min N y - (x+1)+1 by lia,zna]; rfl
   ·rw[In_ q,show min (N+1) y - (x+1)=min N y - (x+1) by lia]; exact J2 _
 rw[key,Jd h]
theorem zru(I:Ij n i j nm){u:Nat}(hu:u < n):zo3 n i j u=n2 (j u - (i u+1)):=by
 have:zo3 n i j u=sm (j5 (2*n)) fun p=>inn i j u p:=by
  rw[zsw I]; rfl
 rw[this];exact zqg _ _ _ (Z1 (I.jlt u hu))
theorem ord(I:Ij n i j nm){u w:Nat}(hu:u < n)(hw:w < n)(h:i u < i w)(hE:∀ w,w < n->(i w+j w)%2=1):(cr i j u w=0/\cr i j w u=0/\Kk n i j u w=0)∨(cr i j u w=1/\cr i j w u=1/\Kk n i j u w=n2 (i u)+n2 (i w)):=by
 have hne:w≠u:=fun e=>by rw[e] at h; exact jZ _ h
 have h1:=I.lt u hu;have h2:=I.lt w hw;have h3:=I.jlt u hu;have h4:=I.jlt w hw;have d1:=(I.ne (u:=w) h3 hw (by rw[I.nj u hu]; exact hne))
 have e1:=hE u hu;have e2:=hE w hw;unfold cr Kk inn;generalize 2*n=N at h3 h4;generalize i u=x at *;generalize j u=y at *;generalize i w=k at *;generalize j w=l at *
 clear hE hne hu hw I
 rw[In_ (c:=k < x/\x < l) (by lia)]
 rcases ND y k with q |q
 ·refine .inl ⟨?_,?_,zdq fun p _=>?_⟩
  ·rw[In_ (by lia),In_ (by lia)]; rfl
  ·rw[In_ (by lia)]; rfl
  ·by_cases z:x < p/\p < y
   ·rw[In_ (c:=k < p/\p < l) (by lia)]; exact ZA _
   ·rw[In_ z]; exact gY _
 ·rcases ND y l with q' |q'
  ·refine .inr ⟨?_,?_,?_⟩
   ·rw[Ip_ (by lia),In_ (by lia)]; rfl
   ·rw[Ip_ (by lia)]; rfl
   ·rw[zaw (h':=fun p=>if k < p/\p < y then (1:F2) else 0) fun p _=>?_,zqg k y N (by lia),<-zna]
    ·exact zhl (by lia)
    ·by_cases z:k < p/\p < y
     ·rw[Ip_ z,Ip_ (by lia),Ip_ (by lia)]; rfl
     ·rw[In_ z]
      by_cases z':x < p/\p < y
      ·rw[In_ (c:=k < p/\p < l) (by lia)]; exact ZA _
      ·rw[In_ z']; exact gY _
  ·refine .inl ⟨?_,?_,?_⟩
   ·rw[Ip_ (by lia),Ip_ (by lia)]; rfl
   ·rw[In_ (by lia)]; rfl
   ·rw[zaw (h':=fun p=>if k < p/\p < l then (1:F2) else 0) fun p _=>?_,zqg k l N (by lia)]
    ·exact n2_zero.mpr (by lia)
    ·by_cases z:k < p/\p < l
     ·rw[Ip_ z,Ip_ (by lia)]; rfl
     ·rw[In_ z]; exact ZA _
theorem zxR(I:Ij n i j nm){u w:Nat}(hu:u < n)(hw:w < n)(h:u≠w)(hE:∀ w,w < n->(i w+j w)%2=1):cr i j w u=cr i j u w/\Kk n i j u w=cr i j u w*(n2 (i u)+n2 (i w)):=by
 have hK:Kk n i j w u=Kk n i j u w:=zaw fun p _=>J3 _ _;rcases gS (i u) (i w) with q |q |q
 ·rcases ord I hu hw q hE with ⟨a,b,c⟩ |⟨a,b,c⟩<;>rw[a,b,c]
  ·exact⟨rfl,(gY _).symm⟩
  ·exact⟨rfl,(Fin.one_mul _).symm⟩
 ·exact absurd (by rw[<-I.ni u hu,q,I.ni w hw]) h
 ·rcases ord I hw hu q hE with ⟨a,b,c⟩ |⟨a,b,c⟩<;>rw[<-hK,a,b,c]
  ·exact⟨rfl,(gY _).symm⟩
  ·exact⟨rfl,by rw[Fin.one_mul]; exact znA _ _⟩
def sdF(i:Nat->Nat)(hd:Nat->Bool)(u:Nat):F2:=n2 (i u)+eta hd u
theorem znL(I:Ij n i j nm):(∀(l0 d0:F2) (x:Nat->F2),Cnd n (aO i j hd) (bO i j hd) nm l0 d0 x)↔(∀ u,u < n->zo3 n i j u=0)/\∀ u w,u < n->w < n->u≠w->zof n i j u w+cr i j u w*(sdF i hd u+sdF i hd w+1)=0:=by
 rw[zrE I];have hEd:(∀ w,w < n->(i w+j w)%2=1)↔∀ u,u < n->zo3 n i j u=0:=by
  refine forall_congr' fun u=>forall_congr' fun hu=>?_;rw[zru I hu,n2_zero];have:=I.lt u hu;lia
 have key:∀ u w,u < n->w < n->u≠w->(∀ w,w < n->(i w+j w)%2=1)->Tt i j nm hd u (bO i j hd w+1)+Tt i j nm hd u (aO i j hd w)=zof n i j u w+cr i j u w*(sdF i hd u+sdF i hd w+1):=fun u w hu hw h hE=>by
  obtain⟨o1,o2⟩:=zxR I hu hw h hE;rw[zul I hu hw,o2,o1];unfold sdF
  grind
 constructor
 ·rintro⟨hE,_,hV⟩;refine⟨hEd.mp hE,fun u w hu hw h=>?_⟩;rw[<-key u w hu hw h hE];exact hV u w hu hw
 ·rintro⟨hd',hs⟩;have hE:=hEd.mpr hd';refine⟨hE,fun u hu=>by rw[zwB I hu]; exact hd' u hu,fun u w hu hw=>?_⟩
  by_cases h:u=w
  ·subst h
   rw[zul I hu hw,zrD,show zof n i j u u=zo3 n i j u from zaw fun v _=>zu2 _,hd' u hu,show Kk n i j u u=zo3 n i j u by
    have e1:Kk n i j u u=sm (j5 (2*n)) fun p=>inn i j u p:=zaw fun v _=>zu2 _
    rw[e1,zsw I]; rfl,hd' u hu,ZA,ZA]
   rfl
  ·rw[key u w hu hw h hE]; exact hs u w hu hw h
end
end Dw
set_option maxHeartbeats 4000000
namespace L3
open PySem PySem.Spec PyProof.Rows L2
section
variable [TheK]{X:Cx}{M:List Nat}
theorem qV(i:Nat){x:Str}{pos:Pos}(hN:X.N[i]?=some x:=by rfl)(hv:Vis X.env.scope x:=by first |exact jD rfl |exact g9 (jD rfl) |exact g9 (g9 rfl))(hd:(x == ("__debug__":Str))=false:=by decide)(hcd:(x == ("__classdict__":Str))=false:=by decide)(hi:M.contains i=false:=by rfl):QE X (.Name x pos) (cE .e M (dV i)):=qv_ hi (qpv i hN hv hd hcd)
theorem qib{i:Int}{j:Nat}{pos:Pos}:QE X (.Constant (.int i) j pos) (cE .b M (dC (.int i))):=qeb qi_
end
end L3
namespace Dw
open PySem PySem.Spec PyProof.Rows L2 L3
def top(i:Nat):QR:=Y8.main.body.getD i (.Pass ⟨0,0,0,0⟩)
variable {v:Ev}
abbrev zgg:QR:=top 35
theorem zhb:FnScope ["_law_cell_here","_law_many","_law_letters","_law_size","_law_rest","_law_stem","_law_k","_law_spot","_law_made","_law_letter","_law_name"] ["_law_cell_here","_law_many"] (za0 zgg):=scm
def zeR:DS:=(zai (zaF 2 (dC (.str "abcdefghijklmnopqrstuvwxyz")))
  (zai (zaF 3 (d2 zat (dC (.int 1)) (d2 zed (dV 0) (dC (.int 8)))))
  (zai (zaF 4 (d2 zed (d2 zgD (dV 0) (dC (.int 8))) (d2 zrT (dC (.int 10)) (dC (.int 18)))))
  (zai (zaF 5 (dC (.str "")))
  (zai (zew (znJ (dAc (dV 3) dAn)) (dGn 6)
  (zai (zaF 5 (d2 zat (dV 5) (d2 za7 (dV 2) (d2 zed (dV 4) (dC (.int 26))))))
  (zaF 4 (d2 zat (d2 zgD (dV 4) (dC (.int 26))) (d2 zeO (dC (.int 5)) (dV 6))))))
  (zai (zaF 7 (d2 zed (d2 zgD (dV 0) (dC (.int 3))) (dV 3)))
  (zai (zaF 8 (zeT dAn))
  (zai (zcY (dB (d2 gEq (d2 zed (d2 zgD (dV 0) (dC (.int 5))) (dC (.int 3))) (dC (.int 1)))) (zaF 8 (dSl gSl (dLC [8] [none,some 5] (zuG (dAc (dC (.int 1)) (dAc (d2 zat (dV 3) (dC (.int 1))) dAn))) (dGn 0) zfL (dSl zev (dV 1) dOn (dOs (dV 0)))) dOn (dOs (dV 1)))) zaH)
  (zai (zcY (dOr (dB (d2 gEq (d2 zed (d2 zgD (dV 0) (dC (.int 5))) (dC (.int 3))) (dC (.int 2)))) (dB (d2 gGt (dV 1) (dC (.int 24))))) (zaF 8 (dLC [8] [none,some 2,some 5,some 4] (znJ (dAc (dV 1) dAn)) (dGn 0) zfL (d2 zat (d2 zat (dSl zev (dV 2) dOn (dOs (dC (.int 6)))) (d2 za7 (dV 1) (d2 zgD (dV 0) (dC (.int 5))))) (d2 za7 (dV 1) (d2 zed (d2 zat (dV 0) (dV 3)) (dC (.int 26))))))) zaH)
  (zai (zew (zcs (dV 2)) (dGn 9)
  (zai (zaF 10 (d2 zat (d2 zat (dSl zev (dV 5) dOn (dOs (dV 7))) (dV 9)) (dSl zev (dV 5) (dOs (d2 zat (dV 7) (dC (.int 1)))) dOn)))
  (zcY (zpK (dB (d2 gLt (d1 zdo (dV 8)) (dV 1))) (dB (d2 zaC (dV 10) (dV 8)))) (dDo (zhq zk4 8 (dAc (dV 10) dAn))) zaH)))
  (zal [] (dV 8))))))))))))
def zfg:List T->Option T:=fnP 11 zeR
abbrev zgT[TheK](v:Ev)(k:Nat):Prop:=Cl v k "_law_names" ["_law_cell_here","_law_many"] (spP .e 2 zfg)
theorem zlF[tk:TheK](h:Here tk.K v.mg "_law_names" zgg ["_law_cell_here","_law_many"])(m_range:v.mg "range"=none)(m_len:v.mg "len"=none):zgT v 1:=by
 refine(h.vP 0 [] zeR zhb fun f cdv A outer s H E hr=>?_ :);have sc:=zhb;have hu:=zbT hr;have hu8:=zbn hr
 exact(qs_ (M':=[]) (zac (M':=[]) (za6 (i:=2) sc.nd rfl (g9 rfl) ze8))
  (qs_ (M':=[]) (zac (M':=[]) (za6 (i:=3) sc.nd rfl (jD rfl) (zao qi_ (qeb (zaP (qV 0) qib)))))
  (qs_ (M':=[]) (zac (M':=[]) (za6 (i:=4) sc.nd rfl (g9 rfl) (zaP (zbY (qV 0) qib) (qeb (zmK qi_ qib)))))
  (qs_ (M':=[]) (zac (M':=[]) (za6 (i:=5) sc.nd rfl (g9 rfl) ze8))
  (qs_ (M':=[]) (zbq (zaK jK rfl (zdF rfl m_range (qa_ (qV 3) za3)) (zbs (za4 (i:=6) sc.nd rfl (jD rfl)))
  (qs_ (M':=[]) (zac (M':=[]) (za6 (i:=5) sc.nd rfl (g9 rfl) (zao (qV 5) (qeb (zad rfl hu (qV 2) (qeb (zaP (qV 4) qib)) (fun _ _=>rfl))))))
  (za2 (zac (M':=[]) (za6 (i:=4) sc.nd rfl (g9 rfl) (zao (zbY (qV 4) qib) (qeb (zb4 qi_ (qeb (qV 6)))))))))))
  (qs_ (M':=[]) (zac (M':=[]) (za6 (i:=7) sc.nd rfl (jD rfl) (zaP (zbY (qV 0) qib) (qeb (qV 3)))))
  (qs_ (M':=[8]) (zaz (M':=[8]) (za6 (i:=8) sc.nd rfl (jD rfl) (zaJ za3)))
  (qs_ (M':=[8]) (zbp (M':=[8]) (zf5 hu8 (zaP (zbY (qV 0) qib) qib) qib) (za2 (zaz (M':=[8]) (za6 (i:=8) sc.nd rfl (jD rfl) (zvO rfl (qne (zgn (Mi:=[]) rfl (zbg (i:=0)) zct (zdE (N:=["_law_k","_law_stem"]) (caps:=[none,some 5]) rfl (zmJ rfl m_range (qa_ qi_ (qa_ (zao (qV 3) qib) za3))) (fun _ _ _ _ _=>(za4 (i:=0) (show (["_law_k","_law_stem"]:List Str).Nodup by decide +kernel) rfl (jD rfl))) zaX (fun _ _ _ _ _=>zaR) (fun _ _ _ _ _=>(ze9 rfl (qV 1) zci (zbr (qV 0))))))) zci (zbr (qV 1)))))) zan)
  (qs_ (M':=[8]) (zbp (M':=[8]) (QW.pt (ziN (zf5 hu8 (zaP (zbY (qV 0) qib) qib) qib) (ziM (zlx (qV 1) qib)))) (za2 (zaz (M':=[8]) (zmD (Mi:=[]) rfl (zbg (i:=0)) zct (zdC (i:=8) sc.nd rfl rfl (N:=["_law_k","_law_letters","_law_stem","_law_rest"]) (caps:=[none,some 2,some 5,some 4]) rfl (zdF rfl m_range (qa_ (qV 1) za3)) (fun _ _ _ _ _=>(za4 (i:=0) (show (["_law_k","_law_letters","_law_stem","_law_rest"]:List Str).Nodup by decide +kernel) rfl (jD rfl))) zaX (fun _ _ _ _ _=>zaR) (fun _ _ _ _ _=>(zao (zao (ze9 rfl (qV 2) zci (zbr qi_)) (qeb (zad rfl hu (qV 1) (qeb (zbY (qV 0) qib)) (fun _ _=>rfl)))) (qeb (zad rfl hu (qV 1) (qeb (zaP (zao (qV 0) (qeb (qV 3))) qib)) (fun _ _=>rfl))))))))) zan)
  (qs_ (M':=[8]) (zbq (zaK jK rfl (zaI rfl (qV 2)) (zbs (za4 (i:=9) sc.nd rfl (jD rfl)))
  (qs_ (M':=[8]) (zac (M':=[8]) (za6 (i:=10) sc.nd rfl (jD rfl) (zao (zao (ze9 rfl (qV 5) zci (zbr (qV 7))) (qeb (qV 9))) (qeb (ze9 rfl (qV 5) (zbr (zao (qV 7) qib)) zci)))))
  (za2 (zbp (M':=[8]) (QW.pt (zkI (zqs (zbt rfl rfl m_len (zcR rfl (qpv 8))) (qeb (qV 1))) (zjR (zch hu (qV 10) (zcR rfl (qpv 8)) (by with_unfolding_all rfl))))) (za2 (zgm (.inl rfl) (zcS rfl (ze7 jS QJ QK zck (qpv 8) (qa_ (qV 10) za3))))) zan)))))
  (za2 (ziO (M':=[]) (zaa (qV 8))))))))))))))
abbrev zhH:QR:=top 34
theorem ziI:FnScope ["_law_bag_here","_law_many","_law_found"] ["_law_bag_here","_law_many"] (za0 zhH):=scm
def zg0:DS:=(zai (zcY (dB (d2 gGt (d2v za7 0 (dC (.int 0))) (dC (.int 0)))) (zai (zaF 2 (d2 zed (d2v za7 0 (dC (.int 0))) (dV 1)))
  (zai (zjk 0 (dC (.int 0)) (d2 zgD (d2v za7 0 (dC (.int 0))) (dV 1)))
  (zal [0] (dV 2)))) zaH)
  (zai (zjk 0 (dC (.int 1)) (d2 zed (d2 zat (d2 zeO (d2v za7 0 (dC (.int 1))) (dC (.int 48271))) (dC (.int 4099))) (dC (.int 2147483647))))
  (zal [0] (d2 zed (d2 zgD (d2 zed (d2 zeO (d2v za7 0 (dC (.int 1))) (d2 zat (d2 zgD (d2v za7 0 (dC (.int 1))) (dC (.int 65536))) (dC (.int 7)))) (dC (.int 2147483629))) (dC (.int 32))) (dV 1)))))
def zbw:List T->Option (T × T):=fnI 3 zg0
abbrev zeW[TheK](v:Ev)(k:Nat):Prop:=Cl v k "_law_draw" ["_law_bag_here","_law_many"] (spI .e 2 zbw)
theorem zn5[tk:TheK](h:Here tk.K v.mg "_law_draw" zhH ["_law_bag_here","_law_many"]):zeW v 1:=by
 refine(h.vI 0 [] zg0 ziI fun f cdv A outer s H E hr=>?_ :);have sc:=ziI;have hu:=zbT hr
 exact(qs_ (M':=[0]) (zbp (M':=[0]) (zlx (zb0 rfl rfl hu (qpv 0) qib (fun _ _=>rfl)) qib) (qs_ (M':=[0]) (zac (M':=[0]) (za6 (i:=2) sc.nd rfl (jD rfl) (zaP (zb0 rfl rfl hu (qpv 0) qib (fun _ _=>rfl)) (qeb (qV 1)))))
  (qs_ (M':=[0]) (zhN rfl (zek (zbY (zb0 rfl rfl hu (qpv 0) qib (fun _ _=>rfl)) (qeb (qV 1))) (zhP (qpv 0) qi_ zdS)))
  (za2 (zaa (qV 2))))) zan)
  (qs_ (M':=[0]) (zhN rfl (zek (zaP (zao (zb4 (zb0 rfl rfl hu (qpv 0) qib (fun _ _=>rfl)) qib) qib) qib) (zhP (qpv 0) qi_ zdS)))
  (za2 (zaa (zaP (zbY (zaP (zb4 (zb0 rfl rfl hu (qpv 0) qib (fun _ _=>rfl)) (qeb (zao (zbY (zb0 rfl rfl hu (qpv 0) qib (fun _ _=>rfl)) qib) qib))) qib) qib) (qeb (qV 1)))))))
abbrev zcI:QR:=top 37
theorem zdu:FnScope ["_law_bag_here","_law_names_here","_law_forms","_law_made","_law_left","_law_form_of","_law_at"] ["_law_bag_here","_law_names_here"] (za0 zcI):=scm
def zbI:DS:=(zai (zaF 2 (zeT (dAc (zeT (dAc (dC (.int 0)) (dAc (dC (.int 0)) dAn))) (dAc (zeT (dAc (dC (.int 0)) (dAc (dC (.int 1)) (dAc (dC (.int 2)) (dAc (dC (.int 0)) (dAc (dC (.int 1)) (dAc (dC (.int 2)) dAn))))))) (dAc (zeT (dAc (dC (.int 0)) (dAc (dC (.int 1)) (dAc (dC (.int 2)) (dAc (dC (.int 0)) (dAc (dC (.int 3)) (dAc (dC (.int 2)) (dAc (dC (.int 1)) (dAc (dC (.int 3)) dAn))))))))) (dAc (zeT (dAc (dC (.int 0)) (dAc (dC (.int 1)) (dAc (dC (.int 2)) (dAc (dC (.int 3)) (dAc (dC (.int 4)) (dAc (dC (.int 0)) (dAc (dC (.int 1)) (dAc (dC (.int 2)) (dAc (dC (.int 3)) (dAc (dC (.int 4)) dAn))))))))))) (dAc (zeT (dAc (dC (.int 0)) (dAc (dC (.int 1)) (dAc (dC (.int 1)) (dAc (dC (.int 0)) dAn))))) dAn)))))))
  (zai (zaF 2 (d2 zat (dV 2) (zeT (dAc (zeT (dAc (dC (.int 0)) (dAc (dC (.int 1)) (dAc (dC (.int 2)) (dAc (dC (.int 3)) (dAc (dC (.int 4)) (dAc (dC (.int 2)) (dAc (dC (.int 1)) (dAc (dC (.int 0)) (dAc (dC (.int 3)) (dAc (dC (.int 4)) dAn))))))))))) (dAc (zeT (dAc (dC (.int 0)) (dAc (dC (.int 1)) (dAc (dC (.int 2)) (dAc (dC (.int 3)) (dAc (dC (.int 1)) (dAc (dC (.int 0)) (dAc (dC (.int 3)) (dAc (dC (.int 2)) dAn))))))))) dAn)))))
  (zai (zaF 3 (zeT dAn))
  (zai (zaF 4 (d1 zbZ (dV 1)))
  (zai (zbB (dB (d2 gGt (d1 zdo (dV 4)) (dC (.int 0))))
  (zai (zaF 5 (d2 za7 (dV 2) (zeU zbw 0 (dAc (dC (.int 7)) dAn))))
  (zai (zcY (dB (d2 gGe (d1 znt (dV 5)) (d1 zdo (dV 4)))) (zaF 5 (d2 za7 (dV 2) (dC (.int 0)))) zaH)
  (zai (zaF 6 (zeU zbw 0 (dAc (d2 zat (d1 zdo (dV 3)) (dC (.int 1))) dAn)))
  (zai (zaF 3 (d2 zat (d2 zat (dSl zev (dV 3) dOn (dOs (dV 6))) (dLC [0] [none,some 4] (zcs (dV 5)) (dGn 0) zfL (d2 za7 (dV 1) (dV 0)))) (dSl zev (dV 3) (dOs (dV 6)) dOn)))
  (zaF 4 (dSl zev (dV 4) (dOs (d2 zat (d1 znt (dV 5)) (dC (.int 1)))) dOn)))))) 100)
  (zal [0] (dV 3)))))))
def zco:List T->Option (T × T):=fnI 7 zbI
abbrev zcN[TheK](v:Ev)(k:Nat):Prop:=Cl v k "_law_built_word" ["_law_bag_here","_law_names_here"] (spI .e 2 zco)
theorem zgv[tk:TheK](h:Here tk.K v.mg "_law_built_word" zcI ["_law_bag_here","_law_names_here"])(pd:zeW v 1)(m_list:v.mg "list"=none)(m_len:v.mg "len"=none)(m_max:v.mg "max"=none):zcN v 2:=by
 refine(h.vI 1 [] zbI zdu fun f cdv A outer s H E hr=>?_ :);have sc:=zdu;have hu:=zbT hr
 exact(qs_ (M':=[0]) (zac (M':=[0]) (za6 (i:=2) sc.nd rfl (jD rfl) (qne (zaJ (qa_ (qne (zaJ (qa_ qi_ (qa_ qi_ za3)))) (qa_ (qne (zaJ (qa_ qi_ (qa_ qi_ (qa_ qi_ (qa_ qi_ (qa_ qi_ (qa_ qi_ za3)))))))) (qa_ (qne (zaJ (qa_ qi_ (qa_ qi_ (qa_ qi_ (qa_ qi_ (qa_ qi_ (qa_ qi_ (qa_ qi_ (qa_ qi_ za3)))))))))) (qa_ (qne (zaJ (qa_ qi_ (qa_ qi_ (qa_ qi_ (qa_ qi_ (qa_ qi_ (qa_ qi_ (qa_ qi_ (qa_ qi_ (qa_ qi_ (qa_ qi_ za3)))))))))))) (qa_ (qne (zaJ (qa_ qi_ (qa_ qi_ (qa_ qi_ (qa_ qi_ za3)))))) za3)))))))))
  (qs_ (M':=[0]) (zac (M':=[0]) (za6 (i:=2) sc.nd rfl (jD rfl) (zao (qV 2) (qnb (zaJ (qa_ (qne (zaJ (qa_ qi_ (qa_ qi_ (qa_ qi_ (qa_ qi_ (qa_ qi_ (qa_ qi_ (qa_ qi_ (qa_ qi_ (qa_ qi_ (qa_ qi_ za3)))))))))))) (qa_ (qne (zaJ (qa_ qi_ (qa_ qi_ (qa_ qi_ (qa_ qi_ (qa_ qi_ (qa_ qi_ (qa_ qi_ (qa_ qi_ za3)))))))))) za3)))))))
  (qs_ (M':=[0]) (zac (M':=[0]) (za6 (i:=3) sc.nd rfl (jD rfl) (qne (zaJ za3))))
  (qs_ (M':=[0]) (zac (M':=[0]) (za6 (i:=4) sc.nd rfl (g9 rfl) (qne (zd3 rfl rfl rfl m_list (qeb (qV 1))))))
  (qs_ (M':=[0]) (zdT 100 jK (zlx (zbt rfl rfl m_len (qeb (qV 4))) qib)
  (qs_ (M':=[0]) (zac (M':=[0]) (za6 (i:=5) sc.nd rfl (jD rfl) (zad rfl hu (qV 2) (qeb (qcI rfl pd hr rfl (qpv 0) (qa_ qi_ za3) ar1)) (fun _ _=>rfl))))
  (qs_ (M':=[0]) (zbp (M':=[0]) (zsT (zmN rfl rfl rfl m_max (qeb (qV 5))) (qeb (zbt rfl rfl m_len (qeb (qV 4))))) (za2 (zac (M':=[0]) (za6 (i:=5) sc.nd rfl (jD rfl) (zad rfl hu (qV 2) qib (fun _ _=>rfl))))) zan)
  (qs_ (M':=[0]) (zac (M':=[0]) (za6 (i:=6) sc.nd rfl (jD rfl) (qcI rfl pd hr rfl (qpv 0) (qa_ (zao (zbt rfl rfl m_len (qeb (qV 3))) qib) za3) ar1)))
  (qs_ (M':=[0]) (zac (M':=[0]) (za6 (i:=3) sc.nd rfl (jD rfl) (zao (zao (ze9 rfl (qV 3) zci (zbr (qV 6))) (qnb (zgn (Mi:=[]) rfl (zbg (i:=0)) zct (zdE (N:=["_law_k","_law_left"]) (caps:=[none,some 4]) rfl (zaI rfl (qV 5)) (fun _ _ _ _ _=>(za4 (i:=0) (show (["_law_k","_law_left"]:List Str).Nodup by decide +kernel) rfl (jD rfl))) zaX (fun _ _ _ _ _=>zaR) (fun _ _ _ _ _=>(zad rfl hu (qV 1) (qeb (qV 0)) (fun _ _=>rfl))))))) (qeb (ze9 rfl (qV 3) (zbr (qV 6)) zci)))))
  (za2 (zac (M':=[0]) (za6 (i:=4) sc.nd rfl (g9 rfl) (ze9 rfl (qV 4) (zbr (zao (zmN rfl rfl rfl m_max (qeb (qV 5))) qib)) zci)))))))))
  (za2 (zaa (qV 3))))))))
abbrev zdz:QR:=top 36
theorem zeF:FnScope ["_law_bag_here","_law_names_here","_law_free","_law_made","_law_name","_law_at"] ["_law_bag_here","_law_names_here"] (za0 zdz):=scm
def zcD:DS:=(zai (zaF 2 (dLR (dAc (d2 zeO (dC (.int 2)) (d1 zdo (dV 1))) dAn)))
  (zai (zaF 3 (dLC [0] [none] (zcs (dV 2)) (dGn 0) zfL (dC (.str ""))))
  (zai (zew (zcs (dV 1)) (dGn 4)
  (zai (zjk 3 (d2 za7 (dV 2) (dC (.int 0))) (dV 4))
  (zai (zaF 5 (d2 za7 (dV 2) (d2 zat (dC (.int 1)) (zeU zbw 0 (dAc (d2 gSb (d1 zdo (dV 2)) (dC (.int 1))) dAn)))))
  (zai (zjk 3 (dV 5) (dV 4))
  (zaF 2 (dLC [0,3] [none,some 5] (zcs (dSl zev (dV 2) (dOs (dC (.int 1))) dOn)) (dGn 0) (dB (d2 gNe (dV 0) (dV 1))) (dV 0)))))))
  (zal [0] (dV 3)))))
def zdc:List T->Option (T × T):=fnI 6 zcD
abbrev zdQ[TheK](v:Ev)(k:Nat):Prop:=Cl v k "_law_any_word" ["_law_bag_here","_law_names_here"] (spI .e 2 zdc)
theorem zi1[tk:TheK](h:Here tk.K v.mg "_law_any_word" zdz ["_law_bag_here","_law_names_here"])(pd:zeW v 1)(m_list:v.mg "list"=none)(m_range:v.mg "range"=none)(m_len:v.mg "len"=none):zdQ v 2:=by
 refine(h.vI 1 [] zcD zeF fun f cdv A outer s H E hr=>?_ :);have sc:=zeF;have hu:=zbT hr;have hu8:=zbn hr
 exact(qs_ (M':=[0]) (zac (M':=[0]) (za6 (i:=2) sc.nd rfl (jD rfl) (qne (ziQ rfl rfl m_list rfl m_range (qa_ (zb4 qi_ (qeb (zbt rfl rfl m_len (qeb (qV 1))))) za3)))))
  (qs_ (M':=[0,3]) (zaz (M':=[0,3]) (zmD (Mi:=[]) rfl (zbg (i:=0)) zct (zdC (i:=3) sc.nd rfl rfl (N:=["_law_at"]) (caps:=[none]) rfl (zaI rfl (qV 2)) (fun _ _ _ _ _=>(za4 (i:=0) (show (["_law_at"]:List Str).Nodup by decide +kernel) rfl (jD rfl))) zaX (fun _ _ _ _ _=>zaR) (fun _ _ _ _ _=>ze8))))
  (qs_ (M':=[0,3]) (zbq (zaK jK rfl (zaI rfl (qV 1)) (zbs (za4 (i:=4) sc.nd rfl (jD rfl)))
  (qs_ (M':=[0,3]) (zhN rfl (zek (qV 4) (zhP (qpv 3) (zad rfl hu (qV 2) qib (fun _ _=>rfl)) zdS)))
  (qs_ (M':=[0,3]) (zac (M':=[0,3]) (za6 (i:=5) sc.nd rfl (g9 rfl) (zad rfl hu (qV 2) (qeb (zao qi_ (qeb (qcI rfl pd hr rfl (qpv 0) (qa_ (zkM (zbt rfl rfl m_len (qeb (qV 2))) qib) za3) ar1)))) (fun _ _=>rfl))))
  (qs_ (M':=[0,3]) (zhN rfl (zek (qV 4) (zhP (qpv 3) (qV 5) zdS)))
  (za2 (zac (M':=[0,3]) (zsU (zmD (Mi:=[]) rfl (zbg (i:=0)) (fun _ _ _ h=>h) (zdC (i:=2) sc.nd rfl rfl (N:=["_law_spot","_law_at"]) (caps:=[none,some 5]) rfl (zaI rfl (ze9 rfl (qV 2) (zbr qi_) zci)) (fun _ _ _ _ _=>(za4 (i:=0) (show (["_law_spot","_law_at"]:List Str).Nodup by decide +kernel) rfl (jD rfl))) zaX (fun _ _ _ _ _=>(zfV (zjS hu8 (qV 0) (qeb (qV 1))))) (fun _ _ _ _ _=>(qV 0))))))))))))
  (za2 (ziO (M':=[0]) (zaa (qV 3)))))))
abbrev zjK:QR:=top 33
theorem zoh:FnScope ["_law_cell_here"] ["_law_cell_here"] (za0 zjK):=scm
def zig:DS:=(zal [] (zeT (dAc (d2 zeO (d2 zed (d2 zgD (dV 0) (dC (.int 2))) (d2 zri (d2 zrT (dC (.int 10)) (dC (.int 40))) (d2 zrT (dC (.int 10)) (dC (.int 40))))) (d2 zed (dV 0) (dC (.int 2)))) (dAc (d2 zed (d2 zgD (dV 0) (dC (.int 2))) (dC (.int 2147483647))) dAn))))
def zdX:List T->Option T:=zo2 1 zig
abbrev zir[TheK](v:Ev)(k:Nat):Prop:=Cl v k "_law_bag" ["_law_cell_here"] (spP .n 1 zdX)
theorem zoB[tk:TheK](h:Here tk.K v.mg "_law_bag" zjK ["_law_cell_here"]):zir v 1:=by
 refine(h.vN 0 [] zig zoh fun f cdv A outer s H E hr=>?_ :);exact(za2 (zmC (zaJ (qa_ (zb4 (zaP (zbY (qV 0) qib) (qeb (zqx (zmK qi_ qib) (qeb (zmK qi_ qib))))) (qeb (zaP (qV 0) qib))) (qa_ (zaP (zbY (qV 0) qib) qib) za3)))))
abbrev zhG:QR:=top 38
theorem zmu:FnScope ["_law_cell_here","_law_names_here"] ["_law_cell_here","_law_names_here"] (za0 zhG):=scm
def zfZ:DS:=(zai (zcY (dB (d2 gEq (d2 zed (dV 0) (dC (.int 2))) (dC (.int 1)))) (zal [] (zgL zdc (zaj zdX (dAc (dV 0) dAn)) (dAc (dSl zev (dV 1) dOn (dOs (dC (.int 8)))) dAn))) zaH)
  (zal [] (zgL zco (zaj zdX (dAc (d2 zgD (dV 0) (dC (.int 2))) dAn)) (dAc (dV 1) dAn))))
def zgE:List T->Option T:=fnP 2 zfZ
abbrev zio[TheK](v:Ev)(k:Nat):Prop:=Cl v k "_law_word" ["_law_cell_here","_law_names_here"] (spP .e 2 zgE)
theorem zn4[tk:TheK](h:Here tk.K v.mg "_law_word" zhG ["_law_cell_here","_law_names_here"])(pR:zdQ v 2)(px:zir v 2)(mG:zcN v 2):zio v 3:=by
 refine(h.vP 2 [] zfZ zmu fun f cdv A outer s H E hr=>?_ :);have hu8:=zbn hr
 exact(qs_ (M':=[]) (zbp (M':=[]) (zf5 hu8 (zaP (qV 0) qib) qib) (za2 (zaa (qcT (.inl rfl) pR hr rfl (qcN px hr rfl (qa_ (qV 0) za3) ar1) (qa_ (ze9 rfl (qV 1) zci (zbr qi_)) za3) ar1))) zan)
  (za2 (zaa (qcT (.inl rfl) mG hr rfl (qcN px hr rfl (qa_ (zbY (qV 0) qib) za3) ar1) (qa_ (qV 1) za3) ar1))))
abbrev zhI:QR:=top 32
theorem zmv:FnScope ["_law_script","_law_k"] ["_law_script","_law_k"] (za0 zhI):=scm
def zif:DS:=(zai (zcY (dB (d2 gLt (dV 1) (d1 zdo (dV 0)))) (zal [] (d2 za7 (dV 0) (dV 1))) zaH)
  (zal [] (dC (.int 0))))
def zaD:List T->Option T:=fnP 2 zif
abbrev ziq[TheK](v:Ev)(k:Nat):Prop:=Cl v k "_law_cell" ["_law_script","_law_k"] (spP .e 2 zaD)
theorem zn6[tk:TheK](h:Here tk.K v.mg "_law_cell" zhI ["_law_script","_law_k"])(m_len:v.mg "len"=none):ziq v 1:=by
 refine(h.vP 0 [] zif zmv fun f cdv A outer s H E hr=>?_ :);have hu:=zbT hr
 exact(qs_ (M':=[]) (zbp (M':=[]) (zqs (qV 1) (qeb (zbt rfl rfl m_len (qeb (qV 0))))) (za2 (zaa (zad rfl hu (qV 0) (qeb (qV 1)) (fun _ _=>rfl)))) zan)
  (za2 (zaa qi_)))
abbrev zdy:QR:=top 4
theorem zhF:FnScope ["word"] ["word"] (za0 zdy):=scm
def zcC:DS:=(zal [] (d1 zbZ (dDC [] [none] (zcs (dV 0)) (dGn 0) zfL (dV 0) (dC (.bl true)))))
def zaq:List T->Option T:=fnP 1 zcC
abbrev zbo[TheK](v:Ev)(k:Nat):Prop:=Cl v k "names_of" ["word"] (spP .e 1 zaq)
theorem zi0[tk:TheK](h:Here tk.K v.mg "names_of" zdy ["word"])(m_list:v.mg "list"=none):zbo v 1:=by
 refine(h.vP 0 [] zcC zhF fun f cdv A outer s H E hr=>?_ :);exact(za2 (zaa (qne (zd3 rfl rfl rfl m_list (qnb (zvQ (Mi:=[]) rfl (zbg (i:=0)) zct (zsW (N:=["name"]) (caps:=[none]) rfl (zaI rfl (qV 0)) (fun _ _ _ _ _=>(za4 (i:=0) (show (["name"]:List Str).Nodup by decide +kernel) rfl (jD rfl))) zaX (fun _ _ _ _ _=>zaR) (fun _ _ _ _ _=>(qV 0)) (fun _ _ _ _ _=>zly))))))))
abbrev zdx:QR:=top 10
theorem zeD:FnScope ["mates","name"] ["mates"] (za0 zdx):=scm
def zbL:DS:=(zai (zew (zcs (dV 0)) (dGn 1)
  (zcY (dB (d2 gEq (d2 zed (d1 zdo (d2 za7 (dV 0) (dV 1))) (dC (.int 2))) (dC (.int 1)))) (zal [] (dV 1)) zaH))
  (zal [] (dC .non)))
def zda:List T->Option T:=fnP 2 zbL
abbrev zdP[TheK](v:Ev)(k:Nat):Prop:=Cl v k "odd_name" ["mates"] (spP .e 1 zda)
theorem zhZ[tk:TheK](h:Here tk.K v.mg "odd_name" zdx ["mates"])(m_len:v.mg "len"=none):zdP v 1:=by
 refine(h.vP 0 [] zbL zeD fun f cdv A outer s H E hr=>?_ :);have sc:=zeD;have hu:=zbT hr;have hu8:=zbn hr
 exact(qs_ (M':=[]) (zbq (zaK jK rfl (zaI rfl (qV 0)) (zbs (za4 (i:=1) sc.nd rfl (jD rfl)))
  (za2 (zbp (M':=[]) (zf5 hu8 (zaP (zbt rfl rfl m_len (qeb (zad rfl hu (qV 0) (qeb (qV 1)) (fun _ _=>rfl)))) qib) qib) (za2 (zaa (qV 1))) zan))))
  (za2 (zaa zea)))
abbrev zbE:QR:=top 11
theorem zeE:FnScope ["mates","one","other"] ["mates","one","other"] (za0 zbE):=scm
def zb2:DS:=(zal [] (d2 gEq (d2 zed (d2 zi7 (d2 za7 (dV 0) (dV 1)) (d2 za7 (dV 0) (dV 2))) (dC (.int 2))) (dC (.int 0))))
def zaT:List T->Option T:=fnP 3 zb2
abbrev zb3[TheK](v:Ev)(k:Nat):Prop:=Cl v k "evenly_shared" ["mates","one","other"] (spP .e 3 zaT)
theorem zeK[tk:TheK](h:Here tk.K v.mg "evenly_shared" zbE ["mates","one","other"])(m_len:v.mg "len"=none)(m_set:v.mg "set"=none):zb3 v 1:=by
 refine(h.vP 0 [] zb2 zeE fun f cdv A outer s H E hr=>?_ :);have hu:=zbT hr;have hu8:=zbn hr;exact(za2 (zaa (zqA hu8 (zaP (zmO rfl rfl rfl m_len rfl m_set (qeb (zad rfl hu (qV 0) (qeb (qV 1)) (fun _ _=>rfl))) (qeb (zad rfl hu (qV 0) (qeb (qV 2)) (fun _ _=>rfl)))) qib) qib)))
abbrev zdw:QR:=top 12
theorem zeC:FnScope ["mates","one","other","apart"] ["mates"] (za0 zdw):=scm
def zbK:DS:=(zai (zew (zcs (dV 0)) (dGn 1)
  (zew (zcs (dV 0)) (dGn 2)
  (zai (zaF 3 (zlZ (d2 gNe (dV 2) (dV 1)) (d2 zaC (dV 2) (d2 za7 (dV 0) (dV 1)))))
  (zcY (zpK (zlW (dV 3)) (zpI (zlW (zaj zaT (dAc (dV 0) (dAc (dV 1) (dAc (dV 2) dAn))))))) (zal [] (zjj (dAc (dV 1) (dAc (dV 2) dAn)))) zaH))))
  (zal [] (dC .non)))
def zd9:List T->Option T:=fnP 4 zbK
abbrev zdO[TheK](v:Ev)(k:Nat):Prop:=Cl v k "odd_pair" ["mates"] (spP .e 1 zd9)
theorem zhY[tk:TheK](h:Here tk.K v.mg "odd_pair" zdw ["mates"])(pG:zb3 v 1):zdO v 2:=by
 refine(h.vP 1 [] zbK zeC fun f cdv A outer s H E hr=>?_ :);have sc:=zeC;have hu:=zbT hr;have hu8:=zbn hr
 exact(qs_ (M':=[]) (zbq (zaK jK rfl (zaI rfl (qV 0)) (zbs (za4 (i:=1) sc.nd rfl (jD rfl)))
  (za2 (zbq (zaK jK rfl (zaI rfl (qV 0)) (zbs (za4 (i:=2) sc.nd rfl (jD rfl)))
  (qs_ (M':=[]) (zac (M':=[]) (za6 (i:=3) sc.nd rfl (jD rfl) (zkO (zvP hu8 (qV 2) (qeb (qV 1))) (zmL (zmM hu (qV 2) (qeb (zad rfl hu (qV 0) (qeb (qV 1)) (fun _ _=>rfl))) (by with_unfolding_all rfl))))))
  (za2 (zbp (M':=[]) (QW.pt (zkI (ze6 (qeb (qV 3))) (zjR (zhe (ze6 (qeb (qc pG hr rfl (qa_ (qV 0) (qa_ (qV 1) (qa_ (qV 2) za3))) ar3))))))) (za2 (zaa (zdl (qa_ (qV 1) (qa_ (qV 2) za3))))) zan))))))))
  (za2 (zaa zea)))
abbrev zcG:QR:=top 14
theorem zds:FnScope ["mates","origins","beginning","waiting","name","fresh","mate"] ["mates"] (za0 zcG):=scm
def zba:DS:=(zai (zaF 1 zkr)
  (zai (zew (zcs (dV 0)) (dGn 2)
  (zcY (dB (d2 zaC (dV 2) (dV 1))) (zai (zoU 1 (dV 2) (dC .non))
  (zai (zaF 3 (zeT (dAc (dV 2) dAn)))
  (zbB (zlW (dV 3))
  (zai (zaF 4 (zhq zo1 3 dAn))
  (zai (zaF 5 (dLC [1,3] [none,some 1] (zcs (d2 za7 (dV 0) (dV 4))) (dGn 0) (dB (d2 zaC (dV 0) (dV 1))) (dV 0)))
  (zai (zew (zcs (dV 5)) (dGn 6)
  (zoU 1 (dV 6) (dV 4)))
  (dDo (zhq zpu 3 (dAc (dV 5) dAn)))))) 100))) zaH))
  (zrA 1 (zal [] (dV 1)))))
def zcm:List T->Option T:=fnP 7 zba
abbrev zcL[TheK](v:Ev)(k:Nat):Prop:=Cl v k "found_from" ["mates"] (spP .e 1 zcm)
theorem zgt[tk:TheK](h:Here tk.K v.mg "found_from" zcG ["mates"]):zcL v 1:=by
 refine(h.vP 0 [] zba zds fun f cdv A outer s H E hr=>?_ :);have sc:=zds;have hu:=zbT hr
 exact(qs_ (M':=[1]) (zaz (M':=[1]) (za6 (i:=1) sc.nd rfl (g9 rfl) zgo))
  (qs_ (M':=[1]) (zbq (zaK jK rfl (zaI rfl (qV 0)) (zbs (za4 (i:=2) sc.nd rfl (jD rfl)))
  (za2 (zbp (M':=[1]) (zch hu (qV 2) (zcR rfl (qpv 1)) (by with_unfolding_all rfl)) (zhM (M':=[1,3]) (qs_ (M':=[1]) (zhf rfl (zdU hu (qpv 1) (qV 2) zea rfl))
  (qs_ (M':=[1,3]) (zaz (M':=[1,3]) (za6 (i:=3) sc.nd rfl (jD rfl) (zaJ (qa_ (qV 2) za3))))
  (za2 (zdT 100 jK (ze6 (zcR rfl (qpv 3)))
  (qs_ (M':=[1,3]) (zac (M':=[1,3]) (za6 (i:=4) sc.nd rfl (jD rfl) (zkN rfl (zhQ jS ZX ZY zkS (qpv 3)))))
  (qs_ (M':=[1,3]) (zac (M':=[1,3]) (zsU (zmD (Mi:=[1]) rfl (zbg (i:=0)) (fun _ _ _ h=>h) (zdC (i:=5) sc.nd rfl rfl (N:=["mate","origins"]) (caps:=[none,some 1]) rfl (zaI rfl (zad rfl hu (qV 0) (qeb (qV 4)) (fun _ _=>rfl))) (fun _ _ _ _ _=>(za4 (i:=0) (show (["mate","origins"]:List Str).Nodup by decide +kernel) rfl (jD rfl))) zaX (fun _ _ _ _ _=>(zfV (zch hu (qV 0) (zcR rfl (qpv 1)) (by with_unfolding_all rfl)))) (fun _ _ _ _ _=>(qV 0))))))
  (qs_ (M':=[1,3]) (zbq (zaK jK rfl (zaI rfl (qV 5)) (zbs (za4 (i:=6) sc.nd rfl (jD rfl)))
  (za2 (zhf rfl (zdU hu (qpv 1) (qV 6) (qV 4) rfl)))))
  (za2 (zgm (.inl rfl) (ziS rfl (ze7 jS YQ YR zj0 (qpv 3) (qa_ (qV 5) za3))))))))))))) zan))))
  (za2 (zol (i:=1) (M':=[]) (zaa (qV 1))))))
abbrev zcg:QR:=top 15
theorem zfG:FnScope ["mates","sides","name","mate"] ["mates","sides","name","mate"] (za0 zcg):=scm
def zby:DS:=(zal [] (dIf (zlW (zaj zaT (dAc (dV 0) (dAc (dV 2) (dAc (dV 3) dAn))))) (d2 gSb (dC (.int 1)) (d2 za7 (dV 1) (dV 2))) (d2 za7 (dV 1) (dV 2))))
def zbc:List T->Option T:=fnP 4 zby
abbrev zbz[TheK](v:Ev)(k:Nat):Prop:=Cl v k "side_beside" ["mates","sides","name","mate"] (spP .e 4 zbc)
theorem zfI[tk:TheK](h:Here tk.K v.mg "side_beside" zcg ["mates","sides","name","mate"])(pG:zb3 v 1):zbz v 2:=by
 refine(h.vP 1 [] zby zfG fun f cdv A outer s H E hr=>?_ :);have hu:=zbT hr;exact(za2 (zaa (zt1 (ze6 (qeb (qc pG hr rfl (qa_ (qV 0) (qa_ (qV 2) (qa_ (qV 3) za3))) ar3))) (zkM qi_ (qeb (zad rfl hu (qV 1) (qeb (qV 2)) (fun _ _=>rfl)))) (zad rfl hu (qV 1) (qeb (qV 2)) (fun _ _=>rfl)))))
abbrev zcf:QR:=top 16
theorem zdk:FnScope ["mates","origins","sides","name","origin"] ["mates","origins"] (za0 zcf):=scm
def zbx:DS:=(zai (zaF 2 zkr)
  (zai (zew (zcs (dV 1)) (dGn 3)
  (zai (zaF 4 (d2 za7 (dV 1) (dV 3)))
  (zoU 2 (dV 3) (dIf (dB (d2 gIs (dV 4) (dC .non))) (dC (.int 0)) (zgM zbc 2 (dV 0) (dAc (dV 4) (dAc (dV 3) dAn)))))))
  (zrA 2 (zal [] (dV 2)))))
def zbU:List T->Option T:=fnP 5 zbx
abbrev zcq[TheK](v:Ev)(k:Nat):Prop:=Cl v k "sides_along" ["mates","origins"] (spP .e 2 zbU)
theorem zfH[tk:TheK](h:Here tk.K v.mg "sides_along" zcf ["mates","origins"])(pA:zbz v 2):zcq v 3:=by
 refine(h.vP 2 [] zbx zdk fun f cdv A outer s H E hr=>?_ :);have sc:=zdk;have hu:=zbT hr
 exact(qs_ (M':=[2]) (zaz (M':=[2]) (za6 (i:=2) sc.nd rfl (jD rfl) zgo))
  (qs_ (M':=[2]) (zbq (zaK jK rfl (zaI rfl (qV 1)) (zbs (za4 (i:=3) sc.nd rfl (jD rfl)))
  (qs_ (M':=[2]) (zac (M':=[2]) (za6 (i:=4) sc.nd rfl (jD rfl) (zad rfl hu (qV 1) (qeb (qV 3)) (fun _ _=>rfl))))
  (za2 (zhf rfl (zdU hu (qpv 2) (qV 3) (zt1 (zsS (qV 4) (qeb zea)) qi_ (zxP rfl pA hr rfl (qV 0) (qpv 2) (qa_ (qV 4) (qa_ (qV 3) za3)) ar2)) rfl))))))
  (za2 (zol (i:=2) (M':=[]) (zaa (qV 2))))))
abbrev zcF:QR:=top 17
theorem zdr:FnScope ["mates","sides","name","mate"] ["mates","sides"] (za0 zcF):=scm
def zb9:DS:=(zai (zew (zcs (dV 0)) (dGn 2)
  (zew (zcs (d2 za7 (dV 0) (dV 2))) (dGn 3)
  (zcY (dB (d2 gNe (zaj zbc (dAc (dV 0) (dAc (dV 1) (dAc (dV 2) (dAc (dV 3) dAn))))) (d2 za7 (dV 1) (dV 3)))) (zal [] (zjj (dAc (dV 2) (dAc (dV 3) dAn)))) zaH)))
  (zal [] (dC .non)))
def zcl:List T->Option T:=fnP 4 zb9
abbrev zcK[TheK](v:Ev)(k:Nat):Prop:=Cl v k "wrong_step" ["mates","sides"] (spP .e 2 zcl)
theorem zgs[tk:TheK](h:Here tk.K v.mg "wrong_step" zcF ["mates","sides"])(pA:zbz v 2):zcK v 3:=by
 refine(h.vP 2 [] zb9 zdr fun f cdv A outer s H E hr=>?_ :);have sc:=zdr;have hu:=zbT hr;have hu8:=zbn hr
 exact(qs_ (M':=[]) (zbq (zaK jK rfl (zaI rfl (qV 0)) (zbs (za4 (i:=2) sc.nd rfl (jD rfl)))
  (za2 (zbq (zaK jK rfl (zaI rfl (zad rfl hu (qV 0) (qeb (qV 2)) (fun _ _=>rfl))) (zbs (za4 (i:=3) sc.nd rfl (jD rfl)))
  (za2 (zbp (M':=[]) (zjS hu8 (qc pA hr rfl (qa_ (qV 0) (qa_ (qV 1) (qa_ (qV 2) (qa_ (qV 3) za3)))) ar4) (qeb (zad rfl hu (qV 1) (qeb (qV 3)) (fun _ _=>rfl)))) (za2 (zaa (zdl (qa_ (qV 2) (qa_ (qV 3) za3))))) zan)))))))
  (za2 (zaa zea)))
abbrev zdv:QR:=top 18
theorem zeB:FnScope ["origins","name","way"] ["origins","name"] (za0 zdv):=scm
def zcB:DS:=(zai (zaF 2 (zeT (dAc (dV 1) dAn)))
  (zai (zbB (dB (d2 zbu (d2 za7 (dV 0) (d2v za7 2 (d1 zm5 (dC (.int 1))))) (dC .non)))
  (dDo (zhq zk4 2 (dAc (d2 za7 (dV 0) (d2v za7 2 (d1 zm5 (dC (.int 1))))) dAn))) 100)
  (zal [] (dV 2))))
def zc4:List T->Option T:=zo2 3 zcB
abbrev zdN[TheK](v:Ev)(k:Nat):Prop:=Cl v k "way_back" ["origins","name"] (spP .n 2 zc4)
theorem zhX[tk:TheK](h:Here tk.K v.mg "way_back" zdv ["origins","name"]):zdN v 1:=by
 refine(h.vN 0 [] zcB zeB fun f cdv A outer s H E hr=>?_ :);have sc:=zeB;have hu:=zbT hr
 exact(qs_ (M':=[2]) (zaz (M':=[2]) (za6 (i:=2) sc.nd rfl (jD rfl) (zaJ (qa_ (qV 1) za3))))
  (qs_ (M':=[2]) (zdT 100 jK (zfU (zad rfl hu (qV 0) (qeb (zb0 rfl rfl hu (qpv 2) (qeb (zhg qib)) (fun _ _=>rfl))) (fun _ _=>rfl)) (qeb zea))
  (za2 (zgm (.inl rfl) (zcS rfl (ze7 jS QJ QK zck (qpv 2) (qa_ (zad rfl hu (qV 0) (qeb (zb0 rfl rfl hu (qpv 2) (qeb (zhg qib)) (fun _ _=>rfl))) (fun _ _=>rfl)) za3))))))
  (za2 (zqt rfl rfl (qpv 2)))))
abbrev zbO:QR:=top 19
theorem zcO:FnScope ["origins","one","other","far","near"] ["origins","one","other"] (za0 zbO):=scm
def zaQ:DS:=(zai (zaF 3 (zaj zc4 (dAc (dV 0) (dAc (dV 1) dAn))))
  (zai (zaF 4 (zaj zc4 (dAc (dV 0) (dAc (dV 2) dAn))))
  (zai (zbB (zpK (dB (d2 gGt (d1 zdo (dV 3)) (dC (.int 1)))) (zpK (dB (d2 gGt (d1 zdo (dV 4)) (dC (.int 1)))) (dB (d2 gEq (d2v za7 3 (d1 zm5 (dC (.int 2)))) (d2v za7 4 (d1 zm5 (dC (.int 2))))))))
  (zai (dDo (zhq zo1 3 dAn))
  (dDo (zhq zo1 4 dAn))) 100)
  (zal [] (d2v zoJ 3 (zww (zuF gSl 4 dOn (dOs (d1 zm5 (dC (.int 1))))) (dOs (d1 zm5 (dC (.int 1))))))))))
def zbF:List T->Option T:=fnP 5 zaQ
abbrev zbW[TheK](v:Ev)(k:Nat):Prop:=Cl v k "ring_through" ["origins","one","other"] (spP .e 3 zbF)
theorem zf7[tk:TheK](h:Here tk.K v.mg "ring_through" zbO ["origins","one","other"])(pI:zdN v 1)(m_len:v.mg "len"=none):zbW v 2:=by
 refine(h.vP 1 [] zaQ zcO fun f cdv A outer s H E hr=>?_ :);have sc:=zcO;have hu:=zbT hr;have hu8:=zbn hr
 exact(qs_ (M':=[3]) (zaz (M':=[3]) (za6 (i:=3) sc.nd rfl (jD rfl) (qcN pI hr rfl (qa_ (qV 0) (qa_ (qV 1) za3)) ar2)))
  (qs_ (M':=[3,4]) (zaz (M':=[3,4]) (za6 (i:=4) sc.nd rfl (jD rfl) (qcN pI hr rfl (qa_ (qV 0) (qa_ (qV 2) za3)) ar2)))
  (qs_ (M':=[3,4]) (zdT 100 jK (QW.pt (zkI (zlx (zbt rfl rfl m_len (zcR rfl (qpv 3))) qib) (zkI (zlx (zbt rfl rfl m_len (zcR rfl (qpv 4))) qib) (zjR (zf5 hu8 (zb0 rfl rfl hu (qpv 3) (qeb (zhg qib)) (fun _ _=>rfl)) (qeb (zb0 rfl rfl hu (qpv 4) (qeb (zhg qib)) (fun _ _=>rfl))))))))
  (qs_ (M':=[3,4]) (zgm (.inl rfl) (zkN rfl (zhQ jS ZX ZY zkS (qpv 3))))
  (za2 (zgm (.inl rfl) (zkN rfl (zhQ jS ZX ZY zkS (qpv 4)))))))
  (za2 (zaa (qne (zqB rfl (qpv 3) (qnb (zsZ rfl (qne (zsY rfl rfl (qpv 4) zci (zbr (zhg qib)))) (zbr (zhg qib)))))))))))
abbrev zbD:QR:=top 13
theorem zcu:FnScope ["mates","origins","sides","step"] ["mates"] (za0 zbD):=scm
def zaE:DS:=(zai (zaF 1 (zaj zcm (dAc (dV 0) dAn)))
  (zai (zaF 2 (zaj zbU (dAc (dV 0) (dAc (dV 1) dAn))))
  (zai (zaF 3 (zaj zcl (dAc (dV 0) (dAc (dV 2) dAn))))
  (zai (zcY (dB (d2 zbu (dV 3) (dC .non))) (zal [] (zjj (dAc (dC (.str "ring")) (dAc (zaj zbF (dAc (dV 1) (dAc (d2 za7 (dV 3) (dC (.int 0))) (dAc (d2 za7 (dV 3) (dC (.int 1))) dAn)))) dAn)))) zaH)
  (zal [] (zjj (dAc (dC (.str "sides")) (dAc (dLC [] [none,some 2] (zcs (dV 0)) (dGn 0) zfL (d2 za7 (dV 1) (dV 0))) dAn))))))))
def zbv:List T->Option T:=fnP 4 zaE
abbrev zbG[TheK](v:Ev)(k:Nat):Prop:=Cl v k "sides_or_ring" ["mates"] (spP .e 1 zbv)
theorem zeJ[tk:TheK](h:Here tk.K v.mg "sides_or_ring" zbD ["mates"])(mK:zcL v 3)(mI:zcq v 3)(km:zcK v 3)(kQ:zbW v 3):zbG v 4:=by
 refine(h.vP 3 [] zaE zcu fun f cdv A outer s H E hr=>?_ :);have sc:=zcu;have hu:=zbT hr
 exact(qs_ (M':=[]) (zac (M':=[]) (za6 (i:=1) sc.nd rfl (jD rfl) (qc mK hr rfl (qa_ (qV 0) za3) ar1)))
  (qs_ (M':=[]) (zac (M':=[]) (za6 (i:=2) sc.nd rfl (g9 rfl) (qc mI hr rfl (qa_ (qV 0) (qa_ (qV 1) za3)) ar2)))
  (qs_ (M':=[]) (zac (M':=[]) (za6 (i:=3) sc.nd rfl (jD rfl) (qc km hr rfl (qa_ (qV 0) (qa_ (qV 2) za3)) ar2)))
  (qs_ (M':=[]) (zbp (M':=[]) (zfU (qV 3) (qeb zea)) (za2 (zaa (zdl (qa_ ze8 (qa_ (qc kQ hr rfl (qa_ (qV 1) (qa_ (zad rfl hu (qV 3) qib (fun _ _=>rfl)) (qa_ (zad rfl hu (qV 3) qib (fun _ _=>rfl)) za3))) ar3) za3))))) zan)
  (za2 (zaa (zdl (qa_ ze8 (qa_ (qne (zgn (Mi:=[]) rfl (zbg (i:=0)) zct (zdE (N:=["name","sides"]) (caps:=[none,some 2]) rfl (zaI rfl (qV 0)) (fun _ _ _ _ _=>(za4 (i:=0) (show (["name","sides"]:List Str).Nodup by decide +kernel) rfl (jD rfl))) zaX (fun _ _ _ _ _=>zaR) (fun _ _ _ _ _=>(zad rfl hu (qV 1) (qeb (qV 0)) (fun _ _=>rfl)))))) za3)))))))))
abbrev zd1:QR:=top 5
theorem zh0:FnScope ["word","name"] ["word","name"] (za0 zd1):=scm
def zc6:DS:=(zal [] (dLC [] [none,none,some 1] (dEn (dAc (dV 0) dAn)) (dGt [0,1]) (dB (d2 gEq (dV 1) (dV 2))) (dV 0)))
def zb8:List T->Option T:=fnP 2 zc6
abbrev zc8[TheK](v:Ev)(k:Nat):Prop:=Cl v k "standings" ["word","name"] (spP .e 2 zb8)
theorem zh4[tk:TheK](h:Here tk.K v.mg "standings" zd1 ["word","name"])(m_enumerate:v.mg "enumerate"=none):zc8 v 1:=by
 refine(h.vP 0 [] zc6 zh0 fun f cdv A outer s H E hr=>?_ :);have hu8:=zbn hr;exact(za2 (zaa (qne (zgn (Mi:=[]) rfl (zmk (K:=tk.K) (is:=[0,1]) (n:=2)) (fun _ _ _ h=>h) (zdE (N:=["at","other","name"]) (caps:=[none,none,some 1]) (g:=zlP tk.K 2 (gsN [0,1])) rfl (zhR rfl m_enumerate (qa_ (qV 0) za3)) (fun _ _ _ _ _=>(zhO (K:=tk.K) rfl rfl (zaf (za4 (i:=0) (show (["at","other","name"]:List Str).Nodup by decide +kernel) rfl (jD rfl)) (zaf (za4 (i:=1) (show (["at","other","name"]:List Str).Nodup by decide +kernel) rfl (jD rfl)) zaS)))) zka (fun _ _ _ _ _=>(zfV (zf5 hu8 (qV 1) (qeb (qV 2))))) (fun _ _ _ _ _=>(qV 0)))))))
abbrev zeh:QR:=top 6
theorem zfw:FnScope ["word","name","low","high"] ["word","name"] (za0 zeh):=scm
def zde:DS:=(zai (dUn [2,3] (zaj zb8 (dAc (dV 0) (dAc (dV 1) dAn))))
  (zal [] (dSl zev (dV 0) (dOs (d2 zat (dV 2) (dC (.int 1)))) (dOs (dV 3)))))
def zdJ:List T->Option T:=fnP 4 zde
abbrev zet[TheK](v:Ev)(k:Nat):Prop:=Cl v k "between" ["word","name"] (spP .e 2 zdJ)
theorem ziY[tk:TheK](h:Here tk.K v.mg "between" zeh ["word","name"])(pD:zc8 v 1):zet v 2:=by
 refine(h.vP 1 [] zde zfw fun f cdv A outer s H E hr=>?_ :);have sc:=zfw
 exact(qs_ (M':=[]) (zmB (is:=[2,3]) (n:=2) (K:=tk.K) (zek (qc pD hr rfl (qa_ (qV 0) (qa_ (qV 1) za3)) ar2) (zqu (zjT rfl (zaf (za4 (i:=2) sc.nd rfl (jD rfl)) (zaf (za4 (i:=3) sc.nd rfl (jD rfl)) zaS))) (zdD rfl (zaf (za4 (i:=2) sc.nd rfl (jD rfl)) (zaf (za4 (i:=3) sc.nd rfl (jD rfl)) zaS))))) rfl rfl rfl)
  (za2 (zaa (ze9 rfl (qV 0) (zbr (zao (qV 2) qib)) (zbr (qV 3))))))
abbrev zbQ:QR:=top 7
theorem zcQ:FnScope ["word","name","inside"] ["word","name"] (za0 zbQ):=scm
def zbe:DS:=(zai (zaF 2 (zaj zdJ (dAc (dV 0) (dAc (dV 1) dAn))))
  (zal [] (dLC [] [none,some 2] (zcs (zaj zaq (dAc (dV 0) dAn))) (dGn 0) (dB (d2 gEq (d2L zho (dV 1) (dV 0)) (dC (.int 1)))) (dV 0))))
def zau:List T->Option T:=fnP 3 zbe
abbrev zbf[TheK](v:Ev)(k:Nat):Prop:=Cl v k "crossed_with" ["word","name"] (spP .e 2 zau)
theorem zf9[tk:TheK](h:Here tk.K v.mg "crossed_with" zbQ ["word","name"])(kG:zet v 2)(pe:zbo v 2):zbf v 3:=by
 refine(h.vP 2 [] zbe zcQ fun f cdv A outer s H E hr=>?_ :);have sc:=zcQ;have hu8:=zbn hr
 exact(qs_ (M':=[]) (zac (M':=[]) (za6 (i:=2) sc.nd rfl (g9 rfl) (qc kG hr rfl (qa_ (qV 0) (qa_ (qV 1) za3)) ar2)))
  (za2 (zaa (qne (zgn (Mi:=[]) rfl (zbg (i:=0)) (fun _ _ _ h=>h) (zdE (N:=["other","inside"]) (caps:=[none,some 2]) rfl (zaI rfl (qc pe hr rfl (qa_ (qV 0) za3) ar1)) (fun _ _ _ _ _=>(za4 (i:=0) (show (["other","inside"]:List Str).Nodup by decide +kernel) rfl (jD rfl))) zaX (fun _ _ _ _ _=>(zfV (zf5 hu8 (zom (ze7 jS PySem.F.slot_list_count PySem.F.type_list_count znc (qV 1) (zkL (qeb (qV 0)) zmI))) qib))) (fun _ _ _ _ _=>(qV 0))))))))
abbrev zf2:QR:=top 9
theorem zgb:FnScope ["word","mates","odd","pair"] ["word"] (za0 zf2):=scm
def zcV:DS:=(zai (zaF 1 (dDC [] [none,some 0] (zcs (zaj zaq (dAc (dV 0) dAn))) (dGn 0) zfL (dV 0) (zaj zau (dAc (dV 1) (dAc (dV 0) dAn)))))
  (zai (zrA 1 (zaF 2 (zaj zda (dAc (dV 1) dAn))))
  (zai (zcY (dB (d2 zbu (dV 2) (dC .non))) (zal [] (zjj (dAc (dC (.str "odd")) (dAc (dV 2) dAn)))) zaH)
  (zai (zaF 3 (zaj zd9 (dAc (dV 1) dAn)))
  (zai (zcY (dB (d2 zbu (dV 3) (dC .non))) (zal [] (zjj (dAc (dC (.str "pair")) (dAc (d2 za7 (dV 3) (dC (.int 0))) (dAc (d2 za7 (dV 3) (dC (.int 1))) dAn))))) zaH)
  (zal [] (zaj zbv (dAc (dV 1) dAn))))))))
def zbh:List T->Option T:=fnP 4 zcV
abbrev ze2[TheK](v:Ev)(k:Nat):Prop:=Cl v k "looked" ["word"] (spP .e 1 zbh)
theorem zjX[tk:TheK](h:Here tk.K v.mg "looked" zf2 ["word"])(pe:zbo v 4)(pz:zbf v 4)(p7:zdP v 4)(pY:zdO v 4)(kI:zbG v 4):ze2 v 5:=by
 refine(h.vP 4 [] zcV zgb fun f cdv A outer s H E hr=>?_ :);have sc:=zgb;have hu:=zbT hr
 exact(qs_ (M':=[1]) (zaz (M':=[1]) (zvL (Mi:=[]) rfl (zbg (i:=0)) zct (zmG (i:=1) sc.nd rfl rfl (N:=["name","word"]) (caps:=[none,some 0]) rfl (zaI rfl (qc pe hr rfl (qa_ (qV 0) za3) ar1)) (fun _ _ _ _ _=>(za4 (i:=0) (show (["name","word"]:List Str).Nodup by decide +kernel) rfl (jD rfl))) zaX (fun _ _ _ _ _=>zaR) (fun _ _ _ _ _=>(qV 0)) (fun _ _ _ _ _=>(qc pz hr rfl (qa_ (qV 1) (qa_ (qV 0) za3)) ar2)))))
  (qs_ (M':=[]) (zol (i:=1) (M':=[]) (zac (M':=[]) (za6 (i:=2) sc.nd rfl (jD rfl) (qc p7 hr rfl (qa_ (qV 1) za3) ar1))))
  (qs_ (M':=[]) (zbp (M':=[]) (zfU (qV 2) (qeb zea)) (za2 (zaa (zdl (qa_ ze8 (qa_ (qV 2) za3))))) zan)
  (qs_ (M':=[]) (zac (M':=[]) (za6 (i:=3) sc.nd rfl (jD rfl) (qc pY hr rfl (qa_ (qV 1) za3) ar1)))
  (qs_ (M':=[]) (zbp (M':=[]) (zfU (qV 3) (qeb zea)) (za2 (zaa (zdl (qa_ ze8 (qa_ (zad rfl hu (qV 3) qib (fun _ _=>rfl)) (qa_ (zad rfl hu (qV 3) qib (fun _ _=>rfl)) za3)))))) zan)
  (za2 (zaa (qc kI hr rfl (qa_ (qV 1) za3) ar1))))))))
abbrev zbP:QR:=top 24
theorem zcP:FnScope ["word","name","side","first","second"] ["word","name","side"] (za0 zbP):=scm
def zbd:DS:=(zai (dUn [3,4] (zaj zb8 (dAc (dV 0) (dAc (dV 1) dAn))))
  (zai (zcY (dB (d2 gEq (d2 zed (d2 zat (dV 2) (dV 3)) (dC (.int 2))) (dC (.int 0)))) (zal [] (zeT (dAc (d2 zeO (dC (.int 2)) (dV 3)) (dAc (d2 zeO (dC (.int 2)) (dV 4)) (dAc (d2 zat (d2 zeO (dC (.int 2)) (dV 3)) (dC (.int 1))) (dAc (d2 zat (d2 zeO (dC (.int 2)) (dV 4)) (dC (.int 1))) dAn)))))) zaH)
  (zal [] (zeT (dAc (d2 zeO (dC (.int 2)) (dV 3)) (dAc (d2 zat (d2 zeO (dC (.int 2)) (dV 4)) (dC (.int 1))) (dAc (d2 zat (d2 zeO (dC (.int 2)) (dV 3)) (dC (.int 1))) (dAc (d2 zeO (dC (.int 2)) (dV 4)) dAn))))))))
def zb1:List T->Option T:=fnP 5 zbd
abbrev zbX[TheK](v:Ev)(k:Nat):Prop:=Cl v k "ends_by_side" ["word","name","side"] (spP .e 3 zb1)
theorem zf8[tk:TheK](h:Here tk.K v.mg "ends_by_side" zbP ["word","name","side"])(pD:zc8 v 1):zbX v 2:=by
 refine(h.vP 1 [] zbd zcP fun f cdv A outer s H E hr=>?_ :);have sc:=zcP;have hu8:=zbn hr
 exact(qs_ (M':=[]) (zmB (is:=[3,4]) (n:=2) (K:=tk.K) (zek (qc pD hr rfl (qa_ (qV 0) (qa_ (qV 1) za3)) ar2) (zqu (zjT rfl (zaf (za4 (i:=3) sc.nd rfl (jD rfl)) (zaf (za4 (i:=4) sc.nd rfl (jD rfl)) zaS))) (zdD rfl (zaf (za4 (i:=3) sc.nd rfl (jD rfl)) (zaf (za4 (i:=4) sc.nd rfl (jD rfl)) zaS))))) rfl rfl rfl)
  (qs_ (M':=[]) (zbp (M':=[]) (zf5 hu8 (zaP (zao (qV 2) (qeb (qV 3))) qib) qib) (za2 (zaa (qne (zaJ (qa_ (zb4 qi_ (qeb (qV 3))) (qa_ (zb4 qi_ (qeb (qV 4))) (qa_ (zao (zb4 qi_ (qeb (qV 3))) qib) (qa_ (zao (zb4 qi_ (qeb (qV 4))) qib) za3)))))))) zan)
  (za2 (zaa (qne (zaJ (qa_ (zb4 qi_ (qeb (qV 3))) (qa_ (zao (zb4 qi_ (qeb (qV 4))) qib) (qa_ (zao (zb4 qi_ (qeb (qV 3))) qib) (qa_ (zb4 qi_ (qeb (qV 4))) za3))))))))))
abbrev zd2:QR:=top 23
theorem zcv:FnScope ["word","told"] ["word"] (za0 zd2):=scm
def zaY:DS:=(zai (zaF 1 (zaj zbh (dAc (dV 0) dAn)))
  (zai (zcY (dB (d2 gNe (d2 za7 (dV 1) (dC (.int 0))) (dC (.str "sides")))) znK zaH)
  (zal [] (dLC [] [none,none,some 0] (zuE (dAc (zaj zaq (dAc (dV 0) dAn)) (dAc (d2 za7 (dV 1) (dC (.int 1))) dAn))) (dGt [0,1]) zfL (zjj (dAc (dV 0) (dAc (zaj zb1 (dAc (dV 2) (dAc (dV 0) (dAc (dV 1) dAn)))) dAn)))))))
def zas:List T->Option T:=fnP 2 zaY
abbrev zer[TheK](v:Ev)(k:Nat):Prop:=Cl v k "drawing" ["word"] (spP .e 1 zas)
theorem ziW[tk:TheK](h:Here tk.K v.mg "drawing" zd2 ["word"])(pC:ze2 v 5)(pe:zbo v 5)(mZ:zbX v 5)(m_zip:v.mg "zip"=none):zer v 6:=by
 refine(h.vP 5 [] zaY zcv fun f cdv A outer s H E hr=>?_ :);have sc:=zcv;have hu:=zbT hr;have hu8:=zbn hr
 exact(qs_ (M':=[]) (zac (M':=[]) (za6 (i:=1) sc.nd rfl (jD rfl) (qc pC hr rfl (qa_ (qV 0) za3) ar1)))
  (qs_ (M':=[]) (zbp (M':=[]) (zjS hu8 (zad rfl hu (qV 1) qib (fun _ _=>rfl)) (qeb ze8)) (za2 zkJ) zan)
  (za2 (zaa (qne (zgn (Mi:=[]) rfl (zmk (K:=tk.K) (is:=[0,1]) (n:=2)) zct (zdE (N:=["name","side","word"]) (caps:=[none,none,some 0]) (g:=zlP tk.K 2 (gsN [0,1])) rfl (zsX rfl rfl m_zip (qa_ (qc pe hr rfl (qa_ (qV 0) za3) ar1) (qa_ (zad rfl hu (qV 1) qib (fun _ _=>rfl)) za3))) (fun _ _ _ _ _=>(zhO (K:=tk.K) rfl rfl (zaf (za4 (i:=0) (show (["name","side","word"]:List Str).Nodup by decide +kernel) rfl (jD rfl)) (zaf (za4 (i:=1) (show (["name","side","word"]:List Str).Nodup by decide +kernel) rfl (jD rfl)) zaS)))) zka (fun _ _ _ _ _=>zaR) (fun _ _ _ _ _=>(zdl (qa_ (qV 0) (qa_ (qc mZ hr rfl (qa_ (qV 2) (qa_ (qV 0) (qa_ (qV 1) za3))) ar3) za3)))))))))))
def zcA:DR:=(zlX zrz (zaF 1 (zaj zbh (dAc (dV 0) dAn)))
  (zlX (zu9 (dB (d2 gNe (d2 za7 (dV 1) (dC (.int 0))) (dC (.str "sides")))) (zkq (dV 1)) zrz) (zcY (dB (d2 gNe (d2 za7 (dV 1) (dC (.int 0))) (dC (.str "sides")))) znK zaH)
  zrz))
def zbl:List T->Bool:=fnR 2 zcA
abbrev zeq[TheK](v:Ev)(a:Ax)(k:Nat):Prop:=ClR v k "drawing" ["word"] (spR a.r2 1 zbl)
theorem zi2[tk:TheK]{a:Ax}(h:Here tk.K v.mg "drawing" zd2 ["word"])(pC:ze2 v 5)(m2:v.mg "NotDrawn"=some (.ref a.r2))(nd:Nd v a):zeq v a 6:=by
 obtain⟨bm,xc⟩:=nd;refine(h.vR 5 _ zcA zcv fun f cdv A outer s H E hr hA=>?_ :);have sc:=zcv;have hu:=zbT hr;have hu8:=zbn hr
 exact(zpi (rk:=.e) zpk (zac (M':=[]) (za6 (i:=1) sc.nd rfl (jD rfl) (qc pC hr rfl (qa_ (qV 0) za3) ar1)))
  (zpi (rk:=.e) (zvN (zjS hu8 (zad rfl hu (qV 1) qib (fun _ _=>rfl)) (qeb ze8)) (zpj (zmF (k:=4) (zlw hA) rfl hr xc rfl m2 (qV 1))) zvM) (zbp (M':=[]) (zjS hu8 (zad rfl hu (qV 1) qib (fun _ _=>rfl)) (qeb ze8)) (za2 zkJ) zan)
  (zpj zpk)))
abbrev zei:QR:=top 39
theorem zfx:FnScope ["_law_bag_here","_law_word_here","_law_told","_law_turned","_law_name","_law_side","_law_todo","_law_here","_law_made","_law_ends"] ["_law_bag_here","_law_word_here"] (za0 zei):=scm
def zaZ:DS:=(zai (zkp [0] 1 zbl (dAc (dV 1) dAn) (zaF 2 (zaj zas (dAc (dV 1) dAn))))
  (zai (zaF 3 zkr)
  (zai (zew (zcs (zaj zaq (dAc (dV 1) dAn))) (dGn 4)
  (zcY (dB (d2 zaC (dV 4) (dV 3))) (zai (zaF 5 (zeU zbw 0 (dAc (dC (.int 2)) dAn)))
  (zai (zaF 6 (zeT (dAc (dV 4) dAn)))
  (zbB (dB (d2 gGt (d1 zdo (dV 6)) (dC (.int 0))))
  (zai (zaF 7 (zhq zo1 6 dAn))
  (zcY (dB (d2 zaC (dV 7) (dV 3))) (zai (zoU 3 (dV 7) (dV 5))
  (dDo (zhq zpu 6 (dAc (zaj zau (dAc (dV 1) (dAc (dV 7) dAn))) dAn)))) zaH)) 1000))) zaH))
  (zai (zaF 8 (zeT dAn))
  (zai (zew (zcs (dV 2)) (dGt [4,9])
  (zai (zcY (dB (d2 gEq (d2v za7 3 (dV 4)) (dC (.int 1)))) (zaF 9 (zeT (dAc (d2 za7 (dV 9) (dC (.int 0))) (dAc (d2 za7 (dV 9) (dC (.int 3))) (dAc (d2 za7 (dV 9) (dC (.int 2))) (dAc (d2 za7 (dV 9) (dC (.int 1))) dAn)))))) zaH)
  (dDo (zhq zk4 8 (dAc (zjj (dAc (dV 4) (dAc (d1 zbZ (dV 9)) dAn))) dAn)))))
  (zal [0] (dV 8)))))))
def zcy:List T->Option (T × T):=fnI 10 zaZ
abbrev zeu[TheK](v:Ev)(k:Nat):Prop:=Cl v k "_law_drawing" ["_law_bag_here","_law_word_here"] (spI .e 2 zcy)
theorem ziZ[tk:TheK]{a:Ax}(h:Here tk.K v.mg "_law_drawing" zei ["_law_bag_here","_law_word_here"])(kC:zer v 6)(pe:zbo v 6)(pd:zeW v 6)(pz:zbf v 6)(pE:zeq v a 6)(m_len:v.mg "len"=none)(m_list:v.mg "list"=none)(m2:v.mg "NotDrawn"=some (.ref a.r2))(nd:Nd v a):zeu v 7:=by
 obtain⟨kW,kX,pE,mY,kb,kc⟩:=pE;obtain⟨bm,xd⟩:=nd;have hmm:(Qh a.r2::bm).contains (.ref a.r2)=true:=by rw[Yw,beq_self_eq_true,JZ]
 refine(h.vI0 6 [] zaZ zfx fun f cdv A outer s H E hr hA=>?_ :);have sc:=zfx;have hu:=zbT hr;have hu8:=zbn hr
 exact(zmA (zsF (M':=[0]) (fun W=>(zac (M':=[0]) (za6 (i:=2) sc.nd rfl (jD rfl) (qc kC hr rfl (qa_ (qV 1) za3) ar1))))
  (fun W E' hp=>zsV (i:=2) sc.nd rfl (jD rfl) pE hr rfl kc kb mY hp (qa_ (qV 1) za3) (.inr rfl)) rfl rfl rfl rfl m2 xd.o xd.o hmm)
  (qs_ (M':=[0,3]) (zaz (M':=[0,3]) (za6 (i:=3) sc.nd rfl (jD rfl) zgo))
  (qs_ (M':=[0,3]) (zbq (zaK jK rfl (zaI rfl (qc pe hr rfl (qa_ (qV 1) za3) ar1)) (zbs (za4 (i:=4) sc.nd rfl (jD rfl)))
  (za2 (zbp (M':=[0,3]) (zch hu (qV 4) (zcR rfl (qpv 3)) (by with_unfolding_all rfl)) (zhM (M':=[0,3,6]) (qs_ (M':=[0,3]) (zac (M':=[0,3]) (za6 (i:=5) sc.nd rfl (jD rfl) (qcI rfl pd hr rfl (qpv 0) (qa_ qi_ za3) ar1)))
  (qs_ (M':=[0,3,6]) (zaz (M':=[0,3,6]) (za6 (i:=6) sc.nd rfl (jD rfl) (zaJ (qa_ (qV 4) za3))))
  (za2 (zdT 1000 jK (zlx (zbt rfl rfl m_len (zcR rfl (qpv 6))) qib)
  (qs_ (M':=[0,3,6]) (zac (M':=[0,3,6]) (za6 (i:=7) sc.nd rfl (jD rfl) (zkN rfl (zhQ jS ZX ZY zkS (qpv 6)))))
  (za2 (zbp (M':=[0,3,6]) (zch hu (qV 7) (zcR rfl (qpv 3)) (by with_unfolding_all rfl)) (qs_ (M':=[0,3,6]) (zhf rfl (zdU hu (qpv 3) (qV 7) (qV 5) rfl))
  (za2 (zgm (.inl rfl) (ziS rfl (ze7 jS YQ YR zj0 (qpv 6) (qa_ (qc pz hr rfl (qa_ (qV 1) (qa_ (qV 7) za3)) ar2) za3)))))) zan)))))))) zan))))
  (qs_ (M':=[0,3,8]) (zaz (M':=[0,3,8]) (za6 (i:=8) sc.nd rfl (jD rfl) (zaJ za3)))
  (qs_ (M':=[0,3,8]) (zbq (zaK jK rfl (zaI rfl (qV 2)) (ziP (K:=tk.K) (is:=[4,9]) (n:=2) (zdD rfl (zaf (za4 (i:=4) sc.nd rfl (jD rfl)) (zaf (za4 (i:=9) sc.nd rfl (jD rfl)) zaS))))
  (qs_ (M':=[0,3,8]) (zbp (M':=[0,3,8]) (zf5 hu8 (zb0 rfl rfl hu (qpv 3) (qeb (qV 4)) (fun _ _=>rfl)) qib) (za2 (zac (M':=[0,3,8]) (za6 (i:=9) sc.nd rfl (jD rfl) (qne (zaJ (qa_ (zad rfl hu (qV 9) qib (fun _ _=>rfl)) (qa_ (zad rfl hu (qV 9) qib (fun _ _=>rfl)) (qa_ (zad rfl hu (qV 9) qib (fun _ _=>rfl)) (qa_ (zad rfl hu (qV 9) qib (fun _ _=>rfl)) za3))))))))) zan)
  (za2 (zgm (.inl rfl) (zcS rfl (ze7 jS QJ QK zck (qpv 8) (qa_ (zdl (qa_ (qV 4) (qa_ (qne (zd3 rfl rfl rfl m_list (qeb (qV 9)))) za3))) za3))))))))
  (za2 (ziO (M':=[0,3]) (zaa (qV 8)))))))))
abbrev zf4:QR:=top 40
theorem zgd:FnScope ["_law_script","_law_many","_law_names_here","_law_word_here"] ["_law_script"] (za0 zf4):=scm
def zcW:DS:=(zai (zaF 1 (d2 zed (zaj zaD (dAc (dV 0) (dAc (dC (.int 1)) dAn))) (dC (.int 13))))
  (zai (zcY (dB (d2 gEq (d2 zed (d2 zgD (zaj zaD (dAc (dV 0) (dAc (dC (.int 1)) dAn))) (dC (.int 13))) (dC (.int 8))) (dC (.int 5)))) (zaF 1 (d2 zat (dC (.int 13)) (d2 zed (d2 zgD (zaj zaD (dAc (dV 0) (dAc (dC (.int 1)) dAn))) (dC (.int 104))) (dC (.int 18))))) zaH)
  (zai (zaF 2 (zaj zfg (dAc (zaj zaD (dAc (dV 0) (dAc (dC (.int 0)) dAn))) (dAc (dV 1) dAn))))
  (zai (zaF 3 (zaj zgE (dAc (zaj zaD (dAc (dV 0) (dAc (dC (.int 2)) dAn))) (dAc (dV 2) dAn))))
  (zal [] (zjj (dAc (dV 3) (dAc (zgL zcy (zaj zdX (dAc (zaj zaD (dAc (dV 0) (dAc (dC (.int 3)) dAn))) dAn)) (dAc (dV 3) dAn)) dAn))))))))
def zep:List T->Option T:=fnP 4 zcW
abbrev zfp[TheK](v:Ev)(k:Nat):Prop:=Cl v k "_law_set_up" ["_law_script"] (spP .e 1 zep)
theorem zjZ[tk:TheK](h:Here tk.K v.mg "_law_set_up" zf4 ["_law_script"])(pf:ziq v 7)(mJ:zgT v 7)(ki:zio v 7)(ma:zeu v 7)(px:zir v 7):zfp v 8:=by
 refine(h.vP 7 [] zcW zgd fun f cdv A outer s H E hr=>?_ :);have sc:=zgd;have hu8:=zbn hr
 exact(qs_ (M':=[]) (zac (M':=[]) (za6 (i:=1) sc.nd rfl (jD rfl) (zaP (qc pf hr rfl (qa_ (qV 0) (qa_ qi_ za3)) ar2) qib)))
  (qs_ (M':=[]) (zbp (M':=[]) (zf5 hu8 (zaP (zbY (qc pf hr rfl (qa_ (qV 0) (qa_ qi_ za3)) ar2) qib) qib) qib) (za2 (zac (M':=[]) (za6 (i:=1) sc.nd rfl (jD rfl) (zao qi_ (qeb (zaP (zbY (qc pf hr rfl (qa_ (qV 0) (qa_ qi_ za3)) ar2) qib) qib)))))) zan)
  (qs_ (M':=[]) (zac (M':=[]) (za6 (i:=2) sc.nd rfl (jD rfl) (qc mJ hr rfl (qa_ (qc pf hr rfl (qa_ (qV 0) (qa_ qi_ za3)) ar2) (qa_ (qV 1) za3)) ar2)))
  (qs_ (M':=[]) (zac (M':=[]) (za6 (i:=3) sc.nd rfl (jD rfl) (qc ki hr rfl (qa_ (qc pf hr rfl (qa_ (qV 0) (qa_ qi_ za3)) ar2) (qa_ (qV 2) za3)) ar2)))
  (za2 (zaa (zdl (qa_ (qV 3) (qa_ (qcT (.inl rfl) ma hr rfl (qcN px hr rfl (qa_ (qc pf hr rfl (qa_ (qV 0) (qa_ qi_ za3)) ar2) za3) ar1) (qa_ (qV 3) za3) ar1) za3)))))))))
abbrev zcH:QR:=top 26
theorem zdt:FnScope ["crossings","ahead","name","ends","at","end"] ["crossings"] (za0 zcH):=scm
def zbb:DS:=(zai (zaF 1 zkr)
  (zai (zew (zcs (dV 0)) (dGt [2,3])
  (zew (dEn (dAc (dV 3) dAn)) (dGt [4,5])
  (zoU 1 (dV 5) (d2 za7 (dV 3) (d2 gSb (dV 4) (dC (.int 1)))))))
  (zrA 1 (zal [] (dV 1)))))
def zcn:List T->Option T:=fnP 6 zbb
abbrev zcM[TheK](v:Ev)(k:Nat):Prop:=Cl v k "ends_ahead" ["crossings"] (spP .e 1 zcn)
theorem zgu[tk:TheK](h:Here tk.K v.mg "ends_ahead" zcH ["crossings"])(m_enumerate:v.mg "enumerate"=none):zcM v 1:=by
 refine(h.vP 0 [] zbb zdt fun f cdv A outer s H E hr=>?_ :);have sc:=zdt;have hu:=zbT hr
 exact(qs_ (M':=[1]) (zaz (M':=[1]) (za6 (i:=1) sc.nd rfl (jD rfl) zgo))
  (qs_ (M':=[1]) (zbq (zaK jK rfl (zaI rfl (qV 0)) (ziP (K:=tk.K) (is:=[2,3]) (n:=2) (zdD rfl (zaf (za4 (i:=2) sc.nd rfl (jD rfl)) (zaf (za4 (i:=3) sc.nd rfl (jD rfl)) zaS))))
  (za2 (zbq (zaK jK rfl (zhR rfl m_enumerate (qa_ (qV 3) za3)) (ziP (K:=tk.K) (is:=[4,5]) (n:=2) (zdD rfl (zaf (za4 (i:=4) sc.nd rfl (jD rfl)) (zaf (za4 (i:=5) sc.nd rfl (jD rfl)) zaS))))
  (za2 (zhf rfl (zdU hu (qpv 1) (qV 5) (zad rfl hu (qV 3) (qeb (zkM (qV 4) qib)) (fun _ _=>rfl)) rfl))))))))
  (za2 (zol (i:=1) (M':=[]) (zaa (qV 1))))))
abbrev zf1:QR:=top 21
theorem zga:FnScope ["after","told","walked","start","walk","at"] ["after"] (za0 zf1):=scm
def zdY:DS:=(zai (zaF 1 (zeT dAn))
  (zai (zaF 2 zrw)
  (zai (zew (znJ (dAc (d1 zdo (dV 0)) dAn)) (dGn 3)
  (zai (zaF 4 (zeT dAn))
  (zai (zaF 5 (dV 3))
  (zai (zbB (dB (d2 zlQ (dV 5) (dV 2)))
  (zai (dDo (zrx 2 (dV 5)))
  (zai (dDo (zhq zk4 4 (dAc (dV 5) dAn)))
  (zaF 5 (d2 za7 (dV 0) (dV 5))))) 300)
  (zcY (zlW (dV 4)) (dDo (zhq zk4 1 (dAc (dV 4) dAn))) zaH)))))
  (zal [] (dV 1)))))
def zeo:List T->Option T:=fnP 6 zdY
abbrev zfn[TheK](v:Ev)(k:Nat):Prop:=Cl v k "rounds" ["after"] (spP .e 1 zeo)
theorem zjW[tk:TheK](h:Here tk.K v.mg "rounds" zf1 ["after"])(m_set:v.mg "set"=none)(m_range:v.mg "range"=none)(m_len:v.mg "len"=none):zfn v 1:=by
 refine(h.vP 0 [] zdY zga fun f cdv A outer s H E hr=>?_ :);have sc:=zga;have hu:=zbT hr
 exact(qs_ (M':=[1]) (zaz (M':=[1]) (za6 (i:=1) sc.nd rfl (jD rfl) (zaJ za3)))
  (qs_ (M':=[1,2]) (zaz (M':=[1,2]) (za6 (i:=2) sc.nd rfl (jD rfl) (zqv rfl m_set)))
  (qs_ (M':=[1,2]) (zbq (zaK jK rfl (zdF rfl m_range (qa_ (zbt rfl rfl m_len (qeb (qV 0))) za3)) (zbs (za4 (i:=3) sc.nd rfl (jD rfl)))
  (qs_ (M':=[1,2,4]) (zaz (M':=[1,2,4]) (za6 (i:=4) sc.nd rfl (jD rfl) (zaJ za3)))
  (qs_ (M':=[1,2,4]) (zac (M':=[1,2,4]) (za6 (i:=5) sc.nd rfl (jD rfl) (qV 3)))
  (qs_ (M':=[1,2,4]) (zdT 300 jK (zqr (qV 5) (zcR rfl (qpv 2)) (by with_unfolding_all rfl))
  (qs_ (M':=[1,2,4]) (zgm (.inl rfl) (zqw rfl (ze7 PySem.F.plainAttrs_set PySem.F.slot_set_add PySem.F.type_set_add zr2 (qpv 2) (zkL (qV 5) zmI))))
  (qs_ (M':=[1,2,4]) (zgm (.inl rfl) (zcS rfl (ze7 jS QJ QK zck (qpv 4) (qa_ (qV 5) za3))))
  (za2 (zac (M':=[1,2,4]) (za6 (i:=5) sc.nd rfl (jD rfl) (zad rfl hu (qV 0) (qeb (qV 5)) (fun _ _=>rfl))))))))
  (za2 (zbp (M':=[1,2]) (ze6 (zcR rfl (qpv 4))) (za2 (ziO (M':=[1,2]) (zgm (.inl rfl) (zcS rfl (ze7 jS QJ QK zck (qpv 1) (qa_ (qV 4) za3)))))) (zhM (M':=[1,2,4]) zan))))))))
  (za2 (ziO (M':=[2]) (zaa (qV 1)))))))
abbrev zd0:QR:=top 28
theorem ze5:FnScope ["size","end","standing"] ["size","end"] (za0 zd0):=scm
def zc5:DS:=(zai (zaF 2 (d2 zgD (dV 1) (dC (.int 2))))
  (zai (zcY (dB (d2 gEq (d2 zed (dV 1) (dC (.int 2))) (dC (.int 0)))) (zal [] (d2 zeO (dC (.int 2)) (dV 2))) zaH)
  (zal [] (d2 zat (d2 zeO (dC (.int 2)) (d2 zed (d2 gSb (dV 2) (dC (.int 1))) (dV 0))) (dC (.int 1))))))
def zbH:List T->Option T:=fnP 3 zc5
abbrev zdh[TheK](v:Ev)(k:Nat):Prop:=Cl v k "walker_by" ["size","end"] (spP .e 2 zbH)
theorem zh3[tk:TheK](h:Here tk.K v.mg "walker_by" zd0 ["size","end"]):zdh v 1:=by
 refine(h.vP 0 [] zc5 ze5 fun f cdv A outer s H E hr=>?_ :);have sc:=ze5;have hu8:=zbn hr
 exact(qs_ (M':=[]) (zac (M':=[]) (za6 (i:=2) sc.nd rfl (jD rfl) (zbY (qV 1) qib)))
  (qs_ (M':=[]) (zbp (M':=[]) (zf5 hu8 (zaP (qV 1) qib) qib) (za2 (zaa (zb4 qi_ (qeb (qV 2))))) zan)
  (za2 (zaa (zao (zb4 qi_ (qeb (zaP (zkM (qV 2) qib) (qeb (qV 0))))) qib)))))
abbrev zf3:QR:=top 27
theorem zgc:FnScope ["size","walker","stretch"] ["size","walker"] (za0 zf3):=scm
def zdZ:DS:=(zai (zaF 2 (d2 zgD (dV 1) (dC (.int 2))))
  (zai (zcY (dB (d2 gEq (d2 zed (dV 1) (dC (.int 2))) (dC (.int 1)))) (zal [] (d2 zeO (dC (.int 2)) (dV 2))) zaH)
  (zal [] (d2 zat (d2 zeO (dC (.int 2)) (d2 zed (d2 zat (dV 2) (dC (.int 1))) (dV 0))) (dC (.int 1))))))
def zdb:List T->Option T:=fnP 3 zdZ
abbrev zfo[TheK](v:Ev)(k:Nat):Prop:=Cl v k "end_of" ["size","walker"] (spP .e 2 zdb)
theorem zjY[tk:TheK](h:Here tk.K v.mg "end_of" zf3 ["size","walker"]):zfo v 1:=by
 refine(h.vP 0 [] zdZ zgc fun f cdv A outer s H E hr=>?_ :);have sc:=zgc;have hu8:=zbn hr
 exact(qs_ (M':=[]) (zac (M':=[]) (za6 (i:=2) sc.nd rfl (jD rfl) (zbY (qV 1) qib)))
  (qs_ (M':=[]) (zbp (M':=[]) (zf5 hu8 (zaP (qV 1) qib) qib) (za2 (zaa (zb4 qi_ (qeb (qV 2))))) zan)
  (za2 (zaa (zao (zb4 qi_ (qeb (zaP (zao (qV 2) qib) (qeb (qV 0))))) qib)))))
abbrev zef:QR:=top 25
theorem zfu:FnScope ["word","crossings","ahead","size"] ["word","crossings"] (za0 zef):=scm
def zcp:DS:=(zai (zcY (zpI (zlW (dV 0))) (zal [] (zeT (dAc (zeT dAn) (dAc (zeT dAn) dAn)))) zaH)
  (zai (zaF 2 (zaj zcn (dAc (dV 1) dAn)))
  (zai (zaF 3 (d1 zdo (dV 0)))
  (zal [] (zaj zeo (dAc (dLC [] [none,some 3,some 2] (znJ (dAc (d2 zeO (dC (.int 2)) (dV 3)) dAn)) (dGn 0) zfL (zaj zbH (dAc (dV 1) (dAc (d2 za7 (dV 2) (zaj zdb (dAc (dV 1) (dAc (dV 0) dAn)))) dAn)))) dAn))))))
def zbJ:List T->Option T:=fnP 4 zcp
abbrev zdi[TheK](v:Ev)(k:Nat):Prop:=Cl v k "patches" ["word","crossings"] (spP .e 2 zbJ)
theorem ziV[tk:TheK](h:Here tk.K v.mg "patches" zef ["word","crossings"])(mT:zcM v 1)(m9:zfn v 1)(p8:zdh v 1)(mO:zfo v 1)(m_len:v.mg "len"=none)(m_range:v.mg "range"=none):zdi v 2:=by
 refine(h.vP 1 [] zcp zfu fun f cdv A outer s H E hr=>?_ :);have sc:=zfu;have hu:=zbT hr
 exact(qs_ (M':=[]) (zbp (M':=[]) (zhe (ze6 (qeb (qV 0)))) (za2 (zaa (qne (zaJ (qa_ (qne (zaJ za3)) (qa_ (qne (zaJ za3)) za3)))))) zan)
  (qs_ (M':=[]) (zac (M':=[]) (za6 (i:=2) sc.nd rfl (g9 rfl) (qc mT hr rfl (qa_ (qV 1) za3) ar1)))
  (qs_ (M':=[]) (zac (M':=[]) (za6 (i:=3) sc.nd rfl (g9 rfl) (zbt rfl rfl m_len (qeb (qV 0)))))
  (za2 (zaa (qc m9 hr rfl (qa_ (qne (zgn (Mi:=[]) rfl (zbg (i:=0)) zct (zdE (N:=["walker","size","ahead"]) (caps:=[none,some 3,some 2]) rfl (zdF rfl m_range (qa_ (zb4 qi_ (qeb (qV 3))) za3)) (fun _ _ _ _ _=>(za4 (i:=0) (show (["walker","size","ahead"]:List Str).Nodup by decide +kernel) rfl (jD rfl))) zaX (fun _ _ _ _ _=>zaR) (fun _ _ _ _ _=>(qc p8 hr rfl (qa_ (qV 1) (qa_ (zad rfl hu (qV 2) (qeb (qc mO hr rfl (qa_ (qV 1) (qa_ (qV 0) za3)) ar2)) (fun _ _=>rfl)) za3)) ar2))))) za3) ar1))))))
abbrev zeg:QR:=top 30
theorem zfv:FnScope ["word","crossings","places","number","walk","walker"] ["word","crossings"] (za0 zeg):=scm
def zdd:DS:=(zai (zaF 2 zkr)
  (zai (zew (dEn (dAc (zaj zbJ (dAc (dV 0) (dAc (dV 1) dAn))) dAn)) (dGt [3,4])
  (zew (zcs (dV 4)) (dGn 5)
  (zoU 2 (dV 5) (dV 3))))
  (zal [] (dLC [2] [none,some 2] (znJ (dAc (d1 zdo (dV 0)) dAn)) (dGn 0) zfL (zjj (dAc (d2v za7 1 (d2 zeO (dC (.int 2)) (dV 0))) (dAc (d2v za7 1 (d2 zat (d2 zeO (dC (.int 2)) (dV 0)) (dC (.int 1)))) dAn)))))))
def zcx:List T->Option T:=zo2 6 zdd
abbrev zes[TheK](v:Ev)(k:Nat):Prop:=Cl v k "borders" ["word","crossings"] (spP .n 2 zcx)
theorem ziX[tk:TheK](h:Here tk.K v.mg "borders" zeg ["word","crossings"])(pB:zdi v 2)(m_enumerate:v.mg "enumerate"=none)(m_range:v.mg "range"=none)(m_len:v.mg "len"=none):zes v 3:=by
 refine(h.vN 2 [] zdd zfv fun f cdv A outer s H E hr=>?_ :);have sc:=zfv;have hu:=zbT hr
 exact(qs_ (M':=[2]) (zaz (M':=[2]) (za6 (i:=2) sc.nd rfl (g9 rfl) zgo))
  (qs_ (M':=[2]) (zbq (zaK jK rfl (zhR rfl m_enumerate (qa_ (qc pB hr rfl (qa_ (qV 0) (qa_ (qV 1) za3)) ar2) za3)) (ziP (K:=tk.K) (is:=[3,4]) (n:=2) (zdD rfl (zaf (za4 (i:=3) sc.nd rfl (jD rfl)) (zaf (za4 (i:=4) sc.nd rfl (jD rfl)) zaS))))
  (za2 (zbq (zaK jK rfl (zaI rfl (qV 4)) (zbs (za4 (i:=5) sc.nd rfl (jD rfl)))
  (za2 (zhf rfl (zdU hu (qpv 2) (qV 5) (qV 3) rfl))))))))
  (za2 (zmC (zgn (Mi:=[1]) rfl (zbg (i:=0)) zct (zdE (N:=["stretch","places"]) (caps:=[none,some 2]) rfl (zdF rfl m_range (qa_ (zbt rfl rfl m_len (qeb (qV 0))) za3)) (fun _ _ _ _ _=>(za4 (i:=0) (show (["stretch","places"]:List Str).Nodup by decide +kernel) rfl (jD rfl))) zaX (fun _ _ _ _ _=>zaR) (fun _ _ _ _ _=>(zdl (qa_ (zb0 rfl rfl hu (qpv 1) (qeb (zb4 qi_ (qeb (qV 0)))) (fun _ _=>rfl)) (qa_ (zb0 rfl rfl hu (qpv 1) (qeb (zao (zb4 qi_ (qeb (qV 0))) qib)) (fun _ _=>rfl)) za3))))))))))
abbrev zge:QR:=top 41
theorem zls:FnScope ["_law_found"] ["_law_found"] (za0 zge):=scm
def zji:DS:=(zal [] (zlZ (zpJ "int" (dV 0)) (zry (zpJ "bool" (dV 0)))))
def zdW:List T->Option T:=fnP 1 zji
abbrev zgR[TheK](v:Ev)(k:Nat):Prop:=Cl v k "_law_whole" ["_law_found"] (spP .e 1 zdW)
theorem zlD[tk:TheK](h:Here tk.K v.mg "_law_whole" zge ["_law_found"])(m_isinstance:v.mg "isinstance"=none)(m_bool:v.mg "bool"=none)(m_int:v.mg "int"=none):zgR v 1:=by
 refine(h.vP 0 [] zji zls fun f cdv A outer s H E hr=>?_ :);exact(za2 (zaa (zkO (ziR (cn:="int") rfl rfl m_isinstance (qeb (qV 0)) (zeH (v:=.ty "int") rfl m_int zue rfl)) (zmL (zt0 (ziR (cn:="bool") rfl rfl m_isinstance (qeb (qV 0)) (zeH (v:=.ty "bool") rfl m_bool zrK rfl)))))))
abbrev zgh:QR:=top 42
theorem zlu:FnScope ["_law_found","_law_many"] ["_law_found","_law_many"] (za0 zgh):=scm
def zeS:DS:=(zal [] (zlZ (zpJ "list" (dV 0)) (zlZ (d2 gEq (d1 zdo (dV 0)) (dV 1)) (d1 zrU (dLC [] [none] (zcs (dV 0)) (dGn 0) zfL (zaj zdW (dAc (dV 0) dAn)))))))
def zfh:List T->Option T:=fnP 2 zeS
abbrev zgU[TheK](v:Ev)(k:Nat):Prop:=Cl v k "_law_lists" ["_law_found","_law_many"] (spP .e 2 zfh)
theorem zlG[tk:TheK](h:Here tk.K v.mg "_law_lists" zgh ["_law_found","_law_many"])(kR:zgR v 1)(m_all:v.mg "all"=none)(m_len:v.mg "len"=none)(m_isinstance:v.mg "isinstance"=none)(m_list:v.mg "list"=none):zgU v 2:=by
 refine(h.vP 1 [] zeS zlu fun f cdv A outer s H E hr=>?_ :);have hu8:=zbn hr;exact(za2 (zaa (zkO (ziR (cn:="list") rfl rfl m_isinstance (qeb (qV 0)) (zeH (v:=.ty "list") rfl m_list zkw rfl)) (zkO (zqA hu8 (zbt rfl rfl m_len (qeb (qV 0))) (qeb (qV 1))) (zmL (zt3 rfl rfl rfl m_all (qnb (zgn (Mi:=[]) rfl (zbg (i:=0)) zct (zdE (N:=["_law_number"]) (caps:=[none]) rfl (zaI rfl (qV 0)) (fun _ _ _ _ _=>(za4 (i:=0) (show (["_law_number"]:List Str).Nodup by decide +kernel) rfl (jD rfl))) zaX (fun _ _ _ _ _=>zaR) (fun _ _ _ _ _=>(qc kR hr rfl (qa_ (qV 0) za3) ar1)))))))))))
abbrev zgf:QR:=top 43
theorem zha:FnScope ["_law_found","_law_some","_law_many","_law_count","_law_k","_law_pair"] ["_law_found","_law_some","_law_many"] (za0 zgf):=scm
def zeQ:DS:=(zai (zcY (dOr (zpI (zlW (zpJ "list" (dV 0)))) (dB (d2 gNe (d1 zdo (dV 0)) (dV 2)))) (zal [] (dC (.bl false))) zaH)
  (zai (zaF 3 (dLC [] [none] (zcs (dV 1)) (dGn 0) zfL (dC (.int 0))))
  (zai (zew (dEn (dAc (dV 0) dAn)) (dGt [4,5])
  (zai (zcY (dOr (zpI (zlW (zpJ "tuple" (dV 5)))) (dOr (zpI (zlW (zaj zfh (dAc (d1 zbZ (dV 5)) (dAc (dC (.int 2)) dAn))))) (dB (d2 gEq (d2 za7 (dV 5) (dC (.int 0))) (d2 za7 (dV 5) (dC (.int 1))))))) (zal [] (dC (.bl false))) zaH)
  (zai (zcY (dOr (dB (d2 gLt (d1 zrj (dV 5)) (dC (.int 0)))) (dOr (dB (d2 gGe (d1 zrk (dV 5)) (d1 zdo (dV 1)))) (dOr (dB (d2 zaC (d2 zeO (dC (.int 2)) (dV 4)) (d2 za7 (dV 1) (d2 za7 (dV 5) (dC (.int 0)))))) (dB (d2 zaC (d2 zat (d2 zeO (dC (.int 2)) (dV 4)) (dC (.int 1))) (d2 za7 (dV 1) (d2 za7 (dV 5) (dC (.int 1))))))))) (zal [] (dC (.bl false))) zaH)
  (zai (zlY 3 (d2 za7 (dV 5) (dC (.int 0))) 1)
  (zlY 3 (d2 za7 (dV 5) (dC (.int 1))) 1)))))
  (zal [] (d2v gEq 3 (dLC [3] [none] (zcs (dV 1)) (dGn 0) zfL (d1 zdo (dV 0))))))))
def zff:List T->Option T:=fnP 6 zeQ
abbrev zgS[TheK](v:Ev)(k:Nat):Prop:=Cl v k "_law_right" ["_law_found","_law_some","_law_many"] (spP .e 3 zff)
theorem zlE[tk:TheK](h:Here tk.K v.mg "_law_right" zgf ["_law_found","_law_some","_law_many"])(mH:zgU v 2)(m_len:v.mg "len"=none)(m_isinstance:v.mg "isinstance"=none)(m_list:v.mg "list"=none)(m_enumerate:v.mg "enumerate"=none)(m_tuple:v.mg "tuple"=none)(m_max:v.mg "max"=none)(m_min:v.mg "min"=none):zgS v 3:=by
 refine(h.vP 2 [] zeQ zha fun f cdv A outer s H E hr=>?_ :);have sc:=zha;have hu:=zbT hr;have hu8:=zbn hr
 exact(qs_ (M':=[]) (zbp (M':=[]) (QW.pt (ziN (zhe (ze6 (qeb (ziR (cn:="list") rfl rfl m_isinstance (qeb (qV 0)) (zeH (v:=.ty "list") rfl m_list zkw rfl))))) (ziM (zjS hu8 (zbt rfl rfl m_len (qeb (qV 0))) (qeb (qV 2)))))) (za2 (zaa zly)) zan)
  (qs_ (M':=[3]) (zaz (M':=[3]) (zmD (Mi:=[]) rfl (zbg (i:=0)) zct (zdC (i:=3) sc.nd rfl rfl (N:=["_law_one"]) (caps:=[none]) rfl (zaI rfl (qV 1)) (fun _ _ _ _ _=>(za4 (i:=0) (show (["_law_one"]:List Str).Nodup by decide +kernel) rfl (jD rfl))) zaX (fun _ _ _ _ _=>zaR) (fun _ _ _ _ _=>qi_))))
  (qs_ (M':=[3]) (zbq (zaK jK rfl (zhR rfl m_enumerate (qa_ (qV 0) za3)) (ziP (K:=tk.K) (is:=[4,5]) (n:=2) (zdD rfl (zaf (za4 (i:=4) sc.nd rfl (jD rfl)) (zaf (za4 (i:=5) sc.nd rfl (jD rfl)) zaS))))
  (qs_ (M':=[3]) (zbp (M':=[3]) (QW.pt (ziN (zhe (ze6 (qeb (ziR (cn:="tuple") rfl rfl m_isinstance (qeb (qV 5)) (zeH (v:=.ty "tuple") rfl m_tuple zp3 rfl))))) (ziN (zhe (ze6 (qeb (qc mH hr rfl (qa_ (qne (zd3 rfl rfl rfl m_list (qeb (qV 5)))) (qa_ qi_ za3)) ar2)))) (ziM (zf5 hu8 (zad rfl hu (qV 5) qib (fun _ _=>rfl)) (qeb (zad rfl hu (qV 5) qib (fun _ _=>rfl)))))))) (za2 (zaa zly)) zan)
  (qs_ (M':=[3]) (zbp (M':=[3]) (QW.pt (ziN (zqs (zqy rfl rfl rfl m_min (qeb (qV 5))) qib) (ziN (zsT (zqz rfl rfl rfl m_max (qeb (qV 5))) (qeb (zbt rfl rfl m_len (qeb (qV 1))))) (ziN (zch hu (zb4 qi_ (qeb (qV 4))) (qeb (zad rfl hu (qV 1) (qeb (zad rfl hu (qV 5) qib (fun _ _=>rfl))) (fun _ _=>rfl))) (by with_unfolding_all rfl)) (ziM (zch hu (zao (zb4 qi_ (qeb (qV 4))) qib) (qeb (zad rfl hu (qV 1) (qeb (zad rfl hu (qV 5) qib (fun _ _=>rfl))) (fun _ _=>rfl))) (by with_unfolding_all rfl))))))) (za2 (zaa zly)) zan)
  (qs_ (M':=[3]) (zmE rfl (zkK (qpv 3) (zad rfl hu (qV 5) qib (fun _ _=>rfl)) zl1 zmH zpB zdS))
  (za2 (zmE rfl (zkK (qpv 3) (zad rfl hu (qV 5) qib (fun _ _=>rfl)) zl1 zmH zpB zdS))))))))
  (za2 (zaa (zt2 rfl hu8 (qpv 3) (qnb (zgn (Mi:=[]) rfl (zbg (i:=0)) zct (zdE (N:=["_law_one"]) (caps:=[none]) rfl (zaI rfl (qV 1)) (fun _ _ _ _ _=>(za4 (i:=0) (show (["_law_one"]:List Str).Nodup by decide +kernel) rfl (jD rfl))) zaX (fun _ _ _ _ _=>zaR) (fun _ _ _ _ _=>(zbt rfl rfl m_len (qeb (qV 0)))))))))))))
abbrev zqk:QR:=top 44
theorem zph:FnScope ["_law_script","_law_word_here","_law_lines","_law_lent","_law_found","_law_kept"] ["_law_script"] (za0 zqk):=scm
def zoT:DS:=(zai (dUn [1,2] (zaj zep (dAc (dV 0) dAn)))
  (zai (zcY (dB (d2 gIs (dV 2) (dC .non))) (zal [] (dC (.bl true))) zaH)
  (zai (zaF 3 (zeT (dAc (d1 zbZ (dV 1)) (dAc (dLC [] [none,none] (zcs (dV 2)) (dGt [0,1]) zfL (zjj (dAc (dV 0) (dAc (d1 zbZ (dV 1)) dAn)))) dAn))))
  (zai (zaF 4 (zaj zcx (dAc (d2 za7 (dV 3) (dC (.int 0))) (dAc (d2 za7 (dV 3) (dC (.int 1))) dAn))))
  (zai (zcY (dOr (dB (d2 gNe (dV 3) (zeT (dAc (dV 1) (dAc (dV 2) dAn))))) (zpI (zlW (zjl zff 4 (dAc (zaj zbJ (dAc (dV 1) (dAc (dV 2) dAn))) (dAc (d1 zdo (dV 1)) dAn)))))) (zal [] (dC (.bl false))) zaH)
  (zai (zaF 5 (d1 zbZ (dV 4)))
  (zai (dDo (zhq zk4 4 (dAc (zjj (dAc (dC (.int 0)) (dAc (dC (.int 1)) dAn))) dAn)))
  (zal [] (d2 gEq (zaj zcx (dAc (d2 za7 (dV 3) (dC (.int 0))) (dAc (d2 za7 (dV 3) (dC (.int 1))) dAn))) (dV 5))))))))))
def ztZ:List T->Option T:=fnP 6 zoT
theorem zwz[tk:TheK](mD:zfp v 8)(pH:zes v 8)(kJ:zgS v 8)(pB:zdi v 8)(m_list:v.mg "list"=none)(m_len:v.mg "len"=none)  :QBody tk v.P v.w v.mg v.base 8 "law" zqk ["_law_script","_law_word_here","_law_lines","_law_lent","_law_found","_law_kept"] (cS .e [] [] [] [] zoT):=by
 intro f cdv A outer s H E hr;have sc:=zph;have hu:=zbT hr;have hu8:=zbn hr
 exact(qs_ (M':=[]) (zmB (is:=[1,2]) (n:=2) (K:=tk.K) (zek (qc mD hr rfl (qa_ (qV 0) za3) ar1) (zqu (zjT rfl (zaf (za4 (i:=1) sc.nd rfl (jD rfl)) (zaf (za4 (i:=2) sc.nd rfl (jD rfl)) zaS))) (zdD rfl (zaf (za4 (i:=1) sc.nd rfl (jD rfl)) (zaf (za4 (i:=2) sc.nd rfl (jD rfl)) zaS))))) rfl rfl rfl)
  (qs_ (M':=[]) (zbp (M':=[]) (zsS (qV 2) (qeb zea)) (za2 (zaa zly)) zan)
  (qs_ (M':=[]) (zac (M':=[]) (za6 (i:=3) sc.nd rfl (jD rfl) (qne (zaJ (qa_ (qne (zd3 rfl rfl rfl m_list (qeb (qV 1)))) (qa_ (qne (zgn (Mi:=[]) rfl (zmk (K:=tk.K) (is:=[0,1]) (n:=2)) zct (zdE (N:=["_law_name","_law_ends"]) (caps:=[none,none]) (g:=zlP tk.K 2 (gsN [0,1])) rfl (zaI rfl (qV 2)) (fun _ _ _ _ _=>(zhO (K:=tk.K) rfl rfl (zaf (za4 (i:=0) (show (["_law_name","_law_ends"]:List Str).Nodup by decide +kernel) rfl (jD rfl)) (zaf (za4 (i:=1) (show (["_law_name","_law_ends"]:List Str).Nodup by decide +kernel) rfl (jD rfl)) zaS)))) zka (fun _ _ _ _ _=>zaR) (fun _ _ _ _ _=>(zdl (qa_ (qV 0) (qa_ (qne (zd3 rfl rfl rfl m_list (qeb (qV 1)))) za3))))))) za3))))))
  (qs_ (M':=[4]) (zaz (M':=[4]) (za6 (i:=4) sc.nd rfl (jD rfl) (qcN pH hr rfl (qa_ (zad rfl hu (qV 3) qib (fun _ _=>rfl)) (qa_ (zad rfl hu (qV 3) qib (fun _ _=>rfl)) za3)) ar2)))
  (qs_ (M':=[4]) (zbp (M':=[4]) (QW.pt (ziN (zjS hu8 (qV 3) (qnb (zaJ (qa_ (qV 1) (qa_ (qV 2) za3))))) (ziM (zhe (ze6 (qeb (qcB rfl kJ hr rfl (qpv 4) (qa_ (qc pB hr rfl (qa_ (qV 1) (qa_ (qV 2) za3)) ar2) (qa_ (zbt rfl rfl m_len (qeb (qV 1))) za3)) ar2))))))) (za2 (zaa zly)) zan)
  (qs_ (M':=[4]) (zac (M':=[4]) (za6 (i:=5) sc.nd rfl (jD rfl) (qne (zd3 rfl rfl rfl m_list (zcR rfl (qpv 4))))))
  (qs_ (M':=[4]) (zgm (.inl rfl) (zcS rfl (ze7 jS QJ QK zck (qpv 4) (qa_ (zdl (qa_ qi_ (qa_ qi_ za3))) za3))))
  (za2 (zaa (zqA hu8 (qne (qcN pH hr rfl (qa_ (zad rfl hu (qV 3) qib (fun _ _=>rfl)) (qa_ (zad rfl hu (qV 3) qib (fun _ _=>rfl)) za3)) ar2)) (qeb (qV 5))))))))))))
end Dw
set_option maxHeartbeats 1000000
local macro_rules | `(tactic| simp_all? [$args,*]) => `(tactic| simp (disch := (first | lia | (simp only [List.length_map, List.length_append, List.length_cons, List.length_nil, List.length_reverse, List.length_range, List.length_set, List.length_take, List.length_drop, List.length_zipIdx]; lia))) only [L3.vdV, L3.vdC, L3.vd2, L3.zxn, L3.vdB, L3.zuR, L3.zv6, L3.zxd, L3.zuZ, L3.zsf, L3.zsa, L3.zxg, L3.zxl, L3.zxm, L3.zv1, L3.zuQ, L3.zsc, L3.zxe, L3.zxc, L3.zxb, L3.zuS, L3.zuU, L3.zsb, L3.zuT, L3.zv4, L3.zxk, L3.zs9, L3.zv0, L3.zuY, L3.zs6, L3.zxa, L3.zuW, L3.zuV, L3.zxj, L3.zxi, L3.zxh, L3.zsd, L3.zpY, L3.zpX, L3.vd1, L3.zxo, L3.zv2, L3.zuX, L3.zxf, L3.zv5, L3.zpZ, L3.zs7, L3.zs8, L3.zoa, L3.zuO, L3.zse, L3.zv3, L3.zuP, L3.vnT, L3.zsh, L3.zma, L3.zvk, L3.vSb, L3.zxt, L3.zxB, L3.zxu, L3.zxp, L3.vLt, L3.vLe, L3.vGt, L3.vGe, L3.zxz, L3.zxr, L3.zxA, L3.zxs, L3.zxy, L3.zxq, L3.zvj, L3.zve, L3.zsl, L3.zvf, L3.zq2, L3.zvg, L3.zvi, L3.zvh, L3.zfq, L3.zsk, L3.zmb, L3.zq4, L3.zvd, L3.zvb, L3.zvc, L3.zsj, L3.zsi, L3.zsm, L3.zvl, L3.zq0, L3.zxv, L3.zxw, L3.zjE, L3.zxx, L3.zq1, L3.zq5, L3.zs2, L3.zs3, L3.zs4, L3.zs5, L3.zs0, L3.zs1, L3.zlO, L3.zv9, L3.zv8, L3.zv7, L3.zvn, L3.zvm, L3.znm, L3.zuN, L3.sz0, L3.sz1, L3.sz2, L3.sz3, L3.sz4, List.getElem?_cons_zero, List.getElem?_cons_succ, L3.zr6, Option.bind_some, Option.map_some, List.set_cons_succ, List.set_cons_zero, List.length_cons, List.length_nil, List.length_map, if_true, if_false, Bool.not_true, Bool.not_false, decide_true, decide_false, Bool.false_eq_true, L3.zbC, L3.zkX, Nat.reduceAdd, Nat.reduceLT, Int.zero_add, $args,*])
namespace Dw
open PySem L2 L3
theorem zil(ns:List Int)(k:Nat):zaD [.scr ns,.int k]=some (.int (ns.getD k 0)):=by
 unfold zaD fnP zif
 by_cases h:k < ns.length
 ·have e:atI ns (k:Int)=some ns[k]:=zuh (j3 h);simp[zai,zaH,zcY,zal,dV,dC,d2,d1,dB,gLt,ztW,zdo,za7,orG,gIx,zaO,hasAll,h,e]
 ·simp[zai,zaH,zcY,zal,dV,dC,d2,d1,dB,gLt,ztW,zdo,za7,orG,gIx,zaO,hasAll,h]
structure Bag2 where
 (a b:Int)
def Bag2.t(x:Bag2):T:=.lst [.int x.a,.int x.b]
structure Bag2.Ok (x:Bag2):Prop where
 b0:0<=x.b
 b1:x.b < 2147483647
theorem zrL:zrT (.int 10) (.int 40)=some (.int 10000000000000000000000000000000000000000):=by rfl
theorem zrM:zri (.int 10000000000000000000000000000000000000000) (.int 10000000000000000000000000000000000000000)=some (.int 100000000000000000000000000000000000000000000000000000000000000000000000000000000):=by rfl
theorem zkx(n:Int):∃ x:Bag2,zdX [.int n]=some x.t/\x.Ok:=by
 refine⟨⟨n / 2%100000000000000000000000000000000000000000000000000000000000000000000000000000000*(n%2),n / 2%2147483647⟩,?_,⟨Zy _ (by lia),Z7 _ (by lia)⟩⟩
 unfold zdX;refine zi9 ?_;show Run zig [some (.int n)] _;exact zb5 (s':=[some (.int n)]) (by unfold zig; simp_all?[zrL,zrM]<;>rfl) rfl
theorem zid{x:Bag2}(h:x.Ok)(n:Int)(hn:0 < n)(hn2:n < 1073741824):∃(z:Int) (y:Bag2),zbw [x.t,.int n]=some (.int z,y.t)/\y.Ok/\0<=z/\z < n:=by
 have h0:=h.b0;have h1:=h.b1;have m1:zpO x.b 48271=true:=by unfold zpO; rw[Zc,decide_eq_true_iff]; left; lia
 have m2:zpO ((x.b*48271+4099)%2147483647) ((x.b*48271+4099)%2147483647 / 65536+7)=true:=by unfold zpO; rw[Zc,decide_eq_true_iff]; left; lia
 by_cases hp:0 < x.a
 ·refine⟨x.a%n,⟨x.a / n,x.b⟩,?_,⟨h0,h1⟩,Zy _ (by lia),Z7 _ hn⟩
  unfold zbw fnI zg0 Bag2.t;simp[zai,zaH,zcY,zaF,zjk,zal,dV,dC,d2,d2v,d1,dB,gGt,gI1,za7,orG,gIx,zed,zgD,gI,zuH,zuI,zaO,hasAll,atI,ixN,hp,hn,hn2]
 ·refine⟨(x.b*48271+4099)%2147483647*((x.b*48271+4099)%2147483647 / 65536+7)%2147483629 / 32%n,⟨x.a,(x.b*48271+4099)%2147483647⟩,?_,⟨Zy _ (by lia),Z7 _ (by lia)⟩,Zy _ (by lia),Z7 _ hn⟩
  unfold zbw fnI zg0 Bag2.t;simp[zai,zaH,zcY,zaF,zjk,zal,dV,dC,d2,d2v,d1,dB,gGt,gI1,za7,orG,gIx,zed,zgD,zeO,zat,zro,gI,zuH,zuI,zaO,hasAll,atI,ixN,hp,m1,m2,hn,hn2]
theorem zdf{α β:Type}(f:α->β)(xs:List α)(lo hi:Option Int):zfC (xs.map f) lo hi=(zfC xs lo hi).map f:=by
 unfold zfC;rw[j6,Wp,Wo]
theorem zpy{n j:Nat}(h:j < n):ixN n (j:Int)=some j:=by simp[ixN,h]
def nmO(names:List Str):Option Nat->Str
 |none=>NC ""
 |some k=>names.getD k jB
theorem zuj{x:Bag2}(hx:x.Ok){names:List Str}(hn:names.length<=30)(hd:names.Nodup)(hN:∀ x∈names,zdR x):∃(wd:List Str) (y:Bag2),zdc [x.t,.lst (names.map T.str)]=some (.lst (wd.map T.str),y.t)/\GoodWord wd/\∀ x∈wd,x∈names:=by
 have hr:zgk (2*((names.length:Nat):Int))=true:=zej (by lia) (by lia)
 have e2:(2*((names.length:Nat):Int)).toNat=2*names.length:=by lia
 obtain⟨t,u,e,wd,y,rfl,rfl,gw⟩:=zia (n:=6) (d:=zcD) (ts:=[x.t,.lst (names.map T.str)]) (Q:=fun t u=>∃(wd:List Str) (y:Bag2),t=.lst (wd.map T.str)/\u=y.t/\GoodWord wd/\∀ x∈wd,x∈names) (by
  unfold zcD;show Run _ [some x.t,some (.lst (names.map T.str)),none,none,none,none] _;refine za5 (s':=[some x.t,some (.lst (names.map T.str)),some (.lst ((j5 (2*names.length)).map nT)),none,none,none]) (by simp_all?[hr,e2,zfT]) ?_
  have l1:=zbS (M:=[0]) (caps:=[none]) (fi:=zcs (dV 2)) (dg:=dGn 0) (fe:=dC (.str "")) (s:=[some x.t,some (.lst (names.map T.str)),some (.lst ((j5 (2*names.length)).map nT)),none,none,none]) (j5 (2*names.length)) nT (fun _=>.str "") (by simp_all?[]) (by simp; lia) (fun z _=>⟨[some (nT z)],rfl,rfl,rfl⟩)
  have l2:(j5 (2*names.length)).map (fun _=>T.str "")=((gT (2*names.length) none).map (nmO names)).map T.str:=by
   rw[Wx,Wx];refine(List.eq_replicate_iff (a:=T.str (NC ""))).mpr ⟨by simp,fun b hb=>?_⟩
   obtain⟨_,_,h⟩:=jA.mp hb;exact h.symm
  rw[l2] at l1;refine za5 (by simp_all?[l1]<;>rfl) ?_
  refine zbR (its:=names.map T.str) (fun i s=>∃(y:Bag2) (fr:List Nat) (pl:List (Option Nat)) (a b:Option T),s=[some y.t,some (.lst (names.map T.str)),some (.lst (fr.map nT)),some (.lst ((pl.map (nmO names)).map T.str)),a,b]/\y.Ok/\fr.length+2*i=2*names.length/\fr.Nodup/\(∀ k∈fr,pl[k]?=some none)/\Half pl names.length i)
   (by simp_all?[]<;>rfl) ⟨x,_,_,_,_,rfl,hx,by simp,ZI,fun k hk=>by rw[gB,Ip_ (ji.mp hk)],Half.start _⟩ ?_ ?_
  ·rintro i z s hz ⟨y,fr,pl,a,b,rfl,oy,hl,hnd,hlt,hh⟩;rw[jg] at hz;obtain⟨x,hx,rfl⟩:=Qm hz;have hi:i < names.length:=(j7.mp hx).1;refine⟨_,by simp_all?[]<;>rfl,?_⟩
   match fr,hl,hnd,hlt with
   |[],hl,_,_=>exact absurd hl (by simp; lia)
   |k0::fr,hl,hnd,hlt=>
   rw[jp] at hl;rw[Qk] at hnd;have hk0:=hlt k0 (jT ..);obtain⟨u,y',eu,o',a',b'⟩:=zid oy (fr.length:Int) (by lia) (by lia)
   have hu:u.toNat < fr.length:=by lia
   have hk1:=hlt fr[u.toNat] (jw _ (Q5 hu));have hne:k0≠fr[u.toNat]:=fun z=>hnd.1 (z▸Q5 hu);have hlen:=hh.len;have q0:k0 < pl.length:=(j7.mp hk0).1;have q1:fr[u.toNat] < pl.length:=(j7.mp hk1).1;have hxn:x=nmO names (some i):=by
    show x=names.getD i jB;rw[zen hi];exact(jf ((j3 hi).symm.trans hx)).symm
   have i0:=zpy (n:=pl.length) q0;have i1:=zpy (n:=pl.length) q1;have g0:za7 (.lst ((k0::fr).map nT)) (.int 0)=some (nT k0):=zfq ((k0::fr).map nT) 0;have lf:zdo (.lst ((k0::fr).map nT))=some (.int ((fr.length:Int)+1)):=by rw[zq2,j6,jp]; rfl
   have gu:za7 (.lst ((k0::fr).map nT)) (.int (1+u))=some (nT fr[u.toNat]):=by
    have:(1+u:Int)=((u.toNat+1:Nat):Int):=by lia
    rw[this,zfq,jt,gF,jg,j3 hu];rfl
   have sl:zev (.lst ((k0::fr).map nT)) (some 1) none=some (.lst (fr.map nT)):=by
    show some (T.lst (zfC ((k0::fr).map nT) (some 1) none))=_;rw[zdf,zgN (k0::fr) (by lia) (by rw[jp]; lia)]; rfl
   generalize hFR:T.lst ((k0::fr).map nT)=FR at g0 lf gu sl;refine za5 (s':=[some y.t,some (.lst (names.map T.str)),some FR,some (.lst (((pl.set k0 (some i)).map (nmO names)).map T.str)),some (.str x),b]) (by simp_all?[g0,i0]; rw[NH,NH,<-hxn]) ?_
   refine za5 (s':=[some y'.t,some (.lst (names.map T.str)),some FR,some (.lst (((pl.set k0 (some i)).map (nmO names)).map T.str)),some (.str x),some (.int ((fr[u.toNat]:Nat):Int))]) (by simp_all?[lf,Int.add_sub_cancel,eu,gu]) ?_
   refine za5 (s':=[some y'.t,some (.lst (names.map T.str)),some FR,some (.lst ((((pl.set k0 (some i)).set fr[u.toNat] (some i)).map (nmO names)).map T.str)),some (.str x),some (.int ((fr[u.toNat]:Nat):Int))]) (by simp_all?[Qd,i1]; rw[NH (l:=pl.set k0 (some i)),NH (l:=(pl.set k0 (some i)).map (nmO names)),<-hxn]) ?_
   have l1:=zj2 (M:=[0,3]) (caps:=[none,some 5]) (fi:=zcs (dSl zev (dV 2) (dOs (dC (.int 1))) dOn)) (dg:=dGn 0) (ft:=dB (d2 gNe (dV 0) (dV 1))) (fe:=dV 0) (s:=[some y'.t,some (.lst (names.map T.str)),some FR,some (.lst ((((pl.set k0 (some i)).set fr[u.toNat] (some i)).map (nmO names)).map T.str)),some (.str x),some (.int ((fr[u.toNat]:Nat):Int))]) fr nT (fun(k:Nat)=>!decide ((k:Int)=((fr[u.toNat]:Nat):Int))) nT (by simp_all?[sl]) (by lia) (fun k _=>⟨[some (nT k),some (.int ((fr[u.toNat]:Nat):Int))],rfl,by simp_all?[],fun _=>rfl,rfl⟩)
   have fe:(fr.filter fun(k:Nat)=>!decide ((k:Int)=((fr[u.toNat]:Nat):Int)))=fr.erase fr[u.toNat]:=by
    rw[hnd.2.erase_eq_filter];refine YO fun k _=>?_
    by_cases h:k=fr[u.toNat]
    ·simp[h]
    ·have:¬ ((k:Int)=((fr[u.toNat]:Nat):Int)):=by lia
     simp[h,this]
   rw[fe] at l1;refine zam (by simp_all?[l1]<;>rfl) ⟨y',fr.erase fr[u.toNat],(pl.set k0 (some i)).set fr[u.toNat] (some i),_,_,rfl,o',?_,hnd.2.sublist (List.erase_sublist),fun k hk=>?_,?_⟩
   ·rw[Zw (Q5 hu)]; lia
   ·have hk':k∈fr:=List.mem_of_mem_erase hk;have n0:k0≠k:=fun z=>hnd.1 (z▸hk');have n1:fr[u.toNat]≠k:=fun z=>by
     rw[<-z] at hk;exact hnd.2.not_mem_erase hk
    rw[jo n1,jo n0];exact hlt k (jw _ hk')
   ·exact hh.next hi hk1 hk0 (Zr hne)
  ·rintro s ⟨y,fr,pl,a,b,rfl,oy,hl,hnd,hlt,hh⟩;rw[j6] at hh;obtain⟨ps,hp,rfl⟩:=hh.done;have hg:=zgC hn rfl hd hN hp;refine⟨_,by simp_all?[]<;>rfl,_,_,_,rfl,_,_,rfl,rfl,?_,fun x hx=>?_⟩
   ·rw[jY]; exact hg
   ·rw[jY] at hx;obtain⟨k,hk,rfl⟩:=jA.mp hx;have hk':=hp.lt k hk;show names.getD k jB∈names;rw[zen hk']
    exact Q5 hk')
 exact⟨wd,y,e,gw⟩
end Dw
set_option maxHeartbeats 2000000
namespace Dw
open PySem L2 L3
theorem zem{z:Int}(h0:0<=z)(h:z < 26):za7 (.str letters) (.int z)=some (.str (Sx [97+z.toNat])):=by
 simp only[za7,orG,gIx,zk8,if_true,zlK h0 h,jR];rfl
theorem zeI(l m:List Nat)(h:l.length+m.length<=1000):zat (.str (Sx l)) (.str (Sx m))=some (.str (Sx (l++m))):=by
 rw[zsg (by rw[zgV,zgV]; lia),zun]
def zur(l:List Nat):Prop:=∀ c∈l,97<=c/\c<=122
theorem zk5{l:List Nat}(h:zur l)(h1:1<=l.length)(h8:l.length<=8):zdR (Sx l):=by
 unfold zdR;rw[zgV,zjx];exact⟨h1,h8,h⟩
theorem zjm{α:Type}(xs:List α){t:Int}(h:(xs.length:Int)<=t):zfC xs none (some t)=xs:=by
 unfold zfC HT.sIx;simp only[NZ,Nat.sub_zero];rw[In_ (by lia),Jd (by lia),Q0 (jm _)]
structure NmOk (mk:List Str) (m:Nat):Prop where
 nd:mk.Nodup
 nm:∀ x∈mk,zdR x
 len:mk.length<=m
theorem zvS:zrT (.int 10) (.int 18)=some (.int 1000000000000000000):=by rfl
def zm6(l:List Nat)(r:Int)(k:Nat):List Nat:=l.take 6++[97+k / 5,97+(((k:Int)+r)%26).toNat]
theorem zoK{l:List Nat}{r:Int}{j k:Nat}(h:zm6 l r j=zm6 l r k)(hj:j < 31)(hk:k < 31):j=k:=by
 unfold zm6 at h;have h2:=List.append_cancel_left h;simp only[List.cons.injEq] at h2;lia
theorem zrp{l:List Nat}{r:Int}{k:Nat}(hl:zur l)(hk:k < 31):zdR (Sx (zm6 l r k)):=by
 refine zk5 (fun c hc=>?_) (by unfold zm6; simp) (by unfold zm6; rw[jk,Q9]; simp; lia)
 unfold zm6 at hc;rcases ju.mp hc with q |q
 ·exact hl c (Zq q)
 ·simp only[jv,Zh,or_false] at q;lia
theorem zk7:zur letters.cps.toList:=by unfold zur; decide +kernel
theorem zn9(c:Int){m:Nat}(hm:m<=30):∃ names:List Str,zfg [.int c,.int m]=some (.lst (names.map T.str))/\names.length<=m/\names.Nodup/\∀ x∈names,zdR x:=by
 obtain⟨sz,hsz⟩:∃ sz:Nat,1+c%8=(sz:Int):=⟨(1+c%8).toNat,by lia⟩
 obtain⟨sp,hsp⟩:∃ sp:Nat,c / 3%(sz:Int)=(sp:Int):=⟨(c / 3%(sz:Int)).toNat,by rw[Ym (Zy _ (by lia))]⟩
 have hspl:sp < sz:=by have:=Z7 (c / 3) (show (0:Int) < sz by lia); lia
 obtain⟨t,e,wd,rfl,gw⟩:=zbV (n:=11) (d:=zeR) (ts:=[.int c,.int m]) (Q:=fun t=>∃ wd:List Str,t=.lst (wd.map T.str)/\NmOk wd m) (by
  unfold zeR;show Run _ [some (.int c),some (.int m),none,none,none,none,none,none,none,none,none] _;refine za5 (s':=[some (.int c),some (.int m),some (.str letters),none,none,none,none,none,none,none,none]) rfl ?_;refine za5 (s':=[some (.int c),some (.int m),some (.str letters),some (.int sz),none,none,none,none,none,none,none]) (by simp_all?[hsz]) ?_
  refine za5 (s':=[some (.int c),some (.int m),some (.str letters),some (.int sz),some (.int (c / 8%1000000000000000000)),none,none,none,none,none,none]) (by simp_all?[zvS]) ?_
  refine za5 (s':=[some (.int c),some (.int m),some (.str letters),some (.int sz),some (.int (c / 8%1000000000000000000)),some (.str (Sx [])),none,none,none,none,none]) rfl ?_;refine zbR (its:=zaU 0 sz) (fun i s=>∃(l:List Nat) (r:Int) (a:Option T),s=[some (.int c),some (.int m),some (.str letters),some (.int sz),some (.int r),some (.str (Sx l)),a,none,none,none,none]/\l.length=i/\zur l)
   (by simp_all?[zej (j:=(sz:Int)) (by lia) (by lia),Qa]<;>rfl) ⟨[],_,none,rfl,rfl,fun c hc=>by cases hc⟩ ?_ ?_
  ·rintro i z s hz ⟨l,r,a,rfl,hl,hlo⟩;obtain⟨hi,rfl⟩:=ziL hz;have b1:0<=r%26:=Zy _ (by decide)
   have b2:r%26 < 26:=Z7 _ (by decide)
   refine⟨_,by simp_all?[]<;>rfl,?_⟩
   refine za5 (by simp_all?[zem b1 b2,zeI l [97+(r%26).toNat] (by simp; lia)]<;>rfl) ?_
   refine zam (by simp_all?[]<;>rfl) ⟨_,_,_,rfl,by simp[hl],fun c hc=>?_⟩
   rcases ju.mp hc with q |q
   ·exact hlo c q
   ·have:c=97+(r%26).toNat:=by simpa using q
    lia
  rintro s ⟨l,r,a,rfl,hl,hlo⟩;rw[ziK] at hl;have lS:l.length<=jr:=zc2 (by lia)
  have sl:∀ k:Nat,k<=l.length->zev (.str (Sx l)) none (some (k:Int))=some (.str (Sx (l.take k))):=fun k hk=>by
   have:=zwC l (j:=(k:Int)) (by lia) (by lia)
   simp only[zev,zpD,zgV,lS,if_true,this,Qa]
  have sf:∀ k:Nat,k<=l.length->zev (.str (Sx l)) (some (k:Int)) none=some (.str (Sx (l.drop k))):=fun k hk=>by
   have:=zrQ l (j:=(k:Int)) (by lia) (by lia)
   simp only[zev,zpD,zgV,lS,if_true,this,Qa]
  have s6:zev (.str (Sx l)) none (some 6)=some (.str (Sx (l.take 6))):=by
   by_cases h6:6<=l.length
   ·exact sl 6 h6
   ·have h7:YJ (Sx l) none (some 6)=Sx (l.take 6):=by
     have k:∀ n:Nat,n < 6->(Builtin.Str.strSliceIndices none (some 6) 1 n).length=n:=by decide +kernel
     have k:=k l.length (by lia)
     unfold YJ;rw[zgV,k,Q0 (by lia),Ip_ (by simp)]
    simp only[zev,zpD,zgV,lS,if_true,h7]
  refine za5 (s':=[some (.int c),some (.int m),some (.str letters),some (.int sz),some (.int r),some (.str (Sx l)),a,some (.int sp),none,none,none]) (by simp_all?[hsp]) ?_
  refine za5 (s':=[some (.int c),some (.int m),some (.str letters),some (.int sz),some (.int r),some (.str (Sx l)),a,some (.int sp),some (.lst (([]:List Str).map T.str)),none,none]) (by simp_all?[]<;>rfl) ?_
  refine zhJ (fun s=>∃ mk,NmOk mk m/\s=[some (.int c),some (.int m),some (.str letters),some (.int sz),some (.int r),some (.str (Sx l)),a,some (.int sp),some (.lst (mk.map T.str)),none,none]) ?_ ?_
  ·by_cases h1:c / 5%3=1
   ·have r12:zgk 1=true/\zgk ((sz:Int)+1)=true:=⟨zej (by decide) (by decide),zej (by lia) (by lia)⟩
    have e3:((sz:Int)+1 - 1).toNat=sz:=by lia
    have er:zaU 1 sz=(j5 sz).map fun k=>nT (k+1):=by
     unfold zaU;refine QY fun k _=>?_;rw[vnT]; congr 1; lia
    have l1:=zbS (M:=[8]) (caps:=[none,some 5]) (fi:=zuG (dAc (dC (.int 1)) (dAc (d2 zat (dV 3) (dC (.int 1))) dAn))) (dg:=dGn 0) (fe:=dSl zev (dV 1) dOn (dOs (dV 0))) (s:=[some (.int c),some (.int m),some (.str letters),some (.int sz),some (.int r),some (.str (Sx l)),a,some (.int sp),some (.lst (([]:List Str).map T.str)),none,none]) (j5 sz) (fun k=>nT (k+1)) (fun k=>.str (Sx (l.take (k+1)))) (by simp_all?[r12,and_self,e3,er]) (by simp; lia) (by
     intro k hk;have hk':=ji.mp hk;refine⟨_,by simp_all?[]<;>rfl,?_,rfl⟩
     simp_all?[sl (k+1) (by lia)])
    have l2:(j5 sz).map (fun k=>T.str (Sx (l.take (k+1))))=((j5 sz).map fun k=>Sx (l.take (k+1))).map T.str:=by rw[jY]; rfl
    rw[l2] at l1;have hmx:∀ mk:List Str,gSl (.lst (mk.map T.str)) none (some (m:Int))=some (.lst ((mk.take m).map T.str)):=fun mk=>by
     show some (T.lst (zfC (mk.map T.str) none (some (m:Int))))=_;rw[zdf]
     by_cases hq:m<=mk.length
     ·rw[zkt mk (by lia) (by lia),Qa]
     ·rw[zjm mk (by lia),Q0 (by lia)]
    refine zav (r:=.nx _) (by simp_all?[Dt_ h1,l1,hmx]<;>rfl) ⟨_,⟨?_,fun x hx=>?_,?_⟩,rfl⟩
    ·refine Nx (YG _ _) (WU _ (R:=fun a b=>a≠b/\a < sz/\b < sz) (fun a b ⟨n,ha,hb⟩ z=>n ?_) (Zx (R:=fun a b=>a≠b) (fun {a b} ha hb n=>⟨n,ji.mp ha,ji.mp hb⟩) ZI));have:=congrArg ZC (zpR z);rw[Q9,Q9] at this;lia
    ·obtain⟨k,hk,rfl⟩:=jA.mp (Zq hx);have hk':=ji.mp hk;exact zk5 (fun c hc=>hlo c (Zq hc)) (by rw[Q9]; lia) (by rw[Q9]; lia)
    ·rw[Q9]; lia
   ·exact zav (r:=.nx _) (by simp_all?[Df_ h1]<;>rfl) ⟨[],⟨Zo,(fun x hx=>by cases hx),by simp⟩,rfl⟩
  rintro s ⟨mk,hmk,rfl⟩;refine zhJ (fun s=>∃ mk,NmOk mk m/\s=[some (.int c),some (.int m),some (.str letters),some (.int sz),some (.int r),some (.str (Sx l)),a,some (.int sp),some (.lst (mk.map T.str)),none,none]) ?_ ?_
  ·have far:∀ s:Sg,s=[some (.int c),some (.int m),some (.str letters),some (.int sz),some (.int r),some (.str (Sx l)),a,some (.int sp),some (.lst (mk.map T.str)),none,none]->dLC [8] [none,some 2,some 5,some 4] (znJ (dAc (dV 1) dAn)) (dGn 0) zfL (d2 zat (d2 zat (dSl zev (dV 2) dOn (dOs (dC (.int 6)))) (d2 za7 (dV 1) (d2 zgD (dV 0) (dC (.int 5))))) (d2 za7 (dV 1) (d2 zed (d2 zat (dV 0) (dV 3)) (dC (.int 26))))) s=some (.lst (((j5 m).map fun k=>Sx (zm6 l r k)).map T.str),s):=by
    rintro s rfl
    have l1:=zbS (M:=[8]) (caps:=[none,some 2,some 5,some 4]) (fi:=znJ (dAc (dV 1) dAn)) (dg:=dGn 0) (fe:=d2 zat (d2 zat (dSl zev (dV 2) dOn (dOs (dC (.int 6)))) (d2 za7 (dV 1) (d2 zgD (dV 0) (dC (.int 5))))) (d2 za7 (dV 1) (d2 zed (d2 zat (dV 0) (dV 3)) (dC (.int 26))))) (s:=[some (.int c),some (.int m),some (.str letters),some (.int sz),some (.int r),some (.str (Sx l)),a,some (.int sp),some (.lst (mk.map T.str)),none,none]) (j5 m) nT (fun k=>.str (Sx (zm6 l r k))) (by simp_all?[rgN (k:=m) (by lia),Qa,zfT]) (by simp; lia) (by
     intro k hk;have hk':=ji.mp hk;have x1:=zem (z:=(k:Int) / 5) (by lia) (by lia)
     have x2:=zem (z:=((k:Int)+r)%26) (Zy _ (by decide)) (Z7 _ (by decide))
     have n1:((k:Int) / 5).toNat=k / 5:=by lia
     rw[n1] at x1;have p1:=zeI (l.take 6) [97+k / 5] (by simp; lia)
     have p2:=zeI (l.take 6++[97+k / 5]) [97+(((k:Int)+r)%26).toNat] (by simp; lia)
     rw[Qn] at p2;refine⟨[some (nT k),some (.str letters),some (.str (Sx l)),some (.int r)],rfl,?_,rfl⟩
     simp_all?[s6,x1,p1,x2,p2]<;>rfl)
    rw[show (j5 m).map (fun k=>T.str (Sx (zm6 l r k)))=((j5 m).map fun k=>Sx (zm6 l r k)).map T.str by rw[jY]; rfl] at l1
    exact l1
   have far:=far _ rfl
   by_cases h2:c / 5%3=2∨(24:Int) < m
   ·have ok:NmOk ((j5 m).map fun k=>Sx (zm6 l r k)) m:=by
     refine⟨WU _ (R:=fun a b=>a≠b/\a < 31/\b < 31) (fun a b ⟨n,ha,hb⟩ z=>n (zoK (zpR z) ha hb)) (Zx (R:=fun a b=>a≠b) (fun {a b} ha hb n=>⟨n,by have:=ji.mp ha; lia,by have:=ji.mp hb; lia⟩) ZI),fun x hx=>?_,by simp⟩
     obtain⟨k,hk,rfl⟩:=jA.mp hx;exact zrp hlo (by have:=ji.mp hk; lia)
    refine zav (r:=.nx _) ?_ ⟨_,ok,rfl⟩
    by_cases h3:c / 5%3=2
    ·simp_all?[Dt_ h3,far]
    ·simp_all?[Df_ h3,Dt_ (show (24:Int) < m by lia),far]
   ·exact zav (r:=.nx _) (by simp_all?[Df_ (show ¬ c / 5%3=2 by lia),Df_ (show ¬ (24:Int) < m by lia)]<;>rfl) ⟨mk,hmk,rfl⟩
  rintro s ⟨mk,hmk,rfl⟩;refine zbR (its:=letters.cps.toList.map zlq) (fun i s=>∃(mk:List Str) (a g h:Option T),s=[some (.int c),some (.int m),some (.str letters),some (.int sz),some (.int r),some (.str (Sx l)),a,some (.int sp),some (.lst (mk.map T.str)),g,h]/\NmOk mk m)
   (by simp_all?[]<;>rfl) ⟨mk,a,none,none,rfl,hmk⟩ ?_ ?_
  ·rintro i z s hz ⟨mk,a,g,h,rfl,hmk⟩;rw[jg] at hz;obtain⟨ch,hch,rfl⟩:=Qm hz;have lch:=zk7 ch (jE hch);have es:zlq ch=.str (Sx [ch]):=rfl;rw[es];refine⟨_,rfl,?_⟩;have p1:=zeI (l.take sp) [ch] (by simp; lia)
   have p2:=zeI (l.take sp++[ch]) (l.drop (sp+1)) (by simp; lia)
   refine za5 (s':=[some (.int c),some (.int m),some (.str letters),some (.int sz),some (.int r),some (.str (Sx l)),a,some (.int sp),some (.lst (mk.map T.str)),some (.str (Sx [ch])),some (.str (Sx (l.take sp++[ch]++l.drop (sp+1))))]) (by
    have sf1:zev (.str (Sx l)) (some ((sp:Int)+1)) none=some (.str (Sx (l.drop (sp+1)))):=sf (sp+1) (by lia)
    simp_all?[sl sp (by lia),p1,sf1,p2]) ?_
   have nmx:zdR (Sx (l.take sp++[ch]++l.drop (sp+1))):=by
    have hlen:(l.take sp++[ch]++l.drop (sp+1)).length=sz:=by
     simp only[jk,Q9,QQ,jp,ZR];lia
    refine zk5 (fun c hc=>?_) (by lia) (by lia)
    simp only[ju,jv,Zh,or_false] at hc;rcases hc with (q |q) |q
    ·exact hlo c (Zq q)
    ·rw[q]; exact lch
    ·exact hlo c (List.mem_of_mem_drop q)
   generalize Sx (l.take sp++[ch]++l.drop (sp+1))=nx at nmx;have hml:=hmk.len
   by_cases hlt:(mk.length:Int) < m
   ·by_cases hin:nx∈mk
    ·exact zam (by simp_all?[Dt_ hlt,Dt_ hin]<;>rfl) ⟨mk,_,_,_,rfl,hmk⟩
    ·refine zam (by simp_all?[Dt_ hlt,Df_ hin]<;>rfl) ⟨mk++[nx],_,_,_,rfl,⟨?_,fun x hx=>?_,by rw[jk,Zj]; lia⟩⟩
     ·rw[jP];exact⟨hmk.nd,by simp,fun a ha b hb e=>hin (by rw[je] at hb; subst hb; subst e; exact ha)⟩
     ·rcases ju.mp hx with q |q
      ·exact hmk.nm x q
      ·rw[je.mp q]; exact nmx
   ·exact zam (by simp_all?[Df_ hlt]<;>rfl) ⟨mk,_,_,_,rfl,hmk⟩
  rintro s ⟨mk,a,g,h,rfl,hmk⟩
  exact⟨_,by simp_all?[]<;>rfl,_,_,rfl,mk,rfl,hmk⟩)
 exact⟨wd,e,gw.len,gw.nd,gw.nm⟩
end Dw
set_option maxHeartbeats 1000000
namespace Dw
open PySem L2 L3
def shp:List (List Nat):=[[0,0],[0,1,2,0,1,2],[0,1,2,0,3,2,1,3],[0,1,2,3,4,0,1,2,3,4],[0,1,1,0],[0,1,2,3,4,2,1,0,3,4],[0,1,2,3,1,0,3,2]]
def tL(l:List Nat):T:=.lst (l.map nT)
def zhD:T:=.lst (shp.map tL)
theorem zsz:∀ k,k < 7->∃ sh m,shp[k]?=some sh/\Pairing sh m/\1<=m/\m<=5/\znt (tL sh)=some (.int ((m:Int) - 1))
 |0,_=>⟨_,1,rfl,.of_dec rfl rfl rfl,by lia,by lia,rfl⟩
 |1,_=>⟨_,3,rfl,.of_dec rfl rfl rfl,by lia,by lia,rfl⟩
 |2,_=>⟨_,4,rfl,.of_dec rfl rfl rfl,by lia,by lia,rfl⟩
 |3,_=>⟨_,5,rfl,.of_dec rfl rfl rfl,by lia,by lia,rfl⟩
 |4,_=>⟨_,2,rfl,.of_dec rfl rfl rfl,by lia,by lia,rfl⟩
 |5,_=>⟨_,5,rfl,.of_dec rfl rfl rfl,by lia,by lia,rfl⟩
 |6,_=>⟨_,4,rfl,.of_dec rfl rfl rfl,by lia,by lia,rfl⟩
 |k+7,h=>absurd h (by lia)
def zw8:T->Nat
 |.lst xs=>xs.length
 |_=>0
def zw9(s:Sg):Nat:=zw8 ((s[4]?).join.getD .non)
theorem zp2{x:Bag2}(hx:x.Ok){names:List Str}(hn:names.length<=30)(hd:names.Nodup)(hN:∀ x∈names,zdR x):∃(wd:List Str) (y:Bag2),zco [x.t,.lst (names.map T.str)]=some (.lst (wd.map T.str),y.t)/\GoodWord wd/\∀ x∈wd,x∈names:=by
 obtain⟨t,u,e,wd,y,rfl,rfl,gw⟩:=zia (n:=7) (d:=zbI) (ts:=[x.t,.lst (names.map T.str)]) (Q:=fun t u=>∃(wd:List Str) (y:Bag2),t=.lst (wd.map T.str)/\u=y.t/\GoodWord wd/\∀ x∈wd,x∈names) (by
  unfold zbI;show Run _ [some x.t,some (.lst (names.map T.str)),none,none,none,none,none] _;refine za5 (s':=[some x.t,some (.lst (names.map T.str)),some (.lst ((shp.take 5).map tL)),none,none,none,none]) (by rfl) ?_
  refine za5 (s':=[some x.t,some (.lst (names.map T.str)),some zhD,none,none,none,none]) (by rfl) ?_
  refine za5 (s':=[some x.t,some (.lst (names.map T.str)),some zhD,some (.lst ((([]:List Nat).map fun k=>names.getD k jB).map T.str)),none,none,none]) (by simp_all?[]<;>rfl) ?_
  refine za5 (s':=[some x.t,some (.lst (names.map T.str)),some zhD,some (.lst ((([]:List Nat).map fun k=>names.getD k jB).map T.str)),some (.lst ((names.drop 0).map T.str)),none,none]) (by simp_all?[]<;>rfl) ?_
  refine zdA (fun s=>∃(y:Bag2) (ps:List Nat) (c:Nat) (a b:Option T),s=[some y.t,some (.lst (names.map T.str)),some zhD,some (.lst ((ps.map fun k=>names.getD k jB).map T.str)),some (.lst ((names.drop c).map T.str)),a,b]/\y.Ok/\Pairing ps c/\c<=names.length)
   zw9 (by show ((names.drop 0).map T.str).length < 100; simp; lia) ⟨x,[],0,_,_,rfl,hx,.nil,by lia⟩ ?_ ?_
  ·rintro s ⟨y,ps,c,a,b,rfl,oy,hp,hc⟩;refine⟨decide (c < names.length),[some y.t,some (.lst (names.map T.str)),some zhD,some (.lst ((ps.map fun k=>names.getD k jB).map T.str)),some (.lst ((names.drop c).map T.str)),a,b],?_,?_⟩
   ·simp_all?[]
    congr 3
    simp;lia
   rcases ND c names.length with hlt |hlt
   case inr=>rw[In_ (by simpa using hlt)]; trivial
   rw[Ip_ (by simpa using hlt)]
   obtain⟨z,y1,e1,o1,a1,b1⟩:=zid oy 7 (by decide) (by decide)
   obtain⟨k,rfl⟩:∃ k:Nat,z=(k:Int):=⟨z.toNat,by lia⟩
   obtain⟨sh0,m0,at0,hp0,hm0,hm0',gm0⟩:=zsz k (by lia)
   have i0:za7 zhD (.int (k:Int))=some (tL sh0):=by
    unfold zhD;rw[zfq,jg,at0]; rfl
   have i00:za7 zhD (.int 0)=some (tL [0,0]):=rfl;have hpl:=hp.len;have hl4:zdo (.lst ((names.drop c).map T.str))=some (.int ((names.length - c:Nat):Int)):=by rw[zq2,j6,QQ]
   refine za5 (s':=[some y1.t,some (.lst (names.map T.str)),some zhD,some (.lst ((ps.map fun k=>names.getD k jB).map T.str)),some (.lst ((names.drop c).map T.str)),some (tL sh0),b]) (by simp_all?[e1,i0]) ?_
   refine zhJ (fun s=>∃ sh m,s=[some y1.t,some (.lst (names.map T.str)),some zhD,some (.lst ((ps.map fun k=>names.getD k jB).map T.str)),some (.lst ((names.drop c).map T.str)),some (tL sh),b]/\Pairing sh m/\1<=m/\m<=5/\c+m<=names.length/\znt (tL sh)=some (.int ((m:Int) - 1))) ?_ ?_
   ·by_cases hg:c+m0<=names.length
    ·exact zav (r:=.nx _) (by simp_all?[gm0,hl4,Df_ (show ¬ ((names.length - c:Nat):Int)<=(m0:Int) - 1 by lia)]<;>rfl) ⟨sh0,m0,rfl,hp0,hm0,hm0',hg,gm0⟩
    ·exact zav (r:=.nx _) (by simp_all?[gm0,hl4,i00,Dt_ (show ((names.length - c:Nat):Int)<=(m0:Int) - 1 by lia)]<;>rfl) ⟨[0,0],1,rfl,.of_dec rfl rfl rfl,by lia,by lia,by lia,rfl⟩
   rintro s ⟨sh,m,rfl,hps,hm1,hm2,hcm,gm⟩;have hsl:=hps.len;obtain⟨z2,y2,e2,o2,a2,b2⟩:=zid o1 ((ps.length:Int)+1) (by lia) (by lia)
   obtain⟨p,rfl⟩:∃ p:Nat,z2=(p:Int):=⟨z2.toNat,by lia⟩
   refine za5 (s':=[some y2.t,some (.lst (names.map T.str)),some zhD,some (.lst ((ps.map fun k=>names.getD k jB).map T.str)),some (.lst ((names.drop c).map T.str)),some (tL sh),some (.int (p:Int))]) (by simp_all?[e2]) ?_
   have l1:=zbS (M:=[0]) (caps:=[none,some 4]) (fi:=zcs (dV 5)) (dg:=dGn 0) (fe:=d2 za7 (dV 1) (dV 0)) (s:=[some y2.t,some (.lst (names.map T.str)),some zhD,some (.lst ((ps.map fun k=>names.getD k jB).map T.str)),some (.lst ((names.drop c).map T.str)),some (tL sh),some (.int (p:Int))]) sh nT (fun k=>T.str (names.getD (c+k) jB)) (by unfold tL; simp_all?[]) (by lia) (by
    intro k hk;have hk':=hps.lt k hk;refine⟨[some (nT k),some (.lst ((names.drop c).map T.str))],rfl,?_,rfl⟩;have:za7 (.lst ((names.drop c).map T.str)) (.int (k:Int))=some (.str (names.getD (c+k) jB)):=by
     rw[zfq,jg,Ww,j3 (by lia),zen (by lia)]; rfl
    simp_all?[this])
   have l2:sh.map (fun k=>T.str (names.getD (c+k) jB))=((sh.map fun k=>c+k).map fun k=>names.getD k jB).map T.str:=by rw[jY,jY]; rfl
   rw[l2] at l1;have c1:zev (.lst ((ps.map fun k=>names.getD k jB).map T.str)) none (some (p:Int))=some (.lst (((ps.take p).map fun k=>names.getD k jB).map T.str)):=by
    show some (T.lst (zfC _ none (some (p:Int))))=_;rw[zdf,zdf,zkt ps (by lia) (by lia),Qa]
   have c2:zev (.lst ((ps.map fun k=>names.getD k jB).map T.str)) (some (p:Int)) none=some (.lst (((ps.drop p).map fun k=>names.getD k jB).map T.str)):=by
    show some (T.lst (zfC _ (some (p:Int)) none))=_;rw[zdf,zdf,zgN ps (by lia) (by lia),Qa]
   have c3:zev (.lst ((names.drop c).map T.str)) (some (m:Int)) none=some (.lst ((names.drop (c+m)).map T.str)):=by
    show some (T.lst (zfC _ (some (m:Int)) none))=_;rw[zdf,zgN (names.drop c) (by lia) (by rw[QQ]; lia),Qa,List.drop_drop]
   have c4:(m:Int) - 1+1=m:=by lia
   have p1:zat (.lst (((ps.take p).map fun k=>names.getD k jB).map T.str)) (.lst (((sh.map fun k=>c+k).map fun k=>names.getD k jB).map T.str))=some (.lst (((ps.take p++sh.map fun k=>c+k).map fun k=>names.getD k jB).map T.str)):=by
    rw[zma (by simp; lia),<-jF,<-jF]
   have p2:zat (.lst (((ps.take p++sh.map fun k=>c+k).map fun k=>names.getD k jB).map T.str)) (.lst (((ps.drop p).map fun k=>names.getD k jB).map T.str))=some (.lst (((ps.take p++(sh.map fun k=>c+k)++ps.drop p).map fun k=>names.getD k jB).map T.str)):=by
    rw[zma (by simp; lia),<-jF,<-jF]
   refine za5 (s':=[some y2.t,some (.lst (names.map T.str)),some zhD,some (.lst (((ps.take p++(sh.map fun k=>c+k)++ps.drop p).map fun k=>names.getD k jB).map T.str)),some (.lst ((names.drop c).map T.str)),some (tL sh),some (.int (p:Int))]) (by simp_all?[c1,l1,p1,c2,p2]) ?_
   refine zam (s':=[some y2.t,some (.lst (names.map T.str)),some zhD,some (.lst (((ps.take p++(sh.map fun k=>c+k)++ps.drop p).map fun k=>names.getD k jB).map T.str)),some (.lst ((names.drop (c+m)).map T.str)),some (tL sh),some (.int (p:Int))]) (by simp_all?[gm,c4,c3]) ⟨⟨y2,_,c+m,_,_,rfl,o2,hp.put hps,hcm⟩,?_⟩
   show ((names.drop (c+m)).map T.str).length < ((names.drop c).map T.str).length;rw[j6,j6,QQ,QQ];lia
  ·rintro s0 s' ⟨y,ps,c,a,b,rfl,oy,hp,hc⟩ hf;have hcc:c=names.length:=by
    have e:(dB (d2 gGt (d1 zdo (dV 4)) (dC (.int 0)))) [some y.t,some (.lst (names.map T.str)),some zhD,some (.lst ((ps.map fun k=>names.getD k jB).map T.str)),some (.lst ((names.drop c).map T.str)),a,b]=some (decide (0 < ((names.drop c).map T.str).length),[some y.t,some (.lst (names.map T.str)),some zhD,some (.lst ((ps.map fun k=>names.getD k jB).map T.str)),some (.lst ((names.drop c).map T.str)),a,b]):=by
     simp_all?[]
     congr 3
     simp
    rw[e] at hf;have:=congrArg Ud (jf hf);have:=of_decide_eq_false this;simp at this;lia
   subst hcc;have hs':s'=[some y.t,some (.lst (names.map T.str)),some zhD,some (.lst ((ps.map fun k=>names.getD k jB).map T.str)),some (.lst ((names.drop names.length).map T.str)),a,b]:=by
    have e:(dB (d2 gGt (d1 zdo (dV 4)) (dC (.int 0)))) [some y.t,some (.lst (names.map T.str)),some zhD,some (.lst ((ps.map fun k=>names.getD k jB).map T.str)),some (.lst ((names.drop names.length).map T.str)),a,b]=some (decide (((0:Int) < ((names.drop names.length).map T.str).length)),[some y.t,some (.lst (names.map T.str)),some zhD,some (.lst ((ps.map fun k=>names.getD k jB).map T.str)),some (.lst ((names.drop names.length).map T.str)),a,b]):=by simp_all?[]
    rw[e] at hf;exact(congrArg JT (jf hf)).symm
   subst hs';have hg:=zgC hn rfl hd hN hp;refine⟨_,by simp_all?[]<;>rfl,_,_,_,rfl,_,_,rfl,rfl,hg,fun x hx=>?_⟩
   obtain⟨k,hk,rfl⟩:=jA.mp hx;have hk':=hp.lt k hk;rw[zen hk']
   exact Q5 hk')
 exact⟨wd,y,e,gw⟩
theorem zo8(c:Int){names:List Str}(hn:names.length<=30)(hd:names.Nodup)(hN:∀ x∈names,zdR x):∃ wd:List Str,zgE [.int c,.lst (names.map T.str)]=some (.lst (wd.map T.str))/\GoodWord wd/\∀ x∈wd,x∈names:=by
 have c8:∃ n8:List Str,zev (.lst (names.map T.str)) none (some 8)=some (.lst (n8.map T.str))/\n8.length<=30/\n8.Nodup/\(∀ x∈n8,x∈names):=by
  by_cases h8:8<=names.length
  ·refine⟨names.take 8,?_,by rw[Q9]; lia,hd.sublist (YG _ _),fun x hx=>Zq hx⟩
   show some (T.lst (zfC _ none (some 8)))=_;rw[zdf,zkt names (by lia) (by lia)]; rfl
  ·refine⟨names,?_,hn,hd,fun x hx=>hx⟩;show some (T.lst (zfC _ none (some 8)))=_;rw[zdf,zjm names (by lia)]
 obtain⟨n8,e8,l8,d8,s8⟩:=c8;obtain⟨B,eb,ob⟩:=zkx c;obtain⟨B2,eb2,ob2⟩:=zkx (c / 2);obtain⟨w1,y1,e1,g1,s1⟩:=zuj ob l8 d8 (fun x hx=>hN x (s8 x hx));obtain⟨w2,y2,e2,g2,s2⟩:=zp2 ob2 hn hd hN
 by_cases h:c%2=1
 ·refine⟨w1,?_,g1,fun x hx=>s8 x (s1 x hx)⟩;refine zc0 ?_;show Run zfZ [some (.int c),some (.lst (names.map T.str))] _;exact zfR (s':=[some (.int c),some (.lst (names.map T.str))]) (by simp_all?[Dt_ h,eb,e8,e1]) rfl
 ·refine⟨w2,?_,g2,s2⟩;refine zc0 ?_;show Run zfZ [some (.int c),some (.lst (names.map T.str))] _;refine za5 (s':=[some (.int c),some (.lst (names.map T.str))]) (by simp_all?[Df_ h]) ?_
  exact zb5 (s':=[some (.int c),some (.lst (names.map T.str))]) (by simp_all?[eb2,e2]) rfl
def zla(l:List Str):List (Key × T):=l.map fun x=>(.inr x,.bl true)
theorem zhh(l:List Str)(x:Str):zf6 (zla l) (.inr x) (.bl true)=zla (stp l x):=by
 have ha:((zla l).any fun kv=>decide (kv.1=Zl x))=decide (x∈l):=by
  unfold zla;rw[J1]
  induction l with
  |nil=>rfl
  |cons y l ih=>
   rw[Za,ih]
   by_cases h:y=x
   ·subst h; simp
   ·have:¬ x=y:=fun q=>h q.symm;simp[h,this]
 unfold zf6 stp;rw[ha]
 by_cases h:x∈l
 ·rw[Ip_ (by simpa using h),Ip_ h]
  unfold zla;rw[jY];refine QY fun y _=>?_;show (if (Zl y:Key)=Zl x then _ else _)=_
  split<;>rfl
 ·rw[In_ (by simpa using h),In_ h]
  unfold zla;rw[jF]; rfl
theorem zlc(s:Sg):∀(wd acc:List Str),zo4 [] [none] (dGn 0) zfL (dV 0) (dC (.bl true)) (wd.map T.str) (zla acc) s=some (zla (wd.foldl stp acc),s)
 |[],acc=>rfl
 |x::wd,acc=>by
  show zo4 [] [none] (dGn 0) zfL (dV 0) (dC (.bl true)) (wd.map T.str) (zf6 (zla acc) (.inr x) (.bl true)) s=_;rw[zhh,zlc s wd,Zv]
theorem zhk{wd:List Str}(h:wd.length<=1000):zcC [some (.lst (wd.map T.str))]=some (.rt (.lst ((za1 wd).map T.str)) [some (.lst (wd.map T.str))]):=by
 have h1:=zlc [some (.lst (wd.map T.str))] wd [];have hlc:wd.length<=zfJ:=zr3 (by lia)
 have e0:zla []=[]:=rfl;rw[e0] at h1;have l1:zbZ (.dct (zla (za1 wd)))=some (.lst ((za1 wd).map T.str)):=by
  show some (T.lst ((zla (za1 wd)).map fun kv=>kT kv.1))=_;unfold zla;rw[jY]; rfl
 have h2:dDC [] [none] (zcs (dV 0)) (dGn 0) zfL (dV 0) (dC (.bl true)) [some (.lst (wd.map T.str))]=some (.dct (zla (za1 wd)),[some (.lst (wd.map T.str))]):=by
  unfold dDC
  simp_all?[hlc,h1]
  rfl
 unfold zcC
 simp_all?[h2,l1]
theorem zd7{wd:List Str}(h:wd.length<=1000):zaq [.lst (wd.map T.str)]=some (.lst ((za1 wd).map T.str)):=by
 first
  |exact znw (zhk h)
  |exact znv (zhk h)
theorem zfs{wd:List Str}(h:wd.length<=1000)(x:Str):zb8 [.lst (wd.map T.str),.str x]=some (.lst ((zae wd x).map nT)):=by
 have e:=zj2 (M:=[]) (caps:=[none,none,some 1]) (fi:=dEn (dAc (dV 0) dAn)) (dg:=dGt [0,1]) (ft:=dB (d2 gEq (dV 1) (dV 2))) (fe:=dV 0) (s:=[some (.lst (wd.map T.str)),some (.str x)]) wd.zipIdx (fun p=>T.tup [.int (p.2:Nat),.str p.1]) (fun p=>decide (p.1=x)) (fun p=>nT p.2) (by simp_all?[zl8]) (by simp; lia) (by
  intro p hp
  refine⟨_,by simp_all?[]<;>rfl,by simp_all?[],fun _=>by simp_all?[],rfl⟩)
 have e2:(wd.zipIdx.filter fun p=>decide (p.1=x)).map (fun p=>nT p.2)=(zae wd x).map nT:=by
  rw[show (fun(p:Str × Nat)=>nT p.2)=nT∘JT from rfl,<-jY]
  congr 1
  unfold zae;refine(?_:_=(j5 wd.length).filter _);have q:∀(l:List Str) (n:Nat) (g:Nat->Bool),(∀ j (hj:j < l.length),g (n+j)=decide (l[j]=x))->((l.zipIdx n).filter fun p=>decide (p.1=x)).map JT=((j5 l.length).map (n+·)).filter g:=by
   intro l
   induction l with
   |nil=>intro n g _; rfl
   |cons y l ih=>
    intro n g hg;have h0:=hg 0 (by simp)
    rw[Nf,Zg,jp,gJ,jt,Zg];have hr:=ih (n+1) g (fun j hj=>by have:=hg (j+1) (by simp; lia); rw[show n+1+j=n+(j+1) by lia]; simpa using this)
    have hm:(List.map (fun x=>n+x) (List.map Nat.succ (j5 l.length)))=(j5 l.length).map (fun x=>n+1+x):=by
     rw[jY]; refine QY fun j _=>?_;show n+(j+1)=n+1+j; lia
    rw[hm];have h0':g (n+0)=decide (y=x):=by simpa using h0
    simp only[Nat.add_zero] at h0' ⊢;rw[h0']
    by_cases hy:y=x
    ·simp only[hy,decide_true,if_true,jt,hr]
    ·simp only[hy,decide_false,Z6,if_false,hr]
  have:=q wd 0 (fun j=>decide (wd[j]?=some x)) (fun j hj=>by rw[Z4,j3 hj]; simp)
  rw[this]
  congr 1
  simp
 rw[e2] at e;refine zc0 ?_;show Run zc6 [some (.lst (wd.map T.str)),some (.str x)] _;unfold zc6;exact zb5 (by simp_all?[e]<;>rfl) rfl
theorem zm2{wd:List Str}(h:wd.length<=1000){x:Str}{i j:Nat}(hp:zae wd x=[i,j]):zdJ [.lst (wd.map T.str),.str x]=some (.lst ((zli wd i j).map T.str)):=by
 have st:=zfs h x;rw[hp] at st;obtain⟨h1,h2⟩:=zaV hp;refine zc0 ?_;show Run zde [some (.lst (wd.map T.str)),some (.str x),none,none] _;unfold zde;refine za5 (by simp_all?[st,jt,Zz]<;>rfl) ?_
 have c:=zoW (wd.map T.str) (t:=(i:Int)+1) (u:=(j:Int)) (by lia) (by lia) (by simp; lia)
 have e1:((i:Int)+1).toNat=i+1:=by lia
 rw[e1,Qa] at c;refine zb5 (by simp_all?[zev,gSl,c]<;>rfl) ?_
 unfold zli;rw[Wp,Wo]
theorem zdM{wd:List Str}(h:wd.length<=1000){x:Str}{i j:Nat}(hp:zae wd x=[i,j]):zau [.lst (wd.map T.str),.str x]=some (.lst (((za1 wd).filter (crs wd x)).map T.str)):=by
 have hb:=zm2 h hp;have hn:=zd7 h;have hf:=zgG wd
 have e:=zj2 (M:=[]) (caps:=[none,some 2]) (fi:=zcs (zaj zaq (dAc (dV 0) dAn))) (dg:=dGn 0) (ft:=dB (d2 gEq (d2L zho (dV 1) (dV 0)) (dC (.int 1)))) (fe:=dV 0) (s:=[some (.lst (wd.map T.str)),some (.str x),some (.lst ((zli wd i j).map T.str))]) (za1 wd) T.str (crs wd x) T.str (by simp_all?[hn]) (by lia) (by
  intro y hy;refine⟨_,by simp_all?[]<;>rfl,?_,fun _=>by simp_all?[],rfl⟩
  have e1:decide (((((zli wd i j).count y:Nat):Int))=1)=decide ((zli wd i j).count y=1):=by
   by_cases q:(zli wd i j).count y=1
   ·rw[q]; rfl
   ·rw[Df_ q,Df_ (by lia)]
  simp_all?[e1,zht hp])
 have key:Run zbe [some (.lst (wd.map T.str)),some (.str x),none] fun r=>∃ s,r=.rt (.lst (((za1 wd).filter (crs wd x)).map T.str)) s:=by
  unfold zbe;refine za5 (by simp_all?[hb]<;>rfl) ?_
  exact zb5 (by simp_all?[e]<;>rfl) rfl
 first
  |exact zi9 key
  |exact zc0 key
def zak(ns:List Str)(adj:Str->Str->Bool):T:=.fd (ns.map fun x=>(Zl x,.lst ((mts ns adj x).map T.str)))
theorem zcw{ns:List Str}{adj:Str->Str->Bool}{x:Str}(h:x∈ns):za7 (zak ns adj) (.str x)=some (.lst ((mts ns adj x).map T.str)):=by
 unfold zak;rw[zg4,zdV,zl4 h];rfl
theorem zcd(ns:List Str)(adj:Str->Str->Bool)(s s':Sg)(f:DE)(h:f s=some (zak ns adj,s')):zcs f s=some (ns.map T.str,s'):=by
 unfold zcs;rw[h];unfold zak;simp only[j9,jY];rfl
theorem znb{ns:List Str}{adj:Str->Str->Bool}(g:Gr ns adj)(x:Str):(mts ns adj x).length<=30:=Qc (ZW _ _) g.len
theorem zfr{ns:List Str}{j:Nat}{z:T}(h:(ns.map T.str)[j]?=some z):∃ x,ns[j]?=some x/\z=.str x:=by
 rw[jg] at h;obtain⟨x,h1,h2⟩:=Qm h;exact⟨x,h1,h2.symm⟩
theorem zaB{ns:List Str}{P:Str->Prop}{j:Nat}{x:Str}(h:∀ y∈ns.take j,P y)(hx:ns[j]?=some x)(p:P x):∀ y∈ns.take (j+1),P y:=by
 intro y hy;rw[gd,hx] at hy;rcases ju.mp hy with hy |hy
 ·exact h y hy
 ·have:y=x:=by simpa using hy
  rw[this]; exact p
def zit:Option Str->T
 |none=>.non
 |some x=>.str x
theorem zk1{ns:List Str}{adj:Str->Str->Bool}(g:Gr ns adj):∃ r:Option Str,zda [zak ns adj]=some (zit r)/\(∀ x,r=some x->x∈ns/\(mts ns adj x).length%2=1)/\(r=none->∀ x∈ns,(mts ns adj x).length%2=0):=by
 obtain⟨t,h,r,rfl,h1,h2⟩:=zbV (n:=2) (d:=zbL) (ts:=[zak ns adj]) (Q:=fun t=>∃ r:Option Str,t=zit r/\(∀ x,r=some x->x∈ns/\(mts ns adj x).length%2=1)/\(r=none->∀ x∈ns,(mts ns adj x).length%2=0)) (by
  show Run zbL [some (zak ns adj),none] _;unfold zbL;refine zhK (its:=ns.map T.str) (fun j s=>(∀ y∈ns.take j,(mts ns adj y).length%2=0)/\∃ a,s=[some (zak ns adj),a]) (zcd ns adj _ _ _ rfl) ⟨fun y hy=>by simp at hy,_,rfl⟩ ?_ ?_
  ·rintro j z s hz ⟨hj,a,rfl⟩;obtain⟨x,hx,rfl⟩:=zfr hz;have hxn:=jE hx;refine⟨_,by simp_all?[]<;>rfl,?_⟩
   by_cases hp:(mts ns adj x).length%2=1
   ·have e1:decide ((((mts ns adj x).length:Nat):Int)%2=1)=true:=Dt_ (by lia)
    exact zjV (by simp_all?[zcw hxn,e1]<;>rfl) ⟨_,_,rfl,some x,rfl,fun y e=>by injection e with e; subst e; exact⟨hxn,hp⟩,fun e=>by cases e⟩
   ·have e1:decide ((((mts ns adj x).length:Nat):Int)%2=1)=false:=Df_ (by lia)
    exact zgr (by simp_all?[zcw hxn,e1]<;>rfl) ⟨zaB hj hx (by lia),_,rfl⟩
  ·rintro s ⟨hj,a,rfl⟩;refine zav (by simp_all?[]<;>rfl) ⟨_,_,rfl,none,rfl,fun x e=>(by cases e),fun _ x hx=>hj x ?_⟩
   rw[j6,Qz]; exact hx)
 exact⟨r,h,h1,h2⟩
theorem zja:∀(l acc:List Str),(acc++l).Nodup->l.foldl stp acc=acc++l
 |[],acc,_=>by simp
 |x::l,acc,h=>by
  rw[Zv];have hx:x∉acc:=fun z=>(jP.mp h).2.2 x z x (.head _) rfl;have e:stp acc x=acc++[x]:=by unfold stp; rw[In_ hx]
  rw[e,zja l (acc++[x]) (by simpa using h)]
  simp
theorem zgF{l:List Str}(h:l.Nodup):za1 l=l:=by
 have:=zja l [] (by simpa using h)
 rw[NF] at this;exact this
theorem zp4{ns:List Str}{adj:Str->Str->Bool}(g:Gr ns adj)(x y:Str):znV (mts ns adj x) (mts ns adj y)=shr ns adj x y:=by
 unfold znV shr mts;rw[zgF (g.nd.filter _),zgF (g.nd.filter _)];rw[Wv]
 congr 1
 refine YO fun z hz=>?_;rw[JU]
 congr 1
 simp[jQ,hz]
theorem zh8:∀(l:List Str),zhA (l.map T.str)=some l
 |[]=>rfl
 |k::l=>by show (zhA (l.map T.str)).map (k::·)=_; rw[zh8 l]; rfl
theorem zq3{a b:List Str}(ha:a.length < 900)(hb:b.length < 900):zi7 (.lst (a.map T.str)) (.lst (b.map T.str))=some (.int (znV a b:Nat)):=by
 simp only[zi7,zh8,j9];rw[Ip_ ha,Ip_ hb]
theorem zje{ns:List Str}{adj:Str->Str->Bool}(g:Gr ns adj){x y:Str}(hx:x∈ns)(hy:y∈ns):zaT [zak ns adj,.str x,.str y]=some (.bl (evn ns adj x y)):=by
 have h1:=znb g x;have h2:=znb g y;refine zc0 ?_;show Run zb2 [some (zak ns adj),some (.str x),some (.str y)] _;unfold zb2;refine zb5 (by simp_all?[zcw hx,zcw hy,zq3 (a:=mts ns adj x) (b:=mts ns adj y) (by lia) (by lia),zp4 g]<;>rfl) ?_
 unfold evn
 congr 1
 rw[decide_eq_decide];lia
theorem mem_mts{ns:List Str}{adj:Str->Str->Bool}{x y:Str}:y∈mts ns adj x↔y∈ns/\adj x y=true:=by unfold mts; rw[jQ]
def zdj(ns:List Str)(adj:Str->Str->Bool)(x y:Str):Prop:=x≠y/\adj x y=false/\evn ns adj x y=false
theorem zk0{ns:List Str}{adj:Str->Str->Bool}(g:Gr ns adj):∃ r:Option (Str × Str),zd9 [zak ns adj]=some (match r with |none=>.non |some (x,y)=>.tup [.str x,.str y])/\(∀ x y,r=some (x,y)->x∈ns/\y∈ns/\zdj ns adj x y)/\(r=none->∀ x∈ns,∀ y∈ns,¬ zdj ns adj x y):=by
 obtain⟨t,h,r,rfl,h1,h2⟩:=zbV (n:=4) (d:=zbK) (ts:=[zak ns adj]) (Q:=fun t=>∃ r:Option (Str × Str),t=(match r with | none=>.non | some (x,y)=>.tup [.str x,.str y])/\(∀ x y,r=some (x,y)->x∈ns/\y∈ns/\zdj ns adj x y)/\(r=none->∀ x∈ns,∀ y∈ns,¬ zdj ns adj x y)) (by
  show Run zbK [some (zak ns adj),none,none,none] _;unfold zbK;refine zhK (its:=ns.map T.str) (fun j s=>(∀ x∈ns.take j,∀ y∈ns,¬ zdj ns adj x y)/\∃ a b c,s=[some (zak ns adj),a,b,c]) (zcd ns adj _ _ _ rfl) ⟨fun y hy=>by simp at hy,_,_,_,rfl⟩ ?_ ?_
  ·rintro j z s hz ⟨hj,a,b,c,rfl⟩;obtain⟨x,hx,rfl⟩:=zfr hz;have hxn:=jE hx;refine⟨_,by simp_all?[]<;>rfl,?_⟩
   refine zeG (its:=ns.map T.str) (fun j s=>(∀ y∈ns.take j,¬ zdj ns adj x y)/\∃ b c,s=[some (zak ns adj),some (.str x),b,c]) (zcd ns adj _ _ _ rfl) ⟨fun y hy=>by simp at hy,_,_,rfl⟩ ?_ ?_
   ·rintro i z s hz ⟨hi,b,c,rfl⟩;obtain⟨y,hy,rfl⟩:=zfr hz;have hyn:=jE hy;refine⟨_,by simp_all?[]<;>rfl,?_⟩
    have ev:=zje g hxn hyn;have e1:(decide (y∈mts ns adj x))=adj x y:=by
     rw[Zd,decide_eq_true_iff,mem_mts];exact⟨fun h=>h.2,fun h=>⟨hyn,h⟩⟩
    by_cases hxy:y=x
    ·subst hxy;refine za5 (by simp_all?[]<;>rfl) ?_
     exact zgr (by simp_all?[]<;>rfl) ⟨zaB hi hy (fun q=>q.1 rfl),_,_,rfl⟩
    ·have hxy':¬ x=y:=fun e=>hxy e.symm;cases ha:adj x y with
     |true=>
      rw[ha] at e1;refine za5 (by simp_all?[zcw hxn,hxy,e1]<;>rfl) ?_
      refine zgr (by simp_all?[]<;>rfl) ⟨zaB hi hy (fun q=>?_),_,_,rfl⟩
      rw[q.2.1] at ha; cases ha
     |false=>
      rw[ha] at e1;refine za5 (by simp_all?[zcw hxn,hxy,e1]<;>rfl) ?_
      cases hE:evn ns adj x y with
      |true=>
       rw[hE] at ev;refine zgr (by simp_all?[ev]<;>rfl) ⟨zaB hi hy (fun q=>?_),_,_,rfl⟩
       rw[q.2.2] at hE; cases hE
      |false=>
       rw[hE] at ev;exact zjV (by simp_all?[ev]<;>rfl) ⟨_,_,rfl,some (x,y),rfl,fun u v e=>by injection e with e; injection e with e1 e2; subst e1 e2; exact⟨hxn,hyn,hxy',ha,hE⟩,fun e=>by cases e⟩
   ·rintro s ⟨hi,b,c,rfl⟩;rw[j6,Qz] at hi;exact⟨zaB hj hx hi,_,_,_,rfl⟩
  ·rintro s ⟨hj,a,b,c,rfl⟩;rw[j6,Qz] at hj
   exact zav (by simp_all?[]<;>rfl) ⟨_,_,rfl,none,rfl,fun x y e=>(by cases e),fun _=>hj⟩)
 exact⟨r,h,h1,h2⟩
theorem zhc{ft:DT}{db:DS}{n:Nat}{s:Sg}{Q:Fl->Prop}(I:Sg->Prop)(μ:Sg->Nat)(hn:μ s < n)(h0:I s)(hs:∀ s,I s->∃ b s1,ft s=some (b,s1)/\if b=true then Run db s1 (zuq fun s2=>I s2/\μ s2 < μ s) else True)
  (k:∀ s0 s',I s0->ft s0=some (false,s')->Q (.nx s')):Run (zbB ft db n) s Q:=by
 obtain⟨r,h1,h2⟩:=zdA (d:=zaH) (Q:=fun r=>∃ s',r=.nx s'/\∃ s0,I s0/\ft s0=some (false,s')) I μ hn h0 hs fun s0 s' a b=>⟨_,rfl,s',rfl,s0,a,b⟩;obtain⟨s',rfl,s0,a,b⟩:=h2;refine⟨.nx s',?_,k s0 s' a b⟩;unfold zai at h1;obtain⟨r,h3,h4⟩:=Qb h1;cases r with
 |nx s2=>
  have h4:zaH s2=some (.nx s'):=h4;injection h4 with h4;injection h4 with h4;rw[h3,h4]
 |rt t s2=>cases h4
 |bk s2=>cases h4
 |ct s2=>cases h4
theorem zcb:∀(l m:List Str),l.Nodup->(∀ x∈l,x∈m)->l.length<=m.length
 |[],m,_,_=>QV _
 |x::l,m,nd,h=>by
  obtain⟨n1,n2⟩:=Qk.mp nd;have hx:=h x (.head _);have ih:=zcb l (m.erase x) n2 fun y hy=>(gc (fun e:y=x=>n1 (by rw[<-e]; exact hy))).mpr (h y (.tail _ hy))
  have:=Zw hx;have hp:0 < m.length:=gM hx;rw[jp];lia
theorem zjL{c:DT}{f g:DS}{s s':Sg}{Q:Fl->Prop}(h:c s=some (true,s'))(k:Run f s' Q):Run (zcY c f g) s Q:=by
 obtain⟨r,h1,h2⟩:=k;refine⟨r,?_,h2⟩;unfold zcY;rw[h,j9];exact h1
def zbN(O:Org):List (Key × T):=O.map fun e=>(Zl e.1,zit e.2)
theorem zoA{O:Org}:∀(x:Str),((O.find? fun e=>decide ((Zl e.1:Key)=Zl x)).map fun e=>zit e.2).isSome=decide (x∈kys O):=fun x=>by
 rw[gQ,Zd,WV,decide_eq_true_iff];constructor
 ·rintro⟨e,he,h⟩;have:=ZM (of_decide_eq_true h);rw[<-this]; exact zdH he
 ·intro h;obtain⟨o,ho⟩:=zr4 h;exact⟨_,ho,Dt_ rfl⟩
theorem zhW(O:Org)(x:Str):(zaM (zbN O) (.inr x)).isSome=decide (x∈kys O):=by
 unfold zbN;rw[zdV,zoA]
theorem zmZ{O:Org}(nd:(kys O).Nodup){x:Str}{o:Option Str}(h:(x,o)∈O):za7 (.fd (zbN O)) (.str x)=some (zit o):=by
 rw[zg4];unfold zbN;rw[zdV];cases hf:O.find? fun e=>decide ((Zl e.1:Key)=Zl x) with
 |none=>exact absurd (Dt_ rfl) (List.find?_eq_none.mp hf _ h)
 |some e=>
  have h1:=List.mem_of_find?_eq_some hf;have h2:e.1=x:=by have:=List.find?_some hf; simpa using this
  obtain⟨x',o'⟩:=e;dsimp only at h2;subst h2;rw[zgI nd h h1];rfl
theorem zmY{O:Org}{x:Str}{o:Option Str}(h:x∉kys O):zf6 (zbN O) (.inr x) (zit o)=zbN (O++[(x,o)]):=by
 rw[zhS]
 ·unfold zbN; rw[jF]; rfl
 ·unfold zbN;rw[jY];intro hm;obtain⟨e,he,h2⟩:=jA.mp hm;exact h (ZM h2▸zdH he)
theorem zux(w:List Str)(x:Str):zo1 (.lst ((w++[x]).map T.str)) []=some (.lst (w.map T.str),.str x):=by
 simp[zo1]
theorem zwL{a b:List Str}(h:a.length+b.length<=1000000):zpu (.lst (a.map T.str)) [.lst (b.map T.str)]=some (.lst ((a++b).map T.str),.non):=by
 have q:(a.map T.str).length+(b.map T.str).length<=jr:=zc2 (by simpa using h)
 simp only[zpu,q,if_true,jF]
def muF:Sg->Nat
 |[_,some (.dct kvs),_,some (.lst w),_,_,_]=>2*(31 - kvs.length)+w.length
 |_=>0
theorem zi8{ns:List Str}{adj:Str->Str->Bool}(g:Gr ns adj):∃ O:Org,zcm [zak ns adj]=some (.fd (zbN O))/\Fo ns adj O/\∀ x∈ns,x∈kys O:=by
 obtain⟨t,h,O,rfl,h1,h2⟩:=zbV (n:=7) (d:=zba) (ts:=[zak ns adj]) (Q:=fun t=>∃ O:Org,t=.fd (zbN O)/\Fo ns adj O/\∀ x∈ns,x∈kys O) (by
  show Run zba [some (zak ns adj),none,none,none,none,none,none] _;unfold zba;refine za5 (by simp_all?[]<;>rfl) ?_
  refine zbR (its:=ns.map T.str) (fun j s=>∃ O a b c d e,Fo ns adj O/\(∀ y∈ns.take j,y∈kys O)/\s=[some (zak ns adj),some (.dct (zbN O)),a,b,c,d,e]) (zcd ns adj _ _ _ rfl) ⟨[],_,_,_,_,_,Fo.nil,fun y hy=>by simp at hy,rfl⟩ ?_ ?_
  ·rintro j z s hz ⟨O0,a,b,c,d,e,F0,hj,rfl⟩;obtain⟨x,hx,rfl⟩:=zfr hz;have hxn:=jE hx;have bnd:∀ {O:Org},(kys O).Nodup->(∀ x∈kys O,x∈ns)->O.length<=30:=fun {O} h1 h2=>by
    have:=zcb _ _ h1 h2;have:=g.len;unfold kys at *;simp at *;lia
   refine⟨_,by simp_all?[]<;>rfl,?_⟩
   by_cases hk:x∈kys O0
   ·have e1:decide (x∈kys O0)=true:=Dt_ hk;exact zam (by simp_all?[zhW,e1]<;>rfl) ⟨O0,_,_,_,_,_,F0,zaB hj hx hk,rfl⟩
   ·have e1:decide (x∈kys O0)=false:=Df_ hk;have b0:=bnd F0.nd F0.sub;have l0:(zbN O0).length < jr:=zc1 (by unfold zbN; rw[j6]; lia)
    have D0:=Dfs.start F0 hxn hk;have hp:zf6 (zbN O0) (.inr x) .non=zbN (O0++[(x,none)]):=zmY (o:=none) hk;refine zjL (by simp_all?[zhW,e1]<;>rfl) ?_
    refine za5 (by simp_all?[l0,zgX,hp]<;>rfl) (za5 (by simp_all?[]<;>rfl) ?_)
    refine zhc (fun s=>∃ O wt c d e,Dfs ns adj x O0 O wt/\wt.length<=O.length/\x∈kys O/\s=[some (zak ns adj),some (.dct (zbN O)),some (.str x),some (.lst (wt.map T.str)),c,d,e]) muF ?_ ⟨_,[x],_,_,_,D0,by simp,by rw[zaN]; simp[kys],rfl⟩ ?_ ?_
    ·show 2*(31 - (zbN (O0++[(x,none)])).length)+1 < 100;lia
    ·rintro s ⟨O,wt,c,d,e,D,hw,hxO,rfl⟩;have bO:=bnd D.nd D.sub
     by_cases hwt:wt=[]
     ·subst hwt;exact⟨false,_,by simp_all?[]<;>rfl,trivial⟩
     ·obtain⟨w',y,rfl⟩:∃ w' y,wt=w'++[y]:=⟨wt.dropLast,wt.getLast hwt,(Q1 hwt).symm⟩;obtain⟨hyk,hy0⟩:=D.ws y (by simp)
      have hyn:=D.sub y hyk
      refine⟨true,[some (zak ns adj),some (.dct (zbN O)),some (.str x),some (.lst ((w'++[y]).map T.str)),c,d,e],by
       simp_all?[]
       simp,?_⟩
      have D1:=D.step g;have ml:=znb g y;generalize hfr:((mts ns adj y).filter fun z=>decide (z∉kys O))=fr at D1;have frl:fr.length<=30:=by rw[<-hfr]; exact Qc (ZW _ _) ml
      have b1:=bnd D1.nd D1.sub;rw[jk,j6] at b1;rw[jk] at hw;rw[Ip_ rfl]
      have elc:=zj2 (M:=[1,3]) (caps:=[none,some 1]) (fi:=zcs (d2 za7 (dV 0) (dV 4))) (dg:=dGn 0) (ft:=dB (d2 zaC (dV 0) (dV 1))) (fe:=dV 0) (s:=[some (zak ns adj),some (.dct (zbN O)),some (.str x),some (.lst (w'.map T.str)),some (.str y),d,e]) (mts ns adj y) T.str (fun z=>decide (z∉kys O)) T.str (by simp_all?[zcw hyn]) (by lia) (by
       intro z hz
       exact⟨_,by simp_all?[]<;>rfl,by simp_all?[zhW,decide_not],fun _=>by simp_all?[],rfl⟩)
      rw[hfr] at elc;refine za5 (s':=[some (zak ns adj),some (.dct (zbN O)),some (.str x),some (.lst (w'.map T.str)),some (.str y),d,e]) (by simp_all?[zux]<;>rfl) (za5 (by simp_all?[elc]<;>rfl) ?_)
      have frn:fr.Nodup:=by rw[<-hfr]; exact(g.nd.filter _).filter _
      have frk:∀ z∈fr,z∉kys O:=fun z hz=>by rw[<-hfr] at hz; exact of_decide_eq_true (jQ.mp hz).2
      refine zbR (its:=fr.map T.str) (fun i s=>∃ e,s=[some (zak ns adj),some (.dct (zbN (O++(fr.take i).map fun z=>(z,some y)))),some (.str x),some (.lst (w'.map T.str)),some (.str y),some (.lst (fr.map T.str)),e]) (by simp_all?[]<;>rfl) ⟨e,by simp⟩ ?_ ?_
      ·rintro i z s hz ⟨e,rfl⟩;obtain⟨u,hu,rfl⟩:=zfr hz;refine⟨_,by simp_all?[]<;>rfl,?_⟩
       have hun:u∉kys (O++(fr.take i).map fun z=>(z,some y)):=by
        rw[zaN];intro hm;rcases ju.mp hm with hm |hm
        ·exact frk u (jE hu) hm
        ·have hm:u∈fr.take i:=by
          unfold kys at hm;rw[jY] at hm;obtain⟨v,hv,rfl⟩:=jA.mp hm;exact hv
         obtain⟨k,hk1,hk2⟩:=QC hm;rw[List.getElem_take] at hk2;rw[Q9] at hk1;have hiu:=(j7.mp hu);obtain⟨hi1,hi2⟩:=hiu;have:=(gZ frn).mp (hk2.trans hi2.symm);lia
       have ll:(zbN (O++(fr.take i).map fun z=>(z,some y))).length < jr:=zc1 (by unfold zbN; simp; lia)
       have hp:zf6 (zbN (O++(fr.take i).map fun z=>(z,some y))) (.inr u) (.str y)=_:=zmY (o:=some y) hun;refine zam (by simp_all?[ll,zgX,hp]<;>rfl) ⟨some (.str u),?_⟩
       rw[gd,hu];simp
      ·rintro s ⟨e,rfl⟩;rw[j6,Qz];refine zam (by simp_all?[zwL (a:=w') (b:=fr) (by lia)]<;>rfl) ⟨⟨_,_,_,_,_,D1,?_,by rw[zaN]; exact jn _ hxO,rfl⟩,?_⟩
       ·rw[jk,jk,j6];simp at hw;lia
       ·show 2*(31 - (zbN (O++fr.map fun z=>(z,some y))).length)+((w'++fr).map T.str).length < 2*(31 - (zbN O).length)+((w'++[y]).map T.str).length;unfold zbN;simp;lia
    ·rintro s0 s' ⟨O,wt,c,d,e,D,hw,hxO,rfl⟩ hf
     by_cases hwt:wt=[]
     ·subst hwt;have hf:some (false,[some (zak ns adj),some (T.dct (zbN O)),some (T.str x),some (T.lst (([]:List Str).map T.str)),c,d,e])=some (false,s'):=hf;injection hf with hf;injection hf with _ hf;subst hf;have F1:=D.fin g F0;refine⟨O,_,_,_,_,_,F1,zaB (fun y hy=>?_) hx ?_,rfl⟩
      ·obtain⟨r,hr⟩:=D.pre;rw[hr,zaN]; exact jn _ (hj y hy)
      ·exact hxO
     ·exfalso
      have h2:zlW (dV 3) [some (zak ns adj),some (.dct (zbN O)),some (.str x),some (.lst (wt.map T.str)),c,d,e]=some (true,[some (zak ns adj),some (.dct (zbN O)),some (.str x),some (.lst (wt.map T.str)),c,d,e]):=by
       simp_all?[]
       simp[hwt]
      rw[h2] at hf;cases hf
  ·rintro s ⟨O,a,b,c,d,e,F,hj,rfl⟩;rw[j6,Qz] at hj
   exact zav (by simp_all?[]<;>rfl) ⟨_,_,rfl,O,rfl,F,hj⟩)
 exact⟨O,h,h1,h2⟩
def bI(b:Bool):Int:=if b then 1 else 0
theorem ze4{ns:List Str}{adj:Str->Str->Bool}(g:Gr ns adj){x y:Str}(hx:x∈ns)(hy:y∈ns){S:T}{b:Bool}(hS:za7 S (.str x)=some (.int (bI b))):zbc [zak ns adj,S,.str x,.str y]=some (.int (bI (evn ns adj x y != b))):=by
 have ev:=zje g hx hy;refine zc0 ?_;show Run zby [some (zak ns adj),some S,some (.str x),some (.str y)] _;unfold zby;cases hE:evn ns adj x y with
 |true=>
  rw[hE] at ev;refine zb5 (by simp_all?[ev,hS]<;>rfl) ?_
  cases b<;>rfl
 |false=>
  rw[hE] at ev;refine zb5 (by simp_all?[ev,hS]<;>rfl) ?_
  cases b<;>rfl
def zbk(sd:Str->Bool)(l:List Str):List (Key × T):=l.map fun z=>(Zl z,.int (bI (sd z)))
theorem zfQ{sd:Str->Bool}{l:List Str}{x:Str}(h:x∈l):zaM (zbk sd l) (.inr x)=some (.int (bI (sd x))):=by
 unfold zbk;rw[zdV,zl4 h];rfl
theorem zgZ{ns:List Str}{adj:Str->Str->Bool}(g:Gr ns adj){O:Org}(F:Fo ns adj O):zbU [zak ns adj,.fd (zbN O)]=some (.fd (zbk (zf0 (evn ns adj) O) (kys O))):=by
 have bO:O.length<=30:=by
  have:=zcb _ _ F.nd F.sub;have:=g.len;unfold kys at *;simp at *;lia
 refine zc0 ?_;show Run zbx [some (zak ns adj),some (.fd (zbN O)),none,none,none] _;unfold zbx;refine za5 (by simp_all?[]<;>rfl) ?_
 have it:zcs (dV 1) [some (zak ns adj),some (.fd (zbN O)),some (T.dct []),none,none]=some (O.map fun e=>T.str e.1,[some (zak ns adj),some (.fd (zbN O)),some (T.dct []),none,none]):=by
  unfold zcs zbN
  simp_all?[]
  simp only[jY];rfl
 refine zbR (its:=O.map fun e=>T.str e.1) (fun j s=>∃ a b,s=[some (zak ns adj),some (.fd (zbN O)),some (.dct (zbk (zf0 (evn ns adj) O) (kys (O.take j)))),a,b]) it ⟨none,none,rfl⟩ ?_ ?_
 ·rintro j z s hz ⟨a,b,rfl⟩;rw[jg] at hz;obtain⟨⟨x,o⟩,hx,rfl⟩:=Qm hz;have hm:(x,o)∈O:=jE hx;have hxn:=F.sub x (zdH hm);have at1:=zmZ F.nd hm;have sd1:=F.side (evn ns adj) hx;have tk:O.take (j+1)=O.take j++[(x,o)]:=by rw[gd,hx]; rfl
  have hnk:x∉kys (O.take j):=by
   have nd:=F.nd;rw[<-Z3 (j+1) O,tk,zaN,zaN] at nd;intro h;exact(jP.mp (jP.mp nd).1).2.2 x h x (by simp[kys]) rfl
  have ll:(zbk (zf0 (evn ns adj) O) (kys (O.take j))).length < jr:=zc1 (by unfold zbk kys; simp; lia)
  have hp:zf6 (zbk (zf0 (evn ns adj) O) (kys (O.take j))) (.inr x) (.int (bI (zf0 (evn ns adj) O x)))=zbk (zf0 (evn ns adj) O) (kys (O.take (j+1))):=by
   rw[zhS]
   ·rw[tk,zaN]; unfold zbk; rw[jF]; rfl
   ·unfold zbk;rw[jY];intro hm;obtain⟨e,he,h2⟩:=jA.mp hm;exact hnk (ZM h2▸he)
  refine⟨_,by simp_all?[]<;>rfl,?_⟩
  cases o with
  |none=>
   dsimp only at sd1;rw[sd1] at hp;refine za5 (by simp_all?[at1,zit]<;>rfl) ?_
   exact zam (by simp_all?[zit,gIs,isN,zgX,ll]; rw[show (T.int 0)=T.int (bI false) from rfl,hp]) ⟨_,_,rfl⟩
  |some p=>
   dsimp only at sd1;obtain⟨_,hpk⟩:=F.ord j x p hx;have hpn:p∈ns:=F.sub p (by rw[<-Z3 j O,zaN]; exact jn _ hpk)
   have sb:=ze4 g hpn hxn (S:=.dct (zbk (zf0 (evn ns adj) O) (kys (O.take j)))) (b:=zf0 (evn ns adj) O p) (by rw[zmb]; exact zfQ hpk)
   rw[<-sd1] at sb;refine za5 (by simp_all?[at1,zit]<;>rfl) ?_
   exact zam (by simp_all?[zit,gIs,isN,sb,zj9,zgX,ll,hp]<;>rfl) ⟨_,_,rfl⟩
 ·rintro s ⟨a,b,rfl⟩;rw[j6,Qz];exact zb5 (by simp_all?[]<;>rfl) rfl
theorem zhv{ns:List Str}{adj:Str->Str->Bool}(g:Gr ns adj){sd:Str->Bool}{l:List Str}(hl:∀ x∈ns,x∈l):∃ r:Option (Str × Str),zcl [zak ns adj,.fd (zbk sd l)]=some (match r with |none=>.non |some (x,y)=>.tup [.str x,.str y])/\(∀ x y,r=some (x,y)->x∈ns/\y∈ns/\adj x y=true/\evn ns adj x y≠(sd x != sd y))/\(r=none->∀ x∈ns,∀ y∈ns,adj x y=true->evn ns adj x y=(sd x != sd y)):=by
 obtain⟨t,h,r,rfl,h1,h2⟩:=zbV (n:=4) (d:=zb9) (ts:=[zak ns adj,.fd (zbk sd l)]) (Q:=fun t=>∃ r:Option (Str × Str),t=(match r with | none=>.non | some (x,y)=>.tup [.str x,.str y])/\(∀ x y,r=some (x,y)->x∈ns/\y∈ns/\adj x y=true/\evn ns adj x y≠(sd x != sd y))/\(r=none->∀ x∈ns,∀ y∈ns,adj x y=true->evn ns adj x y=(sd x != sd y))) (by
  show Run zb9 [some (zak ns adj),some (.fd (zbk sd l)),none,none] _;unfold zb9;refine zhK (its:=ns.map T.str) (fun j s=>(∀ x∈ns.take j,∀ y∈ns,adj x y=true->evn ns adj x y=(sd x != sd y))/\∃ a b,s=[some (zak ns adj),some (.fd (zbk sd l)),a,b]) (zcd ns adj _ _ _ rfl) ⟨fun y hy=>by simp at hy,_,_,rfl⟩ ?_ ?_
  ·rintro j z s hz ⟨hj,a,b,rfl⟩;obtain⟨x,hx,rfl⟩:=zfr hz;have hxn:=jE hx;refine⟨_,by simp_all?[]<;>rfl,?_⟩
   refine zeG (its:=(mts ns adj x).map T.str) (fun j s=>(∀ y∈(mts ns adj x).take j,evn ns adj x y=(sd x != sd y))/\∃ b,s=[some (zak ns adj),some (.fd (zbk sd l)),some (.str x),b]) (by simp_all?[zcw hxn]<;>rfl) ⟨fun y hy=>by simp at hy,_,rfl⟩ ?_ ?_
   ·rintro i z s hz ⟨hi,b,rfl⟩;obtain⟨y,hy,rfl⟩:=zfr hz;obtain⟨hyn,hyx⟩:=mem_mts.mp (jE hy);refine⟨_,by simp_all?[]<;>rfl,?_⟩
    have sb:=ze4 g hxn hyn (S:=.fd (zbk sd l)) (b:=sd x) (by rw[zg4]; exact zfQ (hl x hxn))
    have sy:za7 (.fd (zbk sd l)) (.str y)=some (.int (bI (sd y))):=by rw[zg4]; exact zfQ (hl y hyn)
    have key:decide (bI (evn ns adj x y != sd x)=bI (sd y))=decide (evn ns adj x y=(sd x != sd y)):=by cases evn ns adj x y<;>cases sd x<;>cases sd y<;>rfl
    by_cases hE:evn ns adj x y=(sd x != sd y)
    ·rw[Dt_ hE] at key;exact zgr (by simp_all?[sb,sy,key]<;>rfl) ⟨zaB hi hy hE,_,rfl⟩
    ·rw[Df_ hE] at key;exact zjV (by simp_all?[sb,sy,key]<;>rfl) ⟨_,_,rfl,some (x,y),rfl,fun u v e=>by injection e with e; injection e with e1 e2; subst e1 e2; exact⟨hxn,hyn,hyx,hE⟩,fun e=>by cases e⟩
   ·rintro s ⟨hi,b,rfl⟩;rw[j6,Qz] at hi;exact⟨zaB hj hx fun y hyn ha=>hi y (mem_mts.mpr ⟨hyn,ha⟩),_,_,rfl⟩
  ·rintro s ⟨hj,a,b,rfl⟩;rw[j6,Qz] at hj
   exact zav (by simp_all?[]<;>rfl) ⟨_,_,rfl,none,rfl,fun x y e=>(by cases e),fun _=>hj⟩)
 exact⟨r,h,h1,h2⟩
theorem zp5{α:Type}{a b:List α}{z:α}{k:Int}(hk:k=-((b.length:Int)+1)):atI (a++z::b) k=some z:=by
 unfold atI ixN;have hl:(a++z::b).length=a.length+b.length+1:=by simp; lia
 rw[In_ (by lia),Ip_ (by rw[hl]; lia),j9]
 have:(k+((a++z::b).length:Int)).toNat=a.length:=by rw[hl]; lia
 rw[this];simp
theorem ziz{a b:List Str}{z:Str}{k:Int}(hk:k=-((b.length:Int)+1)):za7 (.lst ((a++z::b).map T.str)) (.int k)=some (.str z):=by
 have e:gIx (.lst ((a++z::b).map T.str)) (.int k)=some (.str z):=by
  show atI ((a++z::b).map T.str) k=_;rw[jF,jt];exact zp5 (by simpa using hk)
 unfold za7 orG;rw[e]
theorem zdI(a:List Str)(z:Str):za7 (.lst ((a++[z]).map T.str)) (.int (-1))=some (.str z):=ziz (b:=[]) (by simp)
theorem zlL(a:List Str)(z m:Str):za7 (.lst (((a++[z])++[m]).map T.str)) (.int (-2))=some (.str z):=by
 have:=ziz (a:=a) (b:=[m]) (z:=z) (k:=-2) (by simp)
 rw[Qn];exact this
def muW:Sg->Nat
 |[_,_,some (.lst w)]=>40 - w.length
 |_=>0
theorem zg2{ns:List Str}{adj:Str->Str->Bool}(g:Gr ns adj){O:Org}(F:Fo ns adj O){x:Str}{w:List Str}(hw:Way O x w):zc4 [.fd (zbN O),.str x]=some (.lst (w.map T.str)):=by
 have wl:w.length<=30:=by
  have:=zcb _ _ (hw.nodup F.nd) (fun y hy=>F.sub y (hw.key y hy));have:=g.len;lia
 have key:Run zcB [some (.fd (zbN O)),some (.str x),none] fun r=>∃ s,r=.rt (.lst (w.map T.str)) s:=by
  unfold zcB;refine za5 (by simp_all?[]<;>rfl) ?_
  obtain⟨w0,rfl⟩:=hw.head;have at_:∀ {a:List Str} {z:Str} {c:List Str},x::w0=a++z::c->∃ o,za7 (.fd (zbN O)) (.str z)=some (zit o)/\(match o with |none=>c=[] |some p=>∃ c',c=p::c'):=fun {a z c} e=>by
   have k:=hw.from e;cases k with
   |root h=>exact⟨none,zmZ F.nd h,rfl⟩
   |step h k2=>
    obtain⟨t,ht⟩:=k2.head;exact⟨_,zmZ F.nd h,t,ht⟩
  refine zdA (fun s=>∃ a z c,x::w0=a++z::c/\s=[some (.fd (zbN O)),some (.str x),some (.lst ((a++[z]).map T.str))]) muW ?_ ⟨[],x,w0,rfl,rfl⟩ ?_ ?_
  ·show 40 - 1 < 100;lia
  ·rintro s ⟨a,z,c,e,rfl⟩;obtain⟨o,h1,h2⟩:=at_ e;have hl:(x::w0).length=a.length+c.length+1:=by rw[e]; simp; lia
   cases o with
   |none=>exact⟨false,_,by simp_all?[zdI,h1,zit,zbu,isN]<;>rfl,trivial⟩
   |some p=>
    obtain⟨c',rfl⟩:=h2;refine⟨true,_,by simp_all?[zdI,h1,zit,zbu,isN]<;>rfl,?_⟩
    rw[Ip_ rfl];refine zam (s':=[some (.fd (zbN O)),some (.str x),some (.lst (((a++[z])++[p]).map T.str))]) (by simp_all?[zdI,h1,zit,zsm (xs:=a++[z]) p (by simp; lia)]) ⟨⟨a++[z],p,c',by rw[e]; simp,rfl⟩,?_⟩
    show 40 - (((a++[z])++[p]).map T.str).length < 40 - ((a++[z]).map T.str).length;have hl3:a.length+(p::c').length+1<=30:=by rw[<-hl]; exact wl
    rw[jp] at hl3;have e9:(((a++[z])++[p]).map T.str).length=a.length+2:=by simp
    have e8:((a++[z]).map T.str).length=a.length+1:=by simp
    rw[e9,e8];lia
  ·rintro s0 s' ⟨a,z,c,e,rfl⟩ hf;obtain⟨o,h1,h2⟩:=at_ e;cases o with
   |none=>
    have h2:c=[]:=h2;subst h2;have h3:dB (d2 zbu (d2 za7 (dV 0) (d2v za7 2 (d1 zm5 (dC (.int 1))))) (dC .non)) [some (.fd (zbN O)),some (.str x),some (.lst ((a++[z]).map T.str))]=some (false,[some (.fd (zbN O)),some (.str x),some (.lst ((a++[z]).map T.str))]):=by simp_all?[zdI,h1,zit,zbu,isN]<;>rfl
    rw[h3] at hf;injection hf with hf;injection hf with _ hf;subst hf;exact zb5 (by simp_all?[]<;>rfl) (by rw[e])
   |some p=>
    have h3:dB (d2 zbu (d2 za7 (dV 0) (d2v za7 2 (d1 zm5 (dC (.int 1))))) (dC .non)) [some (.fd (zbN O)),some (.str x),some (.lst ((a++[z]).map T.str))]=some (true,[some (.fd (zbN O)),some (.str x),some (.lst ((a++[z]).map T.str))]):=by simp_all?[zdI,h1,zit,zbu,isN]<;>rfl
    rw[h3] at hf;cases hf
 first
  |exact zi9 key
  |exact zc0 key
theorem zqh(n:List Str)(m:Str):gSl (.lst ((n++[m]).map T.str)) none (some (-1))=some (.lst (n.map T.str)):=by
 show some (T.lst (zfC ((n++[m]).map T.str) none (some (-1))))=_;refine congrArg some (congrArg T.lst ?_);unfold zfC HT.sIx;simp;have:(-1+((n.length:Int)+1)).toNat=n.length:=by lia
 rw[this];simp
theorem zns(n:List Str):zuD (.lst (n.map T.str))=some (.lst (n.reverse.map T.str)):=by
 show some (T.lst (n.map T.str).reverse)=_;rw[List.map_reverse]
theorem gt1(a:List Str)(m:Str):decide ((1:Int) < (((a++[m]).length:Nat):Int))=!a.isEmpty:=by
 cases a with
 |nil=>rfl
 |cons c a=>rw[Dt_ (by simp; lia)]; rfl
def muR:Sg->Nat
 |[_,_,_,some (.lst w),_]=>w.length
 |_=>0
def zuo(f n:List Str):Prop:=f=[]∨n=[]∨f.getLast?≠n.getLast?
theorem zgj{ns:List Str}{adj:Str->Str->Bool}(g:Gr ns adj){O:Org}(F:Fo ns adj O){x y:Str}{w w':List Str}(hw:Way O x w)(hw':Way O y w')(hl:w.getLast?=w'.getLast?) :
  ∃ f n c m,w=f++m::c/\w'=n++m::c/\zuo f n/\zbF [.fd (zbN O),.str x,.str y]=some (.lst ((f++m::n.reverse).map T.str)):=by
 have w1:=zg2 g F hw;have w2:=zg2 g F hw';have wl:∀ {z:Str} {u:List Str},Way O z u->u.length<=30:=fun {z u} h=>by
  have:=zcb _ _ (h.nodup F.nd) (fun y hy=>F.sub y (h.key y hy));have:=g.len;lia
 have l1:=wl hw;have l2:=wl hw'
 obtain⟨t,h,f,n,c,m,h1,h2,h3,rfl⟩:=zbV (n:=5) (d:=zaQ) (ts:=[.fd (zbN O),.str x,.str y]) (Q:=fun t=>∃ f n c m,w=f++m::c/\w'=n++m::c/\zuo f n/\t=.lst ((f++m::n.reverse).map T.str)) (by
  show Run zaQ [some (.fd (zbN O)),some (.str x),some (.str y),none,none] _;unfold zaQ;refine za5 (by simp_all?[w1]<;>rfl) (za5 (by simp_all?[w2]<;>rfl) ?_)
  have tst:∀(f n:List Str) (m:Str),f.length+n.length<=100->(zpK (dB (d2 gGt (d1 zdo (dV 3)) (dC (.int 1)))) (zpK (dB (d2 gGt (d1 zdo (dV 4)) (dC (.int 1)))) (dB (d2 gEq (d2v za7 3 (d1 zm5 (dC (.int 2)))) (d2v za7 4 (d1 zm5 (dC (.int 2)))))))) [some (.fd (zbN O)),some (.str x),some (.str y),some (.lst ((f++[m]).map T.str)),some (.lst ((n++[m]).map T.str))]=some (!f.isEmpty&&(!n.isEmpty&&decide (f.getLast?=n.getLast?)),[some (.fd (zbN O)),some (.str x),some (.str y),some (.lst ((f++[m]).map T.str)),some (.lst ((n++[m]).map T.str))]):=by
   intro f n m hfn
   by_cases hf:f=[]
   ·subst hf
    simp_all?[gt1]
    rfl
   ·obtain⟨f',u,rfl⟩:∃ f' u,f=f'++[u]:=⟨f.dropLast,f.getLast hf,(Q1 hf).symm⟩;have e1:(f'++[u]).isEmpty=false:=by simp
    by_cases hn:n=[]
    ·subst hn
     simp_all?[gt1,e1]
     rfl
    ·obtain⟨n',v,rfl⟩:∃ n' v,n=n'++[v]:=⟨n.dropLast,n.getLast hn,(Q1 hn).symm⟩;have e2:(n'++[v]).isEmpty=false:=by simp
     have e3:decide ((f'++[u]).getLast?=(n'++[v]).getLast?)=decide (u=v):=by simp
     simp_all?[gt1,e1,e2,e3,zlL,JS]
  refine zdA (fun s=>∃ f n c m,w=f++m::c/\w'=n++m::c/\s=[some (.fd (zbN O)),some (.str x),some (.str y),some (.lst ((f++[m]).map T.str)),some (.lst ((n++[m]).map T.str))]) muR ?_ ?_ ?_ ?_
  ·show (w.map T.str).length < 100;rw[j6]; lia
  ·obtain⟨t,rfl⟩:=hw.head;obtain⟨t',rfl⟩:=hw'.head;have n1:x::t≠[]:=by simp
   have n2:y::t'≠[]:=by simp
   have e1:=(Q1 n1).symm;have e2:=(Q1 n2).symm;have e3:(x::t).getLast n1=(y::t').getLast n2:=by
    rw[Y3 n1,Y3 n2] at hl;exact jf hl
   rw[<-e3] at e2;exact⟨_,_,[],_,e1,e2,by rw[<-e1,<-e2]⟩
  ·rintro s ⟨f,n,c,m,e1,e2,rfl⟩;have hfn:f.length+n.length<=100:=by
    rw[e1] at l1;rw[e2] at l2;simp at l1 l2;lia
   refine⟨_,_,tst f n m hfn,?_⟩;split
   ·rename_i hb;rw[jL,jL] at hb;obtain⟨b1,b2,b3⟩:=hb;have hf:f≠[]:=by intro e; subst e; cases b1
    have hn:n≠[]:=by intro e; subst e; cases b2
    obtain⟨f',u,rfl⟩:∃ f' u,f=f'++[u]:=⟨f.dropLast,f.getLast hf,(Q1 hf).symm⟩;obtain⟨n',v,rfl⟩:∃ n' v,n=n'++[v]:=⟨n.dropLast,n.getLast hn,(Q1 hn).symm⟩;have:u=v:=by have:=of_decide_eq_true b3; simpa using this
    subst this;refine za5 (by simp_all?[zux]<;>rfl) ?_
    refine zam (by simp_all?[zux]<;>rfl) ⟨⟨f',n',m::c,u,by rw[e1]; simp,by rw[e2]; simp,rfl⟩,?_⟩
    show ((f'++[u]).map T.str).length < (((f'++[u])++[m]).map T.str).length;simp
   ·trivial
  ·rintro s0 s' ⟨f,n,c,m,e1,e2,rfl⟩ hf;have hfn:f.length+n.length<=100:=by
    rw[e1] at l1;rw[e2] at l2;simp at l1 l2;lia
   rw[tst f n m hfn] at hf;injection hf with hf;injection hf with hf1 hf2;subst hf2;refine zav (by simp_all?[zqh,zns]<;>rfl) ⟨_,_,rfl,f,n,c,m,e1,e2,?_,by simp⟩
   by_cases q1:f=[]
   ·exact .inl q1
   ·by_cases q2:n=[]
    ·exact .inr (.inl q2)
    ·refine .inr (.inr fun q3=>?_);have i1:f.isEmpty=false:=by simpa using q1
     have i2:n.isEmpty=false:=by simpa using q2
     rw[i1,i2,Dt_ q3] at hf1
     cases hf1)
 exact⟨f,n,c,m,h1,h2,h3,h⟩
theorem zwN(a b:T):za7 (.tup [a,b]) (.int 0)=some a:=rfl
theorem zwM(a b:T):za7 (.tup [a,b]) (.int 1)=some b:=rfl
structure RingOk (ns:List Str) (adj:Str->Str->Bool) (r:List Str):Prop where
 nd:r.Nodup
 sub:∀ x∈r,x∈ns
 len:3<=r.length
 chn:Chn (fun a b=>adj a b=true) r
 ends:∃ x y,r.head?=some x/\r.getLast?=some y/\adj y x=true/\((if evn ns adj y x then 1 else 0)+evs (evn ns adj) r)%2=1
structure SidesOk (ns:List Str) (adj:Str->Str->Bool) (sd:Str->Bool):Prop where
 even:∀ x∈ns,(mts ns adj x).length%2=0
 pair:∀ x∈ns,∀ y∈ns,¬ zdj ns adj x y
 fit:∀ x∈ns,∀ y∈ns,adj x y=true->evn ns adj x y=(sd x != sd y)
inductive Told (ns:List Str) (adj:Str->Str->Bool):T->Prop
 |odd (x:Str) (hx:x∈ns) (h:(mts ns adj x).length%2=1):Told ns adj (.tup [.str "odd",.str x])
 |pair (x y:Str) (hx:x∈ns) (hy:y∈ns) (h:zdj ns adj x y):Told ns adj (.tup [.str "pair",.str x,.str y])
 |ring (r:List Str) (h:RingOk ns adj r):Told ns adj (.tup [.str "ring",.lst (r.map T.str)])
 |sides (sd:Str->Bool) (h:SidesOk ns adj sd):Told ns adj (.tup [.str "sides",.lst (ns.map fun x=>.int (bI (sd x)))])
theorem zfF{ns:List Str}{adj:Str->Str->Bool}(g:Gr ns adj)(he:∀ x∈ns,(mts ns adj x).length%2=0)(hp:∀ x∈ns,∀ y∈ns,¬ zdj ns adj x y):∃ t,zbv [zak ns adj]=some t/\Told ns adj t:=by
 obtain⟨O,h1,F,hall⟩:=zi8 g;have h2:=zgZ g F;generalize hsd:zf0 (evn ns adj) O=sd at h2;obtain⟨r,h3,hr1,hr2⟩:=zhv g (sd:=sd) (l:=kys O) hall;refine zbV (n:=4) (d:=zaE) (ts:=[zak ns adj]) (Q:=Told ns adj) ?_;show Run zaE [some (zak ns adj),none,none,none] _;unfold zaE;refine za5 (by simp_all?[h1]<;>rfl) (za5 (by simp_all?[h2]<;>rfl) ?_)
 cases r with
 |none=>
  have hfit:=hr2 rfl;refine za5 (by simp_all?[h3]<;>rfl) (za5 (by simp_all?[zbu,isN]<;>rfl) ?_)
  have e:=zbS (M:=[]) (caps:=[none,some 2]) (fi:=zcs (dV 0)) (dg:=dGn 0) (fe:=d2 za7 (dV 1) (dV 0)) (s:=[some (zak ns adj),some (.fd (zbN O)),some (.fd (zbk sd (kys O))),some .non]) ns T.str (fun x=>.int (bI (sd x))) (zcd ns adj _ _ _ rfl) (by have:=g.len; lia) (by
   intro x hx;have sx:za7 (.fd (zbk sd (kys O))) (.str x)=some (.int (bI (sd x))):=by rw[zg4]; exact zfQ (hall x hx)
   exact⟨_,by simp_all?[]<;>rfl,by simp_all?[sx],rfl⟩)
  exact zav (by simp_all?[e]<;>rfl) ⟨_,_,rfl,.sides sd ⟨he,hp,hfit⟩⟩
 |some xy=>
  obtain⟨x,y⟩:=xy;obtain⟨hx,hy,ha,hw⟩:=hr1 x y rfl;obtain⟨w,hwx⟩:=F.way x (hall x hx);obtain⟨w',hwy⟩:=F.way y (hall y hy);have hl:=F.rt x (hall x hx) y (hall y hy) ha w w' hwx hwy;obtain⟨f,n,c,m,e1,e2,he3,h4⟩:=zgj g F hwx hwy hl;rw[e1] at hwx;rw[e2] at hwy;have hyx:adj y x=true:=by rw[<-g.sym x hx y hy]; exact ha
  have hw2:evn ns adj y x≠(sd y != sd x):=by
   rw[zkk];intro q;apply hw;rw[q];cases sd x<;>cases sd y<;>rfl
  obtain⟨k1,k2,k3,k4,k5,k6,k7⟩:=zqp (adj:=adj) (ev:=evn ns adj) (sd:=sd) F.nd (fun a b hab=>by rw[<-hsd]; exact F.edge g hab) hwx hwy he3 (g.irr x hx) hyx hw2 (zkk _ _ _ _)
  refine za5 (by simp_all?[h3]<;>rfl) (zhd (by simp_all?[zbu,isN,zwN,zwM,h4]<;>rfl) ⟨_,_,rfl,.ring _ ⟨k1,fun z hz=>F.sub z (k2 z hz),k3,k4,x,y,k5,k6,hyx,k7⟩⟩)
theorem zgB{wd:List Str}(g:GoodWord wd):Gr (za1 wd) (crs wd):=by
 refine⟨zcz wd,fun x hx y hy=>zrC g (mem_firsts.mp hx) (mem_firsts.mp hy),fun x hx=>zoX g (mem_firsts.mp hx),?_⟩;have:=zg5 g.two;have:=g.len;lia
theorem zne{wd:List Str}(gw:GoodWord wd):∃ t,zbh [.lst (wd.map T.str)]=some t/\Told (za1 wd) (crs wd) t:=by
 have g:=zgB gw;have gl:=gw.len;have hn:=zd7 (wd:=wd) (by lia)
 obtain⟨r,h1,o1,o2⟩:=zk1 g;obtain⟨r2,h2,p1,p2⟩:=zk0 g;refine zbV (n:=4) (d:=zcV) (ts:=[.lst (wd.map T.str)]) (Q:=Told (za1 wd) (crs wd)) ?_;show Run zcV [some (.lst (wd.map T.str)),none,none,none] _;unfold zcV;have hf:=zgG wd
 have e:=zu7 (M:=[]) (caps:=[none,some 0]) (fi:=zcs (zaj zaq (dAc (dV 0) dAn))) (dg:=dGn 0) (fk:=dV 0) (fe:=zaj zau (dAc (dV 1) (dAc (dV 0) dAn))) (s:=[some (.lst (wd.map T.str)),none,none,none]) (za1 wd) T.str T.str Zl (fun x=>.lst ((mts (za1 wd) (crs wd) x).map T.str)) (by simp_all?[hn]) (by lia) (gR.mpr ((zcz wd).imp fun h e=>h (ZM e))) (by
  intro x hx;obtain⟨i,j,hp⟩:=gw.places (mem_firsts.mp hx);have hc:=zdM (wd:=wd) (by lia) hp
  refine⟨_,by simp_all?[]<;>rfl,by simp_all?[],rfl,?_,rfl⟩
  simp_all?[hc]
  rfl)
 refine za5 (by simp_all?[e]<;>rfl) ?_
 have fz:T.fd ((za1 wd).map fun x=>((Zl x:Key),T.lst ((mts (za1 wd) (crs wd) x).map T.str)))=zak (za1 wd) (crs wd):=rfl;cases r with
 |some x=>
  obtain⟨hx,ho⟩:=o1 x rfl;refine za5 (by simp_all?[fz,h1]<;>rfl) (zhd (by simp_all?[zit,zbu,isN]<;>rfl) ⟨_,_,rfl,.odd x hx ho⟩)
 |none=>
  have ho:=o2 rfl;refine za5 (by simp_all?[fz,h1]<;>rfl) (za5 (by simp_all?[zit,zbu,isN]<;>rfl) ?_)
  cases r2 with
  |some xy=>
   obtain⟨x,y⟩:=xy;obtain⟨hx,hy,hxy⟩:=p1 x y rfl;refine za5 (by simp_all?[h2]<;>rfl) (zhd (by simp_all?[zbu,isN,zwN,zwM]<;>rfl) ⟨_,_,rfl,.pair x y hx hy hxy⟩)
  |none=>
   obtain⟨t,h3,tt⟩:=zfF g ho (p2 rfl);refine za5 (by simp_all?[h2]<;>rfl) (za5 (by simp_all?[zbu,isN]<;>rfl) ?_)
   exact zav (by simp_all?[h3]<;>rfl) ⟨_,_,rfl,tt⟩
def zcr(r:List Nat):T:=.lst (r.map nT)
def zaG(f:Nat->Nat)(k s:Nat):List Nat:=(j5 k).map fun i=>itr f i s
theorem zc9(f:Nat->Nat)(k s:Nat):zaG f (k+1) s=zaG f k s++[itr f k s]:=by unfold zaG; rw[Yl,jF]; rfl
theorem ziE{f:Nat->Nat}{k s:Nat}(h:itr f k s∈zaG f k s):∀ m,itr f m s∈zaG f k s:=by
 obtain⟨i,hi,e⟩:=jA.mp h;have hi:=ji.mp hi;intro m
 induction m using Nat.strongRecOn with
 |_ m ih=>
  by_cases hm:m < k
  ·exact jA.mpr ⟨m,ji.mpr hm,rfl⟩
  ·have e1:itr f m s=itr f (m - k+i) s:=by
    rw[zfd,e,<-zfd,show m - k+k=m by lia]
   rw[e1];exact ih _ (by lia)
def zp8(f:Nat->Nat)(s:Nat)(r:List Nat):Prop:=∃ k,r=zaG f k s/\0 < k/\(zaG f k s).Nodup/\itr f k s∈zaG f k s
structure RowsL (f:Nat->Nat) (rows:List (List Nat)) (L:List Nat) (s:Nat):Prop where
 len:rows.length=L.length
 lt:∀ x∈L,x < s
 srt:L.Pairwise fun x y=>x < y
 row:∀(i x:Nat) (r:List Nat),L[i]?=some x->rows[i]?=some r->zp8 f x r
 le:∀ x,x < s->∃ t∈L,t<=x/\Orb f t x
theorem RowsL.nil(f:Nat->Nat):RowsL f [] [] 0:=⟨rfl,fun x hx=>(by cases hx),.nil,fun i x r h=>by simp at h,fun x hx=>by lia⟩
theorem RowsL.skip{f:Nat->Nat}{rows:List (List Nat)}{L:List Nat}{s:Nat}(h:RowsL f rows L s)(hs:∃ t∈L,Orb f t s):RowsL f rows L (s+1):=
 ⟨h.len,fun x hx=>Qv (h.lt x hx),h.srt,h.row,fun x hx=>by
  by_cases q:x=s
  ·obtain⟨t,ht,o⟩:=hs;exact⟨t,ht,by rw[q]; exact Z1 (h.lt t ht),by rw[q]; exact o⟩
  ·exact h.le x (by lia)⟩
theorem RowsL.snoc{f:Nat->Nat}{rows:List (List Nat)}{L:List Nat}{s:Nat}{r:List Nat}(h:RowsL f rows L s)(hr:zp8 f s r):RowsL f (rows++[r]) (L++[s]) (s+1):=by
 refine⟨by rw[jk,jk,h.len]; rfl,fun x hx=>?_,?_,fun i x r' hx hr'=>?_,fun x hx=>?_⟩
 ·rcases ju.mp hx with q |q
  ·exact Qv (h.lt x q)
  ·rw[je.mp q]; exact Z8 s
 ·rw[NU];exact⟨h.srt,by simp,fun x hx y hy=>by rw[je.mp hy]; exact h.lt x hx⟩
 ·by_cases q:i < L.length
  ·rw[Q3 q] at hx;rw[Q3 (by rw[h.len]; exact q)] at hr'
   exact h.row i x r' hx hr'
  ·have hi:i=L.length:=by
    have:=(j7.mp hx).1;rw[jk,Zj] at this;lia
   subst hi;rw[Q7 (jm _),Nat.sub_self] at hx;rw[<-h.len,Q7 (jm _),Nat.sub_self] at hr';obtain rfl:=jf hx;obtain rfl:=jf hr';exact hr
 ·by_cases q:x=s
  ·exact⟨s,by simp,by lia,by rw[q]; exact Orb.refl f s⟩
  ·obtain⟨t,ht,o⟩:=h.le x (by lia)
   exact⟨t,jn _ ht,o⟩
def Rws(n:Nat)(f:Nat->Nat)(rows:List (List Nat)):Prop:=∃ L,Trav n (Orb f) L/\RowsL f rows L n
structure Wkd (n:Nat) (f:Nat->Nat) (S:Int->Bool) (m:Nat) (Wl L:List Nat) (s:Nat):Prop where
 set:∀ x:Nat,S (x:Int)=true↔x∈Wl
 len:m=Wl.length
 nd:Wl.Nodup
 lt:∀ x∈Wl,x < n
 mem:∀ x,x∈Wl↔x < n/\∃ t∈L,Orb f t x
 ltL:∀ x∈L,x < n
 one:L.Pairwise fun x y=>¬ Orb f x y
 all:∀ x,x < s->∃ t∈L,Orb f t x
def zxT:T->Nat
 |.lst xs=>xs.length
 |_=>0
def zw7(s:Sg):Nat:=300 - zxT ((s[4]?).join.getD .non) - 1
theorem ztN{n:Nat}{f:Nat->Nat}{x:Nat}(hx:x < n):za7 (.lst (((j5 n).map f).map nT)) (.int (x:Int))=some (.int (f x:Nat)):=by
 rw[zfq,jg,jg,ZF hx]; rfl
theorem zmx{n:Nat}{f:Nat->Nat}(hf:Perm1 n f)(hn:n<=120):∃ rows:List (List Nat),zeo [.lst (((j5 n).map f).map nT)]=some (.lst (rows.map zcr))/\Rws n f rows:=by
 obtain⟨t,e,rows,rfl,hT⟩:=zbV (n:=6) (d:=zdY) (ts:=[.lst (((j5 n).map f).map nT)]) (Q:=fun t=>∃ rows:List (List Nat),t=.lst (rows.map zcr)/\Rws n f rows) (by
  show Run _ [some (.lst (((j5 n).map f).map nT)),none,none,none,none,none] _;unfold zdY;have la:(((j5 n).map f).map nT).length=n:=by simp
  generalize hA:(((j5 n).map f).map nT)=A at la;refine za5 (s':=[some (.lst A),some (.lst []),none,none,none,none]) (by simp_all?[]<;>rfl) ?_
  refine za5 (s':=[some (.lst A),some (.lst []),some (.set (fun _=>false) 0),none,none,none]) (by simp_all?[]<;>rfl) ?_
  have r1:zgk (n:Int)=true:=zej (by lia) (by lia)
  refine zbR (its:=zaU 0 n) (fun s st=>∃(rows:List (List Nat)) (L Wl:List Nat) (S:Int->Bool) (m:Nat) (a b c:Option T),st=[some (.lst A),some (.lst (rows.map zcr)),some (.set S m),a,b,c]/\Wkd n f S m Wl L s/\RowsL f rows L s/\rows.length<=s)
   (by simp_all?[la,r1,Qa]<;>rfl) ⟨[],[],[],fun _=>false,0,none,none,none,rfl,⟨fun x=>by simp,rfl,Zo,fun x hx=>by simp at hx,fun x=>by simp,fun x hx=>by simp at hx,WJ,fun x hx=>by lia⟩,RowsL.nil f,jm _⟩ ?_ ?_
  ·rintro s z st hz ⟨rows,L,Wl,S,m,a,b,c,rfl,hW,hrl,hrs⟩;obtain⟨hs,rfl⟩:s < n/\z=.int (s:Int):=by
    obtain⟨h1,h2⟩:=ziL hz;exact⟨h1,by rw[h2,Nu]⟩
   refine⟨[some (.lst A),some (.lst (rows.map zcr)),some (.set S m),some (.int (s:Int)),b,c],rfl,?_⟩;refine za5 (s':=[some (.lst A),some (.lst (rows.map zcr)),some (.set S m),some (.int (s:Int)),some (.lst []),c]) (by simp_all?[]<;>rfl) ?_
   refine za5 (s':=[some (.lst A),some (.lst (rows.map zcr)),some (.set S m),some (.int (s:Int)),some (.lst []),some (.int (s:Int))]) (by simp_all?[]<;>rfl) ?_
   refine zdA (fun st=>∃(k:Nat) (S':Int->Bool) (m':Nat),st=[some (.lst A),some (.lst (rows.map zcr)),some (.set S' m'),some (.int (s:Int)),some (.lst ((zaG f k s).map nT)),some (.int ((itr f k s:Nat):Int))]/\(∀ x:Nat,S' (x:Int)=true↔x∈Wl++zaG f k s)/\m'=(Wl++zaG f k s).length/\(Wl++zaG f k s).Nodup) zw7 ?_ ⟨0,S,m,rfl,by simpa[zaG] using hW.set,by simpa[zaG] using hW.len,by simpa[zaG] using hW.nd⟩ ?_ ?_
   ·show 300 - 0 - 1 < 300;lia
   ·rintro st ⟨k,S',m',rfl,h1,h2,h3⟩;have hx:=hf.itr_lt k hs;have hlen:(Wl++zaG f k s).length<=n:=by
     have:=zgw (m:=j5 n) h3 fun x hx=>by
      refine ji.mpr ?_;rcases ju.mp hx with q |q
      ·exact hW.lt x q
      ·obtain⟨i,_,rfl⟩:=jA.mp q;exact hf.itr_lt i hs
     rwa [QH] at this
    refine⟨!S' ((itr f k s:Nat):Int),[some (.lst A),some (.lst (rows.map zcr)),some (.set S' m'),some (.int (s:Int)),some (.lst ((zaG f k s).map nT)),some (.int ((itr f k s:Nat):Int))],by simp_all?[show zlQ (.int ((itr f k s:Nat):Int)) (.set S' m')=some (.bl (!S' ((itr f k s:Nat):Int))) from rfl],?_⟩
    split
    ·rename_i hc;have hc':S' ((itr f k s:Nat):Int)=false:=by simpa using hc
     have hni:itr f k s∉Wl++zaG f k s:=fun z=>by rw[(h1 _).mpr z] at hc'; cases hc'
     have hsl:(zaG f k s).length=k:=by unfold zaG; simp
     have hkn:k<=n:=by rw[jk,hsl] at hlen; lia
     refine za5 (s':=[some (.lst A),some (.lst (rows.map zcr)),some (.set (fun j=>S' j||decide (j=((itr f k s:Nat):Int))) (if S' ((itr f k s:Nat):Int) then m' else m'+1)),some (.int (s:Int)),some (.lst ((zaG f k s).map nT)),some (.int ((itr f k s:Nat):Int))]) (by
      simp_all?[show m' < 1000 by lia]) ?_
     refine za5 (s':=[some (.lst A),some (.lst (rows.map zcr)),some (.set (fun j=>S' j||decide (j=((itr f k s:Nat):Int))) (if S' ((itr f k s:Nat):Int) then m' else m'+1)),some (.int (s:Int)),some (.lst ((zaG f (k+1) s).map nT)),some (.int ((itr f k s:Nat):Int))]) (by
      simp_all?[zmc,zc9,jF,jt,Zz]<;>rfl) ?_
     have it:=ztN (f:=f) hx;rw[hA] at it;refine zam (s':=[some (.lst A),some (.lst (rows.map zcr)),some (.set (fun j=>S' j||decide (j=((itr f k s:Nat):Int))) (if S' ((itr f k s:Nat):Int) then m' else m'+1)),some (.int (s:Int)),some (.lst ((zaG f (k+1) s).map nT)),some (.int ((itr f (k+1) s:Nat):Int))]) (by simp_all?[it]<;>rfl) ⟨⟨k+1,_,_,rfl,fun x=>?_,?_,?_⟩,?_⟩
     ·rw[Zc,h1,decide_eq_true_iff,zc9,<-Qn];constructor
      ·rintro(q |q)
       ·exact jn _ q
       ·exact jz _ (je.mpr (by lia))
      ·intro q;rcases ju.mp q with q |q
       ·exact .inl q
       ·exact .inr (by have:=je.mp q; lia)
     ·rw[hc',In_ (by simp),zc9,<-Qn,jk,<-h2]; rfl
     ·rw[zc9,<-Qn,jP];exact⟨h3,by simp,fun x hx y hy e=>hni (by rw[je] at hy; subst hy; exact e▸hx)⟩
     ·show 300 - ((zaG f (k+1) s).map nT).length - 1 < 300 - ((zaG f k s).map nT).length - 1;rw[j6,j6,zc9,jk,hsl];simp;lia
    ·trivial
   ·rintro st0 st' ⟨k,S',m',rfl,h1,h2,h3⟩ hfalse;have hE:dB (d2 zlQ (dV 5) (dV 2)) [some (.lst A),some (.lst (rows.map zcr)),some (.set S' m'),some (.int (s:Int)),some (.lst ((zaG f k s).map nT)),some (.int ((itr f k s:Nat):Int))]=some (!S' ((itr f k s:Nat):Int),[some (.lst A),some (.lst (rows.map zcr)),some (.set S' m'),some (.int (s:Int)),some (.lst ((zaG f k s).map nT)),some (.int ((itr f k s:Nat):Int))]):=by simp_all?[show zlQ (.int ((itr f k s:Nat):Int)) (.set S' m')=some (.bl (!S' ((itr f k s:Nat):Int))) from rfl]
    rw[hE] at hfalse;injection hfalse with hfalse;injection hfalse with hb hst;subst hst;have hin:itr f k s∈Wl++zaG f k s:=(h1 _).mp (by simpa using hb)
    cases k with
    |zero=>
     have hsW:s∈Wl:=by simpa[zaG,itr] using hin
     refine zam (s':=[some (.lst A),some (.lst (rows.map zcr)),some (.set S' m'),some (.int (s:Int)),some (.lst ((zaG f 0 s).map nT)),some (.int ((itr f 0 s:Nat):Int))]) (by simp_all?[zaG,NG,Zz]<;>rfl) ⟨rows,L,Wl,S',m',_,_,_,rfl,⟨by simpa[zaG] using h1,by simpa[zaG] using h2,hW.nd,hW.lt,hW.mem,hW.ltL,hW.one,fun x hx=>?_⟩,hrl.skip ((hW.mem s).mp hsW).2,by lia⟩
     by_cases q:x=s
     ·rw[q]; exact((hW.mem s).mp hsW).2
     ·exact hW.all x (by lia)
    |succ k=>
     have hs0:s∈zaG f (k+1) s:=jA.mpr ⟨0,by simp,rfl⟩
     have hsn:s∉Wl:=fun z=>(jP.mp h3).2.2 s z s hs0 rfl;have hin2:itr f (k+1) s∈zaG f (k+1) s:=by
      rcases ju.mp hin with q |q
      ·exfalso
       obtain⟨_,t,ht,o⟩:=(hW.mem _).mp q;have o2:Orb f (itr f (k+1) s) s:=Orb.symm hf hs ⟨k+1,rfl⟩;exact hsn ((hW.mem s).mpr ⟨hs,t,ht,o.trans o2⟩)
      ·exact q
     have hall:=ziE hin2;have hro:((zaG f (k+1) s).map nT).isEmpty=false:=by rw[zc9]; simp
     refine zam (s':=[some (.lst A),some (.lst ((rows++[zaG f (k+1) s]).map zcr)),some (.set S' m'),some (.int (s:Int)),some (.lst ((zaG f (k+1) s).map nT)),some (.int ((itr f (k+1) s:Nat):Int))]) (by simp_all?[hro,zmc,jF,jt,Zz,zcr]<;>rfl) ⟨rows++[zaG f (k+1) s],L++[s],Wl++zaG f (k+1) s,S',m',_,_,_,rfl,⟨h1,h2,h3,fun x hx=>?_,fun x=>?_,fun x hx=>?_,?_,fun x hx=>?_⟩,hrl.snoc ⟨k+1,rfl,Nat.succ_pos k,(jP.mp h3).2.1,hin2⟩,by rw[jk,Zj]; lia⟩
     ·rcases ju.mp hx with q |q
      ·exact hW.lt x q
      ·obtain⟨i,_,rfl⟩:=jA.mp q;exact hf.itr_lt i hs
     ·rw[ju,hW.mem];constructor
      ·rintro(⟨q1,t,ht,o⟩ |q)
       ·exact⟨q1,t,jn _ ht,o⟩
       ·obtain⟨i,_,rfl⟩:=jA.mp q;exact⟨hf.itr_lt i hs,s,by simp,i,rfl⟩
      ·rintro⟨q1,t,ht,o⟩;rcases ju.mp ht with q |q
       ·exact .inl ⟨q1,t,q,o⟩
       ·rw[je.mp q] at o;obtain⟨i,rfl⟩:=o;exact .inr (hall i)
     ·rcases ju.mp hx with q |q
      ·exact hW.ltL x q
      ·rw[je.mp q]; exact hs
     ·rw[NU];refine⟨hW.one,by simp,fun x hx y hy o=>?_⟩
      rw[je.mp hy] at o;exact hsn ((hW.mem s).mpr ⟨hs,x,hx,o⟩)
     ·by_cases q:x=s
      ·exact⟨s,by simp,by rw[q]; exact Orb.refl f s⟩
      ·obtain⟨t,ht,o⟩:=hW.all x (by lia)
       exact⟨t,jn _ ht,o⟩
  ·rintro st ⟨rows,L,Wl,S,m,a,b,c,rfl,hW,hrl,hrs⟩;rw[ziK] at hW hrl;have q:zal [] (dV 1) [some (.lst A),some (.lst (rows.map zcr)),some (.set S m),a,b,c]=some (.rt (.lst (rows.map zcr)) [some (.lst A),some (.lst (rows.map zcr)),some (.set S m),a,b,c]):=by simp_all?[]
   exact zav q ⟨_,_,rfl,rows,rfl,L,⟨hW.ltL,hW.one,hW.all⟩,hrl⟩)
 exact⟨rows,e,hT⟩
def Ew(n w:Nat):Nat:=if w%2=1 then w - 1 else if w / 2+1=n then 1 else w+3
def Bw(n e:Nat):Nat:=if e%2=0 then e else if e=1 then 2*n - 1 else e - 2
def fl(w:Nat):Nat:=if w%2=0 then w+1 else w - 1
theorem znZ{n w:Nat}(h:w < 2*n):Ew n w < 2*n:=by
 unfold Ew;split
 ·lia
 ·split<;>lia
theorem zwI{n e:Nat}(h:e < 2*n):Bw n e < 2*n:=by
 unfold Bw;split
 ·lia
 ·split<;>lia
theorem zu1(w:Nat):fl (fl w)=w:=by unfold fl; split<;>split<;>lia
theorem zwF{n e:Nat}(h:e < 2*n):Ew n (fl (Bw n e))=e:=by
 by_cases h0:e%2=0
 ·have b:Bw n e=e:=Ip_ h0;have f:fl e=e+1:=Ip_ h0;rw[b,f];unfold Ew;rw[Ip_ (by lia)]
  lia
 ·by_cases h1:e=1
  ·have b:Bw n e=2*n - 1:=by unfold Bw; rw[In_ h0,Ip_ h1]
   have f:fl (2*n - 1)=2*n - 2:=by unfold fl; rw[In_ (by lia)]; lia
   rw[b,f];unfold Ew;rw[In_ (by lia),Ip_ (by lia),h1]
  ·have b:Bw n e=e - 2:=by unfold Bw; rw[In_ h0,In_ h1]
   have f:fl (e - 2)=e - 3:=by unfold fl; rw[In_ (by lia)]; lia
   rw[b,f];unfold Ew;rw[In_ (by lia),In_ (by lia)]
   lia
theorem zwJ{n w:Nat}(h:w < 2*n):Bw n (Ew n w)=fl w:=by
 by_cases h0:w%2=1
 ·have b:Ew n w=w - 1:=Ip_ h0;have f:fl w=w - 1:=In_ (by lia)
  rw[b,f];exact Ip_ (by lia)
 ·have f:fl w=w+1:=Ip_ (by lia)
  by_cases h1:w / 2+1=n
  ·have b:Ew n w=1:=by unfold Ew; rw[In_ h0,Ip_ h1]
   rw[b,f];unfold Bw;rw[In_ (by lia),Ip_ rfl]
   lia
  ·have b:Ew n w=w+3:=by unfold Ew; rw[In_ h0,In_ h1]
   rw[b,f];unfold Bw;rw[In_ (by lia),In_ (by lia)]
   lia
def ptn(wd:List Str)(p:Nat):Nat:=match zae wd (wd.getD p jB) with
 |[i,j]=>if p=i then j else i
 |_=>p
theorem zpm{wd:List Str}(g:∀ x∈wd,wd.count x=2){p:Nat}(hp:p < wd.length):∃ i j,zae wd wd[p]=[i,j]/\i < j/\j < wd.length/\wd[i]?=some wd[p]/\wd[j]?=some wd[p]/\((p=i/\ptn wd p=j)∨(p=j/\ptn wd p=i)):=by
 obtain⟨i,j,e⟩:=zca (g wd[p] (Q5 hp));obtain⟨h1,h2⟩:=zaV e;have hm:p∈zae wd wd[p]:=jQ.mpr ⟨ji.mpr hp,Dt_ (j3 hp)⟩;have ei:=zbm (wd:=wd) (x:=wd[p]) (k:=i) (by rw[e]; simp)
 have ej:=zbm (wd:=wd) (x:=wd[p]) (k:=j) (by rw[e]; simp)
 refine⟨i,j,e,h1,h2,ei,ej,?_⟩;have eq:ptn wd p=if p=i then j else i:=by
  unfold ptn;rw[jy,j3 hp];show (match zae wd wd[p] with |[i,j]=>if p=i then j else i |_=>p)=_
  rw[e]
 rw[e] at hm;simp at hm;rcases hm with rfl |rfl
 ·exact .inl ⟨rfl,by rw[eq,Ip_ rfl]⟩
 ·exact .inr ⟨rfl,by rw[eq,In_ (by lia)]⟩
theorem zpl{wd:List Str}(g:∀ x∈wd,wd.count x=2){p:Nat}(hp:p < wd.length):ptn wd p < wd.length/\ptn wd p≠p/\ptn wd (ptn wd p)=p/\wd.getD (ptn wd p) jB=wd.getD p jB:=by
 obtain⟨i,j,e,h1,h2,ei,ej,h3⟩:=zpm g hp;have gp:wd.getD p jB=wd[p]:=by rw[jy,j3 hp]; rfl
 have gi:wd.getD i jB=wd[p]:=by rw[jy,ei]; rfl
 have gj:wd.getD j jB=wd[p]:=by rw[jy,ej]; rfl
 have pi:ptn wd i=j:=by
  unfold ptn;rw[gi,e];exact Ip_ rfl
 have pj:ptn wd j=i:=by
  unfold ptn;rw[gj,e];exact In_ (by lia)
 rcases h3 with ⟨rfl,h3⟩ |⟨rfl,h3⟩
 ·rw[h3]; exact⟨h2,by lia,pj,by rw[gj,gp]⟩
 ·rw[h3]; exact⟨by lia,by lia,pi,by rw[gi,gp]⟩
def Aw(wd:List Str)(hd:Str->Bool)(e:Nat):Nat:=2*ptn wd (e / 2)+(if decide (e / 2 < ptn wd (e / 2))=hd (wd.getD (e / 2) jB) then 1 - e%2 else e%2)
theorem zrR{wd:List Str}(g:∀ x∈wd,wd.count x=2)(hd:Str->Bool){e:Nat}(h:e < 2*wd.length):Aw wd hd e < 2*wd.length:=by
 have:=(zpl g (p:=e / 2) (by lia)).1
 unfold Aw;split<;>lia
theorem zwK{wd:List Str}(g:∀ x∈wd,wd.count x=2){hd he:Str->Bool}(hh:∀ x,he x=!hd x){e:Nat}(h:e < 2*wd.length):Aw wd he (Aw wd hd e)=e:=by
 obtain⟨h1,h2,h3,h4⟩:=zpl g (p:=e / 2) (by lia)
 generalize hb:(if decide (e / 2 < ptn wd (e / 2))=hd (wd.getD (e / 2) jB) then 1 - e%2 else e%2)=b
 have b2:b < 2:=by rw[<-hb]; split<;>lia
 have q:Aw wd hd e=2*ptn wd (e / 2)+b:=by unfold Aw; rw[hb]
 rw[q];unfold Aw;rw[show (2*ptn wd (e / 2)+b) / 2=ptn wd (e / 2) by lia,show (2*ptn wd (e / 2)+b)%2=b by lia,h3,h4,hh]
 have low:decide (ptn wd (e / 2) < e / 2)=!decide (e / 2 < ptn wd (e / 2)):=by
  by_cases c:e / 2 < ptn wd (e / 2)
  ·rw[Dt_ c,Df_ (by lia)]; rfl
  ·rw[Df_ c,Dt_ (by lia)]; rfl
 rw[low]
 by_cases c:decide (e / 2 < ptn wd (e / 2))=hd (wd.getD (e / 2) jB)
 ·rw[Ip_ c] at hb;rw[Ip_ (by rw[c]),<-hb]
  lia
 ·rw[In_ c] at hb;rw[In_ (fun z=>c (Bool.not_inj z)),<-hb];lia
def fw(wd:List Str)(hd:Str->Bool)(w:Nat):Nat:=Bw wd.length (Aw wd hd (Ew wd.length w))
theorem znu{wd:List Str}(g:∀ x∈wd,wd.count x=2){hd he:Str->Bool}(hh:∀ x,he x=!hd x){w:Nat}(h:w < 2*wd.length):fw wd he (fl (fw wd hd w))=fl w:=by
 unfold fw;rw[zwF (zrR g hd (znZ h)),zwK g hh (znZ h),zwJ h]
theorem zkh{wd:List Str}(g:∀ x∈wd,wd.count x=2)(hd:Str->Bool):Perm1 (2*wd.length) (fw wd hd):=by
 refine⟨fun w h=>zwI (zrR g hd (znZ h)),fun x y hx hy e=>?_⟩;have a:=znu g (hd:=hd) (he:=fun x=>!hd x) (fun _=>rfl) hx;have b:=znu g (hd:=hd) (he:=fun x=>!hd x) (fun _=>rfl) hy;rw[e,b] at a;rw[<-zu1 x,<-a,zu1]
theorem zaW(p:Key × T)(r:List (Key × T))(k:Key):zaM (p::r) k=if p.1=k then some p.2 else zaM r k:=by
 unfold zaM;rw[Z2]
 by_cases h:p.1=k
 ·rw[Ip_ h,Dt_ h]; rfl
 ·rw[In_ h,Df_ h]
theorem zeL(kvs:List (Key × T))(k k':Key)(v:T):zaM (zf6 kvs k v) k'=if k=k' then some v else zaM kvs k':=by
 unfold zf6;split
 ·rename_i h
  induction kvs with
  |nil=>simp at h
  |cons p r ih=>
   rw[jt]
   by_cases hp:p.1=k
   ·rw[Ip_ hp,zaW,zaW]
    by_cases hk:k=k'
    ·rw[Ip_ hk];show (if p.1=k' then some v else _)=some v
     rw[Ip_ (hp.trans hk)]
    ·rw[In_ hk];show (if p.1=k' then some v else _)=_
     rw[In_ (fun z=>hk (hp.symm.trans z)),In_ (fun z=>hk (hp.symm.trans z))]
     clear ih h
     induction r with
     |nil=>rfl
     |cons q r ih2=>
      rw[jt]
      by_cases hq:q.1=k
      ·rw[Ip_ hq,zaW,zaW];show (if q.1=k' then some v else _)=_
       rw[In_ (fun z=>hk (hq.symm.trans z)),In_ (fun z=>hk (hq.symm.trans z)),ih2]
      ·rw[In_ hq,zaW,zaW,ih2]
   ·rw[In_ hp,zaW,zaW];have h2:(r.any fun kv=>decide (kv.1=k))=true:=by
     rw[Za,Df_ hp,Wm] at h;exact h
    rw[ih h2]
    by_cases hk:k=k'
    ·simp only[Ip_ hk,In_ (fun z:p.1=k'=>hp (z.trans hk.symm))]
    ·simp only[In_ hk]
 ·rename_i h;have h':(kvs.any fun kv=>decide (kv.1=k))=false:=by rw[Bool.not_eq_true] at h; exact h
  clear h
  induction kvs with
  |nil=>
   show zaM [(k,v)] k'=_;rw[zaW]
  |cons p r ih=>
   rw[Za,Bool.or_eq_false_iff] at h';have hp:p.1≠k:=of_decide_eq_false h'.1;rw[Jc,zaW,zaW,ih h'.2]
   by_cases hk:k=k'
   ·simp only[Ip_ hk,In_ (fun z:p.1=k'=>hp (z.trans hk.symm))]
   ·simp only[In_ hk]
theorem zmQ(kvs:List (Key × T))(k:Key)(v:T):(zf6 kvs k v).length<=kvs.length+1:=by
 unfold zf6;split
 ·rw[j6]; lia
 ·simp
theorem zty{k n:Nat}(h:k < n):((k:Int)+1)%(n:Int)=((if k+1=n then 0 else k+1:Nat):Int):=by
 split
 ·rename_i e;rw[show (k:Int)+1=(n:Int) by lia,Int.emod_self]
  rfl
 ·rw[YS (by lia) (by lia)]; lia
theorem ztz{k n:Nat}(h:k < n):((k:Int) - 1)%(n:Int)=((if k=0 then n - 1 else k - 1:Nat):Int):=by
 split
 ·rename_i e;rw[e,<-Int.add_emod_right,YS (by lia) (by lia)]
  lia
 ·rw[YS (by lia) (by lia)]; lia
theorem znG{n w:Nat}(hn:n<=1000)(h:w < 2*n):zdb [.int n,.int w]=some (.int (Ew n w:Nat)):=by
 refine zc0 ?_;show Run zdZ [some (.int n),some (.int w),none] _;unfold zdZ;refine za5 (s':=[some (.int n),some (.int w),some (.int ((w / 2:Nat):Int))]) (by simp_all?[]<;>rfl) ?_
 have md:=zty (k:=w / 2) (n:=n) (by lia)
 by_cases h1:w%2=1
 ·have hd:decide (((w:Nat):Int)%2=1)=true:=Dt_ (by lia)
  refine zfR (s':=[some (.int n),some (.int w),some (.int ((w / 2:Nat):Int))]) (t':=.int (2*((w / 2:Nat):Int))) (by simp_all?[hd]) ?_
  unfold Ew;rw[Ip_ h1];exact congrArg T.int (by lia)
 ·have hd:decide (((w:Nat):Int)%2=1)=false:=Df_ (by lia)
  refine za5 (s':=[some (.int n),some (.int w),some (.int ((w / 2:Nat):Int))]) (by simp_all?[hd]) ?_
  refine zb5 (s':=[some (.int n),some (.int w),some (.int ((w / 2:Nat):Int))]) (t':=.int (2*((if w / 2+1=n then 0 else w / 2+1:Nat):Int)+1)) (by simp_all?[md]) ?_
  unfold Ew;rw[In_ h1]
  by_cases h2:w / 2+1=n
  ·rw[Ip_ h2,Ip_ h2]; rfl
  ·rw[In_ h2,In_ h2];exact congrArg T.int (by lia)
theorem zix{n e:Nat}(hn:n<=1000)(h:e < 2*n):zbH [.int n,.int e]=some (.int (Bw n e:Nat)):=by
 refine zc0 ?_;show Run zc5 [some (.int n),some (.int e),none] _;unfold zc5;refine za5 (s':=[some (.int n),some (.int e),some (.int ((e / 2:Nat):Int))]) (by simp_all?[]<;>rfl) ?_
 have md:=ztz (k:=e / 2) (n:=n) (by lia)
 by_cases h1:e%2=0
 ·have hd:decide (((e:Nat):Int)%2=0)=true:=Dt_ (by lia)
  refine zfR (s':=[some (.int n),some (.int e),some (.int ((e / 2:Nat):Int))]) (t':=.int (2*((e / 2:Nat):Int))) (by simp_all?[hd]) ?_
  unfold Bw;rw[Ip_ h1];exact congrArg T.int (by lia)
 ·have hd:decide (((e:Nat):Int)%2=0)=false:=Df_ (by lia)
  refine za5 (s':=[some (.int n),some (.int e),some (.int ((e / 2:Nat):Int))]) (by simp_all?[hd]) ?_
  refine zb5 (s':=[some (.int n),some (.int e),some (.int ((e / 2:Nat):Int))]) (t':=.int (2*((if e / 2=0 then n - 1 else e / 2 - 1:Nat):Int)+1)) (by simp_all?[md]) ?_
  unfold Bw;rw[In_ h1]
  by_cases h2:e=1
  ·rw[Ip_ h2,Ip_ (by lia)]
   exact congrArg T.int (by lia)
  ·rw[In_ h2,In_ (by lia)]
   exact congrArg T.int (by lia)
def zoN(i j:Nat)(h:Bool):List Nat:=if h then [2*i,2*j,2*i+1,2*j+1] else [2*i,2*j+1,2*i+1,2*j]
def crT(c:Str × List Nat):T:=.tup [.str c.1,.lst (c.2.map nT)]
def Four(A:Nat->Nat)(l:List Nat):Prop:=∃ a b c d,l=[a,b,c,d]/\A a=d/\A b=a/\A c=b/\A d=c
theorem Four.len{A:Nat->Nat}{l:List Nat}(h:Four A l):l.length=4:=by obtain⟨a,b,c,d,rfl,_⟩:=h; rfl
def Knows(A:Nat->Nat)(kvs:List (Key × T))(e:Nat):Prop:=zaM kvs (.inl (e:Int))=some (.int (A e:Nat))
theorem Knows.put{A:Nat->Nat}{kvs:List (Key × T)}{e:Nat}(h:Knows A kvs e)(d:Nat):Knows A (zf6 kvs (.inl (d:Int)) (.int (A d:Nat))) e:=by
 unfold Knows;rw[zeL]
 by_cases q:(d:Int)=(e:Int)
 ·rw[Ip_ (congrArg W1 q),show d=e by lia]
 ·rw[In_ (fun z=>q (Ji z))];exact h
theorem Knows.new{A:Nat->Nat}{kvs:List (Key × T)}(d:Nat):Knows A (zf6 kvs (.inl (d:Int)) (.int (A d:Nat))) d:=by
 unfold Knows;rw[zeL,Ip_ rfl]
theorem zr5(e:Nat):zgX (nT e)=some (.inl (e:Int)):=rfl
theorem zrb{A:Nat->Nat}{l:List Nat}(h:Four A l){k:Nat}(hk:k < 4){e:Nat}(he:l[k]?=some e):za7 (.lst (l.map nT)) (.int ((k:Int) - 1))=some (nT (A e)):=by
 obtain⟨a,b,c,d,rfl,h1,h2,h3,h4⟩:=h
 match k,hk with
 |0,_=>obtain rfl:a=e:=jf he; rw[h1]; rfl
 |1,_=>obtain rfl:b=e:=jf he; rw[h2]; rfl
 |2,_=>obtain rfl:c=e:=jf he; rw[h3]; rfl
 |3,_=>obtain rfl:d=e:=jf he; rw[h4]; rfl
theorem zex{α:Type}{l:List α}{k:Nat}{x:α}(h:l[k]?=some x):l.take (k+1)=l.take k++[x]:=by rw[gd,h]; rfl
theorem zic{A:Nat->Nat}{cs:List (Str × List Nat)}(h:∀ c∈cs,Four A c.2)(hl:cs.length<=100):∃ kvs,zcn [.lst (cs.map crT)]=some (.fd kvs)/\∀ c∈cs,∀ e∈c.2,Knows A kvs e:=by
 obtain⟨t,e,kvs,rfl,hk⟩:=zbV (n:=6) (d:=zbb) (ts:=[.lst (cs.map crT)]) (Q:=fun t=>∃ kvs,t=.fd kvs/\∀ c∈cs,∀ e∈c.2,Knows A kvs e) (by
  show Run zbb [some (.lst (cs.map crT)),none,none,none,none,none] _;unfold zbb;refine za5 (s':=[some (.lst (cs.map crT)),some (.dct []),none,none,none,none]) (by simp_all?[]) ?_
  refine zbR (its:=cs.map crT) (fun j s=>∃ kvs a b c d,s=[some (.lst (cs.map crT)),some (.dct kvs),a,b,c,d]/\kvs.length<=4*j/\∀ c∈cs.take j,∀ e∈c.2,Knows A kvs e) (s1:=[some (.lst (cs.map crT)),some (.dct []),none,none,none,none]) (by simp_all?[]) ⟨[],_,_,_,_,rfl,by simp,by simp⟩ ?_ ?_
  ·rintro j z s hz ⟨kvs,a,b,c,d,rfl,hlen,hkn⟩;rw[jg] at hz;obtain⟨⟨x,es⟩,hj,rfl⟩:=Qm hz;have hF:Four A es:=h (x,es) (jE hj);have hjl:=(j7.mp hj).1;have hel:=hF.len;refine⟨[some (.lst (cs.map crT)),some (.dct kvs),some (.str x),some (.lst (es.map nT)),c,d],rfl,?_⟩;refine zfy (its:=es.zipIdx.map fun p=>T.tup [.int (p.2:Nat),nT p.1]) (fun k s=>∃ kvs c d,s=[some (.lst (cs.map crT)),some (.dct kvs),some (.str x),some (.lst (es.map nT)),c,d]/\kvs.length<=4*j+k/\(∀ c∈cs.take j,∀ e∈c.2,Knows A kvs e)/\∀ e∈es.take k,Knows A kvs e) (s1:=[some (.lst (cs.map crT)),some (.dct kvs),some (.str x),some (.lst (es.map nT)),c,d]) (by simp_all?[zl8]) ⟨kvs,_,_,rfl,by lia,hkn,by simp⟩ ?_ ?_
   ·rintro k z s hz ⟨kvs,c,d,rfl,l1,k1,k2⟩;rw[jg,List.getElem?_zipIdx] at hz;obtain⟨⟨e,k'⟩,hz',rfl⟩:=Qm hz;obtain⟨e',he,hz'⟩:=Qm hz';obtain⟨rfl,rfl⟩:e'=e/\0+k=k':=by
     injection hz' with q1 q2;exact⟨q1,q2⟩
    rw[Z4];have hk4:k < 4:=by have:=(j7.mp he).1; lia
    have it:=zrb hF hk4 he;have sz:kvs.length < jr:=zc1 (by lia)
    have ky:=zr5 e';refine⟨[some (.lst (cs.map crT)),some (.dct kvs),some (.str x),some (.lst (es.map nT)),some (.int (k:Nat)),some (nT e')],rfl,?_⟩;refine zam (s':=[some (.lst (cs.map crT)),some (.dct (zf6 kvs (.inl (e':Int)) (.int (A e':Nat)))),some (.str x),some (.lst (es.map nT)),some (.int (k:Nat)),some (nT e')]) (by unfold nT at it ky ⊢; simp_all?[it,ky,sz]) ⟨_,_,_,rfl,?_,fun c hc e he=>(k1 c hc e he).put _,fun e hm=>?_⟩
    ·have:=zmQ kvs (.inl (e':Int)) (.int (A e':Nat));lia
    ·rw[zex he] at hm;rcases ju.mp hm with q |q
     ·exact(k2 e q).put _
     ·rw[je.mp q]; exact .new _
   ·rintro s ⟨kvs,c,d,rfl,l1,k1,k2⟩;rw[j6,List.length_zipIdx] at l1 k2;refine⟨kvs,_,_,_,_,rfl,by lia,fun c hc e he=>?_⟩
    rw[zex hj] at hc;rcases ju.mp hc with q |q
    ·exact k1 c q e he
    ·rw[je.mp q] at he;exact k2 e (by rw[Q0 (jm _)]; exact he)
  ·rintro s ⟨kvs,a,b,c,d,rfl,hlen,hkn⟩;rw[j6,Q0 (jm _)] at hkn
   exact zav (r:=.rt (.fd kvs) [some (.lst (cs.map crT)),some (.fd kvs),a,b,c,d]) (by simp_all?[]) ⟨_,_,rfl,kvs,rfl,hkn⟩)
 exact⟨kvs,e,hk⟩
structure Crs (wd:List Str) (hd:Str->Bool) (cs:List (Str × List Nat)):Prop where
 two:∀ x∈wd,wd.count x=2
 len:wd.length<=60
 cl:cs.length<=30
 four:∀ c∈cs,Four (Aw wd hd) c.2
 all:∀ e,e < 2*wd.length->∃ c∈cs,e∈c.2
def Pt(wd:List Str)(hd:Str->Bool)(rows:List (List Nat)):Prop:=(wd=[]/\rows=[[],[]])∨(wd≠[]/\Rws (2*wd.length) (fw wd hd) rows)
theorem zlA{wd:List Str}{hd:Str->Bool}{cs:List (Str × List Nat)}(h:Crs wd hd cs):∃ rows:List (List Nat),zbJ [.lst (wd.map T.str),.lst (cs.map crT)]=some (.lst (rows.map zcr))/\Pt wd hd rows:=by
 have hcl:=h.cl;have hlen:=h.len
 obtain⟨t,e,rows,rfl,hc⟩:=zbV (n:=4) (d:=zcp) (ts:=[.lst (wd.map T.str),.lst (cs.map crT)]) (Q:=fun t=>∃ rows:List (List Nat),t=.lst (rows.map zcr)/\Pt wd hd rows) (by
  show Run zcp [some (.lst (wd.map T.str)),some (.lst (cs.map crT)),none,none] _;unfold zcp
  by_cases h0:wd=[]
  ·subst h0;exact zhd (t:=.lst [.lst [],.lst []]) (s':=[some (.lst (([]:List Str).map T.str)),some (.lst (cs.map crT)),none,none]) (by simp_all?[]<;>rfl) ⟨_,_,rfl,[[],[]],rfl,.inl ⟨rfl,rfl⟩⟩
  ·have hp:=W8.mpr h0;have hemp:(wd.map T.str).isEmpty=false:=by
    cases wd with
    |nil=>exact absurd rfl h0
    |cons a l=>rfl
   obtain⟨kvs,ek,hk⟩:=zic h.four (by lia)
   have N:=zkh h.two hd;obtain⟨rows,er,hT⟩:=zmx N (by lia)
   refine za5 (s':=[some (.lst (wd.map T.str)),some (.lst (cs.map crT)),none,none]) (by simp_all?[hemp]) ?_
   refine za5 (s':=[some (.lst (wd.map T.str)),some (.lst (cs.map crT)),some (.fd kvs),none]) (by simp_all?[ek]) ?_
   refine za5 (s':=[some (.lst (wd.map T.str)),some (.lst (cs.map crT)),some (.fd kvs),some (.int (wd.length:Nat))]) (by simp_all?[]) ?_
   have r1:zgk (2*((wd.length:Nat):Int))=true:=zej (by lia) (by lia)
   have tn:(2*((wd.length:Nat):Int)).toNat=2*wd.length:=by lia
   have e:=zbS (M:=[]) (caps:=[none,some 3,some 2]) (fi:=znJ (dAc (d2 zeO (dC (.int 2)) (dV 3)) dAn)) (dg:=dGn 0) (fe:=zaj zbH (dAc (dV 1) (dAc (d2 za7 (dV 2) (zaj zdb (dAc (dV 1) (dAc (dV 0) dAn)))) dAn))) (s:=[some (.lst (wd.map T.str)),some (.lst (cs.map crT)),some (.fd kvs),some (.int (wd.length:Nat))]) (j5 (2*wd.length)) nT (fun w=>nT (fw wd hd w)) (by simp_all?[r1,tn,zfT]) (by simp; lia) (by
    intro w hw;have hw:=ji.mp hw;have e1:=znG (n:=wd.length) (by lia) hw
    obtain⟨c,hc,he⟩:=h.all _ (znZ hw);have e2:za7 (.fd kvs) (.int (Ew wd.length w:Nat))=some (.int (Aw wd hd (Ew wd.length w):Nat)):=hk c hc _ he;have e3:=zix (n:=wd.length) (by lia) (zrR h.two hd (znZ hw))
    exact⟨[some (.int w),some (.int (wd.length:Nat)),some (.fd kvs)],rfl,by unfold nT; simp_all?[e1,e2,e3]<;>rfl,rfl⟩)
   rw[show (j5 (2*wd.length)).map (fun w=>nT (fw wd hd w))=((j5 (2*wd.length)).map (fw wd hd)).map nT by rw[jY]; rfl] at e
   have fl:(((j5 (2*wd.length)).map (fw wd hd)).map nT).all zj9=true:=by rw[U1]; exact jx.mpr fun _ _=>rfl
   exact zav (r:=.rt (.lst (rows.map zcr)) [some (.lst (wd.map T.str)),some (.lst (cs.map crT)),some (.fd kvs),some (.int (wd.length:Nat))]) (by simp_all?[e,er]) ⟨_,_,rfl,rows,rfl,.inr ⟨h0,hT⟩⟩)
 exact⟨rows,e,hc⟩
def zee(wd:List Str)(x:Str)(h:Bool):List Nat:=match zae wd x with
 |[i,j]=>zoN i j h
 |_=>[]
theorem zcU{wd:List Str}{x:Str}{i j:Nat}(e:zae wd x=[i,j])(h:Bool):zee wd x h=zoN i j h:=by unfold zee; rw[e]
def zbA(wd:List Str)(hd:Str->Bool):List (Str × List Nat):=(za1 wd).map fun x=>(x,zee wd x (hd x))
theorem zjA{wd:List Str}{hd:Str->Bool}{p q:Nat}{x:Str}(hp:ptn wd p=q)(hx:wd.getD p jB=x){b:Nat}(hb:b < 2):Aw wd hd (2*p+b)=2*q+(if decide (p < q)=hd x then 1 - b else b):=by
 unfold Aw;rw[show (2*p+b) / 2=p by lia,show (2*p+b)%2=b by lia,hp,hx]
theorem zrB{wd:List Str}(g:GoodWord wd)(hd:Str->Bool):Crs wd hd (zbA wd hd):=by
 have tl:=zg5 g.two;have hl:=g.len;refine⟨g.two,hl,by unfold zbA; rw[j6]; lia,fun c hc=>?_,fun e he=>?_⟩
 ·unfold zbA at hc;obtain⟨x,hx,rfl⟩:=jA.mp hc;have hx:=mem_firsts.mp hx;obtain⟨i,j,e⟩:=zca (g.two x hx);obtain⟨h1,h2⟩:=zaV e;have ei:=zbm (wd:=wd) (x:=x) (k:=i) (by rw[e]; simp)
  have ej:=zbm (wd:=wd) (x:=x) (k:=j) (by rw[e]; simp)
  have gi:wd.getD i jB=x:=by rw[jy,ei]; rfl
  have gj:wd.getD j jB=x:=by rw[jy,ej]; rfl
  have pi:ptn wd i=j:=by
   unfold ptn;rw[gi,e];exact Ip_ rfl
  have pj:ptn wd j=i:=by
   unfold ptn;rw[gj,e];exact In_ (by lia)
  have dij:decide (i < j)=true:=Dt_ h1;have dji:decide (j < i)=false:=Df_ (by lia)
  have i0:=zjA (hd:=hd) pi gi (b:=0) (by lia)
  have i1:=zjA (hd:=hd) pi gi (b:=1) (by lia)
  have j0:=zjA (hd:=hd) pj gj (b:=0) (by lia)
  have j1:=zjA (hd:=hd) pj gj (b:=1) (by lia)
  rw[dij] at i0 i1;rw[dji] at j0 j1;show Four (Aw wd hd) (zee wd x (hd x));rw[zcU e];cases hh:hd x with
  |true=>
   rw[hh] at i0 i1 j0 j1;rw[Ip_ rfl] at i0 i1;rw[In_ (by simp)] at j0 j1
   exact⟨2*i,2*j,2*i+1,2*j+1,rfl,i0,j0,i1,j1⟩
  |false=>
   rw[hh] at i0 i1 j0 j1;rw[In_ (by simp)] at i0 i1
   rw[Ip_ rfl] at j0 j1;exact⟨2*i,2*j+1,2*i+1,2*j,rfl,i0,j1,i1,j0⟩
 ·obtain⟨i,j,e1,h1,h2,ei,ej,h3⟩:=zpm g.two (p:=e / 2) (by lia)
  have hm:wd[e / 2]∈wd:=Q5 _;refine⟨(wd[e / 2],zee wd wd[e / 2] (hd wd[e / 2])),jA.mpr ⟨_,mem_firsts.mpr hm,rfl⟩,?_⟩;show e∈zee wd wd[e / 2] (hd wd[e / 2]);rw[zcU e1];have h4:e=2*i∨e=2*i+1∨e=2*j∨e=2*j+1:=by
   rcases h3 with ⟨h3,_⟩ |⟨h3,_⟩<;>lia
  cases hd wd[e / 2] with
  |true=>
   show e∈[2*i,2*j,2*i+1,2*j+1];simp;lia
  |false=>
   show e∈[2*i,2*j+1,2*i+1,2*j];simp;lia
theorem zgQ{f:T->T->Option Bool}:∀ {xs:List T},(∀ x∈xs,f x x=some true)->zhu f xs xs=some true:=by
 intro xs
 induction xs with
 |nil=>intro _; rfl
 |cons x xs ih=>
  intro h;unfold zhu;rw[h x (by simp),ih fun y hy=>h y (jw _ hy)]
  rfl
theorem zdK{n:Nat}{xs:List T}(h:∀ x∈xs,eqD n x x=some true):eqD (n+1) (.lst xs) (.lst xs)=some true:=by
 show (if xs.length=xs.length then zhu (eqD n) xs xs else some false)=some true
 rw[Ip_ rfl,zgQ h]
theorem zrq(c:Str × List Nat):eqD 6 (crT c) (crT c)=some true:=by
 show (zhu (eqD 5) [T.str c.1,.lst (c.2.map nT)] [T.str c.1,.lst (c.2.map nT)]).map (fun b=>b&&2 == 2)=some true;rw[zgQ]
 ·rfl
 ·intro x hx;rcases jv.mp hx with rfl |hx
  ·show scE (.str c.1) (.str c.1)=some true;simp[scE]
  ·rw[je.mp hx];refine zdK fun y hy=>?_;obtain⟨z,_,rfl⟩:=jA.mp hy;show scE (.int (z:Int)) (.int (z:Int))=some true;simp[scE]
theorem znB(wd:List Str)(cs:List (Str × List Nat)):gEq (.lst [.lst (wd.map T.str),.lst (cs.map crT)]) (.lst [.lst (wd.map T.str),.lst (cs.map crT)])=some (.bl true):=by
 show (eqD 8 _ _).map T.bl=_;rw[zdK]
 ·rfl
 ·intro x hx;rcases jv.mp hx with rfl |hx
  ·refine zdK fun y hy=>?_;obtain⟨z,_,rfl⟩:=jA.mp hy;show scE (.str z) (.str z)=some true;simp[scE]
  ·rw[je.mp hx];refine zdK fun y hy=>?_;obtain⟨z,_,rfl⟩:=jA.mp hy;exact zrq z
def pl1(wd:List Str)(x:Str):Nat:=(zae wd x).getD 0 0
def pl2(wd:List Str)(x:Str):Nat:=(zae wd x).getD 1 0
def nsN(wd:List Str)(v:Nat):Str:=(za1 wd).getD v jB
def iN(wd:List Str)(v:Nat):Nat:=pl1 wd (nsN wd v)
def jN(wd:List Str)(v:Nat):Nat:=pl2 wd (nsN wd v)
def hN(wd:List Str)(hd:Str->Bool)(v:Nat):Bool:=hd (nsN wd v)
def nmN(wd:List Str)(p:Nat):Nat:=(za1 wd).idxOf (wd.getD p jB)
theorem zcj{wd:List Str}{v:Nat}(hv:v < (za1 wd).length):nsN wd v∈za1 wd:=by
 unfold nsN;rw[jy,j3 hv];exact Q5 hv
theorem zfa{wd:List Str}{x:Str}(h:x∈za1 wd):nsN wd ((za1 wd).idxOf x)=x:=by
 unfold nsN;have:=Qo.mpr h;rw[jy,j3 this];exact Wy this
theorem zi6{wd:List Str}{v:Nat}(hv:v < (za1 wd).length):(za1 wd).idxOf (nsN wd v)=v:=by
 have h1:=zcj hv;have h2:=Qo.mpr h1;have h3:(za1 wd)[(za1 wd).idxOf (nsN wd v)]=(za1 wd)[v]:=by
  rw[Wy h2];unfold nsN;rw[jy,j3 hv]; rfl
 exact(gZ (zcz wd)).mp h3
theorem zjU{wd:List Str}{x:Str}(h:wd.count x=2):zae wd x=[pl1 wd x,pl2 wd x]/\pl1 wd x < pl2 wd x/\pl2 wd x < wd.length/\wd.getD (pl1 wd x) jB=x/\wd.getD (pl2 wd x) jB=x:=by
 obtain⟨i,j,e⟩:=zca h;obtain⟨h1,h2⟩:=zaV e;have ei:=zbm (wd:=wd) (x:=x) (k:=i) (by rw[e]; simp)
 have ej:=zbm (wd:=wd) (x:=x) (k:=j) (by rw[e]; simp)
 unfold pl1 pl2;rw[e];exact⟨rfl,h1,h2,by show wd.getD i _=x; rw[jy,ei]; rfl,by show wd.getD j _=x; rw[jy,ej]; rfl⟩
theorem zrf{wd:List Str}(g:∀ x∈wd,wd.count x=2):Ij (za1 wd).length (iN wd) (jN wd) (nmN wd):=by
 have hl:=zg5 g;have pl:∀ v,v < (za1 wd).length->zae wd (nsN wd v)=[pl1 wd (nsN wd v),pl2 wd (nsN wd v)]/\pl1 wd (nsN wd v) < pl2 wd (nsN wd v)/\pl2 wd (nsN wd v) < wd.length/\wd.getD (pl1 wd (nsN wd v)) jB=(nsN wd v)/\wd.getD (pl2 wd (nsN wd v)) jB=(nsN wd v):=fun v hv=>zjU (g _ (mem_firsts.mp (zcj hv)));have hm:∀ p,p < 2*(za1 wd).length->wd.getD p jB∈za1 wd/\p∈zae wd (wd.getD p jB):=fun p hp=>by
  have hp:p < wd.length:=hl▸hp;rw[jy,j3 hp];exact⟨mem_firsts.mpr (Q5 hp),jQ.mpr ⟨ji.mpr hp,Dt_ (j3 hp)⟩⟩
 refine⟨fun v hv=>(pl v hv).2.1,fun v hv=>hl▸(pl v hv).2.2.1,fun v hv=>?_,fun v hv=>?_,fun p hp=>Qo.mpr (hm p hp).1,fun p hp=>?_⟩
 ·unfold nmN iN;rw[(pl v hv).2.2.2.1]; exact zi6 hv
 ·unfold nmN jN;rw[(pl v hv).2.2.2.2]; exact zi6 hv
 ·obtain⟨h1,h2⟩:=hm p hp;have e:nsN wd (nmN wd p)=wd.getD p jB:=zfa h1;unfold iN jN;rw[e];rw[(zjU (g _ (mem_firsts.mp h1))).1] at h2;exact(jv.mp h2).imp id je.mp
theorem zt6{wd:List Str}(g:∀ x∈wd,wd.count x=2){x:Str}(hx:x∈wd):ptn wd (pl1 wd x)=pl2 wd x/\ptn wd (pl2 wd x)=pl1 wd x:=by
 obtain⟨h1,h2,h3,h4,h5⟩:=zjU (g x hx);unfold ptn;rw[h4,h5,h1];exact⟨Ip_ rfl,In_ (by lia)⟩
theorem zuL{wd:List Str}(g:∀ x∈wd,wd.count x=2)(hd:Str->Bool):Wf (za1 wd).length (aO (iN wd) (jN wd) (hN wd hd)) (bO (iN wd) (jN wd) (hN wd hd)) (fw wd hd):=by
 have hl:=zg5 g;have C:=(zrf g).cd (hN wd hd);have AA:∀ v,v < (za1 wd).length->∀ t,t < 2->Aw wd hd (2*aO (iN wd) (jN wd) (hN wd hd) v+t)=2*bO (iN wd) (jN wd) (hN wd hd) v+(1 - t)/\Aw wd hd (2*bO (iN wd) (jN wd) (hN wd hd) v+t)=2*aO (iN wd) (jN wd) (hN wd hd) v+t:=fun v hv t ht=>by
  have hx:=mem_firsts.mp (zcj hv);obtain⟨_,h2,h3,h4,h5⟩:=zjU (g _ hx);obtain⟨p1,p2⟩:=zt6 g hx;rcases zm4 (iN wd) (jN wd) (hN wd hd) v with ⟨a,b,z⟩ |⟨a,b,z⟩<;>rw[a,b]<;>unfold iN jN<;>unfold hN at z
  ·rw[zjA p1 h4 ht,zjA p2 h5 ht,z,Dt_ h2,Df_ (Nat.lt_asymm h2)]; exact⟨rfl,rfl⟩
  ·rw[zjA p1 h4 ht,zjA p2 h5 ht,z,Dt_ h2,Df_ (Nat.lt_asymm h2)]; exact⟨rfl,rfl⟩
 have Ee:∀ p,p < wd.length->Ew wd.length (2*prv (za1 wd).length p)=2*p+1:=fun p hp=>by
  unfold Ew prv
  by_cases q:p=0
  ·rw[Ip_ q,In_ (by lia),Ip_ (by lia),q]
  ·rw[In_ q,In_ (by lia),In_ (by lia)]; lia
 have Eo:∀ p,Ew wd.length (2*p+1)=2*p:=fun p=>Ip_ (by lia)
 have Be:∀ p,Bw wd.length (2*p)=2*p:=fun p=>Ip_ (by lia)
 have Bo:∀ p,p < wd.length->Bw wd.length (2*p+1)=2*prv (za1 wd).length p+1:=fun p hp=>by
  unfold Bw prv;rw[In_ (by lia)]
  by_cases q:p=0
  ·rw[Ip_ q,Ip_ (by lia)]; lia
  ·rw[In_ q,In_ (by lia)]; lia
 have ha:∀ v,v < (za1 wd).length->aO (iN wd) (jN wd) (hN wd hd) v < wd.length:=fun v hv=>by rw[hl]; exact C.alt v hv
 have hb:∀ v,v < (za1 wd).length->bO (iN wd) (jN wd) (hN wd hd) v < wd.length:=fun v hv=>by rw[hl]; exact C.blt v hv
 refine⟨fun v hv=>?_,fun v hv=>?_,fun v hv=>?_,fun v hv=>?_⟩<;>unfold fw
 ·rw[Ee _ (ha v hv),(AA v hv 1 (by decide)).1]; exact Be _
 ·rw[Eo,show ∀ k,2*k=2*k+0 from fun _=>rfl,(AA v hv 0 (by decide)).1]; exact Bo _ (hb v hv)
 ·rw[Ee _ (hb v hv),(AA v hv 1 (by decide)).2]; exact Bo _ (ha v hv)
 ·rw[Eo,show ∀ k,2*k=2*k+0 from fun _=>rfl,(AA v hv 0 (by decide)).2]; exact Be _
def bF(b:Bool):F2:=if b then 1 else 0
theorem crN{wd:List Str}(g:∀ x∈wd,wd.count x=2){u v:Nat}(hu:u < (za1 wd).length)(hv:v < (za1 wd).length):cr (iN wd) (jN wd) u v=bF (crs wd (nsN wd u) (nsN wd v)):=by
 obtain⟨e1,h1,h2,_⟩:=zjU (g _ (mem_firsts.mp (zcj hu)));obtain⟨e3,_⟩:=zjU (g _ (mem_firsts.mp (zcj hv)));rw[zht e1,ze0 _ h1 h2,e3];unfold cr inn zeN iN jN;generalize pl1 wd (nsN wd u)=i;generalize pl2 wd (nsN wd u)=j;generalize pl1 wd (nsN wd v)=k;generalize pl2 wd (nsN wd v)=l;have f:∀ k (r:List Nat),(Js (fun k=>decide (i < k)&&decide (k < j)) (k::r))=if i < k/\k < j then k::Js (fun k=>decide (i < k)&&decide (k < j)) r else Js (fun k=>decide (i < k)&&decide (k < j)) r:=fun k r=>by
  rw[Zg]
  by_cases q:i < k/\k < j
  ·rw[Ip_ q,Ip_ (by simpa using q)]
  ·rw[In_ q,In_ (by simpa using q)]
 rw[f,f]
 by_cases q:i < k/\k < j<;>by_cases q':i < l/\l < j
 ·rw[Ip_ q,Ip_ q',Ip_ q,Ip_ q']; rfl
 ·rw[Ip_ q,In_ q',Ip_ q,In_ q']; rfl
 ·rw[In_ q,Ip_ q',In_ q,Ip_ q']; rfl
 ·rw[In_ q,In_ q',In_ q,In_ q']; rfl
theorem zmo(p:Nat->Bool):∀ l:List Nat,sm l (fun v=>bF (p v))=n2 (l.filter p).length:=fun l=>by
 induction l with
 |nil=>rfl
 |cons k l ih=>
  rw[zay,ih];cases h:p k
  ·rw[N7 (by simp[h])]
   show (0:F2)+_=_
   grind
  ·rw[N8 h,jp,zna];show (1:F2)+_=_+1
   grind
theorem znx(wd:List Str):za1 wd=(j5 (za1 wd).length).map (nsN wd):=by
 refine gh (by simp) fun i h1 h2=>?_
 rw[Zi,QN];unfold nsN;rw[jy,j3 h1]; rfl
theorem ziF(wd:List Str)(p:Str->Bool):sm (j5 (za1 wd).length) (fun v=>bF (p (nsN wd v)))=n2 ((za1 wd).filter p).length:=by
 rw[zmo];have e:(za1 wd).filter p=((j5 (za1 wd).length).filter fun v=>p (nsN wd v)).map (nsN wd):=by
  conv=>lhs; rw[znx wd]
  rw[Nw]; rfl
 rw[e,j6]
def sdh(wd:List Str)(hd:Str->Bool)(x:Str):Bool:=decide (pl1 wd x%2=1) != !hd x
theorem sdN(wd:List Str)(hd:Str->Bool)(v:Nat):sdF (iN wd) (hN wd hd) v=bF (sdh wd hd (nsN wd v)):=by
 unfold sdF sdh eta iN hN;have e2:n2 (pl1 wd (nsN wd v))=bF (decide (pl1 wd (nsN wd v)%2=1)):=by
  rcases Q8 (pl1 wd (nsN wd v)) with q |q
  ·rw[zhl (k:=0) q,Df_ (by rw[q]; decide)]; rfl
  ·rw[zhl (k:=1) q,Dt_ q]; rfl
 rw[e2];cases hd (nsN wd v)<;>cases decide (pl1 wd (nsN wd v)%2=1)<;>rfl
theorem zmq{wd:List Str}(g:∀ x∈wd,wd.count x=2)(hd:Str->Bool):(∀(l0 d0:F2) (x:Nat->F2),Cnd (za1 wd).length (aO (iN wd) (jN wd) (hN wd hd)) (bO (iN wd) (jN wd) (hN wd hd)) (nmN wd) l0 d0 x)↔SidesOk (za1 wd) (crs wd) (sdh wd hd):=by
 rw[znL (zrf g)];have hdeg:∀ v,v < (za1 wd).length->zo3 (za1 wd).length (iN wd) (jN wd) v=n2 (mts (za1 wd) (crs wd) (nsN wd v)).length:=fun v hv=>by
  unfold zo3 mts;rw[<-ziF];exact zaw fun u hu=>crN g hv (ji.mp hu)
 have hshr:∀ u v,u < (za1 wd).length->v < (za1 wd).length->zof (za1 wd).length (iN wd) (jN wd) u v=n2 (shr (za1 wd) (crs wd) (nsN wd u) (nsN wd v)):=fun u v hu hv=>by
  unfold zof shr;rw[<-ziF wd fun z=>crs wd (nsN wd u) z&&crs wd (nsN wd v) z];refine zaw fun w hw=>?_;have hw:=ji.mp hw;rw[crN g hu hw,crN g hv hw];cases crs wd (nsN wd u) (nsN wd w)<;>cases crs wd (nsN wd v) (nsN wd w)<;>rfl
 have hall:∀ {P:Str->Prop},(∀ x∈za1 wd,P x)↔∀ v,v < (za1 wd).length->P (nsN wd v):=fun {P}=>by
  constructor
  ·intro h v hv; exact h _ (zcj hv)
  ·intro h x hx;rw[<-zfa hx];exact h _ (Qo.mpr hx)
 have fit:∀ u v,u < (za1 wd).length->v < (za1 wd).length->(zof (za1 wd).length (iN wd) (jN wd) u v+cr (iN wd) (jN wd) u v*(sdF (iN wd) (hN wd hd) u+sdF (iN wd) (hN wd hd) v+1)=0↔(crs wd (nsN wd u) (nsN wd v)=false->evn (za1 wd) (crs wd) (nsN wd u) (nsN wd v)=true)/\(crs wd (nsN wd u) (nsN wd v)=true->evn (za1 wd) (crs wd) (nsN wd u) (nsN wd v)=(sdh wd hd (nsN wd u) != sdh wd hd (nsN wd v)))):=fun u v hu hv=>by
  rw[hshr u v hu hv,crN g hu hv,sdN,sdN];unfold evn;rcases Q8 (shr (za1 wd) (crs wd) (nsN wd u) (nsN wd v)) with q |q
  ·rw[zhl (k:=0) q,Dt_ q];cases crs wd (nsN wd u) (nsN wd v)<;>cases sdh wd hd (nsN wd u)<;>cases sdh wd hd (nsN wd v)<;>decide
  ·rw[zhl (k:=1) q,Df_ (by lia)]
   cases crs wd (nsN wd u) (nsN wd v)<;>cases sdh wd hd (nsN wd u)<;>cases sdh wd hd (nsN wd v)<;>decide
 constructor
 ·rintro⟨h1,h2⟩;have key:∀ x∈za1 wd,∀ y∈za1 wd,x≠y->(crs wd x y=false->evn (za1 wd) (crs wd) x y=true)/\(crs wd x y=true->evn (za1 wd) (crs wd) x y=(sdh wd hd x != sdh wd hd y)):=fun x hx y hy hne=>by
   have h:=h2 _ _ (Qo.mpr hx) (Qo.mpr hy) fun e=>hne (by rw[<-zfa hx,e,zfa hy])
   rw[fit _ _ (Qo.mpr hx) (Qo.mpr hy),zfa hx,zfa hy] at h;exact h
  refine⟨hall.mpr fun v hv=>?_,fun x hx y hy ho=>?_,fun x hx y hy ha=>?_⟩
  ·exact n2_zero.mp (by rw[<-hdeg v hv]; exact h1 v hv)
  ·have:=(key x hx y hy ho.1).1 ho.2.1;rw[ho.2.2] at this;cases this
  ·refine(key x hx y hy fun e=>?_).2 ha;rw[<-e] at ha;have hm:=mem_firsts.mp hx;obtain⟨i,j,hp⟩:=zca (g x hm);rw[zht hp,zgO hp] at ha;cases ha
 ·intro h;refine⟨fun v hv=>?_,fun u v hu hv hne=>?_⟩
  ·rw[hdeg v hv]; exact n2_zero.mpr (h.even _ (zcj hv))
  ·rw[fit u v hu hv];refine⟨fun hf=>?_,fun ht=>h.fit _ (zcj hu) _ (zcj hv) ht⟩;cases q:evn (za1 wd) (crs wd) (nsN wd u) (nsN wd v)
   ·refine absurd ⟨fun e=>hne ?_,hf,q⟩ (h.pair _ (zcj hu) _ (zcj hv));rw[<-zi6 hu,e,zi6 hv]
   ·rfl
theorem zgJ{wd:List Str}(g:GoodWord wd){x:Str}(hx:x∈za1 wd)(b:Bool):zb1 [.lst (wd.map T.str),.str x,.int (bI b)]=some (.lst ((zee wd x (decide ((bI b+(pl1 wd x:Int))%2=0))).map nT)):=by
 have hm:=mem_firsts.mp hx;obtain⟨e,h1,h2,_⟩:=zjU (g.two x hm);have hl:=g.len;have es:=zfs (wd:=wd) (by lia) x
 rw[e] at es;rw[zcU e];generalize pl1 wd x=i at es h1;generalize pl2 wd x=j at es h1 h2;have es:zb8 [.lst (wd.map T.str),.str x]=some (.lst [.int (i:Nat),.int (j:Nat)]):=es;generalize wd.map T.str=W at es;refine zc0 ?_;show Run zbd [some (.lst W),some (.str x),some (.int (bI b)),none,none] _;unfold zbd;refine za5 (s':=[some (.lst W),some (.str x),some (.int (bI b)),some (.int (i:Nat)),some (.int (j:Nat))]) (by simp_all?[es]) ?_
 have two:∀ k:Nat,(2:Int)*(k:Int)=((2*k:Nat):Int):=fun k=>by lia
 by_cases q:(bI b+(i:Int))%2=0
 ·rw[Dt_ q];refine zfR (s':=[some (.lst W),some (.str x),some (.int (bI b)),some (.int (i:Nat)),some (.int (j:Nat))]) (by simp_all?[Dt_ q]<;>rfl) ?_
  show T.lst [.int (2*(i:Int)),.int (2*(j:Int)),.int (2*(i:Int)+1),.int (2*(j:Int)+1)]=.lst [nT (2*i),nT (2*j),nT (2*i+1),nT (2*j+1)];rw[two,two]; rfl
 ·rw[Df_ q];refine za5 (s':=[some (.lst W),some (.str x),some (.int (bI b)),some (.int (i:Nat)),some (.int (j:Nat))]) (by simp_all?[Df_ q]<;>rfl) ?_
  refine zb5 (s':=[some (.lst W),some (.str x),some (.int (bI b)),some (.int (i:Nat)),some (.int (j:Nat))]) (by simp_all?[]<;>rfl) ?_
  show T.lst [.int (2*(i:Int)),.int (2*(j:Int)+1),.int (2*(i:Int)+1),.int (2*(j:Int))]=.lst [nT (2*i),nT (2*j+1),nT (2*i+1),nT (2*j)];rw[two,two]; rfl
def hds(wd:List Str)(sd:Str->Bool)(x:Str):Bool:=decide ((bI (sd x)+(pl1 wd x:Int))%2=0)
theorem zqi(wd:List Str)(sd:Str->Bool):sdh wd (hds wd sd)=sd:=by
 funext x
 unfold sdh hds bI;cases sd x<;>rcases Q8 (pl1 wd x) with q |q
 ·rw[Df_ (by lia),Dt_ (by simp; lia)]; rfl
 ·rw[Dt_ q,Df_ (by simp; lia)]; rfl
 ·rw[Df_ (by lia),Df_ (by simp; lia)]; rfl
 ·rw[Dt_ q,Dt_ (by simp; lia)]; rfl
theorem zm7(ns:List Str)(f:Str->T):zpV (ns.map T.str) (ns.map f)=ns.map fun x=>T.tup [.str x,f x]:=by
 unfold zpV
 induction ns with
 |nil=>rfl
 |cons x ns ih=>rw[jt,jt,List.zip_cons_cons,jt,ih]; rfl
theorem zlU{wd:List Str}(g:GoodWord wd){sd:Str->Bool}(e:zbh [.lst (wd.map T.str)]=some (.tup [.str "sides",.lst ((za1 wd).map fun x=>.int (bI (sd x)))])):zas [.lst (wd.map T.str)]=some (.lst ((zbA wd (hds wd sd)).map crT)):=by
 have hl:=g.len;have en:=zd7 (wd:=wd) (by lia)
 refine zc0 ?_;show Run zaY [some (.lst (wd.map T.str)),none] _;unfold zaY;generalize hW:wd.map T.str=W at e en;refine za5 (s':=[some (.lst W),some (.tup [.str "sides",.lst ((za1 wd).map fun x=>.int (bI (sd x)))])]) (by simp_all?[e]) ?_
 have i0:za7 (.tup [.str "sides",.lst ((za1 wd).map fun x=>.int (bI (sd x)))]) (.int 0)=some (.str "sides"):=rfl;have i1:za7 (.tup [.str "sides",.lst ((za1 wd).map fun x=>.int (bI (sd x)))]) (.int 1)=some (.lst ((za1 wd).map fun x=>.int (bI (sd x)))):=rfl;have n0:gNe (.str "sides") (.str "sides")=some (.bl false):=rfl;refine za5 (s':=[some (.lst W),some (.tup [.str "sides",.lst ((za1 wd).map fun x=>.int (bI (sd x)))])]) (by simp_all?[i0,n0]<;>rfl) ?_
 have e:=zbS (M:=[]) (caps:=[none,none,some 0]) (fi:=zuE (dAc (zaj zaq (dAc (dV 0) dAn)) (dAc (d2 za7 (dV 1) (dC (.int 1))) dAn))) (dg:=dGt [0,1]) (fe:=zjj (dAc (dV 0) (dAc (zaj zb1 (dAc (dV 2) (dAc (dV 0) (dAc (dV 1) dAn)))) dAn))) (s:=[some (.lst W),some (.tup [.str "sides",.lst ((za1 wd).map fun x=>.int (bI (sd x)))])]) (za1 wd) (fun x=>T.tup [.str x,.int (bI (sd x))]) (fun x=>crT (x,zee wd x (hds wd sd x))) (by simp_all?[en,i1,zm7]) (by have:=zgG wd; lia) (by
  intro x hx;have ee:=zgJ g hx (sd x);rw[hW] at ee
  exact⟨[some (.str x),some (.int (bI (sd x))),some (.lst W)],rfl,by simp_all?[ee]<;>rfl,rfl⟩)
 refine zb5 (s':=[some (.lst W),some (.tup [.str "sides",.lst ((za1 wd).map fun x=>.int (bI (sd x)))])]) (by simp_all?[e]<;>rfl) ?_
 unfold zbA;rw[jY]; rfl
theorem zuv{b nm:Nat->Nat}(k:Nat):Dd b nm (1:F2) (fun _=>0) k=1:=by
 rw[zuu,zdq (fun k _=>by split<;>rfl)]
 rfl
theorem zmd{wd:List Str}(g:∀ x∈wd,wd.count x=2){hd:Str->Bool}(h:SidesOk (za1 wd) (crs wd) (sdh wd hd)){k t:Nat}(ht:t < 2*wd.length)(h1:Orb (fw wd hd) t (2*k))(h2:Orb (fw wd hd) t (2*k+1)):False:=by
 have hl:=zg5 g;have C:=(zrf g).cd (hN wd hd);have cor:=zub C ((zmq g hd).mpr h 0 1 fun _=>0);have inv:=ztR C (zuL g hd) cor;have hp:=zkh g hd;rw[show 2*wd.length=4*(za1 wd).length by lia] at hp ht
 have e:=(zn0 hp inv ht h1).trans (zn0 hp inv ht h2).symm;rw[zut,zus,zuv] at e;generalize La _ _ _ _ _ _ _=z at e
 revert z
 decide
structure Part (n:Nat) (f:Nat->Nat) (rows:List (List Nat)) (pn:Nat->Nat):Prop where
 at_:∀ w,w < n->∃ r,rows[pn w]?=some r/\w∈r
 one:∀ i r w,rows[i]?=some r->w∈r->w < n/\pn w=i
 nd:∀ r∈rows,r.Nodup
 orb:∀ r∈rows,∀ w∈r,∀ w'∈r,∃ t,t < n/\Orb f t w/\Orb f t w'
theorem Rws.part{n:Nat}{f:Nat->Nat}(hf:Perm1 n f){rows:List (List Nat)}(h:Rws n f rows):∃ pn,Part n f rows pn:=by
 obtain⟨L,hT,hR⟩:=h;have row:∀ i r,rows[i]?=some r->∃ x,L[i]?=some x/\x < n/\zp8 f x r:=fun i r hr=>by
  have hi:i < L.length:=by rw[<-hR.len]; exact(j7.mp hr).1
  exact⟨L[i],j3 hi,hT.lt _ (Q5 hi),hR.row i _ _ (j3 hi) hr⟩
 have orb:∀ x r w,zp8 f x r->w∈r->Orb f x w:=fun x r w ⟨k,e,_⟩ hw=>by
  rw[e] at hw;obtain⟨m,_,rfl⟩:=jA.mp hw;exact⟨m,rfl⟩
 have ex:∀ w,w < n->∃ i r,rows[i]?=some r/\w∈r:=fun w hw=>by
  obtain⟨t,ht,_,m,em⟩:=hR.le w hw;obtain⟨i,hi,rfl⟩:=QC ht;have hi':i < rows.length:=by rw[hR.len]; exact hi
  obtain⟨k,e,_,_,hk⟩:=hR.row i _ _ (j3 hi) (j3 hi');refine⟨i,rows[i],j3 hi',?_⟩;rw[e,<-em];exact ziE hk m
 have uq:∀ i j r r' w,rows[i]?=some r->rows[j]?=some r'->w∈r->w∈r'->i=j:=fun i j r r' w hr hr' hw hw'=>by
  obtain⟨x,hx,xn,ax⟩:=row i r hr;obtain⟨y,hy,yn,ay⟩:=row j r' hr';have ox:=orb x r w ax hw;have oy:=orb y r' w ay hw';have oxy:Orb f x y:=ox.trans (Orb.symm hf yn oy);obtain⟨hi,rfl⟩:=j7.mp hx;obtain⟨hj,rfl⟩:=j7.mp hy;have pw:=List.pairwise_iff_getElem.mp hT.one;rcases gS i j with q |q |q
  ·exact absurd oxy (pw i j hi hj q)
  ·exact q
  ·exact absurd (Orb.symm hf xn oxy) (pw j i hj hi q)
 refine⟨fun w=>if h:w < n then Classical.choose (ex w h) else 0,fun w hw=>?_,fun i r w hr hw=>?_,fun r hr=>?_,fun r hr w hw w' hw'=>?_⟩
 ·rw[dif_pos hw];exact NI (ex w hw)
 ·obtain⟨x,_,xn,ax⟩:=row i r hr;obtain⟨m,em⟩:=orb x r w ax hw;have hwn:w < n:=em▸hf.itr_lt m xn;refine⟨hwn,?_⟩;rw[dif_pos hwn];obtain⟨r',hr',hw'⟩:=NI (ex w hwn);exact uq _ _ _ _ w hr' hr hw' hw
 ·obtain⟨i,hi,rfl⟩:=QC hr;obtain⟨x,_,_,k,e,_,nd,_⟩:=row i _ (j3 hi);rw[e]; exact nd
 ·obtain⟨i,hi,rfl⟩:=QC hr;obtain⟨x,_,xn,ax⟩:=row i _ (j3 hi);exact⟨x,xn,orb x _ w ax hw,orb x _ w' ax hw'⟩
theorem zfb:∀(l m:List Nat),l.Nodup->(∀ x∈l,x∈m)->l.length<=m.length:=by
 intro l
 induction l with
 |nil=>intro m _ _; exact QV _
 |cons a l ih=>
  intro m hn hs;obtain⟨h1,h2⟩:=Qk.mp hn;have ha:=hs a (jT ..);have:=ih (m.erase a) h2 (fun x hx=>(gc (fun e:x=a=>h1 (e▸hx))).mpr (hs x (jw _ hx)));rw[Zw ha] at this;have:=gM ha;rw[jp];lia
theorem Part.len{n:Nat}{f:Nat->Nat}{rows:List (List Nat)}{pn:Nat->Nat}(h:Part n f rows pn){i:Nat}{r:List Nat}(hr:rows[i]?=some r):((j5 n).filter fun w=>decide (pn w=i)).length=r.length:=by
 refine Jo (zfb _ _ (ZI.filter _) fun w hw=>?_) (zfb _ _ (h.nd r (jE hr)) fun w hw=>?_)
 ·obtain⟨h1,h2⟩:=jQ.mp hw;obtain⟨r',hr',hw'⟩:=h.at_ w (ji.mp h1);rw[of_decide_eq_true h2,hr] at hr';exact jf hr'▸hw'
 ·obtain⟨h1,h2⟩:=h.one i r w hr hw;exact jQ.mpr ⟨ji.mpr h1,Dt_ h2⟩
theorem Pt.part{wd:List Str}{hd:Str->Bool}(g:∀ x∈wd,wd.count x=2){rows:List (List Nat)}(h:Pt wd hd rows):∃ pn,Part (2*wd.length) (fw wd hd) rows pn:=by
 rcases h with ⟨rfl,rfl⟩ |⟨_,h⟩
 ·have no:∀(r:List Nat) (w:Nat),r∈[[],[]]->w∈r->False:=fun r w hr hw=>by
   rcases jv.mp hr with rfl |hr
   ·cases hw
   ·rw[je.mp hr] at hw; cases hw
  exact⟨fun _=>0,fun w hw=>absurd hw (ZS _),fun i r w hr hw=>(no r w (jE hr) hw).elim,fun r hr=>by
   rcases jv.mp hr with rfl |hr
   ·exact Zo
   ·rw[je.mp hr]; exact Zo,fun r hr w hw=>(no r w hr hw).elim⟩
 ·exact h.part (zkh g hd)
theorem zqd:∀ {L:List Nat} {lo s:Nat},L.Pairwise (fun x y=>x < y)->(∀ x∈L,lo<=x/\x < s)->lo<=s->L.length+lo<=s:=by
 intro L
 induction L with
 |nil=>intro lo s _ _ h; simpa using h
 |cons a l ih=>
  intro lo s hp h hs;obtain⟨h1,h2⟩:=List.pairwise_cons.mp hp;have ha:=h a (jT ..);have:=ih (lo:=a+1) h2 (fun x hx=>⟨h1 x hx,(h x (jw _ hx)).2⟩) ha.2;rw[jp];lia
theorem Pt.len{wd:List Str}{hd:Str->Bool}{rows:List (List Nat)}(h:Pt wd hd rows)(hl:wd.length<=60):rows.length<=122:=by
 rcases h with ⟨_,rfl⟩ |⟨_,L,ht,hR⟩
 ·decide
 ·have:=zqd (lo:=0) hR.srt (fun x hx=>⟨QV _,hR.lt x hx⟩) (QV _);rw[hR.len];lia
theorem zn8(wd:List Str)(cs:List (Str × List Nat)):gNe (.lst [.lst (wd.map T.str),.lst (cs.map crT)]) (.lst [.lst (wd.map T.str),.lst (cs.map crT)])=some (.bl false):=by
 have h:=znB wd cs;obtain⟨b,h1,h2⟩:=Qm (show (eqD 8 _ _).map T.bl=some (.bl true) from h);obtain rfl:b=true:=by injection h2
 show (eqD 8 _ _).map (fun b=>T.bl (!b))=_;rw[h1]; rfl
theorem zfk{wd:List Str}{t:T}{x:Str}(e:zbh [.lst (wd.map T.str)]=some t)(e0:za7 t (.int 0)=some (.str x))(hx:decide (x=("sides":Str))=false):zas [.lst (wd.map T.str)]=none/\zbl [.lst (wd.map T.str)]=true:=by
 constructor
 ·show fnP 2 zaY [.lst (wd.map T.str)]=none;unfold fnP;have:zaY (zaO 2 [.lst (wd.map T.str)])=none:=by
   show zaY [some (.lst (wd.map T.str)),none]=none;unfold zaY
   simp_all?[e,e0,hx]
   rfl
  rw[this]
 ·show zcA [some (.lst (wd.map T.str)),none]=true;have h1:zaF 1 (zaj zbh (dAc (dV 0) dAn)) [some (.lst (wd.map T.str)),none]=some (.nx [some (.lst (wd.map T.str)),some t]):=by simp_all?[e]
  have h2:dB (d2 gNe (d2 za7 (dV 1) (dC (.int 0))) (dC (.str "sides"))) [some (.lst (wd.map T.str)),some t]=some (true,[some (.lst (wd.map T.str)),some t]):=by simp_all?[e0,hx]
  unfold zcA zlX;rw[h1];unfold zu9;dsimp only;rw[h2];rfl
theorem zlT{wd:List Str}(g:GoodWord wd):(∃ hd:Str->Bool,zas [.lst (wd.map T.str)]=some (.lst ((zbA wd hd).map crT))/\SidesOk (za1 wd) (crs wd) (sdh wd hd))∨(zas [.lst (wd.map T.str)]=none/\zbl [.lst (wd.map T.str)]=true):=by
 obtain⟨t,e,ht⟩:=zne g;cases ht with
 |odd x hx h=>exact .inr (zfk e rfl (by decide))
 |pair x y hx hy h=>exact .inr (zfk e rfl (by decide))
 |ring r h=>exact .inr (zfk e rfl (by decide))
 |sides sd h=>exact .inl ⟨hds wd sd,zlU g e,by rw[zqi]; exact h⟩
def tdL(E:List (Str × Bool)):List (Key × T):=E.map fun e=>(Zl e.1,T.int (bI e.2))
def tdK(E:List (Str × Bool)):List Str:=E.map (·.1)
theorem zg7(E:List (Str × Bool))(x:Str):(zaM (tdL E) (.inr x)).isSome=decide (x∈tdK E):=by
 unfold tdL tdK;rw[zdV,gQ,Zd,WV,decide_eq_true_iff];constructor
 ·rintro⟨e,he,h⟩;have:=ZM (of_decide_eq_true h);rw[<-this]; exact jA.mpr ⟨e,he,rfl⟩
 ·intro h;obtain⟨e,he,rfl⟩:=jA.mp h;exact⟨e,he,Dt_ rfl⟩
theorem zvp{E:List (Str × Bool)}{x:Str}(h:x∈tdK E):∃ b:Bool,zaM (tdL E) (.inr x)=some (.int (bI b)):=by
 have q:=zg7 E x;rw[Dt_ h] at q;obtain⟨v,hv⟩:=gv.mp q;have hv':=hv;unfold tdL at hv;rw[zdV] at hv;obtain⟨e,_,rfl⟩:=Qm hv;exact⟨e.2,hv'⟩
theorem zpc{E:List (Str × Bool)}{x:Str}(b:Bool)(h:x∉tdK E):zf6 (tdL E) (.inr x) (.int (bI b))=tdL (E++[(x,b)]):=by
 rw[zhS]
 ·unfold tdL; rw[jF]; rfl
 ·unfold tdL;rw[jY];intro hm;obtain⟨e,he,h2⟩:=jA.mp hm;exact h (ZM h2▸jA.mpr ⟨e,he,rfl⟩)
def muT:Sg->Nat
 |[_,_,_,some (.dct kvs),_,_,some (.lst w),_,_,_]=>31*(30 - kvs.length)+w.length
 |_=>0
structure Tn (wd:List Str) (E:List (Str × Bool)):Prop where
 nd:(tdK E).Nodup
 sub:∀ x∈tdK E,x∈za1 wd
theorem Tn.le{wd:List Str}{E:List (Str × Bool)}(h:Tn wd E)(hl:(za1 wd).length<=30):E.length<=30:=by
 have:=zcb _ _ h.nd h.sub;unfold tdK at this;rw[j6] at this;lia
theorem Tn.snoc{wd:List Str}{E:List (Str × Bool)}(h:Tn wd E){x:Str}(b:Bool)(hx:x∉tdK E)(hf:x∈za1 wd):Tn wd (E++[(x,b)]):=by
 have e:tdK (E++[(x,b)])=tdK E++[x]:=by unfold tdK; rw[jF]; rfl
 refine⟨?_,fun y hy=>?_⟩
 ·rw[e];refine jP.mpr ⟨h.nd,by simp,fun a ha b hb=>?_⟩
  obtain rfl:=je.mp hb;exact fun z=>hx (z▸ha)
 ·rw[e] at hy;rcases ju.mp hy with hy |hy
  ·exact h.sub y hy
  ·rw[je.mp hy]; exact hf
theorem zfP(E:List (Str × Bool))(x:Str)(b:Bool):tdK (E++[(x,b)])=tdK E++[x]:=by unfold tdK; rw[jF]; rfl
def zjH(E:List (Str × Bool))(x:Str):Bool:=match zaM (tdL E) (.inr x) with
 |some (.int i)=>decide (i=1)
 |_=>false
theorem zq7{E:List (Str × Bool)}{x:Str}{b:Bool}(h:zaM (tdL E) (.inr x)=some (.int (bI b))):zjH E x=b:=by
 unfold zjH;rw[h];cases b<;>rfl
theorem zml{E:List (Str × Bool)}{y:Str}(b:Bool)(hy:y∉tdK E)(x:Str):zjH (E++[(y,b)]) x=if y=x then b else zjH E x:=by
 have h:=zeL (tdL E) (.inr y) (.inr x) (.int (bI b));rw[zpc b hy] at h
 by_cases e:y=x
 ·subst e;rw[Ip_ rfl] at h;rw[Ip_ rfl,zq7 h]
 ·rw[In_ (fun z=>e (ZM z))] at h;rw[In_ e];unfold zjH;rw[h]
def ClE(wd:List Str)(E:List (Str × Bool)):Prop:=∀ x∈tdK E,∀ y∈za1 wd,crs wd x y=true->y∈tdK E/\zjH E y=zjH E x
structure Wh (wd:List Str) (sb:Bool) (E E':List (Str × Bool)) (wt:List Str):Prop where
 old:∀ x∈tdK E,x∈tdK E'/\zjH E' x=zjH E x
 new:∀ x∈tdK E',x∉tdK E->zjH E' x=sb
 nb:∀ x∈tdK E',x∉tdK E->∀ y∈za1 wd,crs wd x y=true->y∈tdK E'∨y∈wt
theorem Wh.put{wd:List Str}{sb:Bool}{E E':List (Str × Bool)}{w':List Str}{y:Str}(h:Wh wd sb E E' (w'++[y]))(hy:y∉tdK E'):Wh wd sb E (E'++[(y,sb)]) (w'++(za1 wd).filter (crs wd y)):=by
 refine⟨fun x hx=>?_,fun x hx hn=>?_,fun x hx hn z hz hc=>?_⟩
 ·obtain⟨h1,h2⟩:=h.old x hx;rw[zfP,zml sb hy,In_ (fun e:y=x=>hy (e▸h1))];exact⟨jn _ h1,h2⟩
 ·rw[zml sb hy]
  by_cases e:y=x
  ·rw[Ip_ e]
  ·rw[In_ e];rw[zfP] at hx;rcases ju.mp hx with hx |hx
   ·exact h.new x hx hn
   ·exact absurd (je.mp hx).symm e
 ·rw[zfP] at hx ⊢;rcases ju.mp hx with hx |hx
  ·rcases h.nb x hx hn z hz hc with q |q
   ·exact .inl (jn _ q)
   ·rcases ju.mp q with q |q
    ·exact .inr (jn _ q)
    ·exact .inl (jz _ q)
  ·obtain rfl:=je.mp hx;exact .inr (jz _ (jQ.mpr ⟨hz,hc⟩))
theorem Wh.pop{wd:List Str}{sb:Bool}{E E':List (Str × Bool)}{w':List Str}{y:Str}(h:Wh wd sb E E' (w'++[y]))(hy:y∈tdK E'):Wh wd sb E E' w':=
 ⟨h.old,h.new,fun x hx hn z hz hc=>by
  rcases h.nb x hx hn z hz hc with q |q
  ·exact .inl q
  ·rcases ju.mp q with q |q
   ·exact .inr q
   ·rw[je.mp q]; exact .inl hy⟩
theorem Wh.fin{wd:List Str}(g:GoodWord wd){sb:Bool}{E E':List (Str × Bool)}(h:Wh wd sb E E' [])(hE:ClE wd E)(ht:Tn wd E'):ClE wd E':=by
 intro x hx y hy hc
 by_cases hn:x∈tdK E
 ·obtain⟨h1,h2⟩:=hE x hn y hy hc;exact⟨(h.old y h1).1,by rw[(h.old y h1).2,(h.old x hn).2,h2]⟩
 ·have hyE:y∉tdK E:=fun z=>hn (by
   have hs:=(zgB g).sym x (ht.sub x hx) y hy
   exact(hE y z x (ht.sub x hx) (hs▸hc)).1)
  rcases h.nb x hx hn y hy hc with q |q
  ·exact⟨q,by rw[h.new y q hyE,h.new x hx hn]⟩
  ·cases q
theorem ztA(i j:Nat)(h:Bool):∃ a b c d:Nat,zoN i j h=[a,b,c,d]/\zoN i j (!h)=[a,d,c,b]:=by cases h<;>exact⟨_,_,_,_,rfl,rfl⟩
theorem zob{wd:List Str}(g:GoodWord wd){x:Bag2}(hx:x.Ok)(L:T)(Q:Fl->Prop){d:DS}(k:∀(b:Bag2) (E:List (Str × Bool)) (a4 a5 a6 a7:Option T),b.Ok->(∀ y∈za1 wd,y∈tdK E)->ClE wd E->Run d [some b.t,some (.lst (wd.map T.str)),some L,some (.dct (tdL E)),a4,a5,a6,a7,none,none] Q) :
  Run (zai (zew (zcs (zaj zaq (dAc (dV 1) dAn))) (dGn 4)
  (zcY (dB (d2 zaC (dV 4) (dV 3))) (zai (zaF 5 (zeU zbw 0 (dAc (dC (.int 2)) dAn)))
  (zai (zaF 6 (zeT (dAc (dV 4) dAn)))
  (zbB (dB (d2 gGt (d1 zdo (dV 6)) (dC (.int 0))))
  (zai (zaF 7 (zhq zo1 6 dAn))
  (zcY (dB (d2 zaC (dV 7) (dV 3))) (zai (zoU 3 (dV 7) (dV 5))
  (dDo (zhq zpu 6 (dAc (zaj zau (dAc (dV 1) (dAc (dV 7) dAn))) dAn)))) zaH)) 1000))) zaH)) d) [some x.t,some (.lst (wd.map T.str)),some L,some (.dct []),none,none,none,none,none,none] Q:=by
 have hl:=g.len;have hf:=(zgB g).len;have en:=zd7 (wd:=wd) (by lia)
 generalize hW:T.lst (wd.map T.str)=W at *;refine zbR (its:=(za1 wd).map T.str) (fun j s=>∃(b:Bag2) (E:List (Str × Bool)) (a4 a5 a6 a7:Option T),b.Ok/\(Tn wd E/\ClE wd E)/\(∀ y∈(za1 wd).take j,y∈tdK E)/\s=[some b.t,some W,some L,some (.dct (tdL E)),a4,a5,a6,a7,none,none]) (by simp_all?[en]<;>rfl) ⟨x,[],none,none,none,none,hx,⟨⟨Zo,fun y hy=>by cases hy⟩,fun y hy=>by cases hy⟩,fun y hy=>by simp at hy,rfl⟩ ?_ ?_
 ·rintro j z s hz ⟨b,E,a4,a5,a6,a7,hb,⟨tn,cle⟩,hj,rfl⟩;obtain⟨nm,hnm,rfl⟩:=zfr hz;have hnf:=jE hnm;have bE0:=tn.le hf;refine⟨[some b.t,some W,some L,some (.dct (tdL E)),some (.str nm),a5,a6,a7,none,none],by simp_all?[],?_⟩
  by_cases hk:nm∈tdK E
  ·have e1:decide (nm∈tdK E)=true:=Dt_ hk;exact zam (by simp_all?[zg7,e1]<;>rfl) ⟨b,E,_,_,_,_,hb,⟨tn,cle⟩,zaB hj hnm hk,rfl⟩
  ·have e1:decide (nm∈tdK E)=false:=Df_ hk;obtain⟨sz,b1,edr,hb1,z0,z1⟩:=zid hb 2 (by lia) (by lia)
   obtain⟨sb,rfl⟩:∃ sb:Bool,sz=bI sb:=by
    rcases(show sz=0∨sz=1 by lia) with rfl |rfl
    ·exact⟨false,rfl⟩
    ·exact⟨true,rfl⟩
   refine zjL (s':=[some b.t,some W,some L,some (.dct (tdL E)),some (.str nm),a5,a6,a7,none,none]) (by simp_all?[zg7,e1]) ?_
   refine za5 (s':=[some b1.t,some W,some L,some (.dct (tdL E)),some (.str nm),some (.int (bI sb)),a6,a7,none,none]) (by simp_all?[edr]) ?_
   refine za5 (s':=[some b1.t,some W,some L,some (.dct (tdL E)),some (.str nm),some (.int (bI sb)),some (.lst ([nm].map T.str)),a7,none,none]) (by simp_all?[]<;>rfl) ?_
   refine zhc (fun s=>∃(E':List (Str × Bool)) (wt:List Str) (c7:Option T),Tn wd E'/\Wh wd sb E E' wt/\(∀ y∈wt,y∈za1 wd)/\(nm∈wt∨nm∈tdK E')/\31*(30 - E'.length)+wt.length<=931/\s=[some b1.t,some W,some L,some (.dct (tdL E')),some (.str nm),some (.int (bI sb)),some (.lst (wt.map T.str)),c7,none,none]) muT ?_ ⟨E,[nm],a7,tn,⟨fun _ h=>⟨h,rfl⟩,fun _ h n=>absurd h n,fun _ h n=>absurd h n⟩,fun y hy=>by rw[je.mp hy]; exact hnf,.inl (je.mpr rfl),by show 31*(30 - E.length)+1<=931; lia,rfl⟩ ?_ ?_
   ·show 31*(30 - (tdL E).length)+1 < 1000;lia
   ·rintro s ⟨E',wt,c7,tn',hsub,hwf,hin,hm,rfl⟩;have bE:=tn'.le hf
    by_cases hwt:wt=[]
    ·subst hwt;exact⟨false,_,by simp_all?[]<;>rfl,trivial⟩
    ·obtain⟨w',y,rfl⟩:∃ w' y,wt=w'++[y]:=⟨wt.dropLast,wt.getLast hwt,(Q1 hwt).symm⟩;have hyf:=hwf y (by simp)
     rw[jk] at hm;have hm:31*(30 - E'.length)+(w'.length+1)<=931:=hm;have pos:decide ((0:Int) < (((w'++[y]).map T.str).length:Nat))=true:=Dt_ (by rw[j6,jk]; show (0:Int) < ((w'.length+1:Nat):Int); lia)
     refine⟨true,[some b1.t,some W,some L,some (.dct (tdL E')),some (.str nm),some (.int (bI sb)),some (.lst ((w'++[y]).map T.str)),c7,none,none],by simp_all?[pos,jk]; simp,?_⟩
     rw[Ip_ rfl];refine za5 (s':=[some b1.t,some W,some L,some (.dct (tdL E')),some (.str nm),some (.int (bI sb)),some (.lst (w'.map T.str)),some (.str y),none,none]) (by simp_all?[zux]) ?_
     by_cases hy:y∈tdK E'
     ·have e2:decide (y∈tdK E')=true:=Dt_ hy;refine zam (by simp_all?[zg7,e2]<;>rfl) ⟨⟨E',w',_,tn',hsub.pop hy,fun z hz=>hwf z (jn _ hz),?_,by lia,rfl⟩,?_⟩
      ·rcases hin with hin |hin
       ·rcases ju.mp hin with hin |hin
        ·exact .inl hin
        ·rw[je.mp hin]; exact .inr hy
       ·exact .inr hin
      ·show 31*(30 - (tdL E').length)+(w'.map T.str).length < 31*(30 - (tdL E').length)+((w'++[y]).map T.str).length;rw[j6,j6,jk];show _ < _+(w'.length+1);lia
     ·have e2:decide (y∈tdK E')=false:=Df_ hy;have hp:=zpc sb hy;have tn2:=tn'.snoc sb hy hyf;have bE2:=tn2.le hf;rw[jk] at bE2;have bE2:E'.length+1<=30:=bE2;have ll:(tdL E').length < jr:=zc1 (by unfold tdL; rw[j6]; lia)
      obtain⟨pi,pj,hpl⟩:=zca (g.two y (mem_firsts.mp hyf));have ec:=zdM (wd:=wd) (by lia) hpl
      rw[hW] at ec;have cl:((za1 wd).filter (crs wd y)).length<=30:=Qc (ZW _ _) hf;generalize hcw:(za1 wd).filter (crs wd y)=cw at ec cl;refine zjL (s':=[some b1.t,some W,some L,some (.dct (tdL E')),some (.str nm),some (.int (bI sb)),some (.lst (w'.map T.str)),some (.str y),none,none]) (by simp_all?[zg7,e2]) ?_
      refine za5 (s':=[some b1.t,some W,some L,some (.dct (tdL (E'++[(y,sb)]))),some (.str nm),some (.int (bI sb)),some (.lst (w'.map T.str)),some (.str y),none,none]) (by simp_all?[ll,zgX,hp]) ?_
      refine zam (s':=[some b1.t,some W,some L,some (.dct (tdL (E'++[(y,sb)]))),some (.str nm),some (.int (bI sb)),some (.lst ((w'++cw).map T.str)),some (.str y),none,none]) (by simp_all?[ec,zwL (a:=w') (b:=cw) (by lia)]) ⟨⟨_,w'++cw,_,tn2,hcw▸hsub.put hy,fun z hz=>?_,?_,?_,rfl⟩,?_⟩
      ·rcases ju.mp hz with hz |hz
       ·exact hwf z (jn _ hz)
       ·rw[<-hcw] at hz;exact(jQ.mp hz).1
      ·rw[zfP];rcases hin with hin |hin
       ·rcases ju.mp hin with hin |hin
        ·exact .inl (jn _ hin)
        ·rw[je.mp hin]; exact .inr (jz _ (je.mpr rfl))
       ·exact .inr (jn _ hin)
      ·rw[jk,jk];show 31*(30 - (E'.length+1))+_<=_;lia
      ·show 31*(30 - (tdL (E'++[(y,sb)])).length)+((w'++cw).map T.str).length < 31*(30 - (tdL E').length)+((w'++[y]).map T.str).length;unfold tdL;rw[j6,j6,j6,j6,jk,jk,jk];show 31*(30 - (E'.length+1))+_ < _+(w'.length+1);lia
   ·rintro s0 s' ⟨E',wt,c7,tn',hsub,hwf,hin,hm,rfl⟩ h0
    by_cases hwt:wt=[]
    ·subst hwt;have h0:some (false,[some b1.t,some W,some L,some (.dct (tdL E')),some (.str nm),some (.int (bI sb)),some (.lst (([]:List Str).map T.str)),c7,none,none])=some (false,s'):=h0;injection h0 with h0;injection h0 with _ h0;subst h0;refine⟨b1,E',_,_,_,_,hb1,⟨tn',hsub.fin g cle tn'⟩,zaB (fun y hy=>(hsub.old y (hj y hy)).1) hnm ?_,rfl⟩;rcases hin with hin |hin
     ·cases hin
     ·exact hin
    ·exfalso
     have pos:decide ((0:Int) < (wt.length:Nat))=true:=Dt_ (by have:=W8.mpr hwt; lia)
     have h2:dB (d2 gGt (d1 zdo (dV 6)) (dC (.int 0))) [some b1.t,some W,some L,some (.dct (tdL E')),some (.str nm),some (.int (bI sb)),some (.lst (wt.map T.str)),c7,none,none]=some (true,[some b1.t,some W,some L,some (.dct (tdL E')),some (.str nm),some (.int (bI sb)),some (.lst (wt.map T.str)),c7,none,none]):=by simp_all?[pos]
     rw[h2] at h0;cases h0
 ·rintro s ⟨b,E,a4,a5,a6,a7,hb,⟨tn,cle⟩,hj,rfl⟩;rw[j6,Qz] at hj;exact k b E a4 a5 a6 a7 hb hj cle
theorem zlr{wd:List Str}{hd hd':Str->Bool}{E:List (Str × Bool)}(h:SidesOk (za1 wd) (crs wd) (sdh wd hd))(e:∀ x,hd' x=if zjH E x then !hd x else hd x)(c:ClE wd E)(hall:∀ y∈za1 wd,y∈tdK E):SidesOk (za1 wd) (crs wd) (sdh wd hd'):=by
 have q:∀ x,sdh wd hd' x=(sdh wd hd x != zjH E x):=fun x=>by
  unfold sdh;rw[e];cases zjH E x<;>cases hd x<;>cases decide (pl1 wd x%2=1)<;>rfl
 refine⟨h.even,h.pair,fun x hx y hy hc=>?_⟩;rw[h.fit x hx y hy hc,q,q,(c x (hall x hx) y hy hc).2];cases sdh wd hd x<;>cases sdh wd hd y<;>cases zjH E x<;>rfl
theorem zwx{wd:List Str}{hd:Str->Bool}{j:Nat}{z:T}(h:((zbA wd hd).map crT)[j]?=some z):∃ x,(za1 wd)[j]?=some x/\z=.tup [.str x,.lst ((zee wd x (hd x)).map nT)]:=by
 unfold zbA at h;rw[jY,jg] at h;obtain⟨x,hx,rfl⟩:=Qm h;exact⟨x,hx,rfl⟩
theorem zj3{wd:List Str}(g:GoodWord wd){x:Bag2}(hx:x.Ok):∃ y:Bag2,y.Ok/\((∃ hd:Str->Bool,zcy [x.t,.lst (wd.map T.str)]=some (.lst ((zbA wd hd).map crT),y.t)/\SidesOk (za1 wd) (crs wd) (sdh wd hd))∨zcy [x.t,.lst (wd.map T.str)]=some (.non,y.t)):=by
 have hf:=(zgB g).len;rcases zlT g with ⟨hd,ed,hsd⟩ |⟨en,er⟩
 ·obtain⟨t,u,e,y,hy,rfl,hd',rfl,hsd'⟩:=zia (n:=10) (d:=zaZ) (ts:=[x.t,.lst (wd.map T.str)]) (Q:=fun t u=>∃ y:Bag2,y.Ok/\u=y.t/\∃ hd':Str->Bool,t=.lst ((zbA wd hd').map crT)/\SidesOk (za1 wd) (crs wd) (sdh wd hd')) (by
   show Run zaZ [some x.t,some (.lst (wd.map T.str)),none,none,none,none,none,none,none,none] _;unfold zaZ;have tr:zkp [0] 1 zbl (dAc (dV 1) dAn) (zaF 2 (zaj zas (dAc (dV 1) dAn))) [some x.t,some (.lst (wd.map T.str)),none,none,none,none,none,none,none,none]=some (.nx [some x.t,some (.lst (wd.map T.str)),some (.lst ((zbA wd hd).map crT)),none,none,none,none,none,none,none]):=by
    have q:zaF 2 (zaj zas (dAc (dV 1) dAn)) [some x.t,some (.lst (wd.map T.str)),none,none,none,none,none,none,none,none]=some (.nx [some x.t,some (.lst (wd.map T.str)),some (.lst ((zbA wd hd).map crT)),none,none,none,none,none,none,none]):=by simp_all?[ed]
    unfold zkp;rw[q]
   refine za5 tr ?_;refine za5 (s':=[some x.t,some (.lst (wd.map T.str)),some (.lst ((zbA wd hd).map crT)),some (.dct []),none,none,none,none,none,none]) (by simp_all?[]) ?_
   refine zob g hx _ _ fun b E a4 a5 a6 a7 hb hall cle=>?_;obtain⟨hd',hd1⟩:∃ hd':Str->Bool,∀ x,hd' x=if zjH E x then !hd x else hd x:=⟨_,fun _=>rfl⟩
   refine za5 (s':=[some b.t,some (.lst (wd.map T.str)),some (.lst ((zbA wd hd).map crT)),some (.dct (tdL E)),a4,a5,a6,a7,some (.lst []),none]) (by simp_all?[]) ?_
   refine zbR (its:=(zbA wd hd).map crT) (fun j s=>∃ a4 a9:Option T,s=[some b.t,some (.lst (wd.map T.str)),some (.lst ((zbA wd hd).map crT)),some (.dct (tdL E)),a4,a5,a6,a7,some (.lst (((zbA wd hd').take j).map crT)),a9]) (by simp_all?[]<;>rfl) ⟨a4,none,rfl⟩ ?_ ?_
   ·rintro j z s hz ⟨b4,b9,rfl⟩;obtain⟨nm,hnm,rfl⟩:=zwx hz;have hnf:=jE hnm;obtain⟨bb,hbb⟩:=zvp (hall nm hnf);obtain⟨pi,pj,hpl⟩:=zca (g.two nm (mem_firsts.mp hnf));obtain⟨a,b',c,d,e1,e2⟩:=ztA pi pj (hd nm);have jl:j < (za1 wd).length:=(j7.mp hnm).1;have tl:(((zbA wd hd').take j).map crT).length<=1000000:=by rw[j6,Q9]; lia
    have nxt:(zbA wd hd').take (j+1)=(zbA wd hd').take j++[(nm,zee wd nm (hd' nm))]:=by
     refine zex ?_;unfold zbA;rw[jg,hnm]; rfl
    rw[zcU hpl,e1];refine⟨[some b.t,some (.lst (wd.map T.str)),some (.lst ((zbA wd hd).map crT)),some (.dct (tdL E)),some (.str nm),a5,a6,a7,some (.lst (((zbA wd hd').take j).map crT)),some (.lst ([a,b',c,d].map nT))],rfl,?_⟩;have ll:∀ l:List T,zbZ (.lst l)=some (.lst l):=fun _=>rfl;have i0:za7 (.lst ([a,b',c,d].map nT)) (.int 0)=some (nT a):=rfl;have i1:za7 (.lst ([a,b',c,d].map nT)) (.int 1)=some (nT b'):=rfl;have i2:za7 (.lst ([a,b',c,d].map nT)) (.int 2)=some (nT c):=rfl;have i3:za7 (.lst ([a,b',c,d].map nT)) (.int 3)=some (nT d):=rfl;cases bb with
    |true=>
     have hh:hd' nm=!hd nm:=by rw[hd1,zq7 hbb]; rfl
     refine za5 (s':=[some b.t,some (.lst (wd.map T.str)),some (.lst ((zbA wd hd).map crT)),some (.dct (tdL E)),some (.str nm),a5,a6,a7,some (.lst (((zbA wd hd').take j).map crT)),some (.lst ([a,d,c,b'].map nT))]) (by simp_all?[hbb,show (bI true)=1 from rfl,i0,i1,i2,i3]<;>rfl) ?_
     refine zam (s':=[some b.t,some (.lst (wd.map T.str)),some (.lst ((zbA wd hd).map crT)),some (.dct (tdL E)),some (.str nm),a5,a6,a7,some (.lst (((zbA wd hd').take (j+1)).map crT)),some (.lst ([a,d,c,b'].map nT))]) ?_ ⟨_,_,rfl⟩;rw[nxt,hh,zcU hpl,e2,jF]
     simp_all?[ll,zmc _ tl]
     rfl
    |false=>
     have hh:hd' nm=hd nm:=by rw[hd1,zq7 hbb]; rfl
     refine za5 (s':=[some b.t,some (.lst (wd.map T.str)),some (.lst ((zbA wd hd).map crT)),some (.dct (tdL E)),some (.str nm),a5,a6,a7,some (.lst (((zbA wd hd').take j).map crT)),some (.lst ([a,b',c,d].map nT))]) (by simp_all?[hbb,show (bI false)=0 from rfl]<;>rfl) ?_
     refine zam (s':=[some b.t,some (.lst (wd.map T.str)),some (.lst ((zbA wd hd).map crT)),some (.dct (tdL E)),some (.str nm),a5,a6,a7,some (.lst (((zbA wd hd').take (j+1)).map crT)),some (.lst ([a,b',c,d].map nT))]) ?_ ⟨_,_,rfl⟩;rw[nxt,hh,zcU hpl,e1,jF]
     simp_all?[ll,zmc _ tl]
     rfl
   ·rintro s ⟨b4,b9,rfl⟩;have tk:(zbA wd hd').take ((zbA wd hd).map crT).length=zbA wd hd':=by
     rw[j6];refine Q0 ?_;unfold zbA;rw[j6,j6];exact jm _
    rw[tk]
    exact zav (by simp_all?[]<;>rfl) ⟨_,_,_,rfl,b,hb,rfl,hd',rfl,zlr hsd hd1 cle hall⟩)
  exact⟨y,hy,.inl ⟨hd',e,hsd'⟩⟩
 ·obtain⟨t,u,e,rfl,rfl⟩:=zia (n:=10) (d:=zaZ) (ts:=[x.t,.lst (wd.map T.str)]) (Q:=fun t u=>t=.non/\u=x.t) (by
   show Run zaZ [some x.t,some (.lst (wd.map T.str)),none,none,none,none,none,none,none,none] _;unfold zaZ;have tr:zkp [0] 1 zbl (dAc (dV 1) dAn) (zaF 2 (zaj zas (dAc (dV 1) dAn))) [some x.t,some (.lst (wd.map T.str)),none,none,none,none,none,none,none,none]=some (.rt .non [some x.t,some (.lst (wd.map T.str)),none,none,none,none,none,none,none,none]):=by
    have q:zaF 2 (zaj zas (dAc (dV 1) dAn)) [some x.t,some (.lst (wd.map T.str)),none,none,none,none,none,none,none,none]=none:=by simp_all?[en]<;>rfl
    have q2:(dAc (dV 1) dAn) [some x.t,some (.lst (wd.map T.str)),none,none,none,none,none,none,none,none]=some ([.lst (wd.map T.str)],[some x.t,some (.lst (wd.map T.str)),none,none,none,none,none,none,none,none]):=by simp_all?[]
    unfold zkp;rw[q,q2];dsimp only;rw[er];rfl
   exact zhd tr ⟨_,_,_,rfl,rfl,rfl⟩)
  exact⟨x,hx,.inr e⟩
def bdT(pn:Nat->Nat)(k:Nat):T:=.tup [.int (pn (2*k):Nat),.int (pn (2*k+1):Nat)]
theorem znF{xs:List T}{j:Nat}{z:T}(h:(zfj xs)[j]?=some z):∃ x,xs[j]?=some x/\z=.tup [.int (j:Int),x]:=by
 unfold zfj at h;rw[jg] at h;obtain⟨i,hi,rfl⟩:=Qm h;obtain⟨h1,h2⟩:=j7.mp hi;rw[QN] at h2;subst h2;have hj:j < xs.length:=by simpa using h1
 exact⟨xs[j],j3 hj,by rw[jy,j3 hj]; rfl⟩
theorem zl9(xs:List T):(zfj xs).length=xs.length:=by unfold zfj; simp
theorem zm1{wd:List Str}(hl:wd.length<=60){Lc:T}{rows:List (List Nat)}(hr:rows.length<=122)(ep:zbJ [.lst (wd.map T.str),Lc]=some (.lst (rows.map zcr))){f pn:Nat->Nat}(P:Part (2*wd.length) f rows pn):zcx [.lst (wd.map T.str),Lc]=some (.lst ((j5 wd.length).map (bdT pn))):=by
 refine zi9 ?_;show Run zdd [some (.lst (wd.map T.str)),some Lc,none,none,none,none] _;unfold zdd;refine za5 (s':=[some (.lst (wd.map T.str)),some Lc,some (.dct []),none,none,none]) (by simp_all?[]) ?_
 refine zbR (its:=zfj (rows.map zcr)) (fun j s=>∃(kvs:List (Key × T)) (a3 a4 a5:Option T),kvs.length<=200*j/\(∀ i,i < j->∀ r,rows[i]?=some r->∀ w∈r,zaM kvs (.inl (w:Int))=some (.int (i:Int)))/\s=[some (.lst (wd.map T.str)),some Lc,some (.dct kvs),a3,a4,a5]) (by simp_all?[ep]) ⟨[],none,none,none,QV _,fun i hi=>absurd hi (ZS _),rfl⟩ ?_ ?_
 ·rintro j z s hz ⟨kvs,a3,a4,a5,hk,hw,rfl⟩;obtain⟨x,hx,rfl⟩:=znF hz;rw[jg] at hx;obtain⟨r,hrj,rfl⟩:=Qm hx;have jl:=(j7.mp hrj).1;have rl:r.length<=120:=by
   have:=zfb r (j5 (2*wd.length)) (P.nd r (jE hrj)) fun w hw=>ji.mpr (P.one j r w hrj hw).1;rw[QH] at this;lia
  refine⟨[some (.lst (wd.map T.str)),some Lc,some (.dct kvs),some (.int (j:Int)),some (zcr r),a5],rfl,?_⟩;refine zfy (its:=r.map nT) (fun m s=>∃(kv:List (Key × T)) (a5:Option T),kv.length<=200*j+m/\(∀ i,i < j->∀ r,rows[i]?=some r->∀ w∈r,zaM kv (.inl (w:Int))=some (.int (i:Int)))/\(∀ w∈r.take m,zaM kv (.inl (w:Int))=some (.int (j:Int)))/\s=[some (.lst (wd.map T.str)),some Lc,some (.dct kv),some (.int (j:Int)),some (zcr r),a5]) (by unfold zcr; simp_all?[]) ⟨kvs,a5,by lia,hw,fun w hw=>by simp at hw,rfl⟩ ?_ ?_
  ·rintro m z s hz ⟨kv,b5,hkl,ho,hn,rfl⟩;rw[jg] at hz;obtain⟨w,hwm,rfl⟩:=Qm hz;have hwr:=jE hwm;have ml:=(j7.mp hwm).1;have ll:kv.length < jr:=zc1 (by lia)
   have pl:=zmQ kv (.inl (w:Int)) (.int (j:Int));have inj:∀ w':Nat,((.inl (w:Int):Key)=.inl (w':Int))->w=w':=fun w' e=>by have:=Ji e; lia
   refine⟨[some (.lst (wd.map T.str)),some Lc,some (.dct kv),some (.int (j:Int)),some (zcr r),some (.int (w:Int))],rfl,?_⟩;refine zam (s':=[some (.lst (wd.map T.str)),some Lc,some (.dct (zf6 kv (.inl (w:Int)) (.int (j:Int)))),some (.int (j:Int)),some (zcr r),some (.int (w:Int))]) (by simp_all?[ll,zgX]) ⟨_,_,by lia,fun i hi r' hr' w' hw'=>?_,fun w' hw'=>?_,rfl⟩
   ·rw[zeL,In_ fun e=>?_]
    ·exact ho i hi r' hr' w' hw'
    ·have:=inj w' e;subst this;have:=(P.one i r' w hr' hw').2;have:=(P.one j r w hrj hwr).2;lia
   ·rw[zeL]
    by_cases e:w=w'
    ·rw[Ip_ (by rw[e])]
    ·rw[In_ fun z=>e (inj w' z)];rw[zex hwm] at hw';rcases ju.mp hw' with q |q
     ·exact hn w' q
     ·exact absurd (je.mp q).symm e
  ·rintro s ⟨kv,b5,hkl,ho,hn,rfl⟩;rw[j6] at hkl hn;rw[Qz] at hn;refine⟨kv,_,_,_,by lia,fun i hi r' hr' w hw=>?_,rfl⟩
   by_cases e:i=j
   ·subst e;rw[hrj] at hr';obtain rfl:=jf hr';exact hn w hw
   ·exact ho i (by lia) r' hr' w hw
 ·rintro s ⟨kvs,a3,a4,a5,hk,hw,rfl⟩;rw[zl9,j6] at hw;have look:∀ w,w < 2*wd.length->zaM kvs (.inl (w:Int))=some (.int (pn w:Nat)):=fun w hwl=>by
   obtain⟨r,hr',hwr⟩:=P.at_ w hwl;exact hw _ (j7.mp hr').1 r hr' w hwr
  have e:=zbS (M:=[2]) (caps:=[none,some 2]) (fi:=znJ (dAc (d1 zdo (dV 0)) dAn)) (dg:=dGn 0) (fe:=zjj (dAc (d2v za7 1 (d2 zeO (dC (.int 2)) (dV 0))) (dAc (d2v za7 1 (d2 zat (d2 zeO (dC (.int 2)) (dV 0)) (dC (.int 1)))) dAn))) (s:=[some (.lst (wd.map T.str)),some Lc,some (.dct kvs),a3,a4,a5]) (j5 wd.length) nT (bdT pn) (by simp_all?[rgN (k:=wd.length) (by lia),Qa,zfT]) (by simp; lia) (by
   intro k hk;have hk:=ji.mp hk;have e1:zaM kvs (.inl (2*(k:Int)))=some (.int (pn (2*k):Nat)):=by rw[show (2*(k:Int))=((2*k:Nat):Int) by lia]; exact look _ (by lia)
   have e2:zaM kvs (.inl (2*(k:Int)+1))=some (.int (pn (2*k+1):Nat)):=by rw[show (2*(k:Int)+1)=((2*k+1:Nat):Int) by lia]; exact look _ (by lia)
   exact⟨[some (.int (k:Int)),some (.dct kvs)],rfl,by simp_all?[e1,e2]<;>rfl,rfl⟩)
  exact zav (by simp_all?[e]<;>rfl) ⟨_,rfl⟩
theorem zr7{n p:Nat}(h:p < n):ixN n (p:Int)=some p:=by
 unfold ixN;rw[Ip_ (by lia),Ip_ (by lia),Qa]
theorem zsC{m p:Nat}(C:Nat->Nat)(hp:p < m):(((j5 m).map C).map nT).set p (.int ((C p:Int)+1))=((j5 m).map fun i=>if i=p then C i+1 else C i).map nT:=by
 refine gh (by simp) fun i h1 h2=>?_
 rw[List.getElem_set];simp only[Zi,QN]
 by_cases e:p=i
 ·subst e;rw[Ip_ rfl,Ip_ rfl];show T.int _=T.int _
  congr 1
 ·rw[In_ e,In_ fun z=>e z.symm]
theorem zpP{a0 a1 a2 a4 a5:Option T}{m p:Nat}(C:Nat->Nat){fk:DE}(hp:p < m)(hf:fk [a0,a1,a2,some (.lst (((j5 m).map C).map nT)),a4,a5]=some (.int (p:Int),[a0,a1,a2,some (.lst (((j5 m).map C).map nT)),a4,a5])) :
  zlY 3 fk 1 [a0,a1,a2,some (.lst (((j5 m).map C).map nT)),a4,a5]=some (.nx [a0,a1,a2,some (.lst (((j5 m).map fun i=>if i=p then C i+1 else C i).map nT)),a4,a5]):=by
 have hl:(((j5 m).map C).map nT).length=m:=by simp
 have hx:(((j5 m).map C).map nT)[p]?=some (nT (C p)):=by
  rw[jg,jg,ZF hp]; rfl
 unfold zlY;rw[show ([a0,a1,a2,some (.lst (((j5 m).map C).map nT)),a4,a5][3]?).join=some (.lst (((j5 m).map C).map nT)) from rfl,j9,hf,j9];dsimp only;rw[show ([a0,a1,a2,some (T.lst (((j5 m).map C).map nT)),a4,a5][3]?).join=some (.lst (((j5 m).map C).map nT)) from rfl,j9];dsimp only;rw[hl,zr7 hp,j9,hx,j9];show some (Fl.nx _)=_;rw[show ([a0,a1,a2,some (T.lst (((j5 m).map C).map nT)),a4,a5].set 3 (some (.lst ((((j5 m).map C).map nT).set p (.int ((C p:Int)+1))))))=[a0,a1,a2,some (.lst ((((j5 m).map C).map nT).set p (.int ((C p:Int)+1)))),a4,a5] from rfl,zsC C hp]
theorem ztB(a b:Int):zfh [.lst [.int a,.int b],.int 2]=some (.bl true):=by
 have lc:=zbS (M:=[]) (caps:=[none]) (fi:=zcs (dV 0)) (dg:=dGn 0) (fe:=zaj zdW (dAc (dV 0) dAn)) (s:=[some (.lst [.int a,.int b]),some (.int 2)]) [a,b] T.int (fun _=>.bl true) (by simp_all?[]<;>rfl) (show 2<=1000000 by decide) (by
  intro x hx;have w:zdW [.int x]=some (.bl true):=rfl
  exact⟨[some (.int x)],rfl,by simp_all?[w],rfl⟩)
 have al:zrU (.lst ([a,b].map fun _=>T.bl true))=some (.bl true):=rfl;refine zc0 ?_;show Run zeS [some (.lst [.int a,.int b]),some (.int 2)] _;unfold zeS;exact zb5 (s':=[some (.lst [.int a,.int b]),some (.int 2)]) (by simp_all?[lc,al]<;>rfl) rfl
def cn(pn:Nat->Nat)(j i:Nat):Nat:=((j5 (2*j)).filter fun w=>decide (pn w=i)).length
theorem zrF(pn:Nat->Nat)(j i:Nat):cn pn (j+1) i=if i=pn (2*j+1) then (if i=pn (2*j) then cn pn j i+1 else cn pn j i)+1 else if i=pn (2*j) then cn pn j i+1 else cn pn j i:=by
 unfold cn;rw[show 2*(j+1)=2*j+1+1 by lia,Yl,Yl,QP,QP,jk,jk]
 have one:∀ x:Nat,([x].filter fun w=>decide (pn w=i)).length=if i=pn x then 1 else 0:=fun x=>by
  by_cases e:pn x=i
  ·rw[N8 (by simpa using e),Ip_ e.symm]; rfl
  ·rw[N7 (by simpa using e),In_ fun z=>e z.symm]; rfl
 rw[one,one];split<;>split<;>lia
theorem zoi{wd:List Str}(hl:wd.length<=60){rows:List (List Nat)}(hr:rows.length<=122){f pn:Nat->Nat}(P:Part (2*wd.length) f rows pn)(hne:∀ k,k < wd.length->pn (2*k)≠pn (2*k+1)):zff [.lst ((j5 wd.length).map (bdT pn)),.lst (rows.map zcr),.int (wd.length:Nat)]=some (.bl true):=by
 refine zc0 ?_;show Run zeQ [some (.lst ((j5 wd.length).map (bdT pn))),some (.lst (rows.map zcr)),some (.int (wd.length:Nat)),none,none,none] _;unfold zeQ;have d0:decide ((((j5 wd.length).length:Nat):Int)=((wd.length:Nat):Int))=true:=Dt_ (by rw[QH])
 refine za5 (s':=[some (.lst ((j5 wd.length).map (bdT pn))),some (.lst (rows.map zcr)),some (.int (wd.length:Nat)),none,none,none]) (by simp_all?[d0]<;>rfl) ?_
 have z0:=zbS (M:=[]) (caps:=[none]) (fi:=zcs (dV 1)) (dg:=dGn 0) (fe:=dC (.int 0)) (s:=[some (.lst ((j5 wd.length).map (bdT pn))),some (.lst (rows.map zcr)),some (.int (wd.length:Nat)),none,none,none]) rows zcr (fun _=>.int 0) (by simp_all?[]) (by lia) (by
  intro r hr
  exact⟨[some (zcr r)],rfl,by simp_all?[],rfl⟩)
 have c0:rows.map (fun _=>T.int 0)=((j5 rows.length).map (cn pn 0)).map nT:=by
  refine gh (by simp) fun i h1 h2=>?_
  simp only[Zi,QN];rfl
 rw[c0] at z0;refine za5 (s':=[some (.lst ((j5 wd.length).map (bdT pn))),some (.lst (rows.map zcr)),some (.int (wd.length:Nat)),some (.lst (((j5 rows.length).map (cn pn 0)).map nT)),none,none]) (by simp_all?[z0]) ?_
 refine zbR (its:=zfj ((j5 wd.length).map (bdT pn))) (fun j s=>∃ a4 a5:Option T,s=[some (.lst ((j5 wd.length).map (bdT pn))),some (.lst (rows.map zcr)),some (.int (wd.length:Nat)),some (.lst (((j5 rows.length).map (cn pn j)).map nT)),a4,a5]) (by simp_all?[]) ⟨none,none,rfl⟩ ?_ ?_
 ·rintro j z s hz ⟨a4,a5,rfl⟩;obtain⟨x,hx,rfl⟩:=znF hz;rw[jg] at hx;obtain⟨k,hk,rfl⟩:=Qm hx;obtain⟨h1,h2⟩:=j7.mp hk;rw[QN] at h2;subst h2;have jl:j < wd.length:=by simpa using h1
  obtain⟨r1,hr1,m1⟩:=P.at_ (2*j) (by lia)
  obtain⟨r2,hr2,m2⟩:=P.at_ (2*j+1) (by lia)
  have p1:=(j7.mp hr1).1;have p2:=(j7.mp hr2).1;have ne:=hne j jl;rw[show bdT pn j=T.tup [.int (pn (2*j):Nat),.int (pn (2*j+1):Nat)] from rfl];generalize hp:pn (2*j)=p at *;generalize hq:pn (2*j+1)=q at *;refine⟨[some (.lst ((j5 wd.length).map (bdT pn))),some (.lst (rows.map zcr)),some (.int (wd.length:Nat)),some (.lst (((j5 rows.length).map (cn pn j)).map nT)),some (.int (j:Int)),some (.tup [.int (p:Int),.int (q:Int)])],rfl,?_⟩;have ga:zbZ (.tup [.int (p:Int),.int (q:Int)])=some (.lst [.int (p:Int),.int (q:Int)]):=rfl;have g0:za7 (.tup [.int (p:Int),.int (q:Int)]) (.int 0)=some (.int (p:Int)):=rfl;have g1:za7 (.tup [.int (p:Int),.int (q:Int)]) (.int 1)=some (.int (q:Int)):=rfl;have dn:decide ((p:Int)=(q:Int))=false:=Df_ (by lia)
  refine za5 (s':=[some (.lst ((j5 wd.length).map (bdT pn))),some (.lst (rows.map zcr)),some (.int (wd.length:Nat)),some (.lst (((j5 rows.length).map (cn pn j)).map nT)),some (.int (j:Int)),some (.tup [.int (p:Int),.int (q:Int)])]) (by simp_all?[ga,ztB,g0,g1,dn]<;>rfl) ?_
  obtain⟨lo,elo,hlo⟩:∃ lo:Int,zrj (.tup [.int (p:Int),.int (q:Int)])=some (.int lo)/\0<=lo:=by
   refine⟨zrS [(p:Int),(q:Int)],rfl,?_⟩;rcases Nat.le_total p q with h |h
   ·rw[zk6 (m:=(p:Int)) (by simp) (by simp; lia)]; lia
   ·rw[zk6 (m:=(q:Int)) (by simp) (by simp; lia)]; lia
  obtain⟨hi,ehi,hhi⟩:∃ hi:Int,zrk (.tup [.int (p:Int),.int (q:Int)])=some (.int hi)/\hi < (rows.length:Nat):=by
   refine⟨zo0 [(p:Int),(q:Int)],rfl,?_⟩;rcases Nat.le_total p q with h |h
   ·rw[zhy (m:=(q:Int)) (by simp) (by simp; lia)]; lia
   ·rw[zhy (m:=(p:Int)) (by simp) (by simp; lia)]; lia
  have t1:decide (lo < 0)=false:=Df_ (by lia)
  have t2:decide (((rows.length:Nat):Int)<=hi)=false:=Df_ (by lia)
  have q1:za7 (.lst (rows.map zcr)) (.int (p:Int))=some (.lst (r1.map nT)):=by rw[zfq,jg,hr1]; rfl
  have q2:za7 (.lst (rows.map zcr)) (.int (q:Int))=some (.lst (r2.map nT)):=by rw[zfq,jg,hr2]; rfl
  have n1:zaC (.int (2*(j:Int))) (.lst (r1.map nT))=some (.bl false):=by rw[show (2*(j:Int))=((2*j:Nat):Int) by lia,zjE,Dt_ m1]; rfl
  have n2:zaC (.int (2*(j:Int)+1)) (.lst (r2.map nT))=some (.bl false):=by rw[show (2*(j:Int)+1)=((2*j+1:Nat):Int) by lia,zjE,Dt_ m2]; rfl
  refine za5 (s':=[some (.lst ((j5 wd.length).map (bdT pn))),some (.lst (rows.map zcr)),some (.int (wd.length:Nat)),some (.lst (((j5 rows.length).map (cn pn j)).map nT)),some (.int (j:Int)),some (.tup [.int (p:Int),.int (q:Int)])]) (by simp_all?[elo,ehi,t1,t2,g0,g1,q1,q2,n1,n2]<;>rfl) ?_
  refine za5 (zpP (cn pn j) p1 (by simp_all?[g0])) ?_
  refine zam (zpP (fun i=>if i=p then cn pn j i+1 else cn pn j i) p2 (by simp_all?[g1])) ⟨some (.int (j:Int)),some (.tup [.int (p:Int),.int (q:Int)]),?_⟩
  have e:∀ i,cn pn (j+1) i=if i=q then (if i=p then cn pn j i+1 else cn pn j i)+1 else if i=p then cn pn j i+1 else cn pn j i:=fun i=>by rw[zrF,hp,hq]
  rw[show cn pn (j+1)=fun i=>if i=q then (if i=p then cn pn j i+1 else cn pn j i)+1 else if i=p then cn pn j i+1 else cn pn j i from funext e]
 ·rintro s ⟨a4,a5,rfl⟩;rw[zl9,j6,QH]
  have z1:=zbS (M:=[3]) (caps:=[none]) (fi:=zcs (dV 1)) (dg:=dGn 0) (fe:=d1 zdo (dV 0)) (s:=[some (.lst ((j5 wd.length).map (bdT pn))),some (.lst (rows.map zcr)),some (.int (wd.length:Nat)),some (.lst (((j5 rows.length).map (cn pn wd.length)).map nT)),a4,a5]) rows zcr (fun r=>nT r.length) (by simp_all?[]) (by lia) (by
   intro r hr
   exact⟨[some (zcr r)],rfl,by unfold zcr; simp_all?[]<;>rfl,rfl⟩)
  have z2:rows.map (fun r=>nT r.length)=(rows.map ZC).map nT:=by rw[jY]; rfl
  have ee:(j5 rows.length).map (cn pn wd.length)=rows.map ZC:=by
   refine gh (by simp) fun i h1 h2=>?_
   simp only[Zi,QN];have hi:i < rows.length:=by simpa using h1
   exact P.len (j3 hi)
  rw[z2] at z1;rw[ee] at z1 ⊢;have eq:gEq (.lst ((rows.map ZC).map nT)) (.lst ((rows.map ZC).map nT))=some (.bl true):=by rw[zsl,Dt_ rfl]
  exact zav (by simp_all?[z1,eq]<;>rfl) ⟨_,rfl⟩
theorem zmr(ns:List Int):∃(wd:List Str) (t:T),GoodWord wd/\zep [.scr ns]=some (.tup [.lst (wd.map T.str),t])/\((∃ hd:Str->Bool,t=.lst ((zbA wd hd).map crT)/\SidesOk (za1 wd) (crs wd) (sdh wd hd))∨t=.non):=by
 have c0:zaD [.scr ns,.int 0]=some (.int (ns.getD 0 0)):=zil ns 0;have c1:zaD [.scr ns,.int 1]=some (.int (ns.getD 1 0)):=zil ns 1;have c2:zaD [.scr ns,.int 2]=some (.int (ns.getD 2 0)):=zil ns 2;have c3:zaD [.scr ns,.int 3]=some (.int (ns.getD 3 0)):=zil ns 3;generalize ns.getD 0 0=v0 at c0;generalize ns.getD 1 0=v1 at c1;generalize ns.getD 2 0=v2 at c2;generalize ns.getD 3 0=v3 at c3
 obtain⟨t,e,wd,u,gw,rfl,ht⟩:=zbV (n:=4) (d:=zcW) (ts:=[.scr ns]) (Q:=fun t=>∃(wd:List Str) (u:T),GoodWord wd/\t=.tup [.lst (wd.map T.str),u]/\((∃ hd:Str->Bool,u=.lst ((zbA wd hd).map crT)/\SidesOk (za1 wd) (crs wd) (sdh wd hd))∨u=.non)) (by
  show Run zcW [some (.scr ns),none,none,none] _;unfold zcW;refine za5 (s':=[some (.scr ns),some (.int (v1%13)),none,none]) (by simp_all?[c1]) ?_
  refine zhJ (fun s=>∃ m:Nat,m<=30/\s=[some (.scr ns),some (.int (m:Int)),none,none]) ?_ ?_
  ·by_cases h:v1 / 13%8=5
   ·refine zav (r:=.nx [some (.scr ns),some (.int (((13+v1 / 104%18).toNat:Nat):Int)),none,none]) ?_ ⟨_,by lia,rfl⟩
    rw[Ym (by lia)]
    simp_all?[c1,Dt_ h]
   ·refine zav (r:=.nx [some (.scr ns),some (.int (((v1%13).toNat:Nat):Int)),none,none]) ?_ ⟨_,by lia,rfl⟩
    rw[Ym (by lia)]
    simp_all?[c1,Df_ h]<;>rfl
  rintro s ⟨m,hm,rfl⟩;obtain⟨names,en,nl,nd,nN⟩:=zn9 v0 hm;obtain⟨wd,ew,gw,_⟩:=zo8 v2 (names:=names) (by lia) nd nN
  obtain⟨b,eb,hb⟩:=zkx v3;obtain⟨y,hy,hd⟩:=zj3 gw hb;refine za5 (s':=[some (.scr ns),some (.int (m:Int)),some (.lst (names.map T.str)),none]) (by simp_all?[c0,en]) ?_
  refine za5 (s':=[some (.scr ns),some (.int (m:Int)),some (.lst (names.map T.str)),some (.lst (wd.map T.str))]) (by simp_all?[c2,ew]) ?_
  rcases hd with ⟨hd,ed,hsd⟩ |ed
  ·exact zav (by simp_all?[c3,eb,ed]<;>rfl) ⟨_,_,rfl,wd,_,gw,rfl,.inl ⟨hd,rfl,hsd⟩⟩
  ·exact zav (by simp_all?[c3,eb,ed]<;>rfl) ⟨_,_,rfl,wd,_,gw,rfl,.inr rfl⟩)
 exact⟨wd,u,gw,e,ht⟩
theorem zwo(pn:Nat->Nat)(n:Nat):gEq (.lst ((j5 n).map (bdT pn))) (.lst ((j5 n).map (bdT pn)))=some (.bl true):=by
 show (eqD 8 _ _).map T.bl=_;rw[zdK fun x hx=>?_]
 ·rfl
 ·obtain⟨k,_,rfl⟩:=jA.mp hx;show (zhu (eqD 6) [T.int (pn (2*k):Nat),.int (pn (2*k+1):Nat)] [T.int (pn (2*k):Nat),.int (pn (2*k+1):Nat)]).map (fun b=>b&&2 == 2)=some true;rw[zgQ]
  ·rfl
  ·intro y hy;rcases jv.mp hy with rfl |hy
   ·show scE (.int _) (.int _)=some true;simp[scE]
   ·rw[je.mp hy];show scE (.int _) (.int _)=some true;simp[scE]
theorem ztE(ns:List Int):ztZ [.scr ns]=some (.bl true):=by
 obtain⟨wd,u,gw,es,hu⟩:=zmr ns;have hlen:=gw.len;refine zc0 ?_;show Run zoT [some (.scr ns),none,none,none,none,none] _;unfold zoT;refine za5 (s':=[some (.scr ns),some (.lst (wd.map T.str)),some u,none,none,none]) (by simp_all?[es]<;>rfl) ?_
 rcases hu with ⟨hd,rfl,hsd⟩ |rfl
 ·have ck:=zrB gw hd;obtain⟨rows,ep,hP⟩:=zlA ck;have hrl:=hP.len hlen;obtain⟨pn,P⟩:=hP.part gw.two;have eb:=zm1 hlen hrl ep P;have cl:(zbA wd hd).length<=100:=by
   unfold zbA;rw[j6];have:=(zgB gw).len;lia
  have er:=zoi hlen hrl P fun k hk e=>by
   obtain⟨r1,h1,m1⟩:=P.at_ (2*k) (by lia)
   obtain⟨r2,h2,m2⟩:=P.at_ (2*k+1) (by lia)
   rw[<-e,h1] at h2;obtain rfl:=jf h2;obtain⟨t,ht,o1,o2⟩:=P.orb r1 (jE h1) _ m1 _ m2;exact zmd gw.two hsd ht o1 o2
  have eqb:=zwo pn wd.length;have bl:((j5 wd.length).map (bdT pn)).length<=1000000:=by simp; lia
  generalize hB:(j5 wd.length).map (bdT pn)=B at eb er eqb bl;refine za5 (s':=[some (.scr ns),some (.lst (wd.map T.str)),some (.lst ((zbA wd hd).map crT)),none,none,none]) rfl ?_;have ll:∀ l:List T,zbZ (.lst l)=some (.lst l):=fun _=>rfl
  have lc:=zbS (M:=[]) (caps:=[none,none]) (fi:=zcs (dV 2)) (dg:=dGt [0,1]) (fe:=zjj (dAc (dV 0) (dAc (d1 zbZ (dV 1)) dAn))) (s:=[some (.scr ns),some (.lst (wd.map T.str)),some (.lst ((zbA wd hd).map crT)),none,none,none]) (zbA wd hd) crT crT (by simp_all?[]) (by lia) (by
   intro c hc
   exact⟨[some (.str c.1),some (.lst (c.2.map nT))],rfl,by simp_all?[ll]<;>rfl,rfl⟩)
  refine za5 (s':=[some (.scr ns),some (.lst (wd.map T.str)),some (.lst ((zbA wd hd).map crT)),some (.lst [.lst (wd.map T.str),.lst ((zbA wd hd).map crT)]),none,none]) (by simp_all?[ll,lc]) ?_
  have nh:=zn8 wd (zbA wd hd);have p0:za7 (.lst [.lst (wd.map T.str),.lst ((zbA wd hd).map crT)]) (.int 0)=some (.lst (wd.map T.str)):=rfl;have p1:za7 (.lst [.lst (wd.map T.str),.lst ((zbA wd hd).map crT)]) (.int 1)=some (.lst ((zbA wd hd).map crT)):=rfl;refine za5 (s':=[some (.scr ns),some (.lst (wd.map T.str)),some (.lst ((zbA wd hd).map crT)),some (.lst [.lst (wd.map T.str),.lst ((zbA wd hd).map crT)]),some (.lst B),none]) (by simp_all?[p0,p1,eb]) ?_
  refine za5 (s':=[some (.scr ns),some (.lst (wd.map T.str)),some (.lst ((zbA wd hd).map crT)),some (.lst [.lst (wd.map T.str),.lst ((zbA wd hd).map crT)]),some (.lst B),none]) (by simp_all?[nh,ep,er]<;>rfl) ?_
  refine za5 (s':=[some (.scr ns),some (.lst (wd.map T.str)),some (.lst ((zbA wd hd).map crT)),some (.lst [.lst (wd.map T.str),.lst ((zbA wd hd).map crT)]),some (.lst B),some (.lst B)]) (by simp_all?[ll]) ?_
  refine za5 (s':=[some (.scr ns),some (.lst (wd.map T.str)),some (.lst ((zbA wd hd).map crT)),some (.lst [.lst (wd.map T.str),.lst ((zbA wd hd).map crT)]),some (.lst (B++[.tup [.int 0,.int 1]])),some (.lst B)]) (by simp_all?[zmc _ bl]) ?_
  exact zb5 (s':=[some (.scr ns),some (.lst (wd.map T.str)),some (.lst ((zbA wd hd).map crT)),some (.lst [.lst (wd.map T.str),.lst ((zbA wd hd).map crT)]),some (.lst (B++[.tup [.int 0,.int 1]])),some (.lst B)]) (by simp_all?[p0,p1,eb,eqb]<;>rfl) rfl
 ·exact zhd (t:=.bl true) (s':=[some (.scr ns),some (.lst (wd.map T.str)),some .non,none,none,none]) rfl ⟨_,rfl⟩
end Dw
namespace Dw
open PySem PySem.Spec PyProof.Rows L2 L3
set_option maxHeartbeats 1000000 in
theorem zuk{l:Ye}{w:Qf}{K:jb}{h:QL}{mg:Str->Option j8}{fa:js}(X:K.In h)(G:h.Ns jO mg)(hfa:mg "law"=some (.ref fa)){kDrawError kNotDrawn:js}
  (a1:Fd K "_law_names" zgg)
  (a2:Fd K "_law_draw" zhH)
  (a3:Fd K "_law_built_word" zcI)
  (a4:Fd K "_law_any_word" zdz)
  (a5:Fd K "_law_bag" zjK)
  (a6:Fd K "_law_word" zhG)
  (a7:Fd K "_law_cell" zhI)
  (a8:Fd K "names_of" zdy)
  (a9:Fd K "odd_name" zdx)
  (a10:Fd K "evenly_shared" zbE)
  (a11:Fd K "odd_pair" zdw)
  (a12:Fd K "found_from" zcG)
  (a13:Fd K "side_beside" zcg)
  (a14:Fd K "sides_along" zcf)
  (a15:Fd K "wrong_step" zcF)
  (a16:Fd K "way_back" zdv)
  (a17:Fd K "ring_through" zbO)
  (a18:Fd K "sides_or_ring" zbD)
  (a19:Fd K "standings" zd1)
  (a20:Fd K "between" zeh)
  (a21:Fd K "crossed_with" zbQ)
  (a22:Fd K "looked" zf2)
  (a23:Fd K "ends_by_side" zbP)
  (a24:Fd K "drawing" zd2)
  (a25:Fd K "_law_drawing" zei)
  (a26:Fd K "_law_set_up" zf4)
  (a27:Fd K "ends_ahead" zcH)
  (a28:Fd K "rounds" zf1)
  (a29:Fd K "walker_by" zd0)
  (a30:Fd K "end_of" zf3)
  (a31:Fd K "patches" zef)
  (a32:Fd K "borders" zeg)
  (a33:Fd K "_law_whole" zge)
  (a34:Fd K "_law_lists" zgh)
  (a35:Fd K "_law_right" zgf)
  (a36:Fd K "law" zqk)
  (z1:Qe K jO "range"=some none)
  (z2:Qe K jO "len"=some none)
  (z3:Qe K jO "list"=some none)
  (z4:Qe K jO "max"=some none)
  (z5:Qe K jO "set"=some none)
  (z6:Qe K jO "enumerate"=some none)
  (z7:Qe K jO "zip"=some none)
  (z8:Qe K jO "isinstance"=some none)
  (z9:Qe K jO "bool"=some none)
  (z10:Qe K jO "int"=some none)
  (z11:Qe K jO "all"=some none)
  (z12:Qe K jO "tuple"=some none)
  (z13:Qe K jO "min"=some none)
  (xDrawError:Qe K jO "DrawError"=some (some (.ref kDrawError)))
  (xNotDrawn:Qe K jO "NotDrawn"=some (some (.ref kNotDrawn)))
  (xnd:∀ h:QL,K.In h->∃ bm,L2.XClsI K h kNotDrawn kDrawError bm)
  : ∃ fd:Z5,(∀(s:jc) (v:j8),W2 s fd ⟨[v],[]⟩ [("_law_script",v)])/\∀ base:QL,K.In base->base.Ns jO mg->FnOk l.prog w K mg base CX0 9 fa fd ["_law_script"] (L3.zlp K):=by
 have m_range:=Q6 X G z1;have m_len:=Q6 X G z2;have m_list:=Q6 X G z3;have m_max:=Q6 X G z4;have m_set:=Q6 X G z5;have m_enumerate:=Q6 X G z6;have m_zip:=Q6 X G z7;have m_isinstance:=Q6 X G z8;have m_bool:=Q6 X G z9;have m_int:=Q6 X G z10;have m_all:=Q6 X G z11;have m_tuple:=Q6 X G z12;have m_min:=Q6 X G z13;refine zoE (M':=[]) (Mb:=[]) X G hfa a36 zph (fun _ _ _ _ _ _ _=>rfl) (by decide) ztE fun base KB GB=>?_
 letI:TheK:=⟨K⟩
 let v:Ev:=⟨l.prog,w,mg,base⟩
 let a:Ax:=⟨kNotDrawn,kDrawError,kNotDrawn,kNotDrawn,kNotDrawn,kNotDrawn⟩
 have m2:v.mg "NotDrawn"=some (.ref a.r2):=Wu X G xNotDrawn;have nd:Nd v a:=xnd base KB;have mE:=a1.here X G (ps:=["_law_cell_here","_law_many"]) (bd2 fun _ _ _ _ _ _ _ _=>rfl);have pF:=a2.here X G (ps:=["_law_bag_here","_law_many"]) (bd2 fun _ _ _ _ _ _ _ _=>rfl);have mz:=a3.here X G (ps:=["_law_bag_here","_law_names_here"]) (bd2 fun _ _ _ _ _ _ _ _=>rfl);have mL:=a4.here X G (ps:=["_law_bag_here","_law_names_here"]) (bd2 fun _ _ _ _ _ _ _ _=>rfl);have kh:=a5.here X G (ps:=["_law_cell_here"]) (bd1 fun _ _ _ _ _ _ _=>rfl);have mo:=a6.here X G (ps:=["_law_cell_here","_law_names_here"]) (bd2 fun _ _ _ _ _ _ _ _=>rfl);have kE:=a7.here X G (ps:=["_law_script","_law_k"]) (bd2 fun _ _ _ _ _ _ _ _=>rfl);have mP:=a8.here X G (ps:=["word"]) (bd1 fun _ _ _ _ _ _ _=>rfl);have kr:=a9.here X G (ps:=["mates"]) (bd1 fun _ _ _ _ _ _ _=>rfl);have kg:=a10.here X G (ps:=["mates","one","other"]) (bd3 fun _ _ _ _ _ _ _ _ _=>rfl);have pV:=a11.here X G (ps:=["mates"]) (bd1 fun _ _ _ _ _ _ _=>rfl);have mB:=a12.here X G (ps:=["mates"]) (bd1 fun _ _ _ _ _ _ _=>rfl);have kS:=a13.here X G (ps:=["mates","sides","name","mate"]) (bd4 fun _ _ _ _ _ _ _ _ _ _=>rfl);have kl:=a14.here X G (ps:=["mates","origins"]) (bd2 fun _ _ _ _ _ _ _ _=>rfl);have ku:=a15.here X G (ps:=["mates","sides"]) (bd2 fun _ _ _ _ _ _ _ _=>rfl);have kF:=a16.here X G (ps:=["origins","name"]) (bd2 fun _ _ _ _ _ _ _ _=>rfl);have pX:=a17.here X G (ps:=["origins","one","other"]) (bd3 fun _ _ _ _ _ _ _ _ _=>rfl);have mU:=a18.here X G (ps:=["mates"]) (bd1 fun _ _ _ _ _ _ _=>rfl);have m6:=a19.here X G (ps:=["word","name"]) (bd2 fun _ _ _ _ _ _ _ _=>rfl);have m8:=a20.here X G (ps:=["word","name"]) (bd2 fun _ _ _ _ _ _ _ _=>rfl);have ka:=a21.here X G (ps:=["word","name"]) (bd2 fun _ _ _ _ _ _ _ _=>rfl);have mh:=a22.here X G (ps:=["word"]) (bd1 fun _ _ _ _ _ _ _=>rfl);have kL:=a23.here X G (ps:=["word","name","side"]) (bd3 fun _ _ _ _ _ _ _ _ _=>rfl);have pL:=a24.here X G (ps:=["word"]) (bd1 fun _ _ _ _ _ _ _=>rfl);have kj:=a25.here X G (ps:=["_law_bag_here","_law_word_here"]) (bd2 fun _ _ _ _ _ _ _ _=>rfl);have mQ:=a26.here X G (ps:=["_law_script"]) (bd1 fun _ _ _ _ _ _ _=>rfl);have pS:=a27.here X G (ps:=["crossings"]) (bd1 fun _ _ _ _ _ _ _=>rfl);have p9:=a28.here X G (ps:=["after"]) (bd1 fun _ _ _ _ _ _ _=>rfl);have kM:=a29.here X G (ps:=["size","end"]) (bd2 fun _ _ _ _ _ _ _ _=>rfl);have kn:=a30.here X G (ps:=["size","walker"]) (bd2 fun _ _ _ _ _ _ _ _=>rfl);have kz:=a31.here X G (ps:=["word","crossings"]) (bd2 fun _ _ _ _ _ _ _ _=>rfl);have kB:=a32.here X G (ps:=["word","crossings"]) (bd2 fun _ _ _ _ _ _ _ _=>rfl);have mM:=a33.here X G (ps:=["_law_found"]) (bd1 fun _ _ _ _ _ _ _=>rfl);have mC:=a34.here X G (ps:=["_law_found","_law_many"]) (bd2 fun _ _ _ _ _ _ _ _=>rfl);have kK:=a35.here X G (ps:=["_law_found","_law_some","_law_many"]) (bd3 fun _ _ _ _ _ _ _ _ _=>rfl);have pW:zgT v 1:=zlF mE m_range m_len;have ph:zeW v 1:=zn5 pF;have mw:zcN v 2:=zgv mz ph.up m_list m_len m_max;have kU:zdQ v 2:=zi1 mL ph.up m_list m_range m_len;have pN:zir v 1:=zoB kh;have mV:zio v 3:=zn4 mo kU.up pN.up mw.up;have mX:ziq v 1:=zn6 kE m_len;have pp:zbo v 1:=zi0 mP m_list;have pU:zdP v 1:=zhZ kr m_len;have pK:zb3 v 1:=zeK kg m_len m_set;have mR:zdO v 2:=zhY pV pK.up;have mr:zcL v 1:=zgt mB;have pP:zbz v 2:=zfI kS pK.up;have mS:zcq v 3:=zfH kl pP.up;have mj:zcK v 3:=zgs ku pP.up;have me:zdN v 1:=zhX kF;have ko:zbW v 2:=zf7 pX me.up m_len;have kH:zbG v 4:=zeJ mU mr.up mS.up mj.up ko.up;have pO:zc8 v 1:=zh4 m6 m_enumerate;have kd:zet v 2:=ziY m8 pO.up;have pJ:zbf v 3:=zf9 ka kd.up pp.up;have pM:ze2 v 5:=zjX mh pp.up pJ.up pU.up mR.up kH.up;have ke:zbX v 2:=zf8 kL pO.up;have kN:zer v 6:=ziW pL pM.up pp.up ke.up m_zip;have kA:zeq v a 6:=zi2 pL pM.up m2 nd;have kq:zeu v 7:=ziZ kj kN.up pp.up ph.up pJ.up kA.up m_len m_list m2 nd;have mF:zfp v 8:=zjZ mQ mX.up pW.up mV.up kq.up pN.up;have ms:zcM v 1:=zgu pS m_enumerate;have pZ:zfn v 1:=zjW p9 m_set m_range m_len;have pT:zdh v 1:=zh3 kM;have mq:zfo v 1:=zjY kn;have pQ:zdi v 2:=ziV kz ms.up pZ.up pT.up mq.up m_len m_range;have mW:zes v 3:=ziX kB pQ.up m_enumerate m_range m_len;have m7:zgR v 1:=zlD mM m_isinstance m_bool m_int;have kO:zgU v 2:=zlG mC m7.up m_all m_len m_isinstance m_list;have kP:zgS v 3:=zlE kK kO.up m_len m_isinstance m_list m_enumerate m_tuple m_max m_min;exact zwz (v:=v) mF.up mW.up kP.up pQ.up m_list m_len
end Dw
namespace PySem.W.Fast
theorem tw7607521143180711186:True:=⟨⟩
theorem tw2008594496324756399:True:=⟨⟩
theorem tw5108810850777578903:True:=⟨⟩
theorem tw10437066541835634791:True:=⟨⟩
theorem tw10073221065329731324:True:=⟨⟩
theorem tw10997880025213870685:True:=⟨⟩
theorem tw5024334172268820712:True:=⟨⟩
theorem tw362059606077076916:True:=⟨⟩
theorem tw6164618941980656835:True:=⟨⟩
theorem tw9597309975247729858:True:=⟨⟩
theorem tw9384851333673129269:True:=⟨⟩
theorem tw10632056218530330434:True:=⟨⟩
theorem tw1723819393955528169:True:=⟨⟩
theorem tw13892615750437884071:True:=⟨⟩
theorem tw1538278087530604801:True:=⟨⟩
theorem tw14136945088726937718:True:=⟨⟩
theorem tw16284498335569740908:True:=⟨⟩
theorem tw7956081183057478591:True:=⟨⟩
theorem tw2671388905068938555:True:=⟨⟩
theorem tw15187849758598331450:True:=⟨⟩
theorem tw9118928226640334776:True:=⟨⟩
theorem tw15464777829664774905:True:=⟨⟩
theorem tw665154496706655060:True:=⟨⟩
theorem tw10014136953887328909:True:=⟨⟩
theorem tw14204572387825164646:True:=⟨⟩
theorem tw14074599453263445000:True:=⟨⟩
theorem tw7688490456020501447:True:=⟨⟩
theorem tw5965752130046125622:True:=⟨⟩
theorem tw10241738710141783938:True:=⟨⟩
theorem tw3823126768003249108:True:=⟨⟩
theorem tw17354998732108110563:True:=⟨⟩
theorem tw4374798475224359810:True:=⟨⟩
theorem tw10221568985742927021:True:=⟨⟩
theorem tw9651729523055549407:True:=⟨⟩
theorem tw8321316176956928361:True:=⟨⟩
theorem tw17563572694154696405:True:=⟨⟩
theorem tw3690887438429528956:True:=⟨⟩
theorem tw863096778565419696:True:=⟨⟩
theorem tw5817242682666916082:True:=⟨⟩
theorem tw16350970664673322683:True:=⟨⟩
theorem tw527329142258763214:True:=⟨⟩
theorem tw771497192695653245:True:=⟨⟩
theorem tw18040674878553500846:True:=⟨⟩
theorem tw849665932346096752:True:=⟨⟩
theorem tw16402442577164443579:True:=⟨⟩
theorem tw10318101132437765473:True:=⟨⟩
theorem tw3578491520629793177:True:=⟨⟩
theorem tw9748158902392761901:True:=⟨⟩
theorem tw1273682119594336046:True:=⟨⟩
theorem tw9900733910558029647:True:=⟨⟩
theorem tw9476408497333182625:True:=⟨⟩
theorem tw8959278479634007554:True:=⟨⟩
theorem tw4958732493559689418:True:=⟨⟩
theorem tw11501772906943003765:True:=⟨⟩
theorem tw6267211078555976751:True:=⟨⟩
theorem tw3628785303461731196:True:=⟨⟩
theorem tw6410370008918389982:True:=⟨⟩
theorem tw10817277633084352471:True:=⟨⟩
theorem tw3811739458617842465:True:=⟨⟩
theorem tw12742966838834005652:True:=⟨⟩
theorem tw11695890484250135474:True:=⟨⟩
end PySem.W.Fast
open PySem PySem.W PyProof.Rows
set_option maxRecDepth 100000 in
set_option maxHeartbeats 0 in
theorem PySem.Challenge.cw_drawnword_k22_patches_at_both_hands_holds : PySem.Challenge.rw_drawnword_k22_patches_at_both_hands.Holds := by
 w_on; o_law; k_head; (case hw=>w_witness2)
 k_fill
 refine L3.zuM (l:=PySem.Challenge.rw_drawnword_k22_patches_at_both_hands) (x:="_law_script") (k:=9) rfl rfl (by decide) (fun w h Y=>PySem.W.kIn_of Y) ?F
 case F=>
  intro w mg fa h KX G hmg
  refine' Dw.zuk KX G hmg (.mk ?_ ?_ ?_ ?_) (.mk ?_ ?_ ?_ ?_) (.mk ?_ ?_ ?_ ?_) (.mk ?_ ?_ ?_ ?_) (.mk ?_ ?_ ?_ ?_) (.mk ?_ ?_ ?_ ?_) (.mk ?_ ?_ ?_ ?_) (.mk ?_ ?_ ?_ ?_) (.mk ?_ ?_ ?_ ?_) (.mk ?_ ?_ ?_ ?_) (.mk ?_ ?_ ?_ ?_) (.mk ?_ ?_ ?_ ?_) (.mk ?_ ?_ ?_ ?_) (.mk ?_ ?_ ?_ ?_) (.mk ?_ ?_ ?_ ?_) (.mk ?_ ?_ ?_ ?_) (.mk ?_ ?_ ?_ ?_) (.mk ?_ ?_ ?_ ?_) (.mk ?_ ?_ ?_ ?_) (.mk ?_ ?_ ?_ ?_) (.mk ?_ ?_ ?_ ?_) (.mk ?_ ?_ ?_ ?_) (.mk ?_ ?_ ?_ ?_) (.mk ?_ ?_ ?_ ?_) (.mk ?_ ?_ ?_ ?_) (.mk ?_ ?_ ?_ ?_) (.mk ?_ ?_ ?_ ?_) (.mk ?_ ?_ ?_ ?_) (.mk ?_ ?_ ?_ ?_) (.mk ?_ ?_ ?_ ?_) (.mk ?_ ?_ ?_ ?_) (.mk ?_ ?_ ?_ ?_) (.mk ?_ ?_ ?_ ?_) (.mk ?_ ?_ ?_ ?_) (.mk ?_ ?_ ?_ ?_) (.mk ?_ ?_ ?_ ?_) ?_ ?_ ?_ ?_ ?_ ?_ ?_ ?_ ?_ ?_ ?_ ?_ ?_ ?xDrawError ?xNotDrawn ?xnd
  (case xDrawError=>k_is)
  (case xNotDrawn=>k_is)
  case xnd=>
   intro h KX
   refine' ⟨_,L3.zo7 KX ?xl ?xi ?xn ?xt ?lk ?hcd ?S ?l1 ?l2 ?d1 ?d2 ?hb ?c1 ?c2 ?c3 ?c4 ?c5⟩
   (case xl=>k_is)
   (case xi=>k_is)
   (case xn=>kernel_rfl)
   (case xt=>kernel_rfl)
   (case lk=>k_is)
   (case hcd=>k_is)
   (case S=>exact⟨rfl,rfl,rfl,by decide +kernel,rfl,by decide +kernel,by decide +kernel⟩)
   (case l1=>rfl)
   (case l2=>rfl)
   (case d1=>decide)
   (case d2=>decide)
   (case hb=>exact fun us hl=>match us,hl with |[_,_],_=>rfl)
   (case c1=>k_is)
   (case c2=>rfl)
   (case c3=>rfl)
   (case c4=>k_is)
   (case c5=>k_is)
  all_goals try k_is
