import PyProof.Rows.All
import Wide.All
import OpenK.AllK
import Wide.FinOn
import Lean
import PyProof.EqAt
import PyProof.EqKinds
import PyProof.TupleCall
import PyProof.EnumMake
import PyProof.EnumFor
import PyProof.NeKinds
import PyProof.EnumStmt
import PyProof.DictCompW
import KE.KDictList
import KE.KRevSl
import PyProof.ListRange
import PyProof.ConsumeWalk
import PyProof.SumWalk
import PyProof.MinMaxWalk
import PyProof.DictWalks
import PyProof.StrWalks
import PyProof.Rows.SortStr
import PyProof.Rows.SortShell
import PyProof.Rows.SortWalk
import PyProof.StrBlockG
import PyProof.StrLawsTight
import PyProof.Rows.RuleB_and
import PyProof.Rows.RuleB_or
import PyProof.Rows.SetFrom
import PyProof.SetRoads
import PyProof.Rows.SumAny
import KE.KRevIter
import PyProof.Rows.Range3
import KE.KDictLaws
import PyProof.ConsumeS
import PyProof.ZipIter
import PyProof.ListNew
import PyProof.Draws
import PyProof.SeqI3
import OpenK.KRaise
import PyProof.ExcBaseAll.ValueError
import PyProof.RulesAs
import OpenK.KDescr
import KE.KIsAll
import PyProof.ExcArgs
import PyProof.InstSpecial
import PyProof.ExcClass2
import PyProof.InstStore
import PyProof.InstStoreFacts
import PyProof.AutoSeq1
import PyProof.CallStr
import OpenK.KOwn
import PyProof.StrLawsChain
import PySem.Challenge.RW_drawnword_k23_colours
open Option renaming some->aA,none->aB
open Bool renaming true->aC,false->aD
open Decidable renaming decide->aE
open List renaming getElem?_eq_getElem->j3,length_map->j5,range->j6,getElem?_eq_some_iff->j7,mem_range->jc,mem_singleton->je,getElem?_map->jg,mem_append_left->jj,length_cons->jk,getElem?_set_ne->jm,length_append->jn,map_cons->jq,mem_append->jt,size_toArray->ju,getD_eq_getElem?_getD->jv,mem_map->jx,mem_cons->jy,all_eq_true->jz,mem_cons_of_mem->jA,mem_append_right->jB,map_append->jE,mem_of_getElem?->jF,nodup_append->jP,mem_filter->jQ,map_map->jU,getElem?_set_self->jV,mem_cons_self->jW,getElem_mem->jX,take_of_length_le->Q1,dropLast_concat_getLast->Q5,getElem?_append_left->Q7,getElem?_append_right->Qc,length_take->Qd,nodup_cons->Qf,length_set->Qg,append_assoc->Ql,idxOf_lt_length_iff->Qn,append_nil->Qv,length_pos_iff->Qw,take_length->Qy,getElem_of_mem->QF,map_congr_left->QJ,length_range->QK,length_drop->QU,filter_eq_nil_iff->QX,reverse_cons->QY,find?_cons->Z6,take_append_drop->Z8,any_cons->Ze,map_nil->Zf,getElem?_range->Zh,pairwise_lt_range->Zk,filter_cons->Zo,not_mem_nil->Zp,length_singleton->Zq,length_filter_le->Zr,filter_append->Zs,drop_eq_getElem_cons->Zw,nodup_nil->Zx,mem_of_mem_take->Zz,length_nil->ZE,foldl_cons->ZG,length_erase_of_mem->ZH,filterMap_cons->ZK,lookup_cons->ZQ,nodup_range->ZR,range_succ_eq_map->ZT,getElem_range->ZU,count_cons->ZZ,pairwise_map->ge,mem_erase_of_ne->gk,take_succ->gr,pairwise_iff_getElem->gx,mem_nil_iff->gy,getElem?_replicate->gJ,count_eq_zero->gM,getElem?_cons_succ->gP,length_eq_one_iff->gS,length_pos_of_mem->gT,replicate->gY,length_replicate->Y0,getElem_inj->Y4,eq_nil_of_length_eq_zero->Y6,any_eq_true->Y7,getLast?_eq_some_getLast->Y8,getLast?_append->Yc,all_cons->Yf,of_mem_zip->Yh,length->Yi,forIn_cons->Yk,mem_filterMap->Yt,contains_cons->Yx,append_of_mem->Yy,mem_or_eq_of_mem_set->YD,getElem?_eq_none_iff->YE,take_sublist->YJ,eq_of_mem_replicate->YN,filter_congr->YS,find?_isSome->YV,eraseIdx_cons_succ->N3,sum_cons->Na,filter_cons_of_pos->Nb,drop_length->Nc,zipIdx_cons->Ni,getElem_map->Nj,filter_map->Ny,dropLast_eq_take->NA,nil_append->NH,range_zero->NI,map_set->NJ,Nodup->NN,pairwise_append->NW,drop_zero->W1,length_reverse->W5,getElem?_take->Wm,map_drop->Wn,map_take->Wo,filter_filter->Wu,getElem?_drop->Wv,map_replicate->Wx,find?_eq_none->Wy,getElem_idxOf->Wz,foldl_append->WM,any_map->J0,countP_cons->J8,ext_getElem->Ja,take_append->Jb,cons_append->Jc,zipIdx_nil->Jo,range_succ->Js,find?_some->Jt,filter->Ju,count_set->Jv,forIn_nil->Jw,range_add->Jy,all_map->U2,isEmpty->U5
open PySem renaming wpAny_bind->j4,Value->j8,Shared->jd,starEach->jf,wpAny_pure->jp,sizeLine->jr,Addr->jw,Program->jI,wpAny->jJ,model->jO,mainGlobals->jT,wpAny_mono->jY,Expr->Q3,World->Qe,Around->Qh,wpAny_holding->Qi,behindInMarks->Qr,assignEach->Qs,bootBuiltins->Qu,foldedSetIterable->Qz,Heap->QN,backTo->QQ,Stmt->QR,wpAny_loadPart_at->Z1,compareOp->Z5,FuncData->Z9,wpAny_standAt->Zd,wpAny_setField_rec->Zt,wpAny_truthy_bool->ZB,wpAny_passesOwn->ZC,wpAny_comprehension_free->ZF,sizeLine_eq->ZL,mem_of_lookup->ZM,wpAny_getItem_str_slice->ZN,sysModules->ZS,wpAny_execs_nil->ZW,swapsWith->ZX,letOwnedTupleGo->ZY,wpAny_newFunctionEnv_cells->gg,wpAny_seqItems->gs,cLine->gz,wpAny_field->gB,wpAny_isSubtype_exc->gC,IsPair->gF,binaryOp->gG,wpAny_Call_Name_kw->gH,tupleKind_room_in1->gK,scanBound->gN,Scope->gQ,wpAny_pyIter_list->gW,sliceBounds->gX,assign->gZ,codeAny_call_function->Y1,wpAny_execs_cons->Y5,wpAny_loadName_local->Y9,wpAny_updateSeq_pair->Ya,GenState->Yd,bindArgs->Ye,codeAny->Yg,post_val_or_str->Yl,wpAny_setEntries_of->Ym,excClassObj->Yo,codeAny_mono->Yu,holding->Yz,wpAny_assign_Name->YI,slot_list_getitem->YK,wpAny_getItem_list_slice->YL,wpAny_setState_of->YO,NameKind->N0,attributeBase->N2,wpAny_onRaise->N7,wpAny_callSpecial?_slot->N8,wpAny_askSetting->Nf,wpAny_call_entry->Ng,wpAny_isInstance->Nh,wpAny_pyNext_list_item->Nk,wpAny_isTrue_Compare1->Nr,wpAny_pyNext_list_end->Nt,exec_Assign_Name_used->Nv,codeAny_builtin->NB,wpAny_setAddHashed_of->NC,wpAny_nextOf_list_end->NG,wpAny_Name->NK,wpAny_newFunctionEnv->NR,codeAny_call_builtin->NT,pyNext->NX,recursionLimit->W0,BindsTo->W3,subscripted->W4,tupleKind->Wa,cellsFrom->We,Arguments->Wg,evalPart_none->Wi,wpAny_forIn_array'->Wp,setWalkUnseen->Wq,IsZip->Wr,wpAny_call->WD,PlainAttrs->WF,call_meets->WG,valueAt->WH,callerA->WI,wpAny_newObj_type->WK,wpAny_pyIter_enum->WL,Builtin->WN,wpAny_setEpoch_of->WO,isInstance->WP,codeAny_func->WU,seqIndex_neg->WV,compEnvC->Je,SetTable->Jg,PassesOwn->Ji,getItem->Jk,seqIndex_of->Jl,noteFrame->Jn,wpAny_letGo->Jp,ClassData->Jq,boot_len->Jx,Paired->JB,builtinsNs->JC,isTrue->JD,Result->JF,typeLookup->JG,typeIs_str->JH,call->JI,wpAny_rule->JJ,intKind->JM,relabel->JO,compPost->JQ,Within->JX,again->JZ,atKey->U1,Model->U7,bindL->U9,bindC->Ua,Draws->Uc
open PySem.W renaming Frag->j9,fnOf->Q0,keepIn->Q6,mg_none_of->Qo,nsIn->Qq,kia_one->QB,codeIn->Z2,cellsFrom_some->gR,OpenLaw->Yj,codeRec_of->Yv,findIn->YB,methodObj->YH,hideAll_get->N9,instObj->Nq,lookIn->NY,kitOne->NZ,mg_of->Wt,kitx_list->WA,kitx_dict->WB,plainGet->J3,WalkO->JN
open Option renaming bind_some->ja,map_some->jR,isSome_iff_exists->ZD,isSome_map->gd,getD_none->J4
open PySem.Heap renaming get?_push_of_some->jb,lt_size->jo,get?_push_size->jM,SameBut->Qp,size_push->gq,ExtBut->N4,get?_update_other->Nm,get?_update_self->Nu,get?_none_of_le->NO,get?_update_ne->W6,FlyingW->U3
open Option.some renaming inj->jh
open Nat renaming le_refl->ji,ne_of_lt->jG,lt_of_lt_of_le->jZ,mod_two_eq_zero_or_one->Q2,lt_irrefl->Q4,le_trans->Q9,zero_add->QV,zero_le->QZ,lt_succ_of_lt->Z0,le_of_lt->Z4,not_lt_zero->Z7,lt_succ_self->Zn,le_of_ble_eq_true->g9,lt_trichotomy->gf,le_succ->gA,ne_of_gt->gD,lt_of_le_of_lt->gL,min_eq_left->Yp,le_antisymm->ND,lt_or_ge->NF,pos_of_ne_zero->Ww,le_succ_of_le->WS,lt_trans->WW,le_of_not_lt->J7,min_eq_right->Jd
open PySem.Str renaming empty->jC,ofString->NE
open Or renaming inl->jD,inr->ZP
open PySem.PassesOwn renaming never->jH
open Bool renaming false_ne_true->jK,and_eq_true->jL,false_eq_true->Za,or_eq_true->Zg,eq_iff_iff->Zi,false_and->YA,and_false->YC,and_eq_true_iff->NV,false_or->Wk,not_true->JS,true_and->JU,and_comm->JW,true_or->U0,or_true->U4
open PySem.F renaming plainAttrs_list->jS,slot_list_append->QL,type_list_append->QM,called_set->ga,slot_list_pop->gb,type_list_pop->gc,excBase_ValueError->Yb,slot_zip_next->Yn,slot_list_extend->YT,type_list_extend->YU,store_ValueError->Ws,args_zip_next_1->WQ,entry_zip_next->J9
open Int renaming toNat_natCast->Q8,emod_lt_of_pos->Zc,emod_nonneg->ZI,toNat_of_nonneg->Yq,emod_eq_of_lt->YW,zero_add->Nw
open PySem.Value renaming ref->Qa,isStrOf->QP,str->ZO,none->YG,notImplemented->NU,isInt->W2,int->Jh,bool->Jz,type->JA,float->U6
open PyProof.Rows renaming callWith_type1->Qj,envOfC->Zy,AllBare->YY,subscriptTail->N1,subscriptTail_builtinR->Nl,Subscript_->WE,IntsAre->Jm,boot_range->JE
open ForInStep renaming yield->Qk
open PySem.NameKind renaming free->Qt,cell->JP
open Classical renaming choose->QC,choose_spec->Zu,byContradiction->YF
open Array renaming length_toList->QD,getElem?_toList->Y2,getElem?_eq_some_iff->Ys,getElem?_eq_none->No,find?_toList->Wc,toList->JY
open PySem.Builtin.SmallTypes renaming ownedTupleIsFree->QH,nextOf->Z3,ownedTupleHandOut->gv
open List.Pairwise renaming imp_of_mem->Zb,sublist->Nz,nil->WJ,map->WT,imp->Uh
open PySem.Builtin.Frozenset renaming unchanged->Zj,isAnySet->gh,addrOf->YR,slot1->N6,intersection->WZ,updateFrom->Jf,baseOf->JK,sizeOf->JL
open False renaming elim->Zl
open True renaming intro->Zm
open Sum renaming inr->Zv,inl->gU
open Ne renaming symm->ZA
open Fin renaming mul_zero->ZJ,zero_mul->Y3,add_zero->J1,mul_comm->J2,ext->Jr
open Sum.inr renaming inj->ZV
open PySem.Builtin.List renaming listTooLong->gE
open PyProof.Rows.F renaming plain_set_update_loop->gO,entry_set_update_loop->N5
open Sum.inl renaming inj->gV
open PySem.Calls renaming Name_function_global->Yr,callWith_builtin->Nn,evalArgs_plain->NQ,spliced_cons->Wd,spliced_nil->WC
open PySem.Code renaming quiet_builtin->Yw
open PySem.Txt renaming slice->YM
open PySem.Heap.SetOf renaming typeIs->YQ
open PySem.Paired renaming length->YX,snoc->Ub
open PySem.Builtin.Range renaming rangeSize->YZ
open PySem.Challenge renaming pw_drawnword_k23_colours->Np
open List.Perm renaming append_left->Nx
open PySem.Obj renaming mapSeq->NL
open PUnit renaming unit->NM
open PySem.Around renaming frames_deeper->NP,under_plainId->NS
open PySem.Builtin.Int renaming intBits->W7
open PySem.SeqAt.EqAt renaming int_str->W8,str_int->W9
open PySem.Data renaming cell->Wb,fields->Jj,seq->Ue
open PySem.Heap.IsSliceOf renaming new->Wj
open PySem.Draws renaming list->WR
open Nat.succ renaming inj->WX
open PySem.pickOrder renaming go->WY
open PySem.Shared renaming TypeIs->JR
open PySem.Heap.UpToSlots renaming of_keeps->JT
open Prod renaming snd->JV,fst->Uf
open PySem.IsRange renaming new->U8
open Prod.mk renaming inj->Ud
open PySem.W.WShape renaming has->Ug
set_option Elab.async false
set_option linter.all false
set_option maxRecDepth 100000
theorem Qb{α β:Type _}{x:Option α}{f:α->Option β}{b:β}(h:x.bind f=aA b):∃ a,x=aA a/\f a=aA b:=Option.bind_eq_some_iff.mp h
theorem Qm{α β:Type _}{x:Option α}{f:α->β}{b:β}(h:x.map f=aA b):∃ a,x=aA a/\f a=b:=Option.map_eq_some_iff.mp h
theorem av{p:Prop}[Decidable p](h:¬p):decide p=aD:=decide_eq_false h
theorem am{p:Prop}[Decidable p](h:p):decide p=aC:=decide_eq_true h
theorem aI{c:Prop}{h:Decidable c}(hc:c){α:Sort _}{t e:α}:ite c t e=t:=if_pos hc
theorem aH{c:Prop}{h:Decidable c}(hc:¬c){α:Sort _}{t e:α}:ite c t e=e:=if_neg hc
namespace L2
open PySem PySem.Spec PyProof.Rows
variable {P:jI}{w:Qe}{H H':Hp}{h h':QN}{a:jw}{X:Cx}{pc:List (jw × Obj)}{s:jd}{b e:Q3}{ta tb:TE}{pos:Pos}{σ:St}{es:List Q3}{t:TA}
abbrev aK:=Sum Int Str
def oH:aK->j8->Bool
 |.inl k,v=>W2 k v
 |.inr x,v=>QP x v
def Gc(w:Qe):aK->Int
 |.inl k=>hashInt k
 |.inr x=>hashStr w x
theorem lG:∀ {k:aK} {v:j8},oH k v=aC->(∃ i t,k=gU i/\v=Jh i t)∨(∃ x t,k=Zv x/\v=ZO x t)
 |.inl i,v,h=>by
  obtain⟨t,e⟩:=Value.isInt_shape (k:=i) (v:=v) h;exact .inl ⟨i,t,rfl,e⟩
 |.inr x,v,h=>by
  obtain⟨t,e⟩:=Value.isStrOf_shape (x:=x) (v:=v) h;exact .inr ⟨x,t,rfl,e⟩
theorem S8(i:Int)(t:Tok):oH (.inl i) (.int i t)=aC:=by simp[oH,W2]
theorem S9(x:Str)(t:Tok):oH (.inr x) (.str x t)=aC:=by simp[oH,QP]
theorem Ko(a b:Int):aE ((gU a:aK)=gU b)=(a == b):=by
 by_cases e:a=b
 ·subst e; simp
 ·have h:¬ (gU a:aK)=gU b:=λq=>e (gV q);rw[av h];exact(beq_eq_false_iff_ne.mpr e).symm
theorem Kr(a b:Str):aE ((Zv a:aK)=Zv b)=aE (a=b):=by
 by_cases e:a=b
 ·subst e; simp
 ·have h:¬ (Zv a:aK)=Zv b:=λq=>e (ZV q);rw[av h,av e]
theorem Kp(a:Int)(b:Str):aE ((gU a:aK)=Zv b)=aD:=av (λq=>nomatch q)
theorem Kq(a:Str)(b:Int):aE ((Zv a:aK)=gU b)=aD:=av (λq=>nomatch q)
def ef(prog:jI)(w:Qe):PySem.KeyKind prog w aK where
 is:=oH
 hash:=Gc w
 inj:=λv a b ha hb=>by
  rcases lG ha with ⟨i,t,rfl,rfl⟩ |⟨x,t,rfl,rfl⟩
  ·rcases lG hb with ⟨j,u,rfl,e⟩ |⟨y,u,rfl,e⟩
   ·injection e with e1 _; rw[e1]
   ·exact nomatch e
  ·rcases lG hb with ⟨j,u,rfl,e⟩ |⟨y,u,rfl,e⟩
   ·exact nomatch e
   ·injection e with e1 _; rw[e1]
 byValue:=λk v h=>by
  rcases lG h with ⟨i,t,rfl,rfl⟩ |⟨x,t,rfl,rfl⟩<;>rfl
 pyHash:=λhv h=>by
  rcases lG hv with ⟨i,t,rfl,rfl⟩ |⟨x,t,rfl,rfl⟩
  ·exact wpAny_pyHash_int h
  ·exact wpAny_pyHash_str h
 eqBool:=λhu hv h=>by
  rcases lG hu with ⟨i,t,rfl,rfl⟩ |⟨x,t,rfl,rfl⟩
  ·rcases lG hv with ⟨j,u,rfl,rfl⟩ |⟨y,u,rfl,rfl⟩
   ·rw[Ko] at h; exact wpAny_eqBool_int h
   ·rw[Kp] at h; exact W8 i t y u _ _ _ _ h
  ·rcases lG hv with ⟨j,u,rfl,rfl⟩ |⟨y,u,rfl,rfl⟩
   ·rw[Kq] at h; exact W9 x t j u _ _ _ _ h
   ·rw[Kr] at h; exact wpAny_eqBool_str h
 «strs»:=λk x t v h=>by
  rcases lG h with ⟨i,u,rfl,e⟩ |⟨y,u,rfl,e⟩
  ·exact nomatch e
  ·injection e with e1 _;subst e1;cases v<;>rfl
theorem Tc(prog:jI)(w:Qe)(i:Int)(t:Tok):(ef prog w).is (.inl i) (.int i t)=aC:=S8 i t
theorem Td(prog:jI)(w:Qe)(x:Str)(t:Tok):(ef prog w).is (.inr x) (.str x t)=aC:=S9 x t
inductive V where
 |non |bl (b:Bool) |int (i:Int) |str (x:Str) |byt (b:Array UInt8) |flt (b:UInt64) |ref (a:jw) |ty (n:String)
 deriving DecidableEq
def RelV:V->j8->Prop
 |.non,u=>u=YG
 |.bl b,u=>u=Jz b
 |.int i,u=>∃ t,u=Jh i t
 |.str x,u=>∃ t,u=ZO x t
 |.byt b,u=>∃ t,u=Value.bytes b t
 |.flt b,u=>∃ t,u=U6 b t
 |.ref a,u=>u=Qa a
 |.ty n,u=>u=JA n
abbrev Vals:List V->List j8->Prop:=JB RelV
theorem Vals.length{xs:List V}{us:List j8}(r:Vals xs us):xs.length=us.length:=YX r
theorem Vals.get:∀ {xs:List V} {us:List j8} {i:Nat} {x:V},Vals xs us->xs[i]?=aA x->∃ u,us[i]?=aA u/\RelV x u
 |_,_,_,_,.nil,e=>by simp at e
 |_,_,0,_,.cons r _,e=>by simp at e; subst e; exact⟨_,rfl,r⟩
 |_,_,i+1,x,.cons _ t,e=>by
  obtain⟨u,h1,h2⟩:=Vals.get (i:=i) (x:=x) t (by simpa using e)
  exact⟨u,by simpa using h1,h2⟩
theorem Vals.set{x:V}{u:j8}(r:RelV x u):∀ {xs:List V} {us:List j8} (i:Nat),Vals xs us->Vals (xs.set i x) (us.set i u)
 |_,_,_,.nil=>.nil
 |_,_,0,.cons _ t=>.cons r t
 |_,_,i+1,.cons q t=>.cons q (Vals.set r i t)
theorem Vals.append:∀ {xs ys:List V} {us ws:List j8},Vals xs us->Vals ys ws->Vals (xs++ys) (us++ws)
 |_,_,_,_,.nil,s=>s
 |_,_,_,_,.cons r t,s=>.cons r (Vals.append t s)
theorem Vals.take:∀ {xs:List V} {us:List j8} (n:Nat),Vals xs us->Vals (xs.take n) (us.take n)
 |_,_,0,_=>.nil
 |_,_,_+1,.nil=>.nil
 |_,_,n+1,.cons r t=>.cons r (Vals.take n t)
theorem Vals.drop:∀ {xs:List V} {us:List j8} (n:Nat),Vals xs us->Vals (xs.drop n) (us.drop n)
 |_,_,0,r=>r
 |_,_,_+1,.nil=>.nil
 |_,_,n+1,.cons _ t=>Vals.drop n t
def RelO:Option V->Option j8->Prop
 |some v,aA u=>RelV v u
 |none,aB=>True
 |_,_=>False
def KV{κ:Type}:List (κ × V)->List (κ × j8)->Prop:=JB fun(p:κ × V) (q:κ × j8)=>p.1=q.1/\RelV p.2 q.2
def kV:aK->V
 |.inl i=>.int i
 |.inr x=>.str x
inductive HO where
 /-- a list -/
 |lst (xs:List V)
 /-- a tuple (never changes) -/
 |tup (xs:List V)
 /-- a dict whose keys are ints and texts; one whose keys are tuples of ints and texts (the empty one is both) -/
 |dK (kvs:List (aK × V)) |dT (kvs:List (List aK × V))
 /-- a set of ints: its members,its size -/
 |set (S:Int->Bool) (n:Nat)
 /-- an instance of the class at C,its dict at dx,its attributes -/
 |ins (C dx:jw) (fs:List (Str × V))
 /-- the dict of the instance at x -/
 |own (x:jw)
 /-- the dict of an exception -/
 |xd (fs:List (Str × V))
 /-- a bound method,f of x -/
 |met (f x:jw)
 /-- a range object lo,lo+1,.. below hi -/
 |rng (lo hi:Int)
 /-- a thing that is known to the object (the script; a dict while a loop walks it): read,never written while it is so -/
 |frz (o:Obj) (u:HO)
 /-- a code object's table -/
 |tbl (ps:Array j8)
 /-- any other thing,by what is aC of its one object (a def of one's own: SetO a S n:=HO.ext λh=>..) -/
 |ext (φ:QN->Prop)
abbrev Hp:=jw->Option HO
def aR(H:Hp)(a:jw)(o:HO):Hp:=λb=>if b=a then aA o else H b
theorem bq{H:Hp}{a:jw}{o:HO}:aR H a o a=aA o:=by unfold aR; rw[aI rfl]
theorem ac{H:Hp}{a b:jw}{o:HO}(h:b≠a):aR H a o b=H b:=by unfold aR; rw[aH h]
theorem IS{H:Hp}{a b:jw}{o u:HO}(h:H a=aA o)(h':H b=aA u)(d:o≠u):a≠b:=by
 intro e; subst e; rw[h] at h'; exact d (jh h')
theorem cZ{H:Hp}{a b:jw}{o:HO}(h:H a=aA o)(h':H b=aB):a≠b:=by
 intro e; subst e; rw[h] at h'; cases h'
section
variable (P:jI)(w:Qe)
def ObjOk(H:Hp)(h:QN)(a:jw):HO->Prop
 |.lst xs=>xs.length<=jr/\∃(its:List j8) (n:Nat),Vals xs its/\h.get? a=aA { cls:=.type "list",data:=.seq its.toArray n }
 |.tup xs=>xs.length<=jr/\∃ its:List j8,Vals xs its/\IsTup h a its.toArray
 |.dK kvs=>kvs.length<=jr/\(a == ZS)=aD/\∃ vs,KV kvs vs/\h.DictOf (ef P w) a vs
 |.dT kvs=>kvs.length<=jr/\(a == ZS)=aD/\∃ xs:List (List aK × jw × j8),
   JB (fun(p:List aK × V) (q:List aK × jw × j8)=>p.1=q.1/\H q.2.1=aA (.tup (p.1.map kV))/\RelV p.2 q.2.2) kvs xs /\
   ∃ o es ep,h.get? a=aA o/\o.ExactDict/\o.data=.dict es ep/\es.toList=xs.map (entryOfKey (Wa (ef P w)))/\(xs.map (·.1)).Nodup
 |.set S n=>h.SetOf (JM P w) a S n
 |.ins C dx fs=>H dx=aA (.own a)/\fs.length<=1000/\dx≠a/\h.get? a=aA (Nq C dx) /\
   ∃ mA,h.Ns1 dx mA/\(∀ f,RelO (fs.lookup f) (mA f))/\JX mA (fs.map (·.1))
 |.own _=>∃ o,h.get? a=aA o
 |.xd fs=>∃ mA,h.Ns1 a mA/\∀ f,RelO (fs.lookup f) (mA f)
 |.rng lo hi=>∃ t u v,h.get? a=aA { cls:=.type "range",data:=.fields #[.int lo t,.int hi u,.int 1 v] }
 |.frz o u=>h.get? a=aA o/\ObjOk H h a u
 |.tbl ps=>h.get? a=aA { cls:=.none,data:=.fields ps }
 |.met f x=>h.get? a=aA (YH (.ref f) (.ref x))
 |.ext φ=>φ h/\(∃ o,h.get? a=aA o)/\∀ h1 h2:QN,φ h1->(∀ o,h1.get? a=aA o->h2.get? a=aA o)->φ h2
def bw(H:Hp)(h:QN):Prop:=∀ a o,H a=aA o->ObjOk P w H h a o
end
section
variable {o:HO}
theorem ObjOk.lt(x:ObjOk P w H h a o):a < h.objs.size:=by
 cases o with
 |lst xs=>obtain⟨_,_,_,_,e⟩:=x; exact jo e
 |tup xs=>obtain⟨_,_,_,p⟩:=x; exact p.lt
 |dK kvs=>obtain⟨_,_,_,_,o,_,_,e,_⟩:=x; exact jo e
 |dT kvs=>obtain⟨_,_,_,_,o,_,_,e,_⟩:=x; exact jo e
 |set S n=>obtain⟨o,_,_,_,e,_⟩:=x; exact jo e
 |ins C dx fs=>obtain⟨_,_,_,e,_⟩:=x; exact jo e
 |own y=>obtain⟨_,e⟩:=x; exact jo e
 |xd fs=>obtain⟨_,⟨_,_,_,e,_⟩,_⟩:=x; exact jo e
 |rng lo hi=>obtain⟨_,_,_,e⟩:=x; exact jo e
 |frz ob u=>obtain⟨e,_⟩:=x; exact jo e
 |tbl ps=>exact jo (show h.get? a=aA _ from x)
 |met f y=>exact jo (show h.get? a=aA _ from x)
 |ext φ=>obtain⟨_,⟨_,e⟩,_⟩:=x; exact jo e
theorem Paired.mapP{α β:Type}{F G:α->β->Prop}:∀ {l₁:List α} {l₂:List β},JB F l₁ l₂->(∀ a b,F a b->G a b)->JB G l₁ l₂
 |_,_,.nil,_=>.nil
 |_,_,.cons r t,f=>.cons (f _ _ r) (Paired.mapP t f)
theorem ObjOk.stay(x:ObjOk P w H h a o)(k:∀ b u,(b=a∨H b=aA (.own a))->h.get? b=aA u->h'.get? b=aA u)
  (ho:∀ b,H b=aA (.own a)->H' b=aA (.own a)) (ht:∀ b xs,H b=aA (.tup xs)->H' b=aA (.tup xs)):ObjOk P w H' h' a o:=by
 induction o with
 |lst xs=>obtain⟨z,its,n,r,e⟩:=x; exact⟨z,its,n,r,k _ _ (.inl rfl) e⟩
 |tup xs=>obtain⟨z,its,r,ob,e,c⟩:=x; exact⟨z,its,r,ob,k _ _ (.inl rfl) e,c⟩
 |dK kvs=>obtain⟨z,y,vs,r,ob,es,ep,e,c⟩:=x; exact⟨z,y,vs,r,ob,es,ep,k _ _ (.inl rfl) e,c⟩
 |dT kvs=>
  obtain⟨z,y,xs,r,ob,es,ep,e,c⟩:=x;exact⟨z,y,xs,Paired.mapP r λp q z=>⟨z.1,ht _ _ z.2.1,z.2.2⟩,ob,es,ep,k _ _ (.inl rfl) e,c⟩
 |set S n=>obtain⟨ob,es,ep,t,e,c⟩:=x; exact⟨ob,es,ep,t,k _ _ (.inl rfl) e,c⟩
 |ins C dx fs=>
  obtain⟨d,z,ne,e,mA,⟨od,es,ep,e2,c⟩,r⟩:=x;exact⟨ho _ d,z,ne,k _ _ (.inl rfl) e,mA,⟨od,es,ep,k _ _ (.inr d) e2,c⟩,r⟩
 |own y=>obtain⟨ob,e⟩:=x; exact⟨ob,k _ _ (.inl rfl) e⟩
 |xd fs=>obtain⟨mA,⟨od,es,ep,e,c⟩,r⟩:=x; exact⟨mA,⟨od,es,ep,k _ _ (.inl rfl) e,c⟩,r⟩
 |rng lo hi=>obtain⟨t,u,v,e⟩:=x; exact⟨t,u,v,k _ _ (.inl rfl) e⟩
 |frz ob u ih=>obtain⟨e,q⟩:=x; exact⟨k _ _ (.inl rfl) e,ih q⟩
 |tbl ps=>
  have e:h.get? a=aA { cls:=.none,data:=.fields ps }:=x;show h'.get? a=aA { cls:=.none,data:=.fields ps };exact k a _ (.inl rfl) e
 |met f y=>
  have e:h.get? a=aA (YH (.ref f) (.ref y)):=x;show h'.get? a=aA (YH (.ref f) (.ref y));exact k a _ (.inl rfl) e
 |ext φ=>obtain⟨p,⟨o,e⟩,st⟩:=x; exact⟨st _ _ p λo q=>k _ _ (.inl rfl) q,⟨o,k _ _ (.inl rfl) e⟩,st⟩
theorem bw.lt(x:bw P w H h)(e:H a=aA o):a < h.objs.size:=(x a o e).lt
theorem bw.fresh(x:bw P w H h)(e:h.objs.size<=a):H a=aB:=by
 cases q:H a with
 |none=>rfl
 |some u=>exact absurd (jZ (x.lt q) e) (Q4 _)
theorem bw.kept(x:bw P w H h)(k:∀ b u,h.get? b=aA u->h'.get? b=aA u):bw P w H h':=λa o e=>
 (x a o e).stay (λb u _ q=>k b u q) (λ_ q=>q) λ_ _ q=>q
theorem bw.laid(x:bw P w H h)(k:∀ b u,h.get? b=aA u->h'.get? b=aA u)(hp:h.objs.size<=a)(new:ObjOk P w (aR H a o) h' a o):bw P w (aR H a o) h':=λb u e=>by
 have hn:=x.fresh hp
 by_cases hb:b=a
 ·subst hb; rw[bq] at e; cases e; exact new
 ·rw[ac hb] at e;exact(x b u e).stay (λc v _ q=>k c v q) (λc q=>by rw[ac (cZ q hn)]; exact q) λc xs q=>by rw[ac (cZ q hn)]; exact q
end
def Rd(H:Hp)(a:jw)(u:HO):Prop:=H a=aA u∨∃ o,H a=aA (.frz o u)
theorem Rd.ok{P:jI}{w:Qe}{H:Hp}{h:QN}{a:jw}{u:HO}(r:Rd H a u)(x:bw P w H h):ObjOk P w H h a u:=by
 rcases r with r |⟨o,r⟩
 ·exact x a u r
 ·obtain⟨_,q⟩:=x a _ r;exact q
def tU:Option HO->Prop
 |some (.lst _)=>True
 |some (.dK _)=>True
 |some (.dT _)=>True
 |some (.set _ _)=>True
 |some (.ins _ _ _)=>True
 |some (.ext _)=>True
 |_=>False
section
variable {x e:jw}{o':HO}
theorem bw.write(ok:bw P w H h)(mu:tU (H x))(he:e=x∨H e=aA (.own x))(k:∀ b u,b≠e->h.get? b=aA u->h'.get? b=aA u)(heo:∃ u,h'.get? e=aA u)
  (new:ObjOk P w (aR H x o') h' x o'):bw P w (aR H x o') h':=λb u q=>by
 have nown:∀ c y,H c=aA (.own y)->c≠x:=λc y r z=>by subst z; rw[r] at mu; exact mu
 have ntup:∀ c xs,H c=aA (.tup xs)->c≠x:=λc xs r z=>by subst z; rw[r] at mu; exact mu
 by_cases hb:b=x
 ·subst hb; rw[bq] at q; cases q; exact new
 ·rw[ac hb] at q
  by_cases hbe:b=e
  ·have q':H b=aA (.own x):=by
    rcases he with z |z
    ·exact absurd (hbe.trans z) hb
    ·rw[hbe]; exact z
   rw[q] at q'; cases q';obtain⟨v,hv⟩:=heo;exact⟨v,by rw[hbe]; exact hv⟩
  ·refine(ok b u q).stay (λc v hc r=>k c v ?_ r) (λc r=>by rw[ac (nown c b r)]; exact r) λc xs r=>by rw[ac (ntup c xs r)]; exact r
   rcases hc with rfl |hc
   ·exact hbe
   ·rintro rfl;rcases he with z |z
    ·exact nown c b hc z
    ·rw[hc] at z; cases z; exact hb rfl
end
structure Un (fs ex:List jw) (H H':Hp) (h h':QN):Prop where
 keep:∀ b o,h.get? b=aA o->H b=aB->b∉fs->b∉ex->h'.get? b=aA o
 slot:∀ b o,h.get? b=aA o->H b=aB->b∈fs->b∉ex->∃ sl,h'.get? b=aA { o with slots:=sl }
 free:∀ b o,h.get? b=aA o->H b=aB->b∉ex->H' b=aB
 there:∀ b o,h.get? b=aA o->b∉ex->∃ o',h'.get? b=aA o'
 tups:∀ b xs,H b=aA (.tup xs)->H' b=aA (.tup xs)
 frzs:∀ b o u,H b=aA (.frz o u)->H' b=aA (.frz o u)
 tbls:∀ b ps,H b=aA (.tbl ps)->∃ more,H' b=aA (.tbl (ps++more))
section
variable {fs fs' ex ex':List jw}{H1 H2:Hp}{h1 h2:QN}{x e:jw}{o:HO}
theorem Un.any(u:Un fs ex H H1 h h1){b:jw}{ob:Obj}(q:h.get? b=aA ob)(n:H b=aB)(hx:b∉ex):∃ sl,h1.get? b=aA { ob with slots:=sl }:=by
 by_cases hb:b∈fs
 ·exact u.slot b ob q n hb hx
 ·exact⟨ob.slots,u.keep b ob q n hb hx⟩
theorem Un.kept(k:∀ b u,h.get? b=aA u->h'.get? b=aA u):Un fs ex H H h h':=
 ⟨λb ob q _ _ _=>k b ob q,λb ob q _ _ _=>⟨ob.slots,k b ob q⟩,λ_ _ _ n _=>n,λb ob q _=>⟨ob,k b ob q⟩,λ_ _ q=>q,λ_ _ _ q=>q,λ_ ps q=>⟨#[],by rw[q]; simp⟩⟩
theorem Un.refl:Un fs ex H H h h:=Un.kept λ_ _ q=>q
theorem Un.laid(k:∀ b u,h.get? b=aA u->h'.get? b=aA u)(hp:h.objs.size<=a)(hn:H a=aB):Un fs ex H (aR H a o) h h' where
 keep:=λb u q _ _ _=>k b u q
 slot:=λb u q _ _ _=>⟨u.slots,k b u q⟩
 free:=λb u q n _=>by rw[ac (jG (jZ (jo q) hp))]; exact n
 there:=λb u q _=>⟨u,k b u q⟩
 tups:=λb xs q=>by rw[ac (cZ q hn)]; exact q
 frzs:=λb u xs q=>by rw[ac (cZ q hn)]; exact q
 tbls:=λb ps q=>⟨#[],by rw[ac (cZ q hn),q]; simp⟩
theorem Un.write(mu:tU (H x))(he:e=x∨H e=aA (.own x))(k:∀ b u,b≠e->h.get? b=aA u->h'.get? b=aA u)(heo:∃ u,h'.get? e=aA u):Un fs ex H (aR H x o) h h':=by
 have hx:∀ b,H b=aB->b≠x:=λb n z=>by subst z; rw[n] at mu; exact mu
 have hb:∀ b,H b=aB->b≠e:=λb n z=>by
  subst z;rcases he with r |r
  ·exact hx b n r
  ·rw[n] at r; cases r
 have hm:∀ b u,H b=aA u->¬ tU (aA u)->b≠x:=λb u q nm z=>by subst z; rw[q] at mu; exact nm mu
 refine⟨λb u q n _ _=>k b u (hb b n) q,λb u q n _ _=>⟨u.slots,k b u (hb b n) q⟩,λb u q n _=>by rw[ac (hx b n)]; exact n,λb u q _=>?_,
  λb xs q=>by rw[ac (hm b _ q λz=>z)]; exact q,λb u xs q=>by rw[ac (hm b _ q λz=>z)]; exact q,λb ps q=>⟨#[],by rw[ac (hm b _ q λz=>z),q]; simp⟩⟩
 by_cases hbe:b=e
 ·subst hbe; exact heo
 ·exact⟨u,k b u hbe q⟩
end
def wP(h:QN)(H:Hp):List jw:=(j6 h.objs.size).filter λa=>(H a).isSome
def lK(h:QN)(H:Hp):QN:=PySem.W.hideAll h (wP h H)
theorem Rz(h:QN)(H:Hp):(lK h H).objs.size=h.objs.size:=PySem.W.hideAll_size _ _
theorem PQ{h:QN}{H:Hp}{b:jw}{o:Obj}(e:h.get? b=aA o)(n:H b=aB):(lK h H).get? b=aA o:=
 PySem.W.hideAll_get _ e λhm=>by
  have q:(H b).isSome=aC:=(jQ.mp hm).2;rw[n] at q; simp at q
theorem Oa{h:QN}{H:Hp}{b:jw}{o:Obj}(e:(lK h H).get? b=aA o):h.get? b=aA o/\H b=aB:=by
 have e':h.get? b=aA o:=PySem.W.of_hideAll (wP h H) e;refine⟨e',?_⟩;cases q:H b with
 |none=>rfl
 |some x=>
  have hm:b∈wP h H:=jQ.mpr ⟨jc.mpr (jo e'),by simp[q]⟩
  have z:(lK h H).get? b=aB:=PySem.W.hideAll_none (wP h H) hm;rw[z] at e; cases e
structure Mod (K:j9) (mg:Str->Option j8) (base:QN):Prop where
 kin:K.In base
 glob:base.Ns jT mg
 blt:∃ mb,base.Ns JC mb/\∀ x:Str,x≠"__name__"->mb x=Qu x
 nolimit:base.NoLimit
structure Cx where
 prog:jI
 w:Qe
 K:j9
 mg:Str->Option j8
 base:QN
 A:Qh
 N:List Str
 s₀:jd
 H₀:Hp
 env:Env
 outer:List Env
 stack:List Env
 ex:List jw
 fn:Str->Bool
 calm:Bool
 pn:List (jw × Obj)
 xe:j8->jd->Prop
def cf(l:List Env):List jw:=l.filterMap (·.frame)
abbrev Cx.fs(X:Cx):List jw:=cf X.outer
def tR(sc:gQ)(x:Str):Prop:=sc.names.lookup x=aA .local∨sc.names.lookup x=aA .cell∨sc.names.lookup x=aA .free
def nz(sc:gQ)(x:Str):Prop:=sc.names.lookup x=aA .local∨sc.names.lookup x=aA .cell
def GT(env:Env)(h:QN)(m:Str->Option j8)(x:Str)(u:j8):Prop:=
 (env.kindOf x=aA .local/\m x=aA u)∨((env.kindOf x=aA .cell∨env.kindOf x=aA .free)/\∃ c,env.cells.lookup x=aA c/\h.IsCell c (aA u))
structure Cx.Ok (X:Cx):Prop where
 mod:Mod X.K X.mg X.base
 kind:X.env.scope.kind=.function
 glob:X.env.globals=jT
 blt:X.env.builtins=JC
 above:X.s₀.heap.objs.size<=X.env.locals
 inj:∀ x y c,X.env.cells.lookup x=aA c->X.env.cells.lookup y=aA c->x=y
 has:∀ x,(X.env.kindOf x=aA .cell∨X.env.kindOf x=aA .free)->∃ c,X.env.cells.lookup x=aA c
 cab:∀ x c,X.fn x=aC->X.env.cells.lookup x=aA c->X.s₀.heap.objs.size<=c
 hd:X.calm=aC->X.A.handled=aB
 frames:X.A.frames=aA X.stack
 stk:X.stack=X.outer∨(X.stack=X.env::X.outer/\X.env.frame=aA X.env.locals)
 exf:∀ b∈X.ex,b≠X.env.locals/\∀ x c,X.env.cells.lookup x=aA c->c≠b
 bs:∀ b o,X.base.get? b=aA o->X.s₀.heap.get? b=aA o/\X.H₀ b=aB
 bsz:X.base.objs.size<=X.s₀.heap.objs.size
 noex:∀ b o,X.base.get? b=aA o->b∉X.ex
 exfs:∀ b∈X.ex,b∉X.fs
 funs:X.s₀.heap.FunFrames X.base X.outer
 frf:∀ b∈X.fs,X.H₀ b=aB
structure Inv (X:Cx) (pc:List (jw × Obj)) (σ:List (Option V)) (H:Hp) (s:jd):Prop where
 ok:X.Ok
 os:s.os=X.s₀.os
 bare:YY s.gens
 base:Un X.fs X.ex X.H₀ H X.s₀.heap s.heap
 loc:∃ m,s.heap.Ns X.env.locals m/\∀(i:Nat) (x:Str) (v:V),X.N[i]?=aA x->σ[i]?=aA (aA v)->tR X.env.scope x->∃ u,RelV v u/\GT X.env s.heap m x u
 cell:∀ x c,X.env.cells.lookup x=aA c->∃ v,s.heap.IsCell c v
 free:H X.env.locals=aB
 freeC:∀ x c,X.env.cells.lookup x=aA c->H c=aB
 pin:∀ p∈X.pn++pc,s.heap.get? p.1=aA p.2/\H p.1=aB/\p.1≠X.env.locals/\p.1∉X.fs/\∀ v,p.2.data≠.cell v
 hok:bw X.prog X.w H s.heap
 len:σ.length=X.N.length
section
variable {σ:List (Option V)}
theorem Cx.Ok.nofr(ok:X.Ok){b:jw}{o:Obj}(e:X.base.get? b=aA o):b∉X.fs:=λhb=>by
 have:=(ok.funs.mem hb).1;rw[e] at this; cases this
theorem Inv.bs(I:Inv X pc σ H s):∀ b o,X.base.get? b=aA o->s.heap.get? b=aA o/\H b=aB:=λb o e=>
 ⟨I.base.keep b o (I.ok.bs b o e).1 (I.ok.bs b o e).2 (I.ok.nofr e) (I.ok.noex b o e),I.base.free b o (I.ok.bs b o e).1 (I.ok.bs b o e).2 (I.ok.noex b o e)⟩
theorem Inv.bk(I:Inv X pc σ H s):∀ b o,X.base.get? b=aA o->s.heap.get? b=aA o:=λb o e=>(I.bs b o e).1
theorem Inv.mod(I:Inv X pc σ H s):Mod X.K X.mg X.base:=I.ok.mod
theorem Inv.kIn(I:Inv X pc σ H s):X.K.In s.heap:=I.ok.mod.kin.keeps I.bk
theorem Inv.lt(I:Inv X pc σ H s):X.env.locals < s.heap.objs.size:=let ⟨_,hn,_⟩:=I.loc; hn.lt
theorem Inv.sz(I:Inv X pc σ H s):X.s₀.heap.objs.size<=s.heap.objs.size:=Q9 I.ok.above (Z4 I.lt)
theorem Inv.nofs(I:Inv X pc σ H s){a:jw}(h:s.heap.objs.size<=a):a∉X.fs:=λhb=>by
 obtain⟨_,o,ho,_⟩:=I.ok.funs.mem hb;exact absurd (jZ (jo ho) (Q9 I.sz h)) (Q4 _)
theorem Inv.cne(I:Inv X pc σ H s):∀ x c,X.env.cells.lookup x=aA c->c≠X.env.locals:=λx c e z=>by
 obtain⟨v,o,ho,hd⟩:=I.cell x c e;obtain⟨m,⟨o',es,ep,ho',hd',_⟩,_⟩:=I.loc;rw[z,ho'] at ho; cases ho; rw[hd'] at hd; cases hd
theorem Inv.funs(I:Inv X pc σ H s):s.heap.FunFrames X.base X.outer:=by
 have all:∀(l:List Env),(∀ b∈cf l,b∈X.fs)->X.s₀.heap.FunFrames X.base l->s.heap.FunFrames X.base l:=by
  intro l
  induction l with
  |nil=>intro _ _; trivial
  |cons env r ih=>
   intro hs hl;obtain⟨hk,⟨L,o,hf,hn,ho,hd⟩,hr⟩:=hl;have hL:L∈X.fs:=hs L (by unfold cf; rw[ZK,hf]; exact jW)
   obtain⟨sl,e⟩:=I.base.slot L o ho (I.ok.frf L hL) hL λz=>I.ok.exfs L z hL;exact⟨hk,⟨L,_,hf,hn,e,hd⟩,ih (λb hb=>hs b (by unfold cf; rw[ZK,hf]; exact jA _ hb)) hr⟩
 exact all X.outer (λ_ hb=>hb) I.ok.funs
theorem Inv.stack(I:Inv X pc σ H s):s.heap.FunFrames X.base X.stack:=by
 rcases I.ok.stk with e |⟨e,hf⟩
 ·rw[e]; exact I.funs
 ·rw[e];obtain⟨m,hn,_⟩:=I.loc;refine .cons (by rw[I.ok.kind]; decide) hf hn ?_ I.funs
  exact NO (Q9 I.ok.bsz I.ok.above)
theorem Inv.stkSub(I:Inv X pc σ H s):∀ b∈cf X.stack,b∈X.env.locals::X.fs:=λb hb=>by
 rcases I.ok.stk with e |⟨e,hf⟩
 ·rw[e] at hb; exact jA _ hb
 ·rw[e] at hb;unfold cf at hb;rw[ZK,hf] at hb;exact hb
theorem Inv.stkFree(I:Inv X pc σ H s):∀ b∈cf X.stack,H b=aB:=λb hb=>by
 rcases jy.mp (I.stkSub b hb) with e |hb
 ·rw[e]; exact I.free
 ·obtain⟨_,o,ho,_⟩:=I.ok.funs.mem hb;exact I.base.free b o ho (I.ok.frf b hb) λz=>I.ok.exfs b z hb
theorem Inv.step{g':Array Yd}{t':Nat}{d':Drawn}{ch:List jw}(I:Inv X pc σ H s)
  (hch:∀ b∈ch,(b∈X.ex∨X.s₀.heap.objs.size<=b)/\b≠X.env.locals/\(∀ x c,X.env.cells.lookup x=aA c->c≠b)/\∀ p∈X.pn++pc,p.1≠b)
  (keep:∀ b o,b≠X.env.locals->b∉X.fs->b∉ch->s.heap.get? b=aA o->H b=aB->h'.get? b=aA o)
  (slot:∀ b o,b≠X.env.locals->b∈X.fs->b∉ch->s.heap.get? b=aA o->H b=aB->∃ sl,h'.get? b=aA { o with slots:=sl }) (free:∀ b o,b∉ch->s.heap.get? b=aA o->H b=aB->H' b=aB)
  (there:∀ b o,b∉ch->s.heap.get? b=aA o->∃ o',h'.get? b=aA o')
  (tups:∀ b xs,H b=aA (.tup xs)->H' b=aA (.tup xs)) (frzs:∀ b o u,H b=aA (.frz o u)->H' b=aA (.frz o u)) (tbls:∀ b ps,H b=aA (.tbl ps)->∃ more,H' b=aA (.tbl (ps++more)))
  (ns:∀ m,s.heap.Ns X.env.locals m->h'.Ns X.env.locals m) (hok:bw X.prog X.w H' h') (hg:YY g') :
  Inv X pc σ H' { s with heap:=h',gens:=g',drawn:=d',toks:=t' }:=by
 have neL:∀ b o,X.s₀.heap.get? b=aA o->b≠X.env.locals:=λb o e=>jG (jZ (jo e) I.ok.above);have neC:∀ b o,X.s₀.heap.get? b=aA o->b∉X.ex->b∉ch:=λb o e hx hb=>by
  rcases(hch b hb).1 with z |z
  ·exact hx z
  ·exact absurd (jZ (jo e) z) (Q4 _)
 have cellK:∀ x c,X.env.cells.lookup x=aA c->∀ v,s.heap.IsCell c v->h'.IsCell c v:=λx c e v ⟨o,ho,hd⟩=>by
  have nch:c∉ch:=λz=>(hch c z).2.2.1 x c e rfl
  by_cases hc:c∈X.fs
  ·obtain⟨sl,q⟩:=slot c o (I.cne x c e) hc nch ho (I.freeC x c e);exact⟨_,q,hd⟩
  ·exact⟨o,keep c o (I.cne x c e) hc nch ho (I.freeC x c e),hd⟩
 refine⟨I.ok,I.os,hg,⟨λb o e n hb hx=>?_,λb o e n hb hx=>?_,λb o e n hx=>?_,λb o e hx=>?_,λb xs e=>tups b xs (I.base.tups b xs e),λb o xs e=>frzs b o xs (I.base.frzs b o xs e),λb ps e=>?_⟩,?_,λx c e=>?_,?_,λx c e=>?_,λp hp=>?_,hok,I.len⟩
 ·exact keep b o (neL b o e) hb (neC b o e hx) (I.base.keep b o e n hb hx) (I.base.free b o e n hx)
 ·obtain⟨sl,e1⟩:=I.base.slot b o e n hb hx;obtain⟨sl',e2⟩:=slot b _ (neL b o e) hb (neC b o e hx) e1 (I.base.free b o e n hx);exact⟨sl',e2⟩
 ·obtain⟨o',e1⟩:=I.base.there b o e hx;exact free b o' (neC b o e hx) e1 (I.base.free b o e n hx)
 ·obtain⟨o',e1⟩:=I.base.there b o e hx;exact there b o' (neC b o e hx) e1
 ·obtain⟨m1,e1⟩:=I.base.tbls b ps e;obtain⟨m2,e2⟩:=tbls b _ e1;exact⟨m1++m2,by rw[e2,Array.append_assoc]⟩
 ·obtain⟨m,hn,hl⟩:=I.loc;refine⟨m,ns m hn,λi x v e1 e2 e3=>?_⟩;obtain⟨u,r,l⟩:=hl i x v e1 e2 e3;refine⟨u,r,?_⟩;rcases l with l |⟨k,c,e,z⟩
  ·exact .inl l
  ·exact .inr ⟨k,c,e,cellK x c e _ z⟩
 ·obtain⟨v,z⟩:=I.cell x c e;exact⟨v,cellK x c e v z⟩
 ·obtain⟨m,⟨o,_,_,ho,_⟩,_⟩:=I.loc;exact free _ o (λz=>(hch _ z).2.1 rfl) ho I.free
 ·obtain⟨v,o,ho,hd⟩:=I.cell x c e;exact free c o (λz=>(hch c z).2.2.1 x c e rfl) ho (I.freeC x c e)
 ·obtain⟨e,n,ne,nf,d⟩:=I.pin p hp;have nch:p.1∉ch:=λz=>(hch p.1 z).2.2.2 p hp rfl;exact⟨keep p.1 p.2 ne nf nch e n,free p.1 p.2 nch e n,ne,nf,d⟩
theorem Inv.un{t':Nat}(I:Inv X pc σ H s)(u:Un X.fs [] H H' s.heap h')(hok:bw X.prog X.w H' h'):Inv X pc σ H' { s with heap:=h',toks:=t' }:=by
 obtain⟨m,⟨o,es,ep,ho,r⟩,_⟩:=id I.loc;obtain⟨sl,hL⟩:=u.any ho I.free (by simp)
 exact I.step (g':=s.gens) (d':=s.drawn) (ch:=[]) (λ_ z=>nomatch z) (λb o _ hb _ e n=>u.keep b o e n hb (by simp)) (λb o _ hb _ e n=>u.slot b o e n hb (by simp)) (λb o _ e n=>u.free b o e n (by simp)) (λb o _ e=>u.there b o e (by simp)) u.tups u.frzs u.tbls (λm' hm=>by
  obtain⟨o',es',ep',ho',r'⟩:=hm;rw[ho] at ho'; cases ho'
  exact⟨_,es',ep',hL,r'⟩) hok I.bare
theorem Inv.call{g':Array Yd}{t':Nat}{d':Drawn}{ch:List jw}(I:Inv X pc σ H s)(u:Un (cf X.stack) ch H H' s.heap h')(hok:bw X.prog X.w H' h')(hg:YY g')
  (hch:∀ b∈ch,(b∈X.ex∨X.s₀.heap.objs.size<=b)/\b≠X.env.locals/\(∀ x c,X.env.cells.lookup x=aA c->c≠b)/\∀ p∈X.pn++pc,p.1≠b) :
  Inv X pc σ H' { s with heap:=h',gens:=g',drawn:=d',toks:=t' }:=by
 obtain⟨m,⟨o,es,ep,ho,r⟩,_⟩:=id I.loc;obtain⟨sl,hL⟩:=u.any ho I.free λz=>(hch _ z).2.1 rfl
 exact I.step (ch:=ch) hch (λb o hL hb hc e n=>u.keep b o e n (λz=>(jy.mp (I.stkSub b z)).elim hL hb) hc) (λb o _ _ hc e n=>u.any e n hc) (λb o hc e n=>u.free b o e n hc) (λb o hc e=>u.there b o e hc) u.tups u.frzs u.tbls (λm' hm=>by
  obtain⟨o',es',ep',ho',r'⟩:=hm;rw[ho] at ho'; cases ho'
  exact⟨_,es',ep',hL,r'⟩) hok hg
theorem Inv.turned{t':Nat}{it:jw}(I:Inv X pc σ H s)(k:∀ b o,b≠it->s.heap.get? b=aA o->h'.get? b=aA o)(hn:H it=aB)(hL:it≠X.env.locals)
  (h1:it∈X.ex∨X.s₀.heap.objs.size<=it) (h2:∀ x c,X.env.cells.lookup x=aA c->c≠it) (h3:∀ p∈X.pn++pc,p.1≠it):Inv X pc σ H { s with heap:=h',toks:=t' }:=by
 have nit:∀ b u,H b=aA u->b≠it:=λb u e z=>by rw[z,hn] at e; cases e
 refine I.step (g':=s.gens) (d':=s.drawn) (ch:=[it]) (λb hb=>?_) (λb o _ _ hc e _=>k b o (λz=>hc (by simp[z])) e) (λb o _ _ hc e _=>⟨o.slots,k b o (λz=>hc (by simp[z])) e⟩) (λ_ _ _ _ n=>n)
  (λb o hc e=>⟨o,k b o (λz=>hc (by simp[z])) e⟩) (λ_ _ e=>e) (λ_ _ _ e=>e) (λb ps e=>⟨#[],by rw[e]; simp⟩) (λm hm=>?_) (λb u e=>?_) I.bare
 ·have e:b=it:=by simpa using hb
  subst e;exact⟨h1,hL,h2,h3⟩
 ·obtain⟨o,es,ep,ho,r⟩:=hm;exact⟨o,es,ep,k _ o (ZA hL) ho,r⟩
 ·refine(I.hok b u e).stay (λc v hc q=>k c v ?_ q) (λ_ q=>q) λ_ _ q=>q;rcases hc with z |z
  ·rw[z]; exact nit b u e
  ·exact nit c _ z
theorem Inv.tok(I:Inv X pc σ H s)(t:Nat):Inv X pc σ H { s with toks:=t }:=I.un (h':=s.heap) (t':=t) Un.refl I.hok
theorem Inv.kept{t':Nat}(I:Inv X pc σ H s)(k:∀ b u,s.heap.get? b=aA u->h'.get? b=aA u):Inv X pc σ H { s with heap:=h',toks:=t' }:=I.un (Un.kept k) (I.hok.kept k)
theorem Inv.laid{a:jw}{o:HO}{t':Nat}(I:Inv X pc σ H s)(k:∀ b u,s.heap.get? b=aA u->h'.get? b=aA u)(hp:s.heap.objs.size<=a)(new:ObjOk X.prog X.w (aR H a o) h' a o) :
  Inv X pc σ (aR H a o) { s with heap:=h',toks:=t' }:=I.un (Un.laid k hp (I.hok.fresh hp)) (I.hok.laid k hp new)
theorem Inv.write{x e:jw}{o:HO}{t':Nat}(I:Inv X pc σ H s)(mu:tU (H x))(he:e=x∨H e=aA (.own x))(k:∀ b u,b≠e->s.heap.get? b=aA u->h'.get? b=aA u)(heo:∃ u,h'.get? e=aA u)
  (new:ObjOk X.prog X.w (aR H x o) h' x o):Inv X pc σ (aR H x o) { s with heap:=h',toks:=t' }:=I.un (Un.write mu he k heo) (I.hok.write mu he k heo new)
theorem Inv.pins_of{pins':List (jw × Obj)}(I:Inv X pc σ H s)(h:∀ p∈pins',s.heap.get? p.1=aA p.2/\H p.1=aB/\p.1≠X.env.locals/\p.1∉X.fs/\∀ v,p.2.data≠.cell v):Inv X pins' σ H s:=
 ⟨I.ok,I.os,I.bare,I.base,I.loc,I.cell,I.free,I.freeC,λp hp=>(jt.mp hp).elim (λz=>I.pin p (jj _ z)) (h p),I.hok,I.len⟩
theorem Di{N:List Str}(hN:N.Nodup){i j:Nat}{x:Str}(a:N[i]?=aA x)(b:N[j]?=aA x):i=j:=by
 obtain⟨h1,e1⟩:=j7.mp a;obtain⟨h2,e2⟩:=j7.mp b;exact(Y4 hN).mp (e1.trans e2.symm)
theorem zB{M:U7}{A:Qh}{E:j8->jd->Prop}{i:Nat}{x:Str}{v:V}{u:j8}{Q:Unit->jd->Prop}(I:Inv X pc σ H s)(hN:X.N.Nodup)(hi:X.N[i]?=aA x)(hx:nz X.env.scope x)(r:RelV v u)
  (h:∀ s',Inv X pc (σ.set i (aA v)) H s'->(∃ a,Qp a s.heap s'.heap/\(a=X.env.locals∨X.env.cells.lookup x=aA a))->Q () s') (hf:X.fn x=aC∨X.env.scope.names.lookup x=aA .local:=by first |exact .inl rfl |exact .inr rfl |assumption):jJ M A (storeName X.env x u) Q E s:=by
 obtain⟨m,hn,hl⟩:=id I.loc;have hcls:(X.env.scope.kind == .class||(X.env.scope.kind == .module&&X.env.locals != X.env.globals))=aD:=by rw[I.ok.kind]; rfl
 have hiσ:i < σ.length:=by rw[I.len]; exact(j7.mp hi).1
 have cne:=I.cne;have tracked:∀ {a:jw} {h':QN},(∃ o,s.heap.get? a=aA o/\H a=aB)->Qp a s.heap h'->bw X.prog X.w H h':=λ{a h'} ha hs b ob e=>by
  obtain⟨_,_,hfree⟩:=ha;refine(I.hok b ob e).stay (λc w' hc q=>(hs.2 c ?_).trans q) (λ_ q=>q) λ_ _ q=>q;rintro rfl;rcases hc with rfl |hc
  ·rw[hfree] at e; cases e
  ·rw[hfree] at hc; cases hc
 rcases hx with hk |hk
 ·refine wpAny_storeName_local hk hn (λh' hn' hs=>?_) hcls;obtain⟨oL,_,_,hoL,_⟩:=id hn;refine h _ ⟨I.ok,I.os,I.bare,⟨λb o e n hb hx=>?_,λb o e n hb hx=>?_,I.base.free,λb o e hx=>?_,I.base.tups,I.base.frzs,I.base.tbls⟩,⟨_,hn',λj y v' e1 e2 e3=>?_⟩,λy c e=>?_,I.free,I.freeC,λp hp=>?_,tracked ⟨oL,hoL,I.free⟩ hs,by simpa using I.len⟩ ⟨_,hs,.inl rfl⟩
  ·exact(hs.2 b (jG (jZ (jo e) I.ok.above))).trans (I.base.keep b o e n hb hx)
  ·obtain⟨sl,e1⟩:=I.base.slot b o e n hb hx;exact⟨sl,(hs.2 b (jG (jZ (jo e) I.ok.above))).trans e1⟩
  ·obtain⟨o',e1⟩:=I.base.there b o e hx;exact⟨o',(hs.2 b (jG (jZ (jo e) I.ok.above))).trans e1⟩
  ·by_cases hj:j=i
   ·subst hj;rw[hi] at e1; cases e1;rw[jV hiσ] at e2;cases e2;exact⟨u,r,.inl ⟨hk,by simp⟩⟩
   ·rw[jm (ZA hj)] at e2;obtain⟨u',r',q⟩:=hl j y v' e1 e2 e3;refine⟨u',r',?_⟩;rcases q with ⟨k,e⟩ |⟨k,c,e,z⟩
    ·refine .inl ⟨k,?_⟩;have:y≠x:=λe=>hj (Di hN e1 (e▸hi));simp[this,e]
    ·exact .inr ⟨k,c,e,z.sameBut hs (cne y c e)⟩
  ·obtain⟨w',z⟩:=I.cell y c e;exact⟨w',z.sameBut hs (cne y c e)⟩
  ·obtain⟨e,n,ne,nf,d⟩:=I.pin p hp;exact⟨(hs.2 p.1 ne).trans e,n,ne,nf,d⟩
 ·have hfn:X.fn x=aC:=by
   rcases hf with z |z
   ·exact z
   ·rw[z] at hk; cases hk
  obtain⟨c,hc⟩:=I.ok.has x (.inl hk);obtain⟨w',z⟩:=I.cell x c hc;refine wpAny_storeName_cell I.ok.kind hk hc z (λh' hc' hs=>?_);obtain⟨oc,hoc,hocd⟩:=id z;refine h { s with heap:=h' } ⟨I.ok,I.os,I.bare,⟨λb o e n hb hx=>?_,λb o e n hb hx=>?_,I.base.free,λb o e hx=>?_,I.base.tups,I.base.frzs,I.base.tbls⟩,⟨m,hn.sameBut hs (ZA (cne x c hc)),λj y v' e1 e2 e3=>?_⟩,λy c' e=>?_,I.free,I.freeC,λp hp=>?_,tracked ⟨oc,hoc,I.freeC x c hc⟩ hs,by simpa using I.len⟩ ⟨c,hs,.inr hc⟩
  ·exact(hs.2 b (jG (jZ (jo e) (I.ok.cab x c hfn hc)))).trans (I.base.keep b o e n hb hx)
  ·obtain⟨sl,e1⟩:=I.base.slot b o e n hb hx;exact⟨sl,(hs.2 b (jG (jZ (jo e) (I.ok.cab x c hfn hc)))).trans e1⟩
  ·obtain⟨o',e1⟩:=I.base.there b o e hx;exact⟨o',(hs.2 b (jG (jZ (jo e) (I.ok.cab x c hfn hc)))).trans e1⟩
  ·by_cases hj:j=i
   ·subst hj;rw[hi] at e1; cases e1;rw[jV hiσ] at e2;cases e2;exact⟨u,r,.inr ⟨.inl hk,c,hc,hc'⟩⟩
   ·rw[jm (ZA hj)] at e2;obtain⟨u',r',q⟩:=hl j y v' e1 e2 e3;refine⟨u',r',?_⟩;rcases q with q |⟨k,c',e,z'⟩
    ·exact .inl q
    ·refine .inr ⟨k,c',e,z'.sameBut hs ?_⟩;rintro rfl;exact hj (Di hN e1 (I.ok.inj _ _ _ e hc▸hi))
  ·by_cases hcc:c'=c
   ·subst hcc; exact⟨_,hc'⟩
   ·obtain⟨w2,z2⟩:=I.cell y c' e;exact⟨w2,z2.sameBut hs hcc⟩
  ·obtain⟨e,n,ne,nf,d⟩:=I.pin p hp;refine⟨(hs.2 p.1 ?_).trans e,n,ne,nf,d⟩;intro q;rw[q,hoc] at e;have q':oc=p.2:=jh e;exact d w' (by rw[<-q']; exact hocd)
theorem Do{M:U7}{A:Qh}{E:j8->jd->Prop}{i:Nat}{x:Str}{v:V}{u:j8}{Q:Unit->jd->Prop}(I:Inv X pc σ H s)(hN:X.N.Nodup)(hi:X.N[i]?=aA x)(hx:nz X.env.scope x)(r:RelV v u)
  (h:∀ s',Inv X pc (σ.set i (aA v)) H s'->Q () s') (hf:X.fn x=aC∨X.env.scope.names.lookup x=aA .local:=by first |exact .inl rfl |exact .inr rfl |assumption):jJ M A (storeName X.env x u) Q E s:=
 zB I hN hi hx r (λs' I' _=>h s' I') hf
theorem Inv.call'{s':jd}{ch:List jw}(I:Inv X pc σ H s)(ho:s'.os=s.os)(u:Un (cf X.stack) ch H H' s.heap s'.heap)(hok:bw X.prog X.w H' s'.heap)(hg:YY s'.gens)
  (hch:∀ b∈ch,(b∈X.ex∨X.s₀.heap.objs.size<=b)/\b≠X.env.locals/\(∀ x c,X.env.cells.lookup x=aA c->c≠b)/\∀ p∈X.pn++pc,p.1≠b):Inv X pc σ H' s':=by
 obtain⟨h',g',d',t',o'⟩:=s';have e:o'=s.os:=ho;subst e;exact I.call (g':=g') (t':=t') (d':=d') u hok hg hch
end
abbrev XK:=j8->Option jw->Hp->Prop
abbrev St:=List (Option V)
abbrev VK:=V->Hp->Prop
abbrev TE:=St->Hp->VK->Prop
abbrev TT:=St->Hp->(Bool->Hp->Prop)->Prop
abbrev TA:=St->Hp->(List V->Hp->Prop)->Prop
structure Ends where
 nx:St->Hp->Prop
 rt:VK
 bk:St->Hp->Prop:=λ_ _=>False
 ct:St->Hp->Prop:=λ_ _=>False
abbrev TS:=Ends->St->Hp->Prop
def EP(X:Cx)(pc:List (jw × Obj))(σ:St)(Q:VK)(u:j8)(s':jd):Prop:=∃ v H',Inv X pc σ H' s'/\RelV v u/\Q v H'
def TP(X:Cx)(pc:List (jw × Obj))(σ:St)(Q:Bool->Hp->Prop)(b:Bool)(s':jd):Prop:=∃ H',Inv X pc σ H' s'/\Q b H'
def AP(X:Cx)(pc:List (jw × Obj))(σ:St)(Q:List V->Hp->Prop)(us:List j8)(s':jd):Prop:=∃ vs H',Inv X pc σ H' s'/\Vals vs us/\Q vs H'
def SP(X:Cx)(pc:List (jw × Obj))(D:Ends)(f:Flow)(s':jd):Prop:=
 match f with
 |.next=>∃ σ' H',Inv X pc σ' H' s'/\D.nx σ' H'
 |.brk=>∃ σ' H',Inv X pc σ' H' s'/\D.bk σ' H'
 |.cont=>∃ σ' H',Inv X pc σ' H' s'/\D.ct σ' H'
 |.ret u=>∃ v σ' H',Inv X pc σ' H' s'/\RelV v u/\D.rt v H'
def PE(X:Cx)(e:Q3)(t:TE):Prop:=
 ∀(pc:List (jw × Obj)) (s:jd) (σ:St) (H:Hp) (Q:VK),Inv X pc σ H s->t σ H Q->jJ (jO X.prog X.w) X.A (eval e X.env) (EP X pc σ Q) X.xe s
def PT(X:Cx)(e:Q3)(t:TT):Prop:=
 ∀(pc:List (jw × Obj)) (s:jd) (σ:St) (H:Hp) (Q:Bool->Hp->Prop),Inv X pc σ H s->t σ H Q->jJ (jO X.prog X.w) X.A (JD e X.env (eval e X.env)) (TP X pc σ Q) X.xe s
def PW(X:Cx)(e:Q3)(t:TT):Prop:=
 ∀(whole:Sem j8) (pc:List (jw × Obj)) (s:jd) (σ:St) (H:Hp) (Q:Bool->Hp->Prop),Inv X pc σ H s->t σ H Q->jJ (jO X.prog X.w) X.A (JD e X.env whole) (TP X pc σ Q) X.xe s
theorem PW.pt{X:Cx}{e:Q3}{t:TT}(h:PW X e t):PT X e t:=h _
def PA(X:Cx)(es:List Q3)(t:TA):Prop:=
 ∀(pos:Pos) (pc:List (jw × Obj)) (s:jd) (σ:St) (H:Hp) (Q:List V->Hp->Prop),Inv X pc σ H s->t σ H Q->jJ (jO X.prog X.w) X.A (spliced (QQ pos (jf es X.env))) (AP X pc σ Q) X.xe s
def PS(X:Cx)(st:QR)(t:TS):Prop:=
 ∀(pc:List (jw × Obj)) (s:jd) (σ:St) (H:Hp) (D:Ends),Inv X pc σ H s->t D σ H->jJ (jO X.prog X.w) X.A (exec st X.env) (SP X pc D) X.xe s
def bv(X:Cx)(st:List QR)(t:TS):Prop:=
 ∀(pc:List (jw × Obj)) (s:jd) (σ:St) (H:Hp) (D:Ends),Inv X pc σ H s->t D σ H->jJ (jO X.prog X.w) X.A (execs st X.env) (SP X pc D) X.xe s
theorem aV{α:Type}{t:Sem α}{Q Q':α->jd->Prop}{M:U7}{A:Qh}{E:j8->jd->Prop}{s:jd}(h:jJ M A t Q E s)(hQ:∀ a s,Q a s->Q' a s):jJ M A t Q' E s:=jY h hQ λ_ _ x=>x
section
def cH(i:Nat):TE:=fun σ H Q=>∃ v,σ[i]?=aA (aA v)/\Q v H
def tC(v:V):TE:=λ_ H Q=>Q v H
theorem Lx{i:Nat}{x:Str}{pos:Pos}(hN:X.N[i]?=aA x)(hv:tR X.env.scope x)(hd:(x == ("__debug__":Str))=aD:=by decide)(hcd:(x == ("__classdict__":Str))=aD:=by decide):PE X (.Name x pos) (cH i):=by
 intro pc s σ H Q I h;obtain⟨v,e,h⟩:=h;obtain⟨m,hn,hl⟩:=I.loc;obtain⟨u,r,l⟩:=hl i x v hN e hv;have fin:EP X pc σ Q u s:=⟨v,H,I,r,h⟩;rcases l with ⟨hk,hm⟩ |⟨hk,c,hc,hcell⟩
 ·exact NK (Y9 I.ok.kind hk hn hm fin) hd
 ·rcases hk with hk |hk
  ·exact NK (wpAny_loadName_cell I.ok.kind hk hc hcell fin) hd
  ·exact NK (wpAny_loadName_free I.ok.kind hk hc hcell fin hcd) hd
theorem Lp{i j pos}:PE X (.Constant (.int i) j pos) (tC (.int i)):=λ_ _ _ H _ I h=>wpAny_Constant_int ⟨.int i,H,I.tok _,⟨_,rfl⟩,h⟩
theorem IX{b j pos}:PE X (.Constant (.bool b) j pos) (tC (.bl b)):=λ_ _ _ H _ I h=>Constant_bool ⟨.bl b,H,I,rfl,h⟩
theorem Cf{j pos}:PE X (.Constant .none j pos) (tC .non):=λ_ _ _ H _ I h=>Constant_none ⟨.non,H,I,rfl,h⟩
theorem Lv{x j pos}:PE X (.Constant (.str x) j pos) (tC (.str x)):=λ_ _ _ H _ I h=>Calls.Constant_str ⟨.str x,H,I.tok _,⟨_,rfl⟩,h⟩
def Gl(X:Cx)(x:Str):Prop:=X.env.kindOf x=aA .globalImplicit
theorem yS{E:j8->jd->Prop}{pc:List (jw × Obj)}{s:jd}{σ:St}{H:Hp}{x:Str}{u:j8}{pos:Pos}{Q:j8->jd->Prop}(I:Inv X pc σ H s)(hg:Gl X x)(hm:X.mg x=aA u)(h:Q u s)
  (hd:(x == ("__debug__":Str))=aD:=by decide):jJ (jO X.prog X.w) X.A (eval (.Name x pos) X.env) Q E s:=
 Yr I.ok.kind hg (Calls.loadGlobal_global (by rw[I.ok.glob]; exact I.mod.glob.keeps I.bk) hm h) hd
theorem iz{E:j8->jd->Prop}{pc:List (jw × Obj)}{s:jd}{σ:St}{H:Hp}{x:Str}{u:j8}{pos:Pos}{Q:j8->jd->Prop}(I:Inv X pc σ H s)(hg:Gl X x)(hm:X.mg x=aB)(hv:Qu x=aA u)(h:Q u s)
  (hn:x≠"__name__":=by decide) (hd:(x == ("__debug__":Str))=aD:=by decide):jJ (jO X.prog X.w) X.A (eval (.Name x pos) X.env) Q E s:=by
 obtain⟨mb,h1,h2⟩:=I.mod.blt;exact Yr I.ok.kind hg (Calls.loadGlobal_builtin (by rw[I.ok.glob]; exact I.mod.glob.keeps I.bk) hm (by rw[I.ok.blt]; exact h1.keeps I.bk) ((h2 x hn).trans hv) h) hd
theorem Og{x:Str}{v:V}{u:j8}{pos:Pos}(hg:Gl X x)(hm:X.mg x=aB)(hv:Qu x=aA u)(r:RelV v u)(hn:x≠"__name__":=by decide)(hd:(x == ("__debug__":Str))=aD:=by decide):PE X (.Name x pos) (tC v):=
 λ_ _ _ H _ I h=>iz I hg hm hv ⟨v,H,I,r,h⟩ hn hd
variable {a:Q3}
def PC(X:Cx)(op:CmpOp)(a b:Q3)(t:TE):Prop:=
 ∀(pc:List (jw × Obj)) (s:jd) (σ:St) (H:Hp) (Q:VK),Inv X pc σ H s->t σ H Q->
  jJ (jO X.prog X.w) X.A (eval a X.env) (λv s₁=>jJ (jO X.prog X.w) X.A (eval b X.env) (λu s₂=>jJ (jO X.prog X.w) X.A (Z5 op v u) (EP X pc σ Q) X.xe s₂) X.xe s₁) X.xe s
def tB(t:TE):TT:=fun σ H Q=>t σ H λx H1=>∃ c,x=.bl c/\Q c H1
theorem Lb{op:CmpOp}{t:TE}(h:PC X op a b t)(h1:Qr op b=aD:=by first |exact nobehind _ (by decide) (by decide) |rfl):PE X (.Compare a [op] [b] pos) t:=λpc s σ H Q I hw=>wpAny_Compare1 (h pc s σ H Q I hw) h1
theorem Ci{op:CmpOp}{t:TE}(h:PC X op a b t)(h1:Qr op b=aD:=by first |exact nobehind _ (by decide) (by decide) |rfl):PT X (.Compare a [op] [b] pos) (tB t):=by
 intro pc s σ H Q I hw;refine Nr (aV (h pc s σ H _ I hw) λv s1 h1=>aV h1 λu s2 h2=>aV h2 λc s3 ⟨x,H1,I1,r1,q1⟩=>?_) h1;obtain⟨d,rfl,q⟩:=q1;cases r1;exact ZB ⟨H1,I1,q⟩
variable {tA tB':TT}{rest:List Q3}
def G0(t u:TT):TT:=fun σ H Q=>t σ H λc H1=>if c=aC then u σ H1 Q else Q aD H1
def VM(t u:TT):TT:=fun σ H Q=>t σ H λc H1=>if c=aC then Q aC H1 else u σ H1 Q
def G5(t:TT):TT:=fun σ H Q=>t σ H λc H1=>Q (!c) H1
theorem OI(ha:PT X a tA):PW X (.BoolOp .And [a] pos) tA:=by
 intro wh pc s σ H Q I h;refine isTrue_and (aV (ha pc s σ H Q I h) λc s1 e=>?_);cases c with
 |true=>exact isTrue_and_nil e
 |false=>exact e
theorem M7(ha:PT X a tA):PW X (.BoolOp .Or [a] pos) tA:=by
 intro wh pc s σ H Q I h;refine isTrue_or (aV (ha pc s σ H Q I h) λc s1 e=>?_);cases c with
 |false=>exact isTrue_or_nil e
 |true=>exact e
theorem M6(ha:PT X a tA)(hb:PW X (.BoolOp .And (b::rest) pos) tB'):PW X (.BoolOp .And (a::b::rest) pos) (G0 tA tB'):=by
 intro wh pc s σ H Q I h;refine isTrue_and (aV (ha pc s σ H _ I h) λc s1 h_=>?_); obtain⟨H1,I1,q1⟩:=h_;cases c with
 |true=>exact hb wh pc s1 σ H1 Q I1 q1
 |false=>exact⟨H1,I1,q1⟩
theorem HZ(ha:PT X a tA)(hb:PW X (.BoolOp .Or (b::rest) pos) tB'):PW X (.BoolOp .Or (a::b::rest) pos) (VM tA tB'):=by
 intro wh pc s σ H Q I h;refine isTrue_or (aV (ha pc s σ H _ I h) λc s1 h_=>?_); obtain⟨H1,I1,q1⟩:=h_;cases c with
 |true=>exact⟨H1,I1,q1⟩
 |false=>exact hb wh pc s1 σ H1 Q I1 q1
theorem M4(ha:PT X a tA):PT X (.UnaryOp .Not a pos) (G5 tA):=by
 intro pc s σ H Q I h;exact isTrue_not (ha pc s σ H (λc H1=>Q (!c) H1) I h)
def Hz(ta tb:TE):TE:=fun σ H Q=>ta σ H λx H1=>∃ c,x=.bl c/\if c=aC then tb σ H1 Q else Q (.bl aD) H1
def Ig(ta:TE):TE:=fun σ H Q=>ta σ H λx H1=>∃ c,x=.bl c/\Q (.bl (!c)) H1
theorem Ls{op}{t:TE}(h:PE X a t):PE X (.BoolOp op [a] pos) t:=λpc s σ H Q I hw=>BoolOp_one (h pc s σ H Q I hw)
theorem LY(ha:PE X a ta)(hb:PE X (.BoolOp .And (b::rest) pos) tb):PE X (.BoolOp .And (a::b::rest) pos) (Hz ta tb):=by
 intro pc s σ H Q I h;refine BoolOp_and (aV (ha pc s σ H _ I h) λv s1 h_=>?_); obtain⟨x,H1,I1,r1,q1⟩:=h_;obtain⟨c,rfl,q1⟩:=q1;cases r1;refine ZB ?_;cases c with
 |true=>exact hb pc s1 σ H1 Q I1 q1
 |false=>exact⟨.bl aD,H1,I1,rfl,q1⟩
theorem Lr(ha:PE X a ta):PE X (.UnaryOp .Not a pos) (Ig ta):=by
 intro pc s σ H Q I h;refine UnaryOp_ (aV (ha pc s σ H _ I h) λv s1 h_=>?_); obtain⟨x,H1,I1,r1,q1⟩:=h_;obtain⟨c,rfl,q1⟩:=q1;cases r1;exact not_of (ZB ⟨.bl (!c),H1,I1,rfl,q1⟩)
def VO(t:TT)(ta tb:TE):TE:=fun σ H Q=>t σ H λc H1=>if c=aC then ta σ H1 Q else tb σ H1 Q
theorem Pe{c:Q3}(hc:PT X c tA)(ha:PE X a ta)(hb:PE X b tb):PE X (.IfExp c a b pos) (VO tA ta tb):=by
 intro pc s σ H Q I h;refine wpAny_IfExp (aV (hc pc s σ H _ I h) λd s1 h_=>?_); obtain⟨H1,I1,q1⟩:=h_;cases d with
 |true=>exact ha pc s1 σ H1 Q I1 q1
 |false=>exact hb pc s1 σ H1 Q I1 q1
end
def ad(K:j9)(H:Hp)(a:jw)(xs:List V):Prop:=
 Rd H a (.lst xs) ∨
  ∃(o:Obj) (its:Array j8) (n:Nat),K.lookup a=aA o/\o.cls=.type "list"/\o.dict=aB/\o.data=.seq its n/\its.size<=jr/\Vals xs its.toList
def bj(K:j9)(H:Hp)(a:jw)(xs:List V):Prop:=
 Rd H a (.tup xs) ∨
  ∃(o:Obj) (its:Array j8) (n:Nat),K.lookup a=aA o/\o.cls=.type "tuple"/\o.data=.seq its n/\its.size<=jr/\Vals xs its.toList
def GV:j8->Option V
 |.none=>aA .non
 |.bool b=>aA (.bl b)
 |.int i _=>aA (.int i)
 |.str x _=>aA (.str x)
 |.bytes b _=>aA (.byt b)
 |.float b _=>aA (.flt b)
 |.ref a=>aA (.ref a)
 |.type n=>aA (.ty n)
 |_=>aB
theorem RelV.abs{x:V}{u:j8}(r:RelV x u):GV u=aA x:=by
 cases x with
 |non=>cases r; rfl
 |bl _=>cases r; rfl
 |int _=>obtain⟨t,rfl⟩:=r; rfl
 |str _=>obtain⟨t,rfl⟩:=r; rfl
 |byt _=>obtain⟨t,rfl⟩:=r; rfl
 |flt _=>obtain⟨t,rfl⟩:=r; rfl
 |ref _=>cases r; rfl
 |ty _=>cases r; rfl
theorem RelV.inj{x y:V}{u:j8}(r:RelV x u)(q:RelV y u):x=y:=jh (r.abs.symm.trans q.abs)
theorem Vals.inj:∀ {xs ys:List V} {us:List j8},Vals xs us->Vals ys us->xs=ys
 |_,_,_,.nil,.nil=>rfl
 |_,_,_,.cons r t,.cons r' t'=>by rw[r.inj r',Vals.inj t t']
section
variable {xs ys:List V}
theorem ad.of{K:j9}(h:H a=aA (.lst xs)):ad K H a xs:=.inl (.inl h)
theorem bj.of{K:j9}(h:H a=aA (.tup xs)):bj K H a xs:=.inl (.inl h)
theorem Inv.list(I:Inv X pc σ H s)(h:ad X.K H a xs):∃ its:List j8,Vals xs its/\PlainL s.heap a its.toArray/\xs.length<=jr:=by
 rcases h with h |⟨o,its,n,hk,hc,hd,hs,hz,r⟩
 ·obtain⟨z,its,n,r,e⟩:=h.ok I.hok;exact⟨its,r,⟨_,n,e,rfl,rfl,rfl⟩,z⟩
 ·refine⟨its.toList,r,⟨o,n,I.kIn a o hk,hc,hd,by simpa using hs⟩,?_⟩
  have e:=r.length;simp only[QD] at e;lia
theorem Inv.tuple(I:Inv X pc σ H s)(h:bj X.K H a xs):∃ its:List j8,Vals xs its/\IsTup s.heap a its.toArray/\xs.length<=jr:=by
 rcases h with h |⟨o,its,n,hk,hc,hs,hz,r⟩
 ·obtain⟨z,its,r,p⟩:=h.ok I.hok;exact⟨its,r,p,z⟩
 ·refine⟨its.toList,r,⟨o,I.kIn a o hk,hc,n,by simpa using hs⟩,?_⟩
  have e:=r.length;simp only[QD] at e;lia
theorem Inv.list_inj(I:Inv X pc σ H s)(h:ad X.K H a xs)(h':ad X.K H a ys):xs=ys:=by
 obtain⟨its,r,⟨o,n,e,_,_,d⟩,_⟩:=I.list h;obtain⟨its',r',⟨o',n',e',_,_,d'⟩,_⟩:=I.list h';rw[e] at e'; cases e';rw[d] at d';injection d' with d1 _;have:its=its':=by simpa using congrArg JY d1
 subst this;exact r.inj r'
theorem Inv.tuple_inj(I:Inv X pc σ H s)(h:bj X.K H a xs)(h':bj X.K H a ys):xs=ys:=by
 obtain⟨its,r,⟨o,e,_,n,d⟩,_⟩:=I.tuple h;obtain⟨its',r',⟨o',e',_,n',d'⟩,_⟩:=I.tuple h';rw[e] at e'; cases e';rw[d] at d';injection d' with d1 _;have:its=its':=by simpa using congrArg JY d1
 subst this;exact r.inj r'
end
abbrev Cx.wish(X:Cx)(E:j8->jd->Prop):Cx:={ X with xe:=E }
abbrev Cx.nox(X:Cx):Cx:=X.wish λ_ _=>False
theorem Cx.Ok.wish{X:Cx}(ok:X.Ok)(E:j8->jd->Prop):(X.wish E).Ok:=
 ⟨ok.mod,ok.kind,ok.glob,ok.blt,ok.above,ok.inj,ok.has,ok.cab,ok.hd,ok.frames,ok.stk,ok.exf,ok.bs,ok.bsz,ok.noex,ok.exfs,ok.funs,ok.frf⟩
theorem Cx.Ok.unwish{X:Cx}{E:j8->jd->Prop}(ok:(X.wish E).Ok):X.Ok:=
 ⟨ok.mod,ok.kind,ok.glob,ok.blt,ok.above,ok.inj,ok.has,ok.cab,ok.hd,ok.frames,ok.stk,ok.exf,ok.bs,ok.bsz,ok.noex,ok.exfs,ok.funs,ok.frf⟩
section
variable {E:j8->jd->Prop}
theorem Inv.wish(I:Inv X pc σ H s)(E:j8->jd->Prop):Inv (X.wish E) pc σ H s:=⟨I.ok.wish E,I.os,I.bare,I.base,I.loc,I.cell,I.free,I.freeC,I.pin,I.hok,I.len⟩
theorem Inv.unwish(I:Inv (X.wish E) pc σ H s):Inv X pc σ H s:=⟨I.ok.unwish,I.os,I.bare,I.base,I.loc,I.cell,I.free,I.freeC,I.pin,I.hok,I.len⟩
theorem SP.unwish{D:Ends}{f:Flow}{s':jd}(h:SP (X.wish E) pc D f s'):SP X pc D f s':=by
 cases f with
 |next=>obtain⟨σ',H',I,q⟩:=h; exact⟨σ',H',I.unwish,q⟩
 |brk=>obtain⟨σ',H',I,q⟩:=h; exact⟨σ',H',I.unwish,q⟩
 |cont=>obtain⟨σ',H',I,q⟩:=h; exact⟨σ',H',I.unwish,q⟩
 |ret u=>obtain⟨v,σ',H',I,r,q⟩:=h; exact⟨v,σ',H',I.unwish,r,q⟩
theorem bv.nox{st:List QR}{t:TS}(h:bv X.nox st t):bv X st t:=λpc s σ H D I hw=>
 jY (h pc s σ H D (I.wish _) hw) (λ_ _ q=>q.unwish) λ_ _ z=>Zl z
end
section
variable {st:QR}{rest:List QR}{t u:TS}{te:TE}
def Ie:TS:=λD σ H=>D.nx σ H
def B3(t u:TS):TS:=λD σ H=>t { D with nx:=u D } σ H
theorem OF:bv X [] Ie:=λ_ _ σ H _ I h=>ZW ⟨σ,H,I,h⟩
theorem yX(h1:PS X st t)(h2:bv X rest u):bv X (st::rest) (B3 t u):=by
 intro pc s σ H D I h;refine Y5 (aV (h1 pc s σ H { D with nx:=u D } I h) λf s1 q=>?_);cases f with
 |next=>
  obtain⟨σ',H',I',q⟩:=q;exact h2 pc s1 σ' H' D I' q
 |ret v=>exact q
 |brk=>exact q
 |cont=>exact q
theorem sO(h1:PS X st t):bv X [st] t:=by
 intro pc s σ H D I h;refine Y5 (aV (h1 pc s σ H D I h) λf s1 q=>?_);cases f with
 |next=>exact ZW q
 |ret v=>exact q
 |brk=>exact q
 |cont=>exact q
theorem Inv.quiet{pc:List (jw × Obj)}{σ:St}{H:Hp}{s:jd}(I:Inv X pc σ H s):interactive X.env=aD:=by simp[interactive,I.ok.kind]
def Id(te:TE):TS:=λD σ H=>te σ H λ_ H1=>D.nx σ H1
theorem OE(he:PE X e te)(hs:ZX e aB pos.line X.env=pure aD:=by rfl):PS X (.Expr e pos) (Id te):=by
 intro pc s σ H D I h;exact wpAny_Expr_any (aV (he pc s σ H _ I h) λv s1 ⟨x,H1,I1,r1,q1⟩=>⟨σ,H1,I1,q1⟩) I.quiet hs
def B1(te:TE):TS:=λD σ H=>te σ H D.rt
theorem uN(he:PE X e te):PS X (.Return (aA e) pos) (B1 te):=by
 intro pc s σ H D I h;exact wpAny_Return_some (aV (he pc s σ H _ I h) λv s1 ⟨x,H1,I1,r1,q1⟩=>⟨x,σ,H1,I1,r1,q1⟩)
def G2(c:TT)(t u:TS):TS:=λD σ H=>c σ H λb H1=>if b=aC then t D σ H1 else u D σ H1
theorem C4{c:Q3}{a b:List QR}{tc:TT}(hc:PT X c tc)(ha:bv X a t)(hb:bv X b u):PS X (.If c a b pos) (G2 tc t u):=by
 intro pc s σ H D I h;refine wpAny_If (aV (hc pc s σ H _ I h) λd s1 h_=>?_); obtain⟨H1,I1,q1⟩:=h_;cases d with
 |true=>exact ha pc s1 σ H1 D I1 q1
 |false=>exact hb pc s1 σ H1 D I1 q1
end
abbrev TG:=V->St->Hp->(St->Hp->Prop)->Prop
abbrev eI:=List V->St->Hp->(St->Hp->Prop)->Prop
def PG(X:Cx)(target:Q3)(t:TG):Prop:=
 ∀(pc:List (jw × Obj)) (s:jd) (σ:St) (H:Hp) (v:V) (u:j8) (Q:St->Hp->Prop),Inv X pc σ H s->RelV v u->t v σ H Q->
  jJ (jO X.prog X.w) X.A (gZ target X.env u) (λ_ s'=>∃ σ' H',Inv X pc σ' H' s'/\Q σ' H') X.xe s
def oz(X:Cx)(ts:List Q3)(t:eI):Prop:=
 ∀(pc:List (jw × Obj)) (s:jd) (σ:St) (H:Hp) (vs:List V) (us:List j8) (Q:St->Hp->Prop),Inv X pc σ H s->Vals vs us->t vs σ H Q->
  jJ (jO X.prog X.w) X.A (assignInOrder ((Qs ts X.env).map (·.2)) us) (λ_ s'=>∃ σ' H',Inv X pc σ' H' s'/\Q σ' H') X.xe s
abbrev tj:=V->V->V->Hp->(Hp->Prop)->Prop
def wf(X:Cx)(t:tj):Prop:=
 ∀(pc:List (jw × Obj)) (s:jd) (σ:St) (H:Hp) (o i v:V) (ov iv u:j8) (Q:Hp->Prop),Inv X pc σ H s->RelV o ov->RelV i iv->RelV v u->t o i v H Q->
  jJ (jO X.prog X.w) X.A (setItem ov iv u) (λ_ s'=>∃ H',Inv X pc σ H' s'/\Q H') X.xe s
section
def dY(i:Nat):TG:=λv σ H Q=>Q (σ.set i (aA v)) H
theorem Oi{i:Nat}{x:Str}(hN:X.N.Nodup)(hi:X.N[i]?=aA x)(hx:nz X.env.scope x)(hf:X.fn x=aC∨X.env.scope.names.lookup x=aA .local:=by first |exact .inl rfl |exact .inr rfl |assumption):PG X (.Name x pos) (dY i):=by
 intro pc s σ H v u Q I r h;exact YI (Do I hN hi hx r (λs' I'=>⟨_,H,I',h⟩) hf)
def o6:eI:=λvs σ H Q=>vs=[]/\Q σ H
def nK(t:TG)(u:eI):eI:=λvs σ H Q=>∃ v r,vs=v::r/\t v σ H fun σ' H'=>u r σ' H' Q
theorem O3:oz X [] o6:=by
 intro pc s σ H vs us Q I r h;obtain⟨e,h⟩:=h;subst e;cases r;exact assignInOrder_nil ⟨σ,H,I,h⟩
theorem Pf{e:Q3}{es:List Q3}{t:TG}{u:eI}(h1:PG X e t)(h2:oz X es u)
  (hs:(Qs (e::es) X.env).map (·.2)=gZ e X.env::(Qs es X.env).map (·.2):=by rfl):oz X (e::es) (nK t u):=by
 intro pc s σ H vs us Q I r h;obtain⟨v,vr,e1,h⟩:=h;subst e1;cases r with
 |cons r rr=>
  rw[hs];refine assignInOrder_cons (aV (h1 pc s σ H _ _ _ I r h) λ_ s1 h_=>?_); obtain⟨σ1,H1,I1,q1⟩:=h_;exact h2 pc s1 σ1 H1 _ _ Q I1 rr q1
def fq(K:j9)(n:Nat)(t:eI):TG:=λv σ H Q=>∃ a xs,v=.ref a/\bj K H a xs/\xs.length=n/\t xs σ H Q
theorem Cg{es:List Q3}{k:Nat}{t:eI}{n:Nat}(hc:X.calm=aC)(h:oz X es t)
  (hn:(Qs es X.env).length=n:=by rfl) (hst:(Qs es X.env).findIdx? (·.1)=aB:=by rfl):PG X (.Tuple es k pos) (fq X.K n t):=by
 intro pc s σ H v u Q I r hw;obtain⟨a,xs,e1,hq,hl,hw⟩:=hw;subst e1;cases r;obtain⟨its,rv,ht,hz⟩:=I.tuple hq;refine assign_Tuple_tuple (I.ok.hd hc) ht (by simp[hn,<-hl,rv.length]) hst λh' hx=>?_
 have I1:Inv X pc σ H { s with heap:=h' }:=I.kept (t':=s.toks) λb o e=>hx b o (jG (jo e)) e;exact h pc _ σ H xs _ Q I1 (by simpa using rv) hw
def wn(to ti:TE)(t:tj):TG:=λv σ H Q=>to σ H λo H1=>ti σ H1 λi H2=>t o i v H2 λH3=>Q σ H3
theorem Ly{o i:Q3}{to ti:TE}{t:tj}(ho:PE X o to)(hi:PE X i ti)(hs:wf X t)
  (ha:∀ v,gZ (.Subscript o i pos) X.env v=(do
   let ov <-Yz [v] (eval o X.env)
   let iv <-Yz [v,ov] (eval i X.env)
   standAt pos
   Yz [v,ov,iv] (setItem ov iv v)
   release [v,ov,iv] []):=by intro _; rfl):PG X (.Subscript o i pos) (wn to ti t):=by
 intro pc s σ H v u Q I r h;rw[ha];refine j4 (Qi (aV (ho pc s σ H _ I h) λov s1 h_=>?_)); obtain⟨x,H1,I1,r1,q1⟩:=h_;refine j4 (Qi (aV (hi pc s1 σ H1 _ I1 q1) λiv s2 h_=>?_)); obtain⟨y,H2,I2,r2,q2⟩:=h_;refine j4 (Zd (j4 (Qi (aV (hs pc s2 σ H2 x y v ov iv u _ I2 r1 r2 r q2) λ_ s3 h_=>?_)))); obtain⟨H3,I3,q3⟩:=h_;exact wpAny_release ⟨σ,H3,I3,q3⟩
def dq(te:TE)(g:TG):TS:=λD σ H=>te σ H λx H1=>g x σ H1 D.nx
theorem M1{tg e:Q3}{te:TE}{g:TG}(he:PE X e te)(hg:PG X tg g)(hs:swapsWithSole [tg] e pos.line X.env=pure aD:=by rfl)(hw:swappedStores [tg] e X.env=pure aB:=by rfl)
  (h1:(Qs [tg] X.env).map (·.2)=[gZ tg X.env]:=by rfl):PS X (.Assign [tg] e pos) (dq te g):=by
 intro pc s σ H D I h;refine wpAny_Assign_stores (aV (he pc s σ H _ I h) λv s1 ⟨x,H1,I1,r1,q1⟩=>?_) hs hw;rw[h1];exact aV (hg pc s1 σ H1 x v _ I1 r1 q1) λ_ s2 q=>q
theorem Ch{i:Nat}{x:Str}{e:Q3}{te:TE}{pos':Pos}(hN:X.N.Nodup)(hi:X.N[i]?=aA x)(hx:nz X.env.scope x)(he:PE X e te)(hs:ZX e (aA (.Name x pos')) pos.line X.env=pure aD:=by rfl)(hf:X.fn x=aC∨X.env.scope.names.lookup x=aA .local:=by first |exact .inl rfl |exact .inr rfl |assumption) :
  PS X (.Assign [.Name x pos'] e pos) (dq te (dY i)):=by
 intro pc s σ H D I h;refine wpAny_Assign_Name (aV (he pc s σ H _ I h) λv s1 ⟨y,H1,I1,r1,q1⟩=>?_) hs;exact Do I1 hN hi hx r1 (λs2 I2=>⟨_,H1,I2,q1⟩) hf
end
section
def Ct(c:TT)(tb:TS):TS:=λD σ H=>∃ W:Nat->St->Hp->Prop,(∃ m,W m σ H)/\∀ m σ H,W m σ H->
 c σ H λb H1=>if b=aC then ∃ N:St->Hp->Prop,(∀ σ' H',N σ' H'->∃ m',m' < m/\W m' σ' H')/\tb { D with nx:=N,ct:=N,bk:=D.nx } σ H1 else D.nx σ H1
theorem Px{c:Q3}{body:List QR}{tc:TT}{tb:TS}(hp:Ji (jO X.prog X.w) X.A X.env X.xe)(hc:PT X c tc)(hb:bv X body tb):PS X (.While c body [] pos) (Ct tc tb):=by
 intro pc s σ H D I h;obtain⟨W,⟨m0,w0⟩,turn⟩:=h;refine wpAny_While (codeAny_whileLoop (λn s'=>∃ σ' H',Inv X pc σ' H' s'/\W n σ' H') ?_ m0 ⟨σ,H,I,w0⟩);rintro n s1 ⟨σ1,H1,I1,w1⟩;refine ZC hp (aV (hc pc s1 σ1 H1 _ I1 (turn n σ1 H1 w1)) λb s2 h_=>?_); obtain⟨H2,I2,q2⟩:=h_;cases b with
 |true=>
  obtain⟨N,hN,q2⟩:=q2;rw[aI rfl];refine ZC hp (aV (hb pc s2 σ1 H2 _ I2 q2) λf s3 q3=>?_);cases f with
  |next=>
   obtain⟨σ3,H3,I3,n3⟩:=q3;obtain⟨m',hm,w3⟩:=hN σ3 H3 n3;exact⟨m',hm,σ3,H3,I3,w3⟩
  |cont=>
   obtain⟨σ3,H3,I3,n3⟩:=q3;obtain⟨m',hm,w3⟩:=hN σ3 H3 n3;exact⟨m',hm,σ3,H3,I3,w3⟩
  |brk=>exact q3
  |ret v=>exact q3
 |false=>
  rw[aH jK];exact ZW ⟨σ1,H2,I2,q2⟩
end
structure It where
 go:Nat->Hp->Prop
 yld:Nat->Hp->V->Hp->Prop
 stop:Nat->Hp->Prop
def ez(X:Cx)(pc:List (jw × Obj))(H:Hp)(b:jw):Prop:=
 H b=aB/\b≠X.env.locals/\b∉X.fs/\(b∈X.ex∨X.s₀.heap.objs.size<=b)/\(∀ x c,X.env.cells.lookup x=aA c->c≠b)/\∀ p∈X.pn++pc,p.1≠b
theorem Inv.fpOk{X:Cx}{pc:List (jw × Obj)}{σ:St}{H H':Hp}{s:jd}{b:jw}(I:Inv X pc σ H s)(hb:s.heap.objs.size<=b)(hn:H' b=aB):ez X pc H' b:=by
 refine⟨hn,gD (jZ I.lt hb),I.nofs hb,.inr (Q9 I.sz hb),λx c e z=>?_,λp hp z=>?_⟩
 ·obtain⟨v,q⟩:=I.cell x c e;exact absurd (jZ q.lt (by rw[z]; exact hb)) (Q4 _)
 ·exact absurd (jZ (jo (I.pin p hp).1) (by rw[z]; exact hb)) (Q4 _)
structure Turn (P:jI) (w:Qe) (K:j9) (tg:Q3) (J:It) (fp:List jw) (it:jw) (tn:Nat->QN->Prop):Prop where
 mem:it∈fp
 obj:∀ i h,tn i h->∀ b∈fp,∃ o,h.get? b=aA o/\∀ v,o.data≠.cell v
 keep:∀ i h h',tn i h->(∀ b∈fp,∀ o,h.get? b=aA o->h'.get? b=aA o)->tn i h'
 item:∀(X:Cx),X.prog=P->X.w=w->X.K=K->X.calm=aC->∀(i:Nat) (pc:List (jw × Obj)) (s:jd) (σ:St) (H:Hp) (E:j8->jd->Prop),Inv X pc σ H s->(∀ b∈fp,ez X pc H b)->tn i s.heap->J.go i H->
  jJ (jO P w) X.A (NX (.ref it)) (λr s1=>∃ u,r=aA u /\
   jJ (jO P w) X.A (ZY tg (.ref it) u) (λ_ s2=>∃ x H',Inv X pc σ H' s2/\RelV x u/\J.yld i H x H'/\tn (i+1) s2.heap/\∀ b∈fp,H' b=aB) E s1) E s
 done:∀(X:Cx),X.prog=P->X.w=w->X.K=K->X.calm=aC->∀(i:Nat) (pc:List (jw × Obj)) (s:jd) (σ:St) (H:Hp) (E:j8->jd->Prop),Inv X pc σ H s->(∀ b∈fp,ez X pc H b)->tn i s.heap->J.stop i H->
  jJ (jO P w) X.A (NX (.ref it)) (λr s1=>r=aB/\Inv X pc σ H s1) E s
 self:∀(A:Qh) (i:Nat) (s:jd) (Q:j8->jd->Prop) (E:j8->jd->Prop),tn i s.heap->Q (.ref it) s->jJ (jO P w) A (pyIter (.ref it)) Q E s
abbrev TI:=St->Hp->(It->Hp->Prop)->Prop
def Fv(X:Cx)(pc:List (jw × Obj))(σ:St)(tg:Q3)(R:It->Hp->Prop)(itv:j8)(s2:jd):Prop:=
 ∃(it:jw) (fp:List jw) (tn:Nat->QN->Prop) (J:It) (H':Hp),itv=.ref it/\Inv X pc σ H' s2/\Turn X.prog X.w X.K tg J fp it tn/\tn 0 s2.heap/\(∀ b∈fp,ez X pc H' b)/\R J H'
def PI(X:Cx)(tg iter:Q3)(wi:TI):Prop:=
 ∀(pc:List (jw × Obj)) (s:jd) (σ:St) (H:Hp) (R:It->Hp->Prop),Inv X pc σ H s->wi σ H R->
  jJ (jO X.prog X.w) X.A (eval iter X.env) (λv s1=>jJ (jO X.prog X.w) X.A (pyIter v) (Fv X pc σ tg R) X.xe s1) X.xe s
theorem rT{M:U7}{A:Qh}{E:j8->jd->Prop}{s:jd}{tg:Q3}{it:jw}{u:j8}{o:Obj}{n:String}{vs:Array j8}{Q:Unit->jd->Prop}(ho:s.heap.get? it=aA o)(hc:o.cls=.type n)(hd:o.data=.fields vs)
    (hn:["enumerate","zip","dict_itemiterator","dict_reverseitemiterator","odict_iterator","itertools.zip_longest","itertools.pairwise"].contains n=aD) (hQ:Q () s):jJ M A (ZY tg (.ref it) u) Q E s:=by
  unfold ZY;cases tg<;>first
    |exact jp hQ
    | (cases u<;>first
        |exact jp hQ
        | (refine j4 (wpAny_load ho ?_)
           rw[hc,hd];show jJ M A (if (["enumerate","zip","dict_itemiterator","dict_reverseitemiterator","odict_iterator","itertools.zip_longest","itertools.pairwise"].contains n&&vs[0]? == aA (rawInt _))=aC then _ else _) Q E s
           rw[aH (by intro h; rw[hn,YA] at h; cases h)]
           exact jp hQ))
def wa(K:j9)(a:jw):It:=
 ⟨λi H=>∃ xs x,ad K H a xs/\xs[i]?=aA x,λi H x H'=>H'=H/\∀ xs,ad K H a xs->xs[i]?=aA x,λi H=>∃ xs,ad K H a xs/\xs.length<=i⟩
def Fw(K:j9)(a:jw):It:=
 ⟨λi H=>∃ xs x,bj K H a xs/\xs[i]?=aA x,λi H x H'=>H'=H/\∀ xs,bj K H a xs->xs[i]?=aA x,λi H=>∃ xs,bj K H a xs/\xs.length<=i⟩
def tV(lo:Int)(n:Nat):It:=⟨λi _=>i < n,λi H x H'=>H'=H/\x=.int (lo+i),λi _=>n<=i⟩
theorem Su{P:jI}{w:Qe}{K:j9}{tg:Q3}(a it:jw):Turn P w K tg (wa K a) [it] it (λi h=>h.IsListIter it a i) where
 mem:=by simp
 obj:=λi h st b hb=>by
  have e:b=it:=by simpa using hb
  subst e;obtain⟨o,e,c,d⟩:=st;exact⟨o,e,λv z=>by rw[d] at z; cases z⟩
 keep:=λi h h' st k=>st.at λo e=>k it (by simp) o e
 item:=by
  intro X hP hw hK hc i pc s σ H E I hf st hg;subst hP hw hK;obtain⟨xs,x,hq,hx⟩:=hg;obtain⟨its,rv,p,hz⟩:=I.list hq;obtain⟨u,hu,ru⟩:=rv.get hx;obtain⟨f0,f1,f2,f3,f4,f5⟩:=hf it (by simp)
  refine Nk st p.isList (x:=u) (by simpa using hu) λh' st' sb=>?_
  have I1:Inv X pc σ H { s with heap:=h' }:=I.turned (t':=s.toks) (λb o hb e=>(sb.2 b hb).trans e) f0 f1 f3 f4 f5;obtain⟨o,e,c,d⟩:=id st';exact⟨u,rfl,rT (s:={ s with heap:=h' }) e c d (by decide) ⟨x,H,I1,ru,⟨rfl,λys hy=>by rw[I.list_inj hy hq]; exact hx⟩,st',λb hb=>(hf b hb).1⟩⟩
 done:=by
  intro X hP hw hK hc i pc s σ H E I hf st hg;subst hP hw hK;obtain⟨xs,hq,hx⟩:=hg;obtain⟨its,rv,p,hz⟩:=I.list hq;obtain⟨f0,f1,f2,f3,f4,f5⟩:=hf it (by simp)
  have hl:=rv.length;exact Nt (I.ok.hd hc) st p.isList (by simp; lia) λh' eb=>⟨rfl,I.turned (t':=s.toks) (λb o hb e=>eb b o hb e) f0 f1 f3 f4 f5⟩
 self:=λ_ _ _ _ _ st h=>wpAny_pyIter_listiter st h
theorem T8{P:jI}{w:Qe}{K:j9}{tg:Q3}(a it:jw):Turn P w K tg (Fw K a) [it] it (λi h=>h.IsTupleIter it a i) where
 mem:=by simp
 obj:=λi h st b hb=>by
  have e:b=it:=by simpa using hb
  subst e;obtain⟨o,e,c,d⟩:=st;exact⟨o,e,λv z=>by rw[d] at z; cases z⟩
 keep:=λi h h' st k=>st.at λo e=>k it (by simp) o e
 item:=by
  intro X hP hw hK hc i pc s σ H E I hf st hg;subst hP hw hK;obtain⟨xs,x,hq,hx⟩:=hg;obtain⟨its,rv,p,hz⟩:=I.tuple hq;obtain⟨u,hu,ru⟩:=rv.get hx;obtain⟨f0,f1,f2,f3,f4,f5⟩:=hf it (by simp)
  refine wpAny_pyNext_tuple_item st (show s.heap.IsTuple a its.toArray from p) (x:=u) (by simpa using hu) λh' st' sb=>?_
  have I1:Inv X pc σ H { s with heap:=h' }:=I.turned (t':=s.toks) (λb o hb e=>(sb.2 b hb).trans e) f0 f1 f3 f4 f5;obtain⟨o,e,c,d⟩:=id st';exact⟨u,rfl,rT (s:={ s with heap:=h' }) e c d (by decide) ⟨x,H,I1,ru,⟨rfl,λys hy=>by rw[I.tuple_inj hy hq]; exact hx⟩,st',λb hb=>(hf b hb).1⟩⟩
 done:=by
  intro X hP hw hK hc i pc s σ H E I hf st hg;subst hP hw hK;obtain⟨xs,hq,hx⟩:=hg;obtain⟨its,rv,p,hz⟩:=I.tuple hq;obtain⟨f0,f1,f2,f3,f4,f5⟩:=hf it (by simp)
  have hl:=rv.length;exact wpAny_pyNext_tuple_end (I.ok.hd hc) st (show s.heap.IsTuple a its.toArray from p) (by simp; lia) λh' eb=>⟨rfl,I.turned (t':=s.toks) (λb o hb e=>eb b o hb e) f0 f1 f3 f4 f5⟩
 self:=λ_ _ _ _ _ st h=>wpAny_pyIter_tupleiter st h
theorem T7{P:jI}{w:Qe}{K:j9}{tg:Q3}(it:jw)(lo:Int)(n:Nat):Turn P w K tg (tV lo n) [it] it (λi h=>IsRangeIter h it (lo+(i:Nat)*1) ((n:Int) - (i:Nat)) 1) where
 mem:=by simp
 obj:=λi h st b hb=>by
  have e:b=it:=by simpa using hb
  subst e
  exact⟨_,st,λv z=>by
   have z':Jj _=Wb v:=z
   cases z'⟩
 keep:=λi h h' st k=>k it (by simp) _ st
 item:=by
  intro X hP hw hK hc i pc s σ H E I hf st hg;subst hP hw hK;obtain⟨f0,f1,f2,f3,f4,f5⟩:=hf it (by simp)
  have W:=Walks.range (prog:=X.prog) (w:=X.w) (I.ok.hd hc) it lo 1 n;refine W.item i s _ _ hg st λv h' tk hv st' kk=>?_;obtain⟨t,rfl⟩:=hv;have I1:Inv X pc σ H { s with heap:=h',toks:=tk }:=I.turned (λb o hb e=>kk b o (by simpa using hb) e) f0 f1 f3 f4 f5
  refine⟨_,rfl,rT (s:={ s with heap:=h',toks:=tk }) (n:="range_iterator") st' rfl rfl (by decide) ⟨.int (lo+i),H,I1,⟨t,?_⟩,⟨rfl,rfl⟩,st',λb hb=>(hf b hb).1⟩⟩
  rw[Int.mul_one]
 done:=by
  intro X hP hw hK hc i pc s σ H E I hf st hg;subst hP hw hK;obtain⟨f0,f1,f2,f3,f4,f5⟩:=hf it (by simp)
  exact wpAny_pyNext_range_end (I.ok.hd hc) st (by have:n<=i:=hg; lia) λh' eb=>⟨rfl,I.turned (t':=s.toks) (λb o hb e=>eb b o hb e) f0 f1 f3 f4 f5⟩
 self:=λ_ _ _ _ _ st h=>wpAny_pyIter_rangeiter st h
section
variable {tg:Q3}
def Ba(K:j9)(tl:TE):TI:=fun σ H R=>tl σ H λx H1=>∃ a,x=.ref a/\(∃ xs,ad K H1 a xs)/\R (wa K a) H1
def Ga(K:j9)(tl:TE):TI:=fun σ H R=>tl σ H λx H1=>∃ a,x=.ref a/\(∃ xs,bj K H1 a xs)/\R (Fw K a) H1
theorem O7{l:Q3}{tl:TE}(hl:PE X l tl):PI X tg l (Ba X.K tl):=by
 intro pc s σ H R I h;refine aV (hl pc s σ H _ I h) λv s1 h_=>?_; obtain⟨x,H1,I1,r1,q1⟩:=h_;obtain⟨a,e,⟨xs,hq⟩,q⟩:=q1;subst e;cases r1;obtain⟨its,rv,p,hz⟩:=I1.list hq;refine gW p.isList ?_;refine⟨s1.heap.objs.size,[s1.heap.objs.size],_,_,H1,rfl,I1.kept (t':=s1.toks) λb o e=>jb _ e,Su a _,⟨_,jM _ rfl,rfl,rfl⟩,λb hb=>?_,q⟩;have e:b=s1.heap.objs.size:=by simpa using hb
 subst e;exact I1.fpOk (ji _) (I1.hok.fresh (ji _))
theorem M0{l:Q3}{tl:TE}(hl:PE X l tl):PI X tg l (Ga X.K tl):=by
 intro pc s σ H R I h;refine aV (hl pc s σ H _ I h) λv s1 h_=>?_; obtain⟨x,H1,I1,r1,q1⟩:=h_;obtain⟨a,e,⟨xs,hq⟩,q⟩:=q1;subst e;cases r1;obtain⟨its,rv,p,hz⟩:=I1.tuple hq;refine wpAny_pyIter_tuple (show s1.heap.IsTuple a its.toArray from p) ?_;refine⟨s1.heap.objs.size,[s1.heap.objs.size],_,_,H1,rfl,I1.kept (t':=s1.toks) λb o e=>jb _ e,T8 a _,⟨_,jM _ rfl,rfl,rfl⟩,λb hb=>?_,q⟩;have e:b=s1.heap.objs.size:=by simpa using hb
 subst e;exact I1.fpOk (ji _) (I1.hok.fresh (ji _))
theorem Dm{pc:List (jw × Obj)}{σ:St}{H:Hp}{s:jd}{R:It->Hp->Prop}{E:j8->jd->Prop}{lo hi:Int}{t u v:Tok}{tk:Nat}(I:Inv X pc σ H s)(h1:-(2 ^ 62)<=lo)(h2:lo < 2 ^ 62)(h3:-(2 ^ 62)<=hi)(h4:hi < 2 ^ 62)
  (q:R (tV lo (hi - lo).toNat) H):jJ (jO X.prog X.w) X.A (pyIter (.ref s.heap.objs.size)) (Fv X pc σ tg R) E { s with heap:=s.heap.push { cls:=.type "range",data:=.fields #[.int lo t,.int hi u,.int 1 v] },toks:=tk }:=by
 refine wpAny_pyIter_range (U8 ..) (small_one h1 h2 h3 h4) ?_;have I1:Inv X pc σ H { s with heap:=s.heap.push { cls:=.type "range",data:=.fields #[.int lo t,.int hi u,.int 1 v] },toks:=tk }:=I.kept λb o e=>jb _ e
 refine⟨(s.heap.push { cls:=.type "range",data:=.fields #[.int lo t,.int hi u,.int 1 v] }).objs.size,[(s.heap.push { cls:=.type "range",data:=.fields #[.int lo t,.int hi u,.int 1 v] }).objs.size],_,_,H,rfl,
  I1.kept (t':=tk) λb o e=>jb _ e,T7 _ lo (hi - lo).toNat,?_,λb hb=>?_,q⟩
 ·have e1:lo+((0:Nat):Int)*1=lo:=by simp
  have e2:(((hi - lo).toNat:Nat):Int) - ((0:Nat):Int)=YZ lo hi 1:=by rw[rangeSize_one]; split<;>lia
  show IsRangeIter _ _ (lo+((0:Nat):Int)*1) ((((hi - lo).toNat:Nat):Int) - ((0:Nat):Int)) 1;rw[e1,e2];exact jM _ rfl
 ·have e:b=(s.heap.push { cls:=.type "range",data:=.fields #[.int lo t,.int hi u,.int 1 v] }).objs.size:=by simpa using hb
  subst e;exact I1.fpOk (ji _) (I1.hok.fresh (ji _))
def IE(ta:TA):TI:=fun σ H R=>ta σ H λvs H1=>∃ j:Int,vs=[.int j]/\-(2 ^ 62)<=j/\j < 2 ^ 62/\R (tV 0 j.toNat) H1
def IF(ta:TA):TI:=fun σ H R=>ta σ H λvs H1=>∃ i j:Int,vs=[.int i,.int j]/\(-(2 ^ 62)<=i/\i < 2 ^ 62/\-(2 ^ 62)<=j/\j < 2 ^ 62)/\R (tV i (j - i).toNat) H1
theorem Rk{a:Q3}{ta:TA}{p pos:Pos}(hg:Gl X "range")(hm:X.mg "range"=aB)(ha:PA X [a] ta)(hs:jf [a] X.env=[(aD,eval a X.env)]:=by rfl):PI X tg (.Call (.Name "range" p) [a] [] pos) (IE ta):=by
 intro pc s σ H R I h;refine Call_ (iz I hg hm JE (Qj (aV (ha pos pc s σ H _ I h) λus s1 ⟨vs,H1,I1,r1,q1⟩=>?_) hs rfl));obtain⟨j,e,q1,q2,q⟩:=q1;subst e;cases r1 with
 |cons r rr=>
  cases rr;obtain⟨t,rfl⟩:=r;exact call_range_1 (Dm I1 (by lia) (by lia) q1 q2 (by simpa using q))
theorem Rm{a b:Q3}{ta:TA}{p pos:Pos}(hg:Gl X "range")(hm:X.mg "range"=aB)(ha:PA X [a,b] ta)(hs:jf [a,b] X.env=[(aD,eval a X.env),(aD,eval b X.env)]:=by rfl)(hs2:jf [b] X.env=[(aD,eval b X.env)]:=by rfl) :
  PI X tg (.Call (.Name "range" p) [a,b] [] pos) (IF ta):=by
 intro pc s σ H R I h;refine Call_ (iz I hg hm JE (Qj (aV (ha pos pc s σ H _ I h) λus s1 ⟨vs,H1,I1,r1,q1⟩=>?_) (by rw[hs,hs2]) (by rw[hs2]; rfl)))
 obtain⟨i,j,e,⟨q1,q2,q3,q4⟩,q⟩:=q1;subst e;cases r1 with
 |cons r rr=>
  cases rr with
  |cons r' rr=>
   cases rr;obtain⟨t,rfl⟩:=r;obtain⟨t',rfl⟩:=r';exact call_range_2 (Dm I1 q1 q2 q3 q4 q)
def u8(wi:TI)(g:TG)(tb:TS):TS:=λD σ H=>wi σ H λJ H1=>∃ W:Nat->Nat->St->Hp->Prop,(∃ m,W 0 m σ H1)/\∀ i m σ H,W i m σ H->
 (J.stop i H/\D.nx σ H)∨(J.go i H/\∃ N:St->Hp->Prop,(∀ σ' H',N σ' H'->∃ m',m' < m/\W (i+1) m' σ' H')/\∀ x H',J.yld i H x H'->g x σ H' fun σ2 H2=>tb { D with nx:=N,ct:=N,bk:=D.nx } σ2 H2)
def qU(fp:List jw)(h:QN):List (jw × Obj):=fp.filterMap λb=>(h.get? b).map λo=>(b,o)
theorem qo{fp:List jw}{h:QN}{b:jw}{o:Obj}(hb:b∈fp)(e:h.get? b=aA o):(b,o)∈qU fp h:=Yt.mpr ⟨b,hb,by rw[e]; rfl⟩
theorem SG{fp:List jw}{h:QN}{p:jw × Obj}(hp:p∈qU fp h):p.1∈fp/\h.get? p.1=aA p.2:=by
 obtain⟨b,hb,e⟩:=Yt.mp hp;cases q:h.get? b with
 |none=>rw[q] at e; cases e
 |some o=>
  rw[q] at e;have e':(b,o)=p:=jh e;subst e';exact⟨hb,q⟩
theorem Inv.pinned{pc:List (jw × Obj)}{σ:St}{H:Hp}{s:jd}{fp:List jw}(I:Inv X pc σ H s)(hf:∀ b∈fp,ez X pc H b)(ho:∀ b∈fp,∃ o,s.heap.get? b=aA o/\∀ v,o.data≠.cell v):Inv X (pc++qU fp s.heap) σ H s:=
 I.pins_of λp hp=>(jt.mp hp).elim (λz=>I.pin p (jB _ z)) λz=>by
  obtain⟨hb,e⟩:=SG z;obtain⟨f0,f1,f2,_⟩:=hf p.1 hb;obtain⟨o,e',d⟩:=ho p.1 hb;rw[e] at e'; cases e';exact⟨e,f0,f1,f2,d⟩
theorem Inv.unpinned{pc pl:List (jw × Obj)}{σ:St}{H:Hp}{s:jd}(I:Inv X (pc++pl) σ H s):Inv X pc σ H s:=I.pins_of λp hp=>I.pin p (jB _ (jj _ hp))
theorem M2{iter:Q3}{body:List QR}{wi:TI}{g:TG}{tb:TS}{pos:Pos}(hp:Ji (jO X.prog X.w) X.A X.env X.xe)(hc:X.calm=aC)(hi:PI X tg iter wi)(hg:PG X tg g)(hb:bv X body tb)
  (hs:∀ x,Qz iter X.env x=pure x:=by intro _; rfl):PS X (.For tg iter body [] pos) (u8 wi g tb):=by
 intro pc s σ H D I h;refine wpAny_For (aV (hi pc s σ H _ I h) λv s1 h1=>aV h1 λitv s2 h2=>?_) hs;obtain⟨it,fp,tn,J,H2,e,I2,T,st2,f2,W,⟨m0,w0⟩,turn⟩:=h2;subst e
 -- what stays aC of the iterator's objects through the loop
 have stat:∀ {H':Hp},(∀ b∈fp,H' b=aB)->∀ b∈fp,ez X pc H' b:=λhn b hb=>⟨hn b hb,(f2 b hb).2⟩;refine codeAny_forLoop_any (λn s'=>∃ i σ' H',Inv X pc σ' H' s'/\tn i s'.heap/\(∀ b∈fp,H' b=aB)/\W i n σ' H') ?_ m0 ⟨0,σ,H2,I2,st2,λb hb=>(f2 b hb).1,w0⟩;rintro n s3 ⟨i,σ3,H3,I3,st3,fr3,w3⟩;rcases turn i n σ3 H3 w3 with ⟨stop,qn⟩ |⟨go,N,hN,step⟩
 ·refine ZC hp (aV (T.done X rfl rfl rfl hc i pc s3 σ3 H3 X.xe I3 (stat fr3) st3 stop) λr s4 h_=>?_); obtain⟨hr,I4⟩:=h_;subst hr;exact ZW ⟨σ3,H3,I4,qn⟩
 ·refine ZC hp (aV (T.item X rfl rfl rfl hc i pc s3 σ3 H3 X.xe I3 (stat fr3) st3 go) λr s4 h_=>?_); obtain⟨u,hr,h4⟩:=h_;subst hr;refine ZC hp (aV h4 λ_ s5 h_=>?_); obtain⟨x,H5,I5,r5,y5,st5,fr5⟩:=h_;have I5':=I5.pinned (stat fr5) (T.obj _ _ st5);refine ZC hp (aV (hg _ s5 σ3 H5 x u _ I5' r5 (step x H5 y5)) λ_ s6 h_=>?_); obtain⟨σ6,H6,I6,q6⟩:=h_;refine ZC hp (aV (hb _ s6 σ6 H6 _ I6 q6) λf s7 q7=>?_);have JZ:∀ {σ7:St} {H7:Hp},Inv X (pc++qU fp s5.heap) σ7 H7 s7->N σ7 H7->∃ m,m < n/\∃ i σ' H',Inv X pc σ' H' s7/\tn i s7.heap/\(∀ b∈fp,H' b=aB)/\W i m σ' H':=λ{σ7 H7} I7 n7=>by
   obtain⟨m',hm,w7⟩:=hN σ7 H7 n7;refine⟨m',hm,i+1,σ7,H7,I7.unpinned,T.keep _ _ _ st5 λb hb o e=>(I7.pin (b,o) (jB _ (jB _ (qo hb e)))).1,λb hb=>?_,w7⟩;obtain⟨o,e,d⟩:=T.obj _ _ st5 b hb;exact(I7.pin (b,o) (jB _ (jB _ (qo hb e)))).2.1
  cases f with
  |next=>obtain⟨σ7,H7,I7,n7⟩:=q7; exact JZ I7 n7
  |cont=>obtain⟨σ7,H7,I7,n7⟩:=q7; exact JZ I7 n7
  |brk=>obtain⟨σ7,H7,I7,q7⟩:=q7; exact⟨σ7,H7,I7.unpinned,q7⟩
  |ret v=>obtain⟨x7,σ7,H7,I7,r7,q7⟩:=q7; exact⟨x7,σ7,H7,I7.unpinned,r7,q7⟩
end
abbrev R2:=V->V->Hp->VK->Prop
def c9(X:Cx)(f:j8->j8->Sem j8)(r:R2):Prop:=
 ∀(pc:List (jw × Obj)) (s:jd) (σ:St) (H:Hp) (x y:V) (v u:j8) (Q:VK),Inv X pc σ H s->RelV x v->RelV y u->r x y H Q->
  jJ (jO X.prog X.w) X.A (f v u) (EP X pc σ Q) X.xe s
def Ap(X:Cx)(f:j8->Sem j8)(r:V->Hp->VK->Prop):Prop:=
 ∀(pc:List (jw × Obj)) (s:jd) (σ:St) (H:Hp) (x:V) (v:j8) (Q:VK),Inv X pc σ H s->RelV x v->r x H Q->
  jJ (jO X.prog X.w) X.A (f v) (EP X pc σ Q) X.xe s
def CallR(X:Cx)(f:j8)(r:List V->Hp->VK->Prop):Prop:=
 ∀(pc:List (jw × Obj)) (s:jd) (σ:St) (H:Hp) (xs:List V) (us:List j8) (Q:VK),Inv X pc σ H s->Vals xs us->r xs H Q->
  jJ (jO X.prog X.w) X.A (call f us) (EP X pc σ Q) X.xe s
def GU(X:Cx)(r:V->Hp->(Bool->Hp->Prop)->Prop):Prop:=
 ∀(pc:List (jw × Obj)) (s:jd) (σ:St) (H:Hp) (x:V) (v:j8) (Q:Bool->Hp->Prop),Inv X pc σ H s->RelV x v->r x H Q->
  jJ (jO X.prog X.w) X.A (truthy v) (TP X pc σ Q) X.xe s
def nk(r:R2)(ta tb:TE):TE:=fun σ H Q=>ta σ H λx H1=>tb σ H1 λy H2=>r x y H2 Q
def VL(r:V->Hp->VK->Prop)(ta:TE):TE:=fun σ H Q=>ta σ H λx H1=>r x H1 Q
def rI(C:Int->Int->Prop)(g:Int->Int->V):R2:=λx y H Q=>∃ i j,x=.int i/\y=.int j/\C i j/\Q (g i j) H
def ik(g:Int->Int->V):R2:=λx y H Q=>∃ i j,x=.int i/\y=.int j/\Q (g i j) H
def rU(g:Int->V):V->Hp->VK->Prop:=λx H Q=>∃ i,x=.int i/\Q (g i) H
section
variable {a c:Q3}{tc:TE}
theorem wj(ha:PE X a ta)(hb:PE X b tb){pc:List (jw × Obj)}{s:jd}{σ:St}{H:Hp}{R:V->V->Hp->Prop}(I:Inv X pc σ H s)
  (h:ta σ H λx H1=>tb σ H1 λy H2=>R x y H2) {Q:j8->jd->Prop} {f:j8->j8->Sem j8}
  (hf:∀ v u s2 x y H2,Inv X pc σ H2 s2->RelV x v->RelV y u->R x y H2->jJ (jO X.prog X.w) X.A (f v u) Q X.xe s2) :
  jJ (jO X.prog X.w) X.A (eval a X.env) (λv s₁=>jJ (jO X.prog X.w) X.A (eval b X.env) (λu s₂=>jJ (jO X.prog X.w) X.A (f v u) Q X.xe s₂) X.xe s₁) X.xe s:=by
 refine aV (ha pc s σ H _ I h) λv s1 h_=>?_; obtain⟨x,H1,I1,r1,q1⟩:=h_;refine aV (hb pc s1 σ H1 _ I1 q1) λu s2 h_=>?_; obtain⟨y,H2,I2,r2,q2⟩:=h_;exact hf v u s2 x y H2 I2 r1 r2 q2
theorem ix{op:Operator}{r:R2}(ho:c9 X (gG op) r)(ha:PE X a ta)(hb:PE X b tb):PE X (.BinOp a op b pos) (nk r ta tb):=by
 intro pc s σ H Q I h;exact wpAny_BinOp (wj ha hb I h λv u s2 x y H2 I2 rx ry q=>ho pc s2 σ H2 x y v u Q I2 rx ry q)
theorem Ib{op:UnaryOp}{r:V->Hp->VK->Prop}(ho:Ap X (unaryOp op) r)(ha:PE X a ta):PE X (.UnaryOp op a pos) (VL r ta):=by
 intro pc s σ H Q I h;exact UnaryOp_ (aV (ha pc s σ H _ I h) λv s1 ⟨x,H1,I1,r1,q1⟩=>ho pc s1 σ H1 x v Q I1 r1 q1)
theorem tJ{f:j8->j8->Sem j8}{C:Int->Int->Prop}{g:Int->Int->Int}
  (rule:∀(i j:Int) (t u:Tok) (s:jd) (Q:j8->jd->Prop) (E:j8->jd->Prop),C i j->Q (.int (g i j) s.toks) { s with toks:=s.toks+1 }->jJ (jO X.prog X.w) X.A (f (.int i t) (.int j u)) Q E s) :
  c9 X f (rI C λi j=>.int (g i j)):=by
 intro pc s σ H x y v u Q I rx ry h;obtain⟨i,j,rfl,rfl,hc,q⟩:=h;obtain⟨t,rfl⟩:=rx;obtain⟨t',rfl⟩:=ry;exact rule i j t t' s _ _ hc ⟨.int (g i j),H,I.tok _,⟨_,rfl⟩,q⟩
theorem BM{f:j8->j8->Sem j8}{g:Int->Int->Int}
  (rule:∀(i j:Int) (t u:Tok) (s:jd) (Q:j8->jd->Prop) (E:j8->jd->Prop),Q (.int (g i j) s.toks) { s with toks:=s.toks+1 }->jJ (jO X.prog X.w) X.A (f (.int i t) (.int j u)) Q E s) :
  c9 X f (ik λi j=>.int (g i j)):=by
 intro pc s σ H x y v u Q I rx ry h;obtain⟨i,j,rfl,rfl,q⟩:=h;obtain⟨t,rfl⟩:=rx;obtain⟨t',rfl⟩:=ry;exact rule i j t t' s _ _ ⟨.int (g i j),H,I.tok _,⟨_,rfl⟩,q⟩
theorem wv{f:j8->j8->Sem j8}{g:Int->Int->Bool}
  (rule:∀(i j:Int) (t u:Tok) (s:jd) (Q:j8->jd->Prop) (E:j8->jd->Prop),Q (.bool (g i j)) s->jJ (jO X.prog X.w) X.A (f (.int i t) (.int j u)) Q E s) :
  c9 X f (ik λi j=>.bl (g i j)):=by
 intro pc s σ H x y v u Q I rx ry h;obtain⟨i,j,rfl,rfl,q⟩:=h;obtain⟨t,rfl⟩:=rx;obtain⟨t',rfl⟩:=ry;exact rule i j t t' s _ _ ⟨.bl (g i j),H,I,rfl,q⟩
def GR(i j:Int):Prop:=0 < j/\j < 1073741824
def GS(i j:Int):Prop:=0<=j/\j<=1000000/\i.natAbs < 2 ^ 64
def CMul(i j:Int):Prop:=(-(2 ^ 64) < i/\i < 2 ^ 64)∨(-(2 ^ 64) < j/\j < 2 ^ 64)
theorem CMul.ok{i j:Int}(h:CMul i j):IntMulOk i j:=by
 rcases h with ⟨h1,h2⟩ |⟨h1,h2⟩
 ·exact .of_left (intBits_le_64 h1 h2)
 ·exact .of_right (intBits_le_64 h1 h2)
theorem op_add:c9 X (gG .Add) (ik λi j=>.int (i+j)):=BM λ_ _ _ _ _ _ _ q=>add_int q
theorem LW:c9 X (gG .Sub) (ik λi j=>.int (i - j)):=BM λ_ _ _ _ _ _ _ q=>sub_int q
theorem LU:c9 X (gG .Mult) (rI CMul λi j=>.int (i*j)):=tJ λ_ _ _ _ _ _ _ hc q=>mul_int q hc.ok
theorem Oc:c9 X (gG .FloorDiv) (rI GR λi j=>.int (i / j)):=tJ λi j _ _ _ _ _ hc q=>by
 have h1:(0:Int) < j:=hc.1;have h2:j < 1073741824:=hc.2;exact floordiv_int (by lia) (by rw[Int.fdiv_eq_ediv_of_nonneg i (by lia)]; exact q) (.inl (PyProof.noPylong_small (by lia)))
theorem LT:c9 X (gG .Mod) (rI (λ_ j=>0 < j) λi j=>.int (i%j)):=tJ λi j _ _ _ _ _ hc q=>by
 have h1:(0:Int) < j:=hc;exact mod_int' (by lia) (by rw[Int.fmod_eq_emod_of_nonneg i (by lia)]; exact q)
theorem LV:c9 X (gG .Pow) (rI GS λi j=>.int (i ^ j.toNat)):=tJ λ_ _ _ _ _ _ _ hc q=>pow_int_small hc.1 hc.2.1 hc.2.2 q
theorem VJ{f:j8->Sem j8}{g:Int->Int}
  (rule:∀(i:Int) (t:Tok) (s:jd) (Q:j8->jd->Prop) (E:j8->jd->Prop),Q (.int (g i) s.toks) { s with toks:=s.toks+1 }->jJ (jO X.prog X.w) X.A (f (.int i t)) Q E s) :
  Ap X f (rU λi=>.int (g i)):=by
 intro pc s σ H x v Q I rx h;obtain⟨i,rfl,q⟩:=h;obtain⟨t,rfl⟩:=rx;exact rule i t s _ _ ⟨.int (g i),H,I.tok _,⟨_,rfl⟩,q⟩
theorem MH:Ap X (unaryOp .USub) (rU λi=>.int (-i)):=VJ λ_ _ _ _ _ q=>neg_int q
end
section
variable {a c:Q3}{tc:TE}
theorem xa{pc:List (jw × Obj)}{σ:St}{H:Hp}{s:jd}{Q:VK}{k k':Bool}(I:Inv X pc σ H s)(q:Q (.bl k) H)(e:k=k'):EP X pc σ Q (.bool k') s:=by
 subst e;exact⟨.bl k,H,I,rfl,q⟩
theorem op_lt:c9 X (Z5 .Lt) (ik λi j=>.bl (aE (i < j))):=wv λ_ _ _ _ _ _ _ q=>lt_int q
theorem IW:c9 X (Z5 .Gt) (ik λi j=>.bl (aE (j < i))):=wv λ_ _ _ _ _ _ _ q=>gt_int q
theorem IV:c9 X (Z5 .GtE) (ik λi j=>.bl (aE (j<=i))):=wv λ_ _ _ _ _ _ _ q=>ge_int q
theorem Rj:c9 X (Z5 .Lt) (λx y H Q=>∃ i j,x=.str i/\y=.str j/\Q (.bl (aE (i.cps.toList < j.cps.toList))) H):=by
 intro pc s σ H x y v u Q I rx ry h;obtain⟨i,j,rfl,rfl,q⟩:=h;obtain⟨t,rfl⟩:=rx;obtain⟨t',rfl⟩:=ry;exact lt_str (xa I q rfl)
theorem LR:c9 X (Z5 .Is) (λx y H Q=>y=.non/\Q (.bl (aE (x=.non))) H):=by
 intro pc s σ H x y v u Q I rx ry h;obtain⟨rfl,q⟩:=h;cases ry;refine is_none_gen (xa I q ?_);cases x<;>first
  |(cases rx; rfl)
  |(obtain⟨t,rfl⟩:=rx; rfl)
theorem Of:c9 X (Z5 .IsNot) (λx y H Q=>y=.non/\Q (.bl (!aE (x=.non))) H):=by
 intro pc s σ H x y v u Q I rx ry h;obtain⟨rfl,q⟩:=h;cases ry;refine isnot_none_gen (xa I q ?_);cases x<;>first
  |(cases rx; rfl)
  |(obtain⟨t,rfl⟩:=rx; rfl)
theorem c9.or{f:j8->j8->Sem j8}{r r':R2}(h:c9 X f r)(h':c9 X f r'):c9 X f (λx y H Q=>r x y H Q∨r' x y H Q):=by
 intro pc s σ H x y v u Q I rx ry q;rcases q with q |q
 ·exact h pc s σ H x y v u Q I rx ry q
 ·exact h' pc s σ H x y v u Q I rx ry q
theorem lU(b:Q3){op:CmpOp}(h:op≠.In:=by decide)(h2:op≠.NotIn:=by decide):Qr op b=aD:=by
 have e1:(op == CmpOp.In)=aD:=by cases op<;>first |rfl |exact absurd rfl h
 have e2:(op == CmpOp.NotIn)=aD:=by cases op<;>first |rfl |exact absurd rfl h2
 cases b<;>simp[Qr,e1,e2]
theorem yB{op:CmpOp}{r:R2}(ho:c9 X (Z5 op) r)(ha:PE X a ta)(hb:PE X b tb)(hm:Qr op b=aD):PE X (.Compare a [op] [b] pos) (nk r ta tb):=by
 intro pc s σ H Q I h;exact wpAny_Compare1 (wj ha hb I h λv u s2 x y H2 I2 rx ry q=>ho pc s2 σ H2 x y v u Q I2 rx ry q) hm
def C5(t:TE):TT:=fun σ H Q=>t σ H λx H'=>∃ k,x=.bl k/\Q k H'
theorem lB{op:CmpOp}{r:R2}(ho:c9 X (Z5 op) r)(ha:PE X a ta)(hb:PE X b tb)(hm:Qr op b=aD):PT X (.Compare a [op] [b] pos) (C5 (nk r ta tb)):=by
 intro pc s σ H Q I h
 refine Nr (aV (ha pc s σ H _ I h) λv s1 ⟨x,H1,I1,r1,q1⟩=>aV (hb pc s1 σ H1 _ I1 q1) λu s2 ⟨y,H2,I2,r2,q2⟩=>
  aV (ho pc s2 σ H2 x y v u _ I2 r1 r2 q2) λc s3 ⟨z,H3,I3,r3,k,e,q3⟩=>?_) hm
 subst e;cases r3;exact ZB ⟨H3,I3,q3⟩
def wg(K:j9)(x:V)(H:Hp)(k:Bool):Prop:=
 match x with
 |.non=>k=aD
 |.bl b=>k=b
 |.int i=>k=(i != 0)
 |.str y=>y.length<=jr/\k=((y.length:Int) != 0)
 |.byt y=>y.size<=jr/\k=((y.size:Int) != 0)
 |.ref p=>(∃ xs,ad K H p xs/\k=!xs.isEmpty)∨(∃ xs,bj K H p xs/\k=!xs.isEmpty)∨∃ kvs,H p=aA (.dK kvs)/\k=!kvs.isEmpty
 |_=>False
theorem SX{κ:Type}{kvs:List (κ × V)}{vs:List (κ × j8)}(r:KV kvs vs):(!vs.isEmpty)=!kvs.isEmpty:=by
 cases r<;>rfl
theorem Ep{xs:List V}{its:List j8}(r:Vals xs its):(!its.toArray.isEmpty)=!xs.isEmpty:=by
 cases r<;>simp
theorem oM:(jr:Nat) < 2 ^ 63:=by rw[ZL]; decide
theorem MF:GU X (λx H Q=>∃ k,wg X.K x H k/\Q k H):=by
 intro pc s σ H x v Q I rx h;obtain⟨k,e,q⟩:=h;have hl:=oM;have hs:jr=16777216:=ZL;cases x with
 |non=>
  cases rx;have e':k=aD:=e;subst e';exact truthy_none ⟨H,I,q⟩
 |bl b=>
  cases rx;have e':k=b:=e;subst e';exact ZB ⟨H,I,q⟩
 |int i=>
  obtain⟨t,rfl⟩:=rx;have e':k=(i != 0):=e;subst e';exact PySem.P.truthy_int ⟨H,I,q⟩
 |str y=>
  obtain⟨t,rfl⟩:=rx;obtain⟨hy,e'⟩:y.length<=jr/\k=((y.length:Int) != 0):=e;subst e';exact PySem.P.truthy_str (by lia) ⟨H,I.tok _,q⟩
 |byt y=>
  obtain⟨t,rfl⟩:=rx;obtain⟨hy,e'⟩:y.size<=jr/\k=((y.size:Int) != 0):=e;subst e';exact PySem.W.truthy_bytes (by lia) ⟨H,I.tok _,q⟩
 |ref p=>
  cases rx;have e':(∃ xs,ad X.K H p xs/\k=!xs.isEmpty)∨(∃ xs,bj X.K H p xs/\k=!xs.isEmpty)∨∃ kvs,H p=aA (.dK kvs)/\k=!kvs.isEmpty:=e;rcases e' with ⟨xs,hx,e'⟩ |⟨xs,hx,e'⟩ |⟨kvs,hx,e'⟩
  ·subst e';obtain⟨its,r,pl,hz⟩:=I.list hx;have hlen:=r.length;exact wpAny_truthy_list pl.isList (by simp only[ju]; lia) ⟨H,I.tok _,by rw[Ep r]; exact q⟩
  ·subst e';obtain⟨its,r,pl,hz⟩:=I.tuple hx;have hlen:=r.length;exact truthy_tuple pl (by simp only[ju]; lia) ⟨H,I.tok _,by rw[Ep r]; exact q⟩
  ·subst e';obtain⟨hz,hS,vs,r,m⟩:kvs.length<=jr/\(p == ZS)=aD/\∃ vs,KV kvs vs/\s.heap.DictOf (ef X.prog X.w) p vs:=I.hok p _ hx;have hlen:kvs.length=vs.length:=YX r;exact wpAny_truthy_dict hS m (by lia) ⟨H,I.tok _,by rw[SX r]; exact q⟩
 |_=>exact(show False from e).elim
theorem Py(ha:PE X a ta)(he:∀ whole,JD a X.env whole=(do let v <-whole; standAt a.pos; Yz [v] (truthy v))) :
  PT X a (fun σ H Q=>ta σ H λx H'=>∃ k,wg X.K x H' k/\Q k H'):=by
 intro pc s σ H Q I h;exact isTrue_plain (aV (ha pc s σ H _ I h) λv s1 ⟨x,H1,I1,r1,q1⟩=>MF pc s1 σ H1 x v Q I1 r1 q1) (he _)
theorem Sz:c9 X (gG .Add) (λx y H Q=>∃ i j,x=.str i/\y=.str j/\i.length+j.length<=jr/\Q (.str (i++j)) H):=by
 intro pc s σ H x y v u Q I rx ry h;obtain⟨i,j,rfl,rfl,hz,q⟩:=h;obtain⟨t,rfl⟩:=rx;obtain⟨t',rfl⟩:=ry;exact add_str (λt' tk=>⟨.str (i++j),H,I.tok _,⟨_,rfl⟩,q⟩) hz
theorem rd{x:V}{us:List j8}(r:Vals [x] us):∃ u,us=[u]/\RelV x u:=by
 cases r with
 |cons r1 r2=>cases r2; exact⟨_,rfl,r1⟩
theorem KD{x y:V}{us:List j8}(r:Vals [x,y] us):∃ u w',us=[u,w']/\RelV x u/\RelV y w':=by
 cases r with
 |cons r1 r2=>
  cases r2 with
  |cons r3 r4=>cases r4; exact⟨_,_,rfl,r1,r3⟩
end
structure ObjM (h:QN) (x dx C:jw) (mA:Str->Option j8):Prop where
 obj:h.get? x=aA (Nq C dx)
 ns:h.Ns1 dx mA
 ne:dx≠x
theorem SA{h:QN}{dx:jw}{mA:Str->Option j8}(n:h.Ns1 dx mA):∃ od,h.get? dx=aA od/\∀ name,NY name od=aA (mA name):=by
 obtain⟨o,es,ep,ho,hd,hk,_,hm⟩:=n;refine⟨o,ho,λname=>?_⟩;have e:=hm name;unfold nsFind findBy at e;rw[<-Wc] at e;unfold NY;rw[hd];dsimp only;split
 ·rename_i y q;rw[q] at e;exact congrArg aA e
 ·rename_i q;rw[q] at e;have a:es.toList.any (·.refKey)=aD:=by
   rw[List.any_eq_false];intro y hy;obtain⟨z,t,hkey⟩:=hk y (Array.mem_toList_iff.mp hy);simp[DictEntry.refKey,hkey]
  have a':¬ es.toList.any (·.refKey)=aC:=by rw[a]; exact jK
  rw[aH a'];exact congrArg aA e
theorem ObjM.look{h:QN}{x dx C:jw}{mA:Str->Option j8}(I:ObjM h x dx C mA):∃ od,PySem.W.InstAt h x (Nq C dx) C (aA od)/\∀ name,NY name od=aA (mA name):=
 let ⟨od,ho,hl⟩:=SA I.ns
 ⟨od,⟨I.obj,rfl,rfl,ho⟩,hl⟩
theorem RelO.some_of{v:V}{o:Option j8}(r:RelO (aA v) o):∃ u,o=aA u/\RelV v u:=by
 cases o with
 |none=>exact(show False from r).elim
 |some u=>exact⟨u,rfl,r⟩
section
variable {C dx:jw}{fs fs':List (Str × V)}
theorem OR(hok:bw P w H h)(e:H a=aA (.ins C dx fs)):∃ mA,ObjM h a dx C mA/\(∀ f,RelO (fs.lookup f) (mA f))/\JX mA (fs.map (·.1))/\fs.length<=1000/\H dx=aA (.own a):=by
 obtain⟨d,z,ne,ob,mA,n,r,q⟩:=(show ObjOk P w H h a (.ins C dx fs) from hok a _ e);exact⟨mA,⟨ob,n,ne⟩,r,q,z,d⟩
end
structure Cls (K:j9) (C:jw):Prop where
 pg:J3 K C jC=aC
 hd:PySem.W.hasDictIn K C=aC
 po:PySem.W.plainOver K C=aC
 sa:YB K (.ref C) "__setattr__"=aA (aA (.builtin "object.__setattr__"))
theorem Cls.get{K:j9}{C:jw}(c:Cls K C)(f:Str):J3 K C f=aC:=c.pg
section
variable {A:Qh}{E:j8->jd->Prop}{Q:j8->jd->Prop}{c:j8}{b:Bool}
inductive TyOf (K:j9) (H:Hp):V->j8->Prop where
 |non:TyOf K H .non (.type "NoneType")
 |bl (x:Bool):TyOf K H (.bl x) (.type "bool")
 |int (i:Int):TyOf K H (.int i) (.type "int")
 |str (x:Str):TyOf K H (.str x) (.type "str")
 |flt (x:UInt64):TyOf K H (.flt x) (.type "float")
 |lst {a:jw} {xs:List V} (e:H a=aA (.lst xs)):TyOf K H (.ref a) (.type "list")
 |frz {a:jw} {o:Obj} {xs:List V} (e:H a=aA (.frz o (.lst xs))):TyOf K H (.ref a) (.type "list")
 |tup {a:jw} {xs:List V} (e:H a=aA (.tup xs)):TyOf K H (.ref a) (.type "tuple")
 |dK {a:jw} {kvs:List (aK × V)} (e:H a=aA (.dK kvs)):TyOf K H (.ref a) (.type "dict")
 |dT {a:jw} {kvs:List (List aK × V)} (e:H a=aA (.dT kvs)):TyOf K H (.ref a) (.type "dict")
 |ins {a C dx:jw} {fs:List (Str × V)} (e:H a=aA (.ins C dx fs)) (cl:Cls K C) (ha:YB K (.ref C) "__class__"=aA (aA (.builtin "object.__class__")))
   (hn:PySem.W.specialIn K (.builtin "object.__class__") "__get__"=aA (aA (.builtin "getset_descriptor.__get__"))) (htk:PySem.W.takesIn K (.builtin "object.__class__")=aA aC)
   (hm:PySem.W.mroIn K C (.type "object")=aA aC):TyOf K H (.ref a) (.ref C)
theorem S7{x:V}{u t:j8}(I:Inv X pc σ H s)(rx:RelV x u)(ty:TyOf X.K H x t)(e:NZ X.K t c=aA b)(h:∀ tk,Q (.bool b) { s with toks:=tk }) :
  jJ (jO X.prog X.w) A (call (.builtin "isinstance") [u,c]) Q E s:=by
 cases ty with
 |non=>cases (show u=YG from rx); exact QB PySem.W.kitx_none I.kIn Zm e (λz=>nomatch z) h
 |bl y=>cases (show u=Jz y from rx); exact QB PySem.W.kitx_bool I.kIn Zm e (λz=>nomatch z) h
 |int i=>obtain⟨t,q⟩:=(show ∃ t,u=Jh i t from rx); cases q; exact QB PySem.W.kitx_int I.kIn Zm e (λz=>nomatch z) h
 |str y=>obtain⟨t,q⟩:=(show ∃ t,u=ZO y t from rx); cases q; exact QB PySem.W.kitx_str I.kIn Zm e (λz=>nomatch z) h
 |flt y=>obtain⟨t,q⟩:=(show ∃ t,u=U6 y t from rx); cases q; exact QB PySem.W.kitx_float I.kIn Zm e (λz=>nomatch z) h
 |@lst a xs ea=>
  cases (show u=Qa a from rx);obtain⟨_,_,n,_,h1⟩:=(show ObjOk X.prog X.w H s.heap a (.lst xs) from I.hok a _ ea);exact QB WA I.kIn ⟨_,h1,rfl⟩ e (λz=>nomatch z) h
 |@frz a ob xs ea=>
  cases (show u=Qa a from rx);obtain⟨_,_,_,n,_,h1⟩:=(show ObjOk X.prog X.w H s.heap a (.frz ob (.lst xs)) from I.hok a _ ea);exact QB WA I.kIn ⟨_,h1,rfl⟩ e (λz=>nomatch z) h
 |@tup a xs ea=>
  cases (show u=Qa a from rx);obtain⟨_,_,_,p⟩:=(show ObjOk X.prog X.w H s.heap a (.tup xs) from I.hok a _ ea);obtain⟨o,h1,h2,_⟩:=p;exact QB PySem.W.kitx_tuple I.kIn ⟨o,h1,h2⟩ e (λz=>nomatch z) h
 |@dK a kvs ea=>
  cases (show u=Qa a from rx);obtain⟨_,_,vs,_,p⟩:=(show ObjOk X.prog X.w H s.heap a (.dK kvs) from I.hok a _ ea);obtain⟨o,es,ep,h1,h2,_⟩:=p;exact QB WB I.kIn ⟨o,h1,h2.1⟩ e (λz=>nomatch z) h
 |@dT a kvs ea=>
  cases (show u=Qa a from rx);obtain⟨_,_,xs,_,o,es,ep,h1,h2,_⟩:=(show ObjOk X.prog X.w H s.heap a (.dT kvs) from I.hok a _ ea);exact QB WB I.kIn ⟨o,h1,h2.1⟩ e (λz=>nomatch z) h
 |@ins a C dx fs ea cl ha hn htk hm=>
  cases (show u=Qa a from rx);obtain⟨mA,O,_⟩:=OR I.hok ea;obtain⟨od,J,_⟩:=O.look;exact QB (PySem.W.kitx_own (cl.get _) cl.hd ha hn htk hm) I.kIn J e (λz=>nomatch z) h
end
structure Room (k:Nat) (A:Qh):Prop where
 hd:A.handled=aB
 dp:A.depth+3*k+5 < W0
 un:A.units+16*k+200 < gz
theorem Room.mono{j k:Nat}{A:Qh}(r:Room k A)(h:j<=k):Room j A:=⟨r.hd,by have:=r.dp; lia,by have:=r.un; lia⟩
theorem Room.deeper{k:Nat}{A:Qh}(r:Room (k+1) A)(env:Env):Room k (A.deeper env):=
 ⟨r.hd,by have:=r.dp; show A.depth+1+3*k+5 < _; lia,by have:=r.un; show A.units+3+16*k+200 < _; lia⟩
theorem Sc{A:Qh}{C:jw}{us:List j8}{kw:List (Str × j8)}:(A.under (.builtin "type.__call__" ⟨.ref C::us,kw⟩)).depth=A.depth+1:=by
 first |rfl |simp[Around.under,Code.weight,Code.isCreation,Code.isGuard,Code.isCaller,Code.frames,Code.isFrame,guardIds]
theorem Room.depth{k:Nat}{A:Qh}(r:Room k A):A.depth < W0:=by have:=r.dp; lia
theorem Room.units{k:Nat}{A:Qh}(r:Room k A):A.units+64 < gz:=by have:=r.un; lia
def lN:TA:=λ_ H Q=>Q [] H
def i8(ta:TE)(tr:TA):TA:=fun σ H Q=>ta σ H λx H1=>tr σ H1 λxs H2=>Q (x::xs) H2
section
variable {te:TE}
theorem ib:PA X [] lN:=λ_ _ _ _ H Q I h=>WC ⟨[],H,I,.nil,h⟩
theorem f9(ha:PE X e te)(hr:PA X es t)(hs:jf (e::es) X.env=(aD,eval e X.env)::jf es X.env:=by rfl):PA X (e::es) (i8 te t):=by
 intro pos pc s σ H Q I h;rw[hs];show jJ _ _ (spliced ((aD,eval e X.env)::QQ pos (jf es X.env))) _ _ s;refine Wd (aV (ha pc s σ H _ I h) λu s1 h_=>?_); obtain⟨x,H1,I1,r1,q1⟩:=h_;exact aV (hr pos pc s1 σ H1 _ I1 q1) λus s2 ⟨xs,H2,I2,r2,q2⟩=>⟨x::xs,H2,I2,.cons r1 r2,q2⟩
def G7(t:TA):TE:=fun σ H Q=>t σ H λxs H1=>xs.length<=jr/\∀ p,H1 p=aB->Q (.ref p) (aR H1 p (.tup xs))
def G4(t:TA):TE:=fun σ H Q=>t σ H λxs H1=>xs.length<=jr/\∀ p,H1 p=aB->Q (.ref p) (aR H1 p (.lst xs))
theorem Lw{x1}(h:PA X es t):PE X (.Tuple es x1 pos) (G7 t):=by
 intro pc s σ H Q I hq;refine wpAny_Tuple_spliced (aV (h pos pc s σ H _ I hq) λus s1 ⟨xs,H1,I1,r,z,q⟩=>⟨by rw[<-r.length]; exact z,?_⟩)
 have hf:H1 s1.heap.objs.size=aB:=I1.hok.fresh (ji _);refine⟨.ref s1.heap.objs.size,aR H1 s1.heap.objs.size (.tup xs),I1.laid (t':=s1.toks) (λb u e=>jb _ e) (ji _) ?_,rfl,q _ hf⟩;exact⟨z,us,r,⟨_,jM _ rfl,rfl,_,rfl⟩⟩
theorem Lq(h:PA X es t):PE X (.List es pos) (G4 t):=by
 intro pc s σ H Q I hq;refine wpAny_List_spliced (aV (h pos pc s σ H _ I hq) λus s1 ⟨xs,H1,I1,r,z,q⟩=>⟨by rw[<-r.length]; exact z,?_⟩)
 have hf:H1 s1.heap.objs.size=aB:=I1.hok.fresh (ji _);refine⟨.ref s1.heap.objs.size,aR H1 s1.heap.objs.size (.lst xs),I1.laid (t':=s1.toks) (λb u e=>jb _ e) (ji _) ?_,rfl,q _ hf⟩;exact⟨z,us,0,r,jM _ rfl⟩
end
abbrev Sp:=List V->Hp->VK->XK->Prop
abbrev fP:=List Env->Hp->jd->XK->j8->jd->Prop
structure Env0 (P:jI) (w:Qe) (K:j9) (mg:Str->Option j8) (base:QN) (A:Qh) (outer:List Env) (s:jd) (H:Hp):Prop where
 frames:A.frames=aA outer
 mod:Mod K mg base
 bs:∀ b o,base.get? b=aA o->s.heap.get? b=aA o/\H b=aB
 bsz:base.objs.size<=s.heap.objs.size
 funs:s.heap.FunFrames base outer
 frf:∀ b∈cf outer,H b=aB
 hok:bw P w H s.heap
 bare:YY s.gens
def CE(outer:List Env)(P:jI)(w:Qe)(H:Hp)(s:jd)(Q:VK)(u:j8)(s':jd):Prop:=
 ∃ v H',s'.os=s.os/\YY s'.gens/\Un (cf outer) [] H H' s.heap s'.heap/\bw P w H' s'.heap/\RelV v u/\Q v H'
def CR(CX:fP)(outer:List Env)(P:jI)(w:Qe)(H:Hp)(s:jd)(Q:VK)(E:XK)(r:JF)(s':jd):Prop:=
 match r with
 |.ok (.ret u)=>CE outer P w H s Q u s'
 |.ok _=>False
 |.error e=>CX outer H s E e s'
structure FnOk (P:jI) (w:Qe) (K:j9) (mg:Str->Option j8) (base:QN) (CX:fP) (k:Nat) (f:jw) (fd:Z9) (ps:List Str) (sp:Sp):Prop where
 len:∀ vs H Q E,sp vs H Q E->vs.length=ps.length
 run:∀(A:Qh) (outer:List Env) (s:jd) (H:Hp) (args:Args) (us:List j8) (vs:List V) (Q:VK) (E:XK),Room k A->Env0 P w K mg base A outer s H->W3 s fd args (ps.zip us)->Vals vs us->sp vs H Q E->
  Yg (jO P w) A (.call (.ref f) args) (CR CX outer P w H s Q E) s
theorem FnOk.mono{P:jI}{w:Qe}{K:j9}{mg:Str->Option j8}{base:QN}{CX:fP}{j k:Nat}{f:jw}{fd:Z9}{ps:List Str}{sp:Sp}(F:FnOk P w K mg base CX j f fd ps sp)(h:j<=k) :
  FnOk P w K mg base CX k f fd ps sp:=⟨F.len,λA outer s H args us vs Q E hr=>F.run A outer s H args us vs Q E (hr.mono h)⟩
section
variable {s':jd}
theorem Inv.env0(I:Inv X pc σ H s):Env0 X.prog X.w X.K X.mg X.base X.A X.stack s H:=
 ⟨I.ok.frames,I.ok.mod,I.bs,Q9 I.ok.bsz I.sz,I.stack,I.stkFree,I.hok,I.bare⟩
theorem Inv.after{Q:VK}{u:j8}(I:Inv X pc σ H s)(h:CE X.stack X.prog X.w H s Q u s'):EP X pc σ Q u s':=by
 obtain⟨v,H',os,bare,un,hok,r,q⟩:=h;obtain⟨hh,g,d,t,os'⟩:=s';obtain rfl:os'=s.os:=os;exact⟨v,H',I.call (h':=hh) (g':=g) (d':=d) (t':=t) (ch:=[]) un hok bare (λb z=>absurd z (by simp)),r,q⟩
end
def oA(sp:Sp)(dvs:List V)(E:XK)(t:TA):TE:=fun σ H Q=>t σ H λvs H1=>sp (vs++dvs) H1 Q E
def Binds(K:j9)(fd:Z9)(ps:List Str)(ds:List j8):Prop:=
 ∀(s:jd) (us:List j8),K.In s.heap->(us++ds).length=ps.length->W3 s fd ⟨us,[]⟩ (ps.zip (us++ds))
theorem Binds.all{K:j9}{fd:Z9}{ps:List Str}(h:∀ us:List j8,us.length=ps.length->Ye fd ⟨us,[]⟩=pure (ps.zip us)):Binds K fd ps []:=λs us _ hl=>by
 rw[Qv] at hl ⊢;exact .of_eq (h us hl)
def nL(CX:fP)(X:Cx)(E:XK):Prop:=∀(pc:List (jw × Obj)) (σ:St) (H:Hp) (s:jd) (e:j8) (s':jd),Inv X pc σ H s->CX X.stack H s E e s'->X.xe e s'
section
variable {CX:fP}{k:Nat}{f C:jw}{fd:Z9}{ps:List Str}{sp:Sp}{dvs:List V}{ds:List j8}{E:XK}{x m:Str}{p apos:Pos}{o:Q3}
theorem Lf{pc:List (jw × Obj)}{σ:St}{H:Hp}{s:jd}{Q:VK}{us:List j8}{vs:List V}(F:FnOk X.prog X.w X.K X.mg X.base CX k f fd ps sp)(hr:Room k X.A)(hb:Binds X.K fd ps ds)(hd:Vals dvs ds)(hx:nL CX X E)
  (I:Inv X pc σ H s) (r:Vals vs us) (h:sp (vs++dvs) H Q E):jJ (jO X.prog X.w) X.A (call (.ref f) us) (EP X pc σ Q) X.xe s:=by
 have r2:Vals (vs++dvs) (us++ds):=r.append hd;have hl:(us++ds).length=ps.length:=by rw[<-r2.length]; exact F.len _ _ _ _ h
 refine WD (Yu (F.run X.A X.stack s H ⟨us,[]⟩ (us++ds) (vs++dvs) Q E hr I.env0 (hb s us I.kIn hl) r2 h) λr s' hq=>?_);cases r with
 |error e=>exact hx pc σ H s e s' I hq
 |ok fl=>
  cases fl with
  |ret u=>exact I.after hq
  |next=>exact Zl hq
  |brk=>exact Zl hq
  |cont=>exact Zl hq
theorem oQ(F:FnOk X.prog X.w X.K X.mg X.base CX k f fd ps sp)(hr:Room k X.A)(hg:Gl X x)(hm:X.mg x=aA (.ref f))(hk:Q6 X.K (.ref f)=aC)(hb:Binds X.K fd ps ds)(hd:Vals dvs ds)(hx:nL CX X E)
  (ha:PA X (e::es) t) (hdb:(x == ("__debug__":Str))=aD:=by decide) (he:jf (e::es) X.env=(aD,eval e X.env)::jf es X.env:=by rfl) (hpl:(QQ pos (jf es X.env)).any (·.1)=aD:=by rfl) :
  PE X (.Call (.Name x p) (e::es) [] pos) (oA sp dvs E t):=by
 intro pc s σ H Q I h;refine gH (yS I hg hm ?_ hdb);refine PySem.W.callWith_K (h₀:=X.base) I.ok.mod.kin hk (aV (ha pos pc s σ H _ I h) λus s1 ⟨vs,H1,I1,r,q⟩=>⟨I1.kIn,?_⟩) he hpl;exact Lf F hr hb hd hx I1 r q
end
structure FnScope (N P:List Str) (sc:gQ):Prop where
 kind:sc.kind=.function
 co:sc.isCoroutine=aD
 gen:sc.isGenerator=aD
 nd:N.Nodup
 pre:N.take P.length=P
 par:∀ x∈P,sc.names.lookup x=aA .local∨sc.names.lookup x=aA .cell
 nofree:∀ y∈sc.names,y.2≠.free
theorem EI{kindOf:Str->Option N0}{x:Str}:∀ {binds:List (Str × j8)} {m:Str->Option j8},(∀ v,(x,v)∉binds)->U9 kindOf binds m x=m x
 |[],_,_=>rfl
 |(n,v)::r,m,h=>by
  unfold U9;rw[EI λw hw=>h w (jA _ hw)];split
  ·have:x≠n:=by rintro rfl; exact h v jW
   simp[this]
  ·rfl
theorem EA{kindOf:Str->Option N0}{x:Str}:∀ {binds:List (Str × j8)} {m:Str->Option j8},(∀ v,(x,v)∉binds)->Ua kindOf binds m x=m x
 |[],_,_=>rfl
 |(n,v)::r,m,h=>by
  unfold Ua;rw[EA λw hw=>h w (jA _ hw)];split
  ·rfl
  ·have:x≠n:=by rintro rfl; exact h v jW
   simp[this]
theorem vJ{kindOf:Str->Option N0}{x:Str}{v:j8}:∀ {P:List Str} {vs:List j8} {i:Nat} {m:Str->Option j8},P.Nodup->P[i]?=aA x->vs[i]?=aA v->kindOf x=aA .local->
  U9 kindOf (P.zip vs) m x=aA v
 |[],_,_,_,_,h,_,_=>by simp at h
 |_::_,[],_,_,_,_,h,_=>by simp at h
 |p::P,w::vs,0,m,nd,h1,h2,hk=>by
  simp at h1 h2; subst h1; subst h2;show U9 kindOf ((p,w)::P.zip vs) m p=_;unfold U9;rw[EI λv hv=>(Qf.mp nd).1 (Yh hv).1,aI hk];simp
 |p::P,w::vs,i+1,m,nd,h1,h2,hk=>by
  show U9 kindOf ((p,w)::P.zip vs) m x=_;unfold U9;exact vJ (i:=i) (Qf.mp nd).2 (by simpa using h1) (by simpa using h2) hk
theorem E9{kindOf:Str->Option N0}{x:Str}{v:j8}:∀ {P:List Str} {vs:List j8} {i:Nat} {m:Str->Option j8},P.Nodup->P[i]?=aA x->vs[i]?=aA v->kindOf x≠aA .local->
  Ua kindOf (P.zip vs) m x=aA v
 |[],_,_,_,_,h,_,_=>by simp at h
 |_::_,[],_,_,_,_,h,_=>by simp at h
 |p::P,w::vs,0,m,nd,h1,h2,hk=>by
  simp at h1 h2; subst h1; subst h2;show Ua kindOf ((p,w)::P.zip vs) m p=_;unfold Ua;rw[EA λv hv=>(Qf.mp nd).1 (Yh hv).1,aH hk];simp
 |p::P,w::vs,i+1,m,nd,h1,h2,hk=>by
  show Ua kindOf ((p,w)::P.zip vs) m x=_;unfold Ua;exact E9 (i:=i) (Qf.mp nd).2 (by simpa using h1) (by simpa using h2) hk
def start(N:List Str)(vs:List V):St:=vs.map aA++gY (N.length - vs.length) aB
def dr(CX:fP)(P:jI)(w:Qe)(K:j9)(mg:Str->Option j8)(base:QN)(N:List Str)(qual:Str)(scope:gQ)(f:jw)(cd:j8)(A:Qh)(outer:List Env)(s:jd)(H:Hp)(E:XK):Cx where
 prog:=P
 w:=w
 K:=K
 mg:=mg
 base:=base
 A:=A.deeper (Zy qual scope s.heap.objs.size f cd)
 N:=N
 s₀:=s
 H₀:=H
 env:=Zy qual scope s.heap.objs.size f cd
 outer:=outer
 stack:=Zy qual scope s.heap.objs.size f cd::outer
 ex:=[]
 calm:=aC
 fn:=λ_=>aC
 pn:=[]
 xe:=λe s'=>jJ (jO P w) (A.deeper (Zy qual scope s.heap.objs.size f cd)) (leaving (Zy qual scope s.heap.objs.size f cd) e) (λ_ s''=>CX outer H s E e s'') (λe' s''=>CX outer H s E e' s'') s'
theorem Dv{sc:gQ}{n:Nat}{x:Str}(h:sc.names.lookup x=aA .cell):∃ c,(We n sc.names []).lookup x=aA c:=by
 have q:=gR sc.names n [] (.inl h);exact ZD.mp q
theorem EW{CX:fP}{P:jI}{w:Qe}{K:j9}{mg:Str->Option j8}{base:QN}{N ps:List Str}{qual:Str}{scope:gQ}{f:jw}{cd:j8}{A:Qh}{outer:List Env}{s s1:jd}{H:Hp}{E:XK}{us:List j8}{vs:List V}
  (S:FnScope N ps scope) (hd:A.handled=aB) (e0:Env0 P w K mg base A outer s H) (hl:vs.length=ps.length) (r:Vals vs us)
  (x:InCallC s s.heap.objs.size (U9 (Zy qual scope s.heap.objs.size f cd).kindOf (ps.zip us) λ_=>aB) (We (s.heap.objs.size+1) scope.names []) (Ua (Zy qual scope s.heap.objs.size f cd).kindOf (ps.zip us) λ_=>aB) s1) :
  Inv (dr CX P w K mg base N qual scope f cd A outer s H E) [] (start N vs) H s1:=by
 have hpl:ps.length<=N.length:=by have:=congrArg Yi S.pre; rw[Qd] at this; lia
 obtain⟨h1,tk,rfl,hk⟩:=x.done;have noA:∀ b:jw,b∉(dr CX P w K mg base N qual scope f cd A outer s H E).ex:=λb z=>absurd (show b∈([]:List jw) from z) (by simp)
 refine⟨⟨e0.mod,S.kind,rfl,rfl,ji _,λy z c h1 h2=>?_,λy hy=>?_,λy c _ h=>?_,λ_=>hd,NP e0.frames,.inr ⟨rfl,rfl⟩,λb z=>absurd z (noA b),e0.bs,e0.bsz,λb _ _=>noA b,λb z=>absurd z (noA b),e0.funs,e0.frf⟩,
  rfl,e0.bare,Un.kept hk,⟨_,x.toInCall.ns,λi y v h1 h2 h3=>?_⟩,λy c h=>⟨_,x.cell y c h⟩,e0.hok.fresh (ji _),λy c h=>?_,λp hp=>absurd (show p∈([]:List (jw × Obj)) from hp) (by simp),e0.hok.kept hk,?_⟩
 ·exact name_of_addr x.apart (ZM h1) (ZM h2)
 ·have hy:scope.names.lookup y=aA .cell∨scope.names.lookup y=aA .free:=hy;rcases hy with hy |hy
  ·exact Dv hy
  ·exact absurd rfl (S.nofree _ (ZM hy))
 ·exact Z4 (x.above y c (ZM h))
 ·have hi:i < vs.length:=by
   unfold start at h2
   by_cases hi:i < vs.length
   ·exact hi
   ·rw[Qc (by simpa using hi)] at h2
    rw[gJ] at h2;split at h2<;>cases h2
  have ha:vs[i]?=aA v:=by
   unfold start at h2;rw[Q7 (by simpa using hi),jg] at h2
   cases e:vs[i]? with
   |none=>rw[e] at h2; cases h2
   |some a=>rw[e] at h2; cases h2; rfl
  obtain⟨u,hu,rv⟩:=r.get ha;have hp:ps[i]?=aA y:=by
   rw[<-S.pre,List.getElem?_take_of_lt (by lia)]; exact h1
  have ndP:ps.Nodup:=by rw[<-S.pre]; exact S.nd.sublist (YJ _ _)
  refine⟨u,rv,?_⟩;rcases S.par y (jF hp) with k |k
  ·exact .inl ⟨k,vJ ndP hp hu k⟩
  ·obtain⟨c,e⟩:=Dv (n:=s.heap.objs.size+1) k;refine .inr ⟨.inl k,c,e,?_⟩;have q:=x.cell y c e;rw[E9 ndP hp hu (by show scope.names.lookup y≠_; rw[k]; decide)] at q
   exact q
 ·exact e0.hok.fresh (Z4 (x.above y c (ZM h)))
 ·unfold start;show _=N.length;rw[jn,j5,Y0];lia
theorem HW{CX:fP}{P:jI}{w:Qe}{K:j9}{mg:Str->Option j8}{base:QN}{k:Nat}{f:jw}{name qual:Str}{params:Wg}{body:List QR}{scope:gQ}{dV kV doc pm cdv ct oc:j8}{an od:Option jw}
  {osl:Array (Option j8)} {N ps:List Str} {sp:Sp} (lk:K.lookup f=aA ⟨oc,od,.func (Q0 name qual params body scope dV kV doc pm an cdv ct),osl⟩) (hcd:Z2 K cdv qual=aC) (S:FnScope N ps scope)
  (len:∀ vs H Q E,sp vs H Q E->vs.length=ps.length)
  (hbody:∀(A:Qh) (outer:List Env) (s:jd) (H:Hp) (vs:List V) (Q:VK) (E:XK),Room k (A.deeper (Zy qual scope s.heap.objs.size f cdv))->sp vs H Q E->
   ∃ t,bv (dr CX P w K mg base N qual scope f cdv A outer s H E) body t/\t { nx:=λ_ H'=>Q .non H',rt:=Q } (start N vs) H) :
  FnOk P w K mg base CX (k+1) f (Q0 name qual params body scope dV kV doc pm an cdv ct) ps sp:=by
 refine⟨len,λA outer s H args us vs Q E hr e0 hb r hsp=>?_⟩;have hl:=len _ _ _ _ hsp;have KX:K.In s.heap:=e0.mod.kin.keeps λb o e=>(e0.bs b o e).1;have lim:s.heap.NoLimit:=e0.mod.nolimit.keeps λb o e=>(e0.bs b o e).1;have hkind:∀ y∈ps.zip us,scope.names.lookup y.1=aA .local∨(scope.names.lookup y.1=aA .cell/\((We (s.heap.objs.size+1) scope.names []).lookup y.1).isSome=aC):=fun⟨n,v⟩ hy=>by
  rcases S.par n (Yh hy).1 with q |q
  ·exact .inl q
  ·exact .inr ⟨q,gR _ _ _ (.inl q)⟩
 refine Y1 hr.depth (KX _ _ lk) rfl S.co S.gen rfl (Yv KX hcd) (hb _ _ _ _ ?_);refine gg S.kind hkind λenv he s1 x=>?_;subst he;refine⟨lim.keeps x.toInCall.keep,WU ?_⟩;obtain⟨t,ht,hq⟩:=hbody A outer s H vs Q E (hr.deeper _) hsp;have I:Inv (dr CX P w K mg base N qual scope f cdv A outer s H E) [] (start N vs) H s1:=EW S hr.hd e0 hl r x;refine jY (ht [] s1 (start N vs) H _ I hq) (λfl s' hs=>?_) λe s' hs=>hs;have fin:∀ {σ':St} {H':Hp} {v:V} {u:j8},Inv (dr CX P w K mg base N qual scope f cdv A outer s H E) [] σ' H' s'->RelV v u->Q v H'->CE outer P w H s Q u s':=
  λ{σ' H' v u} J rv q=>⟨v,H',J.os,J.bare,J.base,J.hok,rv,q⟩
 cases fl with
 |ret u=>
  obtain⟨v,σ',H',J,rv,q⟩:=hs;exact fin J rv q
 |next=>
  obtain⟨σ',H',J,q⟩:=hs;exact fin (v:=V.non) (u:=YG) J rfl q
 |brk=>
  obtain⟨_,_,_,q⟩:=hs;exact Zl q
 |cont=>
  obtain⟨_,_,_,q⟩:=hs;exact Zl q
section
variable {x:Str}{p:Pos}{id T:String}{r:List V->Hp->VK->Prop}
def r6(r:List V->Hp->VK->Prop)(t:TA):TE:=fun σ H Q=>t σ H λvs H1=>r vs H1 Q
theorem sU(hc:CallR X (.builtin id) r)(hg:Gl X x)(hm:X.mg x=aB)(hv:Qu x=aA (.builtin id))(ha:PA X (e::es) t)(hn:x≠"__name__":=by decide)(hdb:(x == ("__debug__":Str))=aD:=by decide)
  (he:jf (e::es) X.env=(aD,eval e X.env)::jf es X.env:=by rfl) (hpl:(QQ pos (jf es X.env)).any (·.1)=aD:=by rfl):PE X (.Call (.Name x p) (e::es) [] pos) (r6 r t):=by
 intro pc s σ H Q I h;refine gH (iz I hg hm hv ?_ hn hdb);exact PyProof.Rows.callWith_builtin1 (aV (ha pos pc s σ H _ I h) λus s1 ⟨vs,H1,I1,r1,q1⟩=>hc pc s1 σ H1 vs us Q I1 r1 q1) he hpl
theorem zE(hc:CallR X (.type T) r)(hg:Gl X x)(hm:X.mg x=aB)(hv:Qu x=aA (.type T))(ha:PA X (e::es) t)(hn:x≠"__name__":=by decide)(hdb:(x == ("__debug__":Str))=aD:=by decide)
  (he:jf (e::es) X.env=(aD,eval e X.env)::jf es X.env:=by rfl) (hpl:(QQ pos (jf es X.env)).any (·.1)=aD:=by rfl):PE X (.Call (.Name x p) (e::es) [] pos) (r6 r t):=by
 intro pc s σ H Q I h;refine gH (iz I hg hm hv ?_ hn hdb);exact Qj (aV (ha pos pc s σ H _ I h) λus s1 ⟨vs,H1,I1,r1,q1⟩=>hc pc s1 σ H1 vs us Q I1 r1 q1) he hpl
theorem T1(hc:CallR X (.type T) r)(hg:Gl X x)(hm:X.mg x=aB)(hv:Qu x=aA (.type T))(hn:x≠"__name__":=by decide)(hdb:(x == ("__debug__":Str))=aD:=by decide) :
  PE X (.Call (.Name x p) [] [] pos) (r6 r lN):=by
 intro pc s σ H Q I h;refine gH (iz I hg hm hv ?_ hn hdb);exact PyProof.Rows.callWith_type0 (hc pc s σ H [] [] Q I .nil h)
end
end L2
namespace HT
open PySem PyProof.Rows
section
variable {prog:jI}{w:Qe}{A:Qh}{E:j8->jd->Prop}{s:jd}
def sIx(n d:Nat):Option Int->Nat
 |none=>d
 |some v=>if v < 0 then (v+(n:Int)).toNat else min v.toNat n
end
end HT
namespace L2
open PySem PySem.Spec PyProof.Rows
variable {X:Cx}{e:Q3}{pos:Pos}{pc:List (jw × Obj)}{σ:St}{H:Hp}{s:jd}{a:jw}
abbrev TO:=St->Hp->(Option Int->Hp->Prop)->Prop
def PO(X:Cx)(e:Option Q3)(t:TO):Prop:=
 ∀(pc:List (jw × Obj)) (s:jd) (σ:St) (H:Hp) (Q:Option Int->Hp->Prop),Inv X pc σ H s->t σ H Q->
  jJ (jO X.prog X.w) X.A (evalPart e X.env) (λu s'=>∃ o H',Inv X pc σ H' s'/\IsPart u o/\Q o H') X.xe s
def Ow:TO:=λ_ H Q=>Q aB H
def Ih(t:TE):TO:=fun σ H Q=>t σ H λx H1=>∃ i,x=.int i/\Q (aA i) H1
section
variable {te:TE}{lo hi:Option Q3}{tl th:TO}{p2:Pos}
theorem OA:PO X aB Ow:=by
 intro pc s σ H Q I h;rw[Wi];exact jp ⟨aB,H,I,.none,h⟩
theorem OB(h:PE X e te):PO X (aA e) (Ih te):=by
 intro pc s σ H Q I hw;rw[evalPart_some];refine aV (h pc s σ H _ I hw) λu s1 h_=>?_; obtain⟨x,H1,I1,r1,q1⟩:=h_;obtain⟨i,rfl,q⟩:=q1;obtain⟨t,rfl⟩:=r1;exact⟨aA i,H1,I1,.int i t,q⟩
def Aq(X:Cx)(r:V->Option Int->Option Int->Hp->VK->Prop):Prop:=
 ∀(pc:List (jw × Obj)) (s:jd) (σ:St) (H:Hp) (x:V) (v vl vu:j8) (lo hi:Option Int) (sl:jw) (Q:VK),Inv X pc σ H s->RelV x v->s.heap.IsSliceOf sl vl vu .none->IsPart vl lo->IsPart vu hi->r x lo hi H Q->
  ∃ T id,JG (.type T) "__getitem__"=pure (aA (.builtin id))/\s.TypeIs v T/\jJ (jO X.prog X.w) X.A (Jk v (.ref sl)) (EP X pc σ Q) X.xe s
def Af(r:V->Option Int->Option Int->Hp->VK->Prop)(te:TE)(tl th:TO):TE:=fun σ H Q=>te σ H λx H1=>tl σ H1 λl H2=>th σ H2 λu H3=>r x l u H3 Q
theorem yW{r:V->Option Int->Option Int->Hp->VK->Prop}(hr:Aq X r)(he:PE X e te)(hl:PO X lo tl)(hu:PO X hi th):PE X (.Subscript e (.Slice lo hi aB p2) pos) (Af r te tl th):=by
 intro pc s σ H Q I h;refine WE (aV (he pc s σ H _ I h) λv s1 h_=>?_); obtain⟨x,H1,I1,r1,q1⟩:=h_;refine wpAny_Slice (aV (hl pc s1 σ H1 _ I1 q1) λvl s2 h_=>?_); obtain⟨l,H2,I2,pl,q2⟩:=h_; refine aV (hu pc s2 σ H2 _ I2 q2) λvu s3 h_=>?_; obtain⟨u,H3,I3,pu,q3⟩:=h_;rw[Wi];refine jp ?_;have I4:Inv X pc σ H3 { s3 with heap:=s3.heap.push { cls:=.type "slice",data:=.fields #[vl,vu,.none] } }:=I3.kept (t':=s3.toks) λb ob q=>jb _ q;obtain⟨T,id,hT,ht,hg⟩:=hr pc { s3 with heap:=s3.heap.push { cls:=.type "slice",data:=.fields #[vl,vu,.none] } } σ H3 x v vl vu l u s3.heap.objs.size Q I4 r1 (Wj ..) pl pu q3;show jJ (jO X.prog X.w) X.A (N1 e (.Slice lo hi aB p2) v (.ref s3.heap.objs.size)) (EP X pc σ Q) X.xe { s3 with heap:=s3.heap.push { cls:=.type "slice",data:=.fields #[vl,vu,.none] } };exact tail_any (ops:=[.ref s3.heap.objs.size,v]) ht hT hg (by with_unfolding_all rfl)
def n6(xs:List V)(lo hi:Option Int):List V:=(xs.drop (HT.sIx xs.length 0 lo)).take (HT.sIx xs.length xs.length hi - HT.sIx xs.length 0 lo)
theorem TD(xs:List V)(lo hi:Option Int):(n6 xs lo hi).length<=xs.length:=by
 unfold n6;rw[Qd,QU];lia
end
def eS(n:Nat)(i:Int):Option Nat:=if 0<=i then (if i < n then aA i.toNat else aB) else if -(n:Int)<=i then aA (i+n).toNat else aB
def cp{α:Type}(xs:List α)(i:Int):Option α:=(eS xs.length i).bind λj=>xs[j]?
theorem DN{n:Nat}{i:Int}{j:Nat}(h:eS n i=aA j):seqIndex? i n=aA j/\j < n/\-(n:Int)<=i/\i < n:=by
 unfold eS at h
 by_cases h0:0<=i
 ·rw[aI h0] at h
  by_cases h1:i < n
  ·rw[aI h1] at h;have e:i.toNat=j:=jh h;exact⟨by rw[Jl h0 h1,e],by lia,by lia,h1⟩
  ·rw[aH h1] at h; cases h
 ·rw[aH h0] at h
  by_cases h1:-(n:Int)<=i
  ·rw[aI h1] at h;have e:(i+n).toNat=j:=jh h;exact⟨by rw[WV (by lia) h1,e],by lia,h1,by lia⟩
  ·rw[aH h1] at h; cases h
theorem xx{α:Type}{xs:List α}{i:Int}{v:α}(h:cp xs i=aA v):∃ j,seqIndex? i xs.length=aA j/\xs[j]?=aA v/\j < xs.length/\-(xs.length:Int)<=i/\i < xs.length:=by
 unfold cp at h;cases e:eS xs.length i with
 |none=>rw[e] at h; cases h
 |some j=>
  rw[e] at h;obtain⟨h1,h2,h3,h4⟩:=DN e;exact⟨j,h1,h,h2,h3,h4⟩
theorem ML{α:Type}{xs:List α}{j:Nat}{v:α}(h:xs[j]?=aA v):cp xs (j:Int)=aA v:=by
 have hj:j < xs.length:=(j7.mp h).1;have e:eS xs.length (j:Int)=aA j:=by
  unfold eS;rw[aI (by lia),aI (by lia)]; simp
 unfold cp; rw[e]; exact h
def sD(b:Q3):Prop:=∀ o i,W4 b aD o i=operate [o,i] (Jk o i)
def lv(X:Cx)(r:R2):Prop:=
 ∀(value slice:Q3) (pc:List (jw × Obj)) (s:jd) (σ:St) (H:Hp) (x y:V) (v u:j8) (Q:VK),Inv X pc σ H s->RelV x v->RelV y u->r x y H Q->
  W4 slice aD v u=operate [v,u] (Jk v u)->jJ (jO X.prog X.w) X.A (N1 value slice v u) (EP X pc σ Q) X.xe s
def rD(X:Cx)(id:String)(r:V->List V->Hp->VK->Prop):Prop:=
 ∀(pc:List (jw × Obj)) (s:jd) (σ:St) (H:Hp) (x:V) (xs:List V) (v:j8) (us:List j8) (Q:VK),Inv X pc σ H s->RelV x v->Vals xs us->r x xs H Q->
  jJ (jO X.prog X.w) X.A (call (.builtin id) (v::us)) (EP X pc σ Q) X.xe s
section
variable {a b:Q3}{ta tb:TE}
theorem lv.or{r r':R2}(h:lv X r)(h':lv X r'):lv X (λx y H Q=>r x y H Q∨r' x y H Q):=by
 intro value slice pc s σ H x y v u Q I rx ry q hs;rcases q with q |q
 ·exact h value slice pc s σ H x y v u Q I rx ry q hs
 ·exact h' value slice pc s σ H x y v u Q I rx ry q hs
theorem C3{r:R2}(hr:lv X r)(ha:PE X a ta)(hb:PE X b tb)(hs:sD b):PE X (.Subscript a b pos) (nk r ta tb):=by
 intro pc s σ H Q I h;exact WE (wj ha hb I h λv u s2 x y H2 I2 rx ry q=>hr a b pc s2 σ H2 x y v u Q I2 rx ry q (hs _ _))
def BQ(K:j9):R2:=λx y H Q=>∃ p xs i v,x=.ref p/\y=.int i/\ad K H p xs/\cp xs i=aA v/\Q v H
def BS(K:j9):R2:=λx y H Q=>∃ p xs i v,x=.ref p/\y=.int i/\bj K H p xs/\cp xs i=aA v/\Q v H
def BR:R2:=λx y H Q=>∃ z i c,x=.str z/\y=.int i/\z.length<=jr/\cp z.cps.toList i=aA c/\Q (.str ⟨#[c]⟩) H
theorem ix_list:lv X (BQ X.K):=by
 intro value slice pc s σ H x y v u Q I rx ry h hs;obtain⟨p,xs,i,z,rfl,rfl,hq,he,q⟩:=h;cases rx;obtain⟨t,rfl⟩:=ry;obtain⟨its,r,pl,hz⟩:=I.list hq;obtain⟨j,h1,h2,h3,h4,h5⟩:=xx he;obtain⟨w,ew,rw'⟩:=r.get h2;have hl:=r.length;have hn:=oM;have fin:EP X pc σ Q w s:=⟨z,H,I,rw',q⟩
 by_cases h0:0<=i
 ·have hj:i.toNat=j:=by
   rw[Jl h0 h5] at h1;exact jh h1
  exact item_listR pl.isList h0 (by lia) (by rw[hj]; simpa using ew) fin hs
 ·have hj:(i+(its.toArray.size:Int)).toNat=j:=by
   rw[WV (by lia) h4] at h1
   rw[ju,<-hl];exact jh h1
  exact Nl (x:=w) pl.isList.typeIs YK.lookup
   (wpAny_getItem_list_neg (Q:=λr s'=>r=w/\EP X pc σ Q r s') pl.isList (by lia) (by rw[ju]<;>lia) (by lia) (by rw[hj]; simpa using ew) ⟨rfl,fin⟩) hs
theorem ix_tup:lv X (BS X.K):=by
 intro value slice pc s σ H x y v u Q I rx ry h hs;obtain⟨p,xs,i,z,rfl,rfl,hq,he,q⟩:=h;cases rx;obtain⟨t,rfl⟩:=ry;obtain⟨its,r,pl,hz⟩:=I.tuple hq;obtain⟨j,h1,h2,h3,h4,h5⟩:=xx he;obtain⟨w,ew,rw'⟩:=r.get h2;have hl:=r.length;have hn:=oM;have fin:EP X pc σ Q w s:=⟨z,H,I,rw',q⟩;exact Nl (x:=w) pl.typeIs slot_tuple_getitem.lookup
  (getItem_tuple (j:=j) (Q:=λr s'=>r=w/\EP X pc σ Q r s') pl (by lia) (by lia) (by rw[ju,<-hl]; exact h1) (by simpa using ew) ⟨rfl,fin⟩) hs
theorem Km:lv X BR:=by
 intro value slice pc s σ H x y v u Q I rx ry h hs;obtain⟨z,i,c,rfl,rfl,hz,he,q⟩:=h;obtain⟨t,rfl⟩:=rx;obtain⟨t',rfl⟩:=ry;obtain⟨j,h1,h2,h3,h4,h5⟩:=xx he;have hl:z.cps.toList.length=z.length:=by simp[Str.length]
 rw[hl] at h1 h4 h5;have hn:=oM
 exact tail_any (JH s z t) slot_str_getitem.lookup (getItem_str (c:=c) (by
  have e1:aE (i < -(2 ^ 63:Int))=aD:=av (by lia)
  have e2:aE (i≥2 ^ 63)=aD:=av (by lia)
  rw[e1,e2,Bool.or_false]) (by rw[h1]; simpa using h2) ⟨.str ⟨#[c]⟩,H,I.tok _,⟨_,rfl⟩,q⟩) hs
def Fm(K:j9):R2:=λx y H Q=>BQ K x y H Q∨BS K x y H Q∨BR x y H Q
theorem CV:lv X (Fm X.K):=ix_list.or (ix_tup.or Km)
theorem Sd(its:List j8)(n j:Nat)(u:j8):NL (·.setIfInBounds j u) { cls:=.type "list",data:=.seq its.toArray n }={ cls:=.type "list",data:=.seq (its.set j u).toArray n }:=by
 simp[NL]
theorem Inv.lst{pc:List (jw × Obj)}{σ:St}{H:Hp}{s:jd}{p:jw}{xs:List V}(I:Inv X pc σ H s)(h:H p=aA (.lst xs)) :
  ∃(its:List j8) (n:Nat),Vals xs its/\s.heap.get? p=aA { cls:=.type "list",data:=.seq its.toArray n }/\xs.length<=jr:=by
 obtain⟨z,its,n,r,e⟩:=I.hok p _ h;exact⟨its,n,r,e,z⟩
theorem Inv.lstUpd{pc:List (jw × Obj)}{σ:St}{H:Hp}{s:jd}{p:jw}{xs ys:List V}{its its':List j8}{n n':Nat}{f:Obj->Obj}(I:Inv X pc σ H s)(h:H p=aA (.lst xs))
  (ho:s.heap.get? p=aA { cls:=.type "list",data:=.seq its.toArray n }) (hf:f { cls:=.type "list",data:=.seq its.toArray n }={ cls:=.type "list",data:=.seq its'.toArray n' }) (r:Vals ys its') (hz:ys.length<=jr) (t:Nat) :
  Inv X pc σ (aR H p (.lst ys)) { s with heap:=s.heap.update p f,toks:=t }:=by
 have e:(s.heap.update p f).get? p=aA { cls:=.type "list",data:=.seq its'.toArray n' }:=by
  rw[Nu f ho (by rw[hf]<;>rfl),hf]
 refine I.write (x:=p) (e:=p) (by rw[h]; trivial) (.inl rfl) (λb u hb q=>(Nm _ _ (ZA hb)).trans q) ⟨_,e⟩ ?_
 exact⟨hz,its',n',r,e⟩
def Bp:V->V->V->Hp->(Hp->Prop)->Prop:=λo i v H Q=>∃ p xs k j,o=.ref p/\i=.int k/\H p=aA (.lst xs)/\eS xs.length k=aA j/\Q (aR H p (.lst (xs.set j v)))
theorem vD:wf X Bp:=by
 intro pc s σ H o i v ov iv u Q I ro ri rv h;obtain⟨p,xs,k,j,rfl,rfl,hp,hj,q⟩:=h;cases ro;obtain⟨t,rfl⟩:=ri;obtain⟨its,n,r,ho,hz⟩:=I.lst hp;obtain⟨h1,h2,h3,h4⟩:=DN hj;have hl:=r.length;have hn:=oM;have I':Inv X pc σ (aR H p (.lst (xs.set j v))) { s with heap:=s.heap.update p (NL (·.setIfInBounds j u)) }:=
  I.lstUpd hp ho (Sd its n j u) (r.set rv j) (by rw[Qg]; exact hz) s.toks
 by_cases h0:0<=k
 ·have hk:k.toNat=j:=by
   rw[Jl h0 h4] at h1;exact jh h1
  exact PySem.W.ki_setAt ho h0 (by lia) (by rw[ju,<-hl]; exact h4) (by rw[hk]; exact⟨_,I',q⟩)
 ·have hk:(k+(its.toArray.size:Int)).toNat=j:=by
   rw[WV (by lia) h3] at h1
   rw[ju,<-hl];exact jh h1
  exact PySem.W.ki_setBack ho (by lia) (by rw[ju,<-hl]; exact h3) (by lia) (by rw[hk]; exact⟨_,I',q⟩)
theorem UB(lo hi:Option Int)(n:Nat):(gX lo hi aB n).1=((HT.sIx n 0 lo:Nat):Int)/\(gX lo hi aB n).2.1=((HT.sIx n n hi:Nat):Int)/\(gX lo hi aB n).2.2=1:=by
 refine⟨?_,?_,rfl⟩
 ·cases lo with
  |none=>simp[gX,HT.sIx]
  |some i=>
   simp only[gX,HT.sIx,J4,show (1:Int) > 0 by decide,if_true]
   by_cases h:i < 0
   ·simp only[h,if_true]<;>lia
   ·simp only[h,if_false]<;>lia
 ·cases hi with
  |none=>simp[gX,HT.sIx]
  |some i=>
   simp only[gX,HT.sIx,J4,show (1:Int) > 0 by decide,if_true]
   by_cases h:i < 0
   ·simp only[h,if_true]<;>lia
   ·simp only[h,if_false]<;>lia
theorem UU(its:List j8)(lo hi:Option Int):slicePick its.toArray lo hi aB=((its.drop (HT.sIx its.length 0 lo)).take (HT.sIx its.length its.length hi - HT.sIx its.length 0 lo)).toArray:=by
 obtain⟨h1,h2,h3⟩:=UB lo hi its.toArray.size;unfold slicePick;rw[h1,h2,h3];simp only[sliceRange_one,pick_run,ju]<;>rfl
def BT(K:j9):V->Option Int->Option Int->Hp->VK->Prop:=λx lo hi H Q=>∃ a xs,x=.ref a/\ad K H a xs/\∀ p,H p=aB->Q (.ref p) (aR H p (.lst (n6 xs lo hi)))
theorem DW:Aq X (BT X.K):=by
 intro pc s σ H x v vl vu lo hi sl Q I rx hs pl pu h;obtain⟨a,xs,rfl,hx,q⟩:=h;cases rx;obtain⟨its,r,ht,hz⟩:=I.list hx;have hlen:=r.length;refine⟨"list",_,YK.lookup,ht.isList.typeIs,?_⟩;refine YL ht.isList hs pl pu .none (by simp) ?_ (by rw[ju]<;>lia)
 rw[UU,<-hlen];refine⟨.ref s.heap.objs.size,_,I.laid (t':=s.toks) (o:=.lst (n6 xs lo hi)) (λb ob q=>jb _ q) (ji _) ?_,rfl,q _ (I.hok.fresh (ji _))⟩;exact⟨Q9 (TD xs lo hi) hz,_,0,(r.drop (HT.sIx xs.length 0 lo)).take (HT.sIx xs.length xs.length hi - HT.sIx xs.length 0 lo),jM _ rfl⟩
def iH:V->Bool
 |.non=>aC
 |.bl _=>aC
 |.int _=>aC
 |.str _=>aC
 |_=>aD
def eT:V->V->Bool
 |.non,.non=>aC
 |.bl a,.bl b=>a == b
 |.bl a,.int b=>(if a then 1 else 0) == b
 |.int a,.bl b=>a == (if b then 1 else 0)
 |.int a,.int b=>a == b
 |.str a,.str b=>a == b
 |_,_=>aD
theorem LL{A:Qh}{s:jd}{y x:V}{u v:j8}(ry:RelV y u)(rx:RelV x v)(fy:iH y=aC)(fx:iH x=aC):SeqAt.EqAt A s u v (eT y x):=by
 cases y with
 |non=>
  cases ry;cases x with
  |non=>cases rx; exact SeqAt.EqAt.same _
  |bl b=>cases rx; exact SeqAt.EqAt.none_bool b
  |int b=>obtain⟨t,rfl⟩:=rx; exact SeqAt.EqAt.none_int b t
  |str b=>obtain⟨t,rfl⟩:=rx; exact SeqAt.EqAt.none_str b t
  |_=>exact absurd (show aD=aC from fx) jK
 |bl a=>
  cases ry;cases x with
  |non=>cases rx; exact SeqAt.EqAt.bool_none a
  |bl b=>cases rx; exact SeqAt.EqAt.bool_bool a b
  |int b=>obtain⟨t,rfl⟩:=rx; exact SeqAt.EqAt.bool_int a b t
  |str b=>obtain⟨t,rfl⟩:=rx; exact SeqAt.EqAt.bool_str a b t
  |_=>exact absurd (show aD=aC from fx) jK
 |int a=>
  obtain⟨t',rfl⟩:=ry;cases x with
  |non=>cases rx; exact SeqAt.EqAt.int_none a t'
  |bl b=>cases rx; exact SeqAt.EqAt.int_bool a t' b
  |int b=>obtain⟨t,rfl⟩:=rx; exact SeqAt.EqAt.int_int a t' b t
  |str b=>obtain⟨t,rfl⟩:=rx; exact W8 a t' b t
  |_=>exact absurd (show aD=aC from fx) jK
 |str a=>
  obtain⟨t',rfl⟩:=ry;cases x with
  |non=>cases rx; exact SeqAt.EqAt.str_none a t'
  |bl b=>cases rx; exact SeqAt.EqAt.str_bool a t' b
  |int b=>obtain⟨t,rfl⟩:=rx; exact W9 a t' b t
  |str b=>obtain⟨t,rfl⟩:=rx; exact SeqAt.EqAt.str_str a t' b t
  |_=>exact absurd (show aD=aC from fx) jK
 |_=>exact absurd (show aD=aC from fy) jK
def fF(x:V)(u:j8):Bool:=match u with
 |.none=>eT .non x
 |.bool b=>eT (.bl b) x
 |.int i _=>eT (.int i) x
 |.str z _=>eT (.str z) x
 |_=>aD
theorem xZ{x y:V}{u:j8}(r:RelV y u)(f:iH y=aC):fF x u=eT y x:=by
 cases y with
 |non=>cases r; rfl
 |bl b=>cases r; rfl
 |int i=>obtain⟨t,rfl⟩:=r; rfl
 |str z=>obtain⟨t,rfl⟩:=r; rfl
 |_=>exact absurd (show aD=aC from f) jK
theorem sF{x:V}:∀ {xs:List V} {us:List j8},Vals xs us->xs.all iH=aC->us.any (fF x)=xs.any λy=>eT y x
 |_,_,.nil,_=>rfl
 |y::xs,u::us,.cons r t,f=>by
  rw[Yf,jL] at f;rw[Ze,Ze,xZ r f.1,sF t f.2]
theorem qg{A:Qh}{s:jd}{x:V}{v:j8}(rx:RelV x v)(fx:iH x=aC):∀ {xs:List V} {us:List j8},Vals xs us->xs.all iH=aC->∀ u∈us,SeqAt.EqAt A s u v (fF x u)
 |_,_,.nil,_=>λu hu=>by cases hu
 |y::xs,u::us,.cons r t,f=>λu' hu=>by
  rw[Yf,jL] at f;rcases jy.mp hu with rfl |hu
  ·rw[xZ r f.1]; exact LL r rx f.1 fx
  ·exact qg rx fx t f.2 u' hu
def lm(x:V)(xs:List V):Bool:=xs.any λy=>eT y x
def wR(K:j9)(neg:Bool):R2:=λx y H Q=>∃ p xs,y=.ref p/\(ad K H p xs∨bj K H p xs)/\iH x=aC/\xs.all iH=aC/\Q (.bl (if neg then !lm x xs else lm x xs)) H
theorem Rh:c9 X (Z5 .In) (wR X.K aD):=by
 intro pc s σ H x y v u Q I rx ry h;obtain⟨p,xs,rfl,hq,fx,fs,q⟩:=h;cases ry;rcases hq with hq |hq
 ·obtain⟨its,r,pl,hz⟩:=I.list hq;refine SeqAt.in_listAt (fF x) pl.isList (λw hw=>qg rx fx r fs w (by simpa using hw)) ⟨.bl _,H,I,rfl,?_⟩
  rw[show its.toArray.any (fF x)=its.any (fF x) by simp,sF r fs]
  exact q
 ·obtain⟨its,r,pl,hz⟩:=I.tuple hq;refine SeqAt.in_tupleAt (fF x) pl (λw hw=>qg rx fx r fs w (by simpa using hw)) ⟨.bl _,H,I,rfl,?_⟩
  rw[show its.toArray.any (fF x)=its.any (fF x) by simp,sF r fs]
  exact q
theorem FF:c9 X (Z5 .NotIn) (wR X.K aC):=by
 intro pc s σ H x y v u Q I rx ry h;obtain⟨p,xs,rfl,hq,fx,fs,q⟩:=h;cases ry;rcases hq with hq |hq
 ·obtain⟨its,r,pl,hz⟩:=I.list hq;refine SeqAt.notIn_listAt (fF x) pl.isList (λw hw=>qg rx fx r fs w (by simpa using hw)) ⟨.bl _,H,I,rfl,?_⟩
  rw[show its.toArray.any (fF x)=its.any (fF x) by simp,sF r fs]
  exact q
 ·obtain⟨its,r,pl,hz⟩:=I.tuple hq;refine SeqAt.notIn_tupleAt (fF x) pl (λw hw=>qg rx fx r fs w (by simpa using hw)) ⟨.bl _,H,I,rfl,?_⟩
  rw[show its.toArray.any (fF x)=its.any (fF x) by simp,sF r fs]
  exact q
theorem Tw:CallR X (.builtin "len") (λxs H Q=>∃ p ys,xs=[.ref p]/\(ad X.K H p ys∨bj X.K H p ys)/\Q (.int ys.length) H):=by
 intro pc s σ H xs us Q I r h;obtain⟨p,ys,rfl,hq,q⟩:=h;obtain⟨u,rfl,rx⟩:=rd r;cases rx;have hn:=oM;rcases hq with hq |hq
 ·obtain⟨its,r',pl,hz⟩:=I.list hq;have hlen:=r'.length;exact Calls.call_len_list pl.isList (by simp only[ju]<;>lia) ⟨.int ys.length,H,I.tok _,⟨s.toks+1,by rw[ju,hlen]⟩,q⟩
 ·obtain⟨its,r',pl,hz⟩:=I.tuple hq;have hlen:=r'.length;exact len_tuple pl (by simp only[ju]<;>lia) ⟨.int ys.length,H,I.tok _,⟨s.toks+1,by rw[ju,hlen]⟩,q⟩
theorem Tx:CallR X (.builtin "len") (λxs H Q=>∃ z,xs=[.str z]/\z.length<=jr/\Q (.int z.length) H):=by
 intro pc s σ H xs us Q I r h;obtain⟨z,rfl,hz,q⟩:=h;obtain⟨u,rfl,t,rfl⟩:=rd r;have hn:=oM;exact len_str (by lia) ⟨.int z.length,H,I.tok _,⟨_,rfl⟩,q⟩
theorem CallR.or{f:j8}{r r':List V->Hp->VK->Prop}(h:CallR X f r)(h':CallR X f r'):CallR X f (λxs H Q=>r xs H Q∨r' xs H Q):=by
 intro pc s σ H xs us Q I rs q;rcases q with q |q
 ·exact h pc s σ H xs us Q I rs q
 ·exact h' pc s σ H xs us Q I rs q
theorem Ty:CallR X (.type "list") (λxs H Q=>∃ p ys,xs=[.ref p]/\(ad X.K H p ys∨bj X.K H p ys)/\∀ l,H l=aB->Q (.ref l) (aR H l (.lst ys))):=by
 intro pc s σ H xs us Q I r h;obtain⟨p,ys,rfl,hq,q⟩:=h;obtain⟨u,rfl,rx⟩:=rd r;cases rx;have fin:∀(its:List j8),Vals ys its->ys.length<=jr->∀(h':QN) (c':Nat),(∀ b o',s.heap.get? b=aA o'->h'.get? b=aA o')->
   h'.get? s.heap.objs.size=aA { cls:=.type "list",dict:=aB,data:=.seq its.toArray c',slots:=#[] }->EP X pc σ Q (.ref s.heap.objs.size) { s with heap:=h' }:=λits r' hz h' c' kp e=>
  ⟨.ref s.heap.objs.size,_,I.laid (t':=s.toks) kp (ji _) (show ObjOk X.prog X.w _ h' _ (.lst ys) from ⟨hz,its,c',r',e⟩),rfl,q _ (I.hok.fresh (ji _))⟩
 rcases hq with hq |hq
 ·obtain⟨its,r',pl,hz⟩:=I.list hq;have hlen:=r'.length;obtain⟨o,ho,hc,n,hd⟩:=pl.isList;exact call_list_seq p (.inl rfl) ho hc hd (λh' c' kp e=>fin its r' hz h' c' kp e) (by simp only[ju]<;>lia)
 ·obtain⟨its,r',pl,hz⟩:=I.tuple hq;have hlen:=r'.length;obtain⟨o,ho,hc,n,hd⟩:=pl;exact call_list_seq p (.inr rfl) ho hc hd (λh' c' kp e=>fin its r' hz h' c' kp e) (by simp only[ju]<;>lia)
def wO(K:j9)(T:String)(x:V)(H:Hp):Prop:=match x with
 |.str _=>T="str"
 |.int _=>T="int"
 |.ref p=>(T="list"/\∃ xs,ad K H p xs)∨(T="tuple"/\∃ o,K.lookup p=aA o/\o.cls=.type "tuple"/\o.dict=aB) ∨
   (T="dict"/\((∃ kvs,H p=aA (.dK kvs))∨∃ kvs,H p=aA (.dT kvs)))∨(T="set"/\∃ S n,H p=aA (.set S n))
 |_=>False
theorem Cy{pc:List (jw × Obj)}{σ:St}{H:Hp}{s:jd}{T:String}{x:V}{v:j8}(I:Inv X pc σ H s)(r:RelV x v)(ty:wO X.K T x H) :
  s.TypeIs v T/\∀ a,v=.ref a->∃ ob,s.heap.get? a=aA ob/\ob.dict=aB:=by
 cases x with
 |str z=>
  obtain⟨t,rfl⟩:=r;cases (show T="str" from ty);exact⟨JH s z t,λ_ e=>nomatch e⟩
 |int i=>
  obtain⟨t,rfl⟩:=r;cases (show T="int" from ty);exact⟨typeIs_int s i t,λ_ e=>nomatch e⟩
 |ref p=>
  cases r;rcases ty with ⟨rfl,xs,hq⟩ |⟨rfl,o,hk,hc,hd⟩ |⟨rfl,hk⟩ |⟨rfl,S,n,hk⟩
  ·obtain⟨its,_,pl,_⟩:=I.list hq;refine⟨pl.isList.typeIs,λa e=>?_⟩;cases e;obtain⟨o,n,e,c,hd,_⟩:=pl;exact⟨o,e,hd⟩
  ·refine⟨⟨o,I.kIn p o hk,hc⟩,λa e=>?_⟩;cases e;exact⟨o,I.kIn _ o hk,hd⟩
  ·have z:∃ o,s.heap.get? p=aA o/\o.ExactDict:=by
    rcases hk with ⟨kvs,hk⟩ |⟨kvs,hk⟩
    ·obtain⟨_,_,_,_,o,_,_,e,ex,_⟩:=I.hok p _ hk;exact⟨o,e,ex⟩
    ·obtain⟨_,_,_,_,o,_,_,e,ex,_⟩:=I.hok p _ hk;exact⟨o,e,ex⟩
   obtain⟨o,e,ex⟩:=z;refine⟨⟨o,e,ex.1⟩,λa e2=>?_⟩;cases e2;exact⟨o,e,ex.2.1⟩
  ·obtain⟨o,_,_,_,e,ex,_⟩:=I.hok p _ hk;refine⟨⟨o,e,ex.1⟩,λa e2=>?_⟩;cases e2;exact⟨o,e,ex.2.1⟩
 |_=>exact Zl ty
def u7(K:j9)(T:String)(r:V->List V->Hp->VK->Prop)(to:TE):TE:=fun σ H Q=>to σ H λx H1=>wO K T x H1/\r x [] H1 Q
def nq(K:j9)(T:String)(r:V->List V->Hp->VK->Prop)(to:TE)(t:TA):TE:=fun σ H Q=>to σ H λx H1=>wO K T x H1/\t σ H1 λxs H2=>r x xs H2 Q
variable {o:Q3}{es:List Q3}{to:TE}{t:TA}{name:Str}{apos cpos:Pos}{T id:String}{r:V->List V->Hp->VK->Prop}
theorem LZ(pa:WF T)(slot:Slot T name id)(hty:typeOf (.builtin id)=pure (.type "method_descriptor"))(hm:rD X id r)(ho:PE X o to)
  (hbase:N2 o name X.env (eval o X.env)=eval o X.env:=by rfl) (hline:(apos.endLine == cpos.line)=aC:=by rfl):PE X (.Call (.Attribute o name apos) [] [] cpos) (u7 X.K T r to):=by
 intro pc s σ H Q I h;refine wpAny_Call_method0_late hbase hline (aV (ho pc s σ H _ I h) λv s1 h_=>?_); obtain⟨x,H1,I1,r1,ty,q1⟩:=h_;obtain⟨h1,h2⟩:=Cy I1 r1 ty;exact⟨T,id,pa,slot,hty,h1,h2,Nn rfl (PySem.evalArgs_none (hm pc s1 σ H1 x [] v [] Q I1 r1 .nil q1))⟩
theorem IY(pa:WF T)(slot:Slot T name id)(hty:typeOf (.builtin id)=pure (.type "method_descriptor"))(hm:rD X id r)(ho:PE X o to)(ha:PA X (e::es) t)
  (hbase:N2 o name X.env (eval o X.env)=eval o X.env:=by rfl)
  (hfew:((QQ cpos (jf (e::es) X.env)).all (λx=>!x.1)&&(backToKw cpos (keywordEach [] X.env)).all (λx=>x.1.isSome)
   && aE ((e::es).length+([]:List Keyword).length+(if ([]:List Keyword).isEmpty then 0 else 1) < 30))=aC:=by rfl)
  (hline:(apos.endLine == cpos.line)=aC:=by rfl) (hs:jf (e::es) X.env=(aD,eval e X.env)::jf es X.env:=by rfl) (hplain:(QQ cpos (jf es X.env)).any (·.1)=aD:=by rfl) :
  PE X (.Call (.Attribute o name apos) (e::es) [] cpos) (nq X.K T r to t):=by
 intro pc s σ H Q I h;refine wpAny_Call_method_late hbase hfew hline rfl (aV (ho pc s σ H _ I h) λv s1 h_=>?_); obtain⟨x,H1,I1,r1,ty,q1⟩:=h_;obtain⟨h1,h2⟩:=Cy I1 r1 ty;refine⟨T,id,pa,slot,hty,h1,h2,?_⟩;have hA:=ha cpos pc s1 σ H1 _ I1 q1;rw[hs] at hA ⊢;refine Nn (by show (aD||(QQ cpos (jf es X.env)).any (·.1))=aD; rw[hplain]<;>rfl) (NQ ?_)
 exact aV hA λus s2 ⟨vs,H2,I2,r2,q2⟩=>hm pc s2 σ H2 x vs v us Q I2 r1 r2 q2
end
def Av(X:Cx)(id:String)(r:V->List V->Hp->VK->Prop):Prop:=
 ∀(pc:List (jw × Obj)) (s:jd) (σ:St) (H:Hp) (x:V) (xs:List V) (v:j8) (us:List j8) (Q:VK),Inv X pc σ H s->RelV x v->Vals xs us->r x xs H Q->
  jJ (jO X.prog X.w) X.A (call (.builtin id) (v::us)) (EP X pc σ Q) X.xe s
theorem Vals.one{x:V}{us:List j8}(h:Vals [x] us):∃ u,us=[u]/\RelV x u:=by
 cases h with
 |cons r t=>cases t; exact⟨_,rfl,r⟩
theorem Vals.zero:∀ {us:List j8},Vals [] us->us=[]
 |_,.nil=>rfl
theorem Vals.dropLast{xs:List V}{us:List j8}(h:Vals xs us):Vals xs.dropLast us.dropLast:=by
 induction h with
 |nil=>exact .nil
 |cons r t ih=>
  cases t with
  |nil=>exact .nil
  |cons q t'=>exact .cons r ih
theorem Vals.reverse{xs:List V}{us:List j8}(h:Vals xs us):Vals xs.reverse us.reverse:=by
 induction h with
 |nil=>exact .nil
 |cons r t ih=>rw[QY,QY]; exact Vals.append ih (.cons r .nil)
theorem ST{α:Type}(l:List α):l.eraseIdx (l.length - 1)=l.dropLast:=by
 induction l with
 |nil=>rfl
 |cons a r ih=>
  cases r with
  |nil=>rfl
  |cons b r=>
   have e:(a::b::r).length - 1=((b::r).length - 1)+1:=by
    have h1:(a::b::r).length=r.length+2:=rfl;have h2:(b::r).length=r.length+1:=rfl;lia
   rw[e,N3,ih]
   all_goals rfl
section
variable {l b:jw}{xs ys zs:List V}
theorem Inv.lset{its its':List j8}{n:Nat}{f:Array j8->Array j8}{t':Nat}(I:Inv X pc σ H s)(hH:H l=aA (.lst xs))
  (e:s.heap.get? l=aA { cls:=.type "list",data:=.seq its.toArray n }) (hf:f its.toArray=its'.toArray) (hv:Vals ys its') (hz:ys.length<=jr) :
  Inv X pc σ (aR H l (.lst ys)) { s with heap:=s.heap.update l (NL f),toks:=t' }:=by
 have q:=PySem.IsL.update e f;rw[hf] at q;refine I.write (x:=l) (e:=l) (by rw[hH]; exact trivial) (.inl rfl) (λb' u hb hu=>(Nm s.heap (NL f) (ZA hb)).trans hu) ⟨_,q⟩ ?_
 exact⟨hz,its',_,hv,q⟩
theorem Inv.lnew{its:List j8}{t':Nat}(I:Inv X pc σ H s)(hv:Vals ys its)(hz:ys.length<=jr) :
  Inv X pc σ (aR H s.heap.objs.size (.lst ys)) { s with heap:=s.heap.push { cls:=.type "list",data:=.seq its.toArray },toks:=t' }:=
 I.laid (λ_ _ q=>jb _ q) (ji _) ⟨hz,its,0,hv,jM _ rfl⟩
theorem Inv.fresh(I:Inv X pc σ H s):H s.heap.objs.size=aB:=I.hok.fresh (ji _)
theorem Inv.lstM(I:Inv X pc σ H s)(hH:H l=aA (.lst xs)):xs.length<=jr/\∃(its:List j8) (n:Nat),Vals xs its/\xs.length=its.length/\s.heap.get? l=aA { cls:=.type "list",data:=.seq its.toArray n }:=by
 obtain⟨z,its,n,r,e⟩:=I.hok l _ hH;exact⟨z,its,n,r,r.length,e⟩
theorem PZ{n:Nat}(h:n<=jr):gE n=aD:=by
 unfold gE;exact av (by lia)
end
section
def yE:V->List V->Hp->VK->Prop:=λx vs H Q=>∃ l xs y,x=.ref l/\vs=[y]/\H l=aA (.lst xs)/\xs.length < jr/\Q .non (aR H l (.lst (xs++[y])))
theorem oW:Av X "list.append" yE:=by
 intro pc s σ H x vs v us Q I rx rv h;obtain⟨l,xs,y,rfl,rfl,hH,hz,q⟩:=h;cases rx;obtain⟨u,rfl,ru⟩:=rv.one;obtain⟨z,its,n,r,hl,e⟩:=I.lstM hH;refine WG F.slot_list_append ⟨_,e,rfl⟩ F.entry_list_append (F.args_list_append_2 _ _) (PySem.list_append l its.toArray n u (by rw[ju]; lia)) ⟨e,?_⟩
 refine⟨.non,_,I.lset (its':=its++[u]) hH e (by simp) (r.append (.cons ru .nil)) ?_,rfl,q⟩
 rw[jn,Zq];lia
def yG:V->List V->Hp->VK->Prop:=λx vs H Q=>∃ l b xs zs,x=.ref l/\vs=[.ref b]/\H l=aA (.lst xs)/\H b=aA (.lst zs)/\xs.length+zs.length<=jr/\Q .non (aR H l (.lst (xs++zs)))
theorem EB:Av X "list.extend" yG:=by
 intro pc s σ H x vs v us Q I rx rv h;obtain⟨l,b,xs,zs,rfl,rfl,hH,hB,hz,q⟩:=h;cases rx;obtain⟨u,rfl,ru⟩:=rv.one;cases ru;obtain⟨z,its,n,r,hl,e⟩:=I.lstM hH;obtain⟨z2,its2,n2,r2,hl2,e2⟩:=I.lstM hB;have hsz:its.toArray.size+its2.toArray.size<=jr:=by rw[ju,ju]; lia
 have hlong:¬ (!its.toArray.isEmpty&&gE (its.toArray.size+its2.toArray.size))=aC:=by
  rw[PZ hsz,YC];exact jK
 refine WG F.slot_list_extend ⟨_,e,rfl⟩ F.entry_list_extend (F.args_list_extend_2 _ _)
  (AutoSeq1.list_extend_list_list_0 l its.toArray n b its2.toArray n2 hlong (by rw[ju]; lia) (by lia)) ⟨e,e2,?_⟩
 refine⟨.non,_,I.lset (its':=its++its2) hH e (by simp) (r.append r2) ?_,rfl,q⟩
 rw[jn];lia
def wq:V->List V->Hp->VK->Prop:=λx vs H Q=>∃ l xs y,x=.ref l/\vs=[]/\H l=aA (.lst xs)/\xs[xs.length - 1]?=aA y/\Q y (aR H l (.lst xs.dropLast))
theorem uL:Av X "list.pop" wq:=by
 intro pc s σ H x vs v us Q I rx rv h;obtain⟨l,xs,y,rfl,rfl,hH,hy,q⟩:=h;cases rx;have hus:=rv.zero;subst hus;obtain⟨z,its,n,r,hl,e⟩:=I.lstM hH;obtain⟨u,hu,ru⟩:=r.get hy;have hy':its.toArray[its.toArray.size - 1]?=aA u:=by
  show its.toArray[its.length - 1]?=aA u;rw[<-Y2,<-hl];exact hu
 refine WG F.slot_list_pop ⟨_,e,rfl⟩ F.entry_list_pop (F.args_list_pop_1 _) (MeetsSeq.list_pop_last l its.toArray n u hy' (by rw[ju]; lia)) ⟨e,?_⟩
 refine⟨y,_,I.lset (its':=its.dropLast) hH e ?_ r.dropLast ?_,ru,q⟩
 ·show its.toArray.eraseIdxIfInBounds (its.toArray.size - 1)=its.dropLast.toArray;rw[ju,List.eraseIdxIfInBounds_toArray,ST]
 ·rw[List.length_dropLast];lia
def BO:R2:=λx y H Q=>∃ l b xs zs,x=.ref l/\y=.ref b/\H l=aA (.lst xs)/\H b=aA (.lst zs)/\xs.length+zs.length<=jr/\∀ p,H p=aB->Q (.ref p) (aR H p (.lst (xs++zs)))
theorem CZ:c9 X (gG .Add) BO:=by
 intro pc s σ H x y v u Q I rx ry h;obtain⟨l,b,xs,zs,rfl,rfl,hH,hB,hz,q⟩:=h;cases rx;cases ry;obtain⟨z,its,n,r,hl,e⟩:=I.lstM hH;obtain⟨z2,its2,n2,r2,hl2,e2⟩:=I.lstM hB;refine PySem.P.add_list e e2 ?_ (by rw[ju,ju]; lia)
 have ea:its.toArray++its2.toArray=(its++its2).toArray:=by simp
 rw[ea];exact⟨.ref _,_,I.lnew (t':=s.toks) (r.append r2) (by rw[jn]; lia),rfl,q _ I.fresh⟩
end
section
variable {κ:Type}[DecidableEq κ]
def fR(kvs:List (κ × V))(k:κ):Option V:=(kvs.find? λkv=>aE (kv.1=k)).map (·.2)
def dN(kvs:List (κ × V))(k:κ)(v:V):List (κ × V):=
 if (kvs.any λkv=>aE (kv.1=k))=aC then kvs.map (λkv=>if kv.1=k then (kv.1,v) else kv) else kvs++[(k,v)]
theorem vH{p:κ × V}{r:List (κ × V)}{k:κ}(e:p.1=k):fR (p::r) k=aA p.2:=by simp[fR,Z6,e]
theorem vG{p:κ × V}{r:List (κ × V)}{k:κ}(e:¬ p.1=k):fR (p::r) k=fR r k:=by simp[fR,Z6,e]
theorem E7(k:κ):∀ kvs:List (κ × V),(kvs.any λkv=>aE (kv.1=k))=(fR kvs k).isSome
 |[]=>rfl
 |p::r=>by
  rw[Ze]
  by_cases e:p.1=k
  ·simp only[vH e,am e,U0,Option.isSome_some]
  ·rw[vG e,av e,Wk]; exact E7 k r
theorem t3(kvs:List (κ × V))(k:κ)(v:V):(dN kvs k v).length<=kvs.length+1:=by
 unfold dN;split
 ·rw[j5]; lia
 ·rw[jn,jk,ZE]; lia
theorem RelO.isSome_eq{o:Option V}{u:Option j8}(r:RelO o u):o.isSome=u.isSome:=by
 cases o with
 |none=>cases u with
  |none=>rfl
  |some _=>exact(show False from r).elim
 |some _=>cases u with
  |none=>exact(show False from r).elim
  |some _=>rfl
theorem KV.val{kvs:List (κ × V)}{vs:List (κ × j8)}(r:KV kvs vs)(k:κ):RelO (fR kvs k) (WH vs k):=by
 unfold KV at r
 induction r with
 |nil=>exact Zm
 |@cons p q ps qs h t ih=>
  obtain⟨h1,h2⟩:=h
  by_cases e:p.1=k
  ·have e':q.1=k:=h1.symm.trans e;have b:WH (q::qs) k=aA q.2:=by simp[WH,Z6,e']
   rw[vH e,b]; exact h2
  ·have e':¬ q.1=k:=λz=>e (h1.trans z);have b:WH (q::qs) k=WH qs k:=by simp[WH,Z6,e']
   rw[vG e,b]; exact ih
theorem KV.any{kvs:List (κ × V)}{vs:List (κ × j8)}(r:KV kvs vs)(k:κ):(kvs.any λkv=>aE (kv.1=k))=vs.any λkv=>aE (kv.1=k):=by
 unfold KV at r
 induction r with
 |nil=>rfl
 |cons h t ih=>rw[Ze,Ze,ih,h.1]
theorem KV.repl{kvs:List (κ × V)}{vs:List (κ × j8)}(r:KV kvs vs)(k:κ){y:V}{u:j8}(ry:RelV y u) :
  KV (kvs.map λkv=>if kv.1=k then (kv.1,y) else kv) (vs.map λkv=>if kv.1=k then (kv.1,u) else kv):=by
 unfold KV at r ⊢
 induction r with
 |nil=>exact .nil
 |@cons p q ps qs h t ih=>
  rw[jq,jq];refine .cons ?_ ih;obtain⟨h1,h2⟩:=h
  by_cases e:p.1=k
  ·rw[aI e,aI (h1.symm.trans e)]; exact⟨h1,ry⟩
  ·rw[aH e,aH (λz=>e (h1.trans z))]; exact⟨h1,h2⟩
theorem KV.put{kvs:List (κ × V)}{vs:List (κ × j8)}(r:KV kvs vs)(k:κ){y:V}{u:j8}(ry:RelV y u):KV (dN kvs k y) (stored vs k u):=by
 unfold dN stored;rw[r.any k]
 by_cases e:(vs.any λkv=>aE (kv.1=k))=aC
 ·rw[aI e,aI e]; exact r.repl k ry
 ·rw[aH e,aH e]; exact Ub r ⟨rfl,ry⟩
theorem KV.length{kvs:List (κ × V)}{vs:List (κ × j8)}(r:KV kvs vs):kvs.length=vs.length:=YX r
end
theorem oG{P:jI}{w:Qe}{k:aK}{u:j8}(r:RelV (kV k) u):(ef P w).is k u=aC:=by
 cases k with
 |inl i=>obtain⟨t,e⟩:=(show ∃ t,u=Jh i t from r); subst e; exact Tc P w i t
 |inr x=>obtain⟨t,e⟩:=(show ∃ t,u=ZO x t from r); subst e; exact Td P w x t
theorem EX{P:jI}{w:Qe}:∀ {ks:List aK} {us:List j8},Vals (ks.map kV) us->ItemsAre (ef P w) ks us
 |[],_,r=>by rw[Zf] at r; cases r; exact .nil
 |k::ks,_,r=>by
  rw[jq] at r;cases r with
  |cons h t=>exact .cons (oG h) (EX t)
abbrev KT(H:Hp):List (List aK × V)->List (List aK × jw × j8)->Prop:=JB λp q=>p.1=q.1/\H q.2.1=aA (.tup (p.1.map kV))/\RelV p.2 q.2.2
theorem KT.val{H:Hp}{kvs:List (List aK × V)}{xs:List (List aK × jw × j8)}(r:KT H kvs xs)(k:List aK):RelO (fR kvs k) ((U1 xs k).map (·.2)):=by
 induction r with
 |nil=>exact Zm
 |@cons p q ps qs h t ih=>
  obtain⟨h1,_,h2⟩:=h
  by_cases e:p.1=k
  ·have e':q.1=k:=h1.symm.trans e;have b:U1 (q::qs) k=aA q.2:=by simp[U1,Z6,e']
   rw[vH e,b]; exact h2
  ·have e':¬ q.1=k:=λz=>e (h1.trans z);have b:U1 (q::qs) k=U1 qs k:=by simp[U1,Z6,e']
   rw[vG e,b]; exact ih
theorem KT.repl{H:Hp}{kvs:List (List aK × V)}{xs:List (List aK × jw × j8)}(r:KT H kvs xs)(k:List aK){y:V}{u:j8}(ry:RelV y u) :
  KT H (kvs.map λkv=>if kv.1=k then (kv.1,y) else kv) (xs.map (putAt k u)):=by
 induction r with
 |nil=>exact .nil
 |@cons p q ps qs h t ih=>
  rw[jq,jq];refine .cons ?_ ih;obtain⟨h1,h2,h3⟩:=h;unfold putAt
  by_cases e:p.1=k
  ·rw[aI e,aI (h1.symm.trans e)]; exact⟨h1,h2,ry⟩
  ·rw[aH e,aH (λz=>e (h1.trans z))]; exact⟨h1,h2,h3⟩
theorem KT.put{H:Hp}{kvs:List (List aK × V)}{xs:List (List aK × jw × j8)}(r:KT H kvs xs)(k:List aK){b:jw}{y:V}{u:j8}(hb:H b=aA (.tup (k.map kV)))(ry:RelV y u) :
  KT H (dN kvs k y) (storedH xs k b u):=by
 have e:(kvs.any λkv=>aE (kv.1=k))=(U1 xs k).isSome:=by
  rw[E7,(r.val k).isSome_eq,gd]
 unfold dN storedH;rw[e]
 by_cases q:(U1 xs k).isSome=aC
 ·rw[aI q,aI q]; exact r.repl k ry
 ·rw[aH q,aH q]; exact Ub r ⟨rfl,hb,ry⟩
theorem KT.keeps{H H':Hp}{kvs:List (List aK × V)}{xs:List (List aK × jw × j8)}(r:KT H kvs xs)(ht:∀ b ys,H b=aA (.tup ys)->H' b=aA (.tup ys)):KT H' kvs xs:=
 Paired.mapP r λ_ _ z=>⟨z.1,ht _ _ z.2.1,z.2.2⟩
section
variable {P:jI}{w:Qe}{h:QN}
theorem Bq{u:HO}(ok:bw P w H h)(e:Rd H a u):ObjOk P w H h a u:=e.ok ok
theorem oF{kvs:List (aK × V)}(ok:bw P w H h)(e:Rd H a (.dK kvs)):kvs.length<=jr/\(a == ZS)=aD/\∃ vs,KV kvs vs/\h.DictOf (ef P w) a vs:=
 show ObjOk P w H h a (.dK kvs) from Bq ok e
theorem uB{kvs:List (aK × V)}(ok:bw P w H h)(e:H a=aA (.dK kvs)):kvs.length<=jr/\(a == ZS)=aD/\∃ vs,KV kvs vs/\h.DictOf (ef P w) a vs:=oF ok (.inl e)
theorem rf{ks:List aK}(ok:bw P w H h)(e:H a=aA (.tup (ks.map kV))):(Wa (ef P w)).is h ks a:=by
 obtain⟨_,its,r,o,h1,h2,n,h3⟩:=(show ObjOk P w H h a (.tup (ks.map kV)) from ok a _ e);exact⟨o,its.toArray,n,h1,h2,h3,by simpa using EX r⟩
theorem rQ{kvs:List (List aK × V)}(ok:bw P w H h)(e:Rd H a (.dT kvs)):kvs.length<=jr/\(a == ZS)=aD /\
  ∃ xs,KT H kvs xs/\h.DictOfH (Wa (ef P w)) a xs:=by
 obtain⟨z,y,xs,r,o,es,ep,h1,h2,h3,h4,h5⟩:=(show ObjOk P w H h a (.dT kvs) from Bq ok e);refine⟨z,y,xs,r,o,es,ep,h1,h2,h3,h4,λx hx=>?_,h5⟩;have all:∀ {l:List (List aK × V)} {m:List (List aK × jw × j8)},KT H l m->∀ x∈m,(Wa (ef P w)).is h x.1 x.2.1:=by
  intro l m q
  induction q with
  |nil=>intro x hx; exact nomatch hx
  |@cons p q ps qs hq t ih=>
   intro x hx;rcases jy.mp hx with e |hx
   ·subst e;exact rf ok (by rw[<-hq.1]; exact hq.2.1)
   ·exact ih x hx
 exact all r x hx
theorem HP{kvs:List (List aK × V)}(ok:bw P w H h)(e:H a=aA (.dT kvs)):kvs.length<=jr/\(a == ZS)=aD /\
  ∃ xs,KT H kvs xs/\h.DictOfH (Wa (ef P w)) a xs:=rQ ok (.inl e)
end
def DGet(H:Hp)(a:jw)(y:V)(r:Option V):Prop:=
 (∃ kvs k,Rd H a (.dK kvs)/\y=kV k/\r=fR kvs k)∨∃ kvs k b,Rd H a (.dT kvs)/\y=.ref b/\H b=aA (.tup (k.map kV))/\r=fR kvs k
def DPut(H:Hp)(a:jw)(y v:V)(H':Hp):Prop:=
 (∃ kvs k,H a=aA (.dK kvs)/\y=kV k/\kvs.length < jr/\H'=aR H a (.dK (dN kvs k v))) ∨
 ∃ kvs k b,H a=aA (.dT kvs)/\y=.ref b/\H b=aA (.tup (k.map kV))/\kvs.length < jr/\H'=aR H a (.dT (dN kvs k v))
theorem DGet.k{H:Hp}{a:jw}{kvs:List (aK × V)}{k:aK}(e:H a=aA (.dK kvs)):DGet H a (kV k) (fR kvs k):=.inl ⟨kvs,k,.inl e,rfl,rfl⟩
theorem DPut.k{H:Hp}{a:jw}{kvs:List (aK × V)}{k:aK}{v:V}(e:H a=aA (.dK kvs))(hl:kvs.length < jr):DPut H a (kV k) v (aR H a (.dK (dN kvs k v))):=.inl ⟨kvs,k,e,rfl,hl,rfl⟩
section
variable {y v:V}{u r:j8}{o:Option V}{A:Qh}{E:j8->jd->Prop}
theorem Inv.big(I:Inv X pc σ H s):ZS < s.heap.objs.size:=by
 have h:jT < s.heap.objs.size:=(I.mod.glob.keeps I.bk).lt;exact WW (by decide) h
theorem RG{Q:j8->jd->Prop}(hu:A.units+1 < gz)(I:Inv X pc σ H s)(g:DGet H a y (aA v))(ry:RelV y u)(h:∀ w' s',Inv X pc σ H s'->RelV v w'->Q w' s') :
  jJ (jO X.prog X.w) A (Jk (.ref a) u) Q E s:=by
 rcases g with ⟨kvs,k,e,ey,l⟩ |⟨kvs,k,b,e,ey,eb,l⟩
 ·subst ey;obtain⟨z,hd,vs,rel,dd⟩:=oF I.hok e;obtain⟨w',hw,rw'⟩:=RelO.some_of (v:=v) (o:=WH vs k) (by rw[l]; exact rel.val k)
  exact wpAny_getItem_of (oG ry) dd.mapOf hw (h w' _ (I.tok _) rw')
 ·subst ey;cases (show u=Qa b from ry);obtain⟨z,hd,xs,rel,dd⟩:=rQ I.hok e;obtain⟨w',hw,rw'⟩:=RelO.some_of (v:=v) (o:=(U1 xs k).map (·.2)) (by rw[l]; exact rel.val k)
  obtain⟨p,hp,hp2⟩:=Qm hw;refine wpAny_getItem_heap (gK hu) (rf I.hok eb) dd hp ?_;rw[hp2];exact h w' _ (I.tok _) rw'
theorem GY{Q:j8->jd->Prop}(hu:A.units+1 < gz)(I:Inv X pc σ H s)(g:DGet H a y o)(ry:RelV y u)(h:∀ s',Inv X pc σ H s'->Q (.bool o.isSome) s') :
  jJ (jO X.prog X.w) A (Z5 .In u (.ref a)) Q E s:=by
 rcases g with ⟨kvs,k,e,ey,l⟩ |⟨kvs,k,b,e,ey,eb,l⟩
 ·subst ey;obtain⟨z,hd,vs,rel,dd⟩:=oF I.hok e;refine wpAny_in_of (oG ry) hd dd.mapOf ?_;rw[<-(rel.val k).isSome_eq,<-l];exact h _ (I.tok _)
 ·subst ey;cases (show u=Qa b from ry);obtain⟨z,hd,xs,rel,dd⟩:=rQ I.hok e;refine wpAny_in_heap (gK hu) (rf I.hok eb) hd dd ?_;have q:=(rel.val k).isSome_eq;rw[gd] at q;rw[<-q,<-l];exact h _ (I.tok _)
theorem Ms{Q:j8->jd->Prop}(hu:A.units+1 < gz)(I:Inv X pc σ H s)(g:DGet H a y o)(ry:RelV y u)(h:∀ s',Inv X pc σ H s'->Q (.bool (!o.isSome)) s') :
  jJ (jO X.prog X.w) A (Z5 .NotIn u (.ref a)) Q E s:=by
 rcases g with ⟨kvs,k,e,ey,l⟩ |⟨kvs,k,b,e,ey,eb,l⟩
 ·subst ey;obtain⟨z,hd,vs,rel,dd⟩:=oF I.hok e;refine wpAny_notIn_of (oG ry) hd dd.mapOf ?_;rw[<-(rel.val k).isSome_eq,<-l];exact h _ (I.tok _)
 ·subst ey;cases (show u=Qa b from ry);obtain⟨z,hd,xs,rel,dd⟩:=rQ I.hok e;refine wpAny_notIn_heap (gK hu) (rf I.hok eb) hd dd ?_;have q:=(rel.val k).isSome_eq;rw[gd] at q;rw[<-q,<-l];exact h _ (I.tok _)
theorem sH{h':QN}{t':Nat}{ob:HO}(I:Inv X pc σ H s)(mu:tU (H a))(hs:Qp a s.heap h')(he:∃ q,h'.get? a=aA q)(new:ObjOk X.prog X.w (aR H a ob) h' a ob) :
  Inv X pc σ (aR H a ob) { s with heap:=h',toks:=t' }:=
 I.write (x:=a) (e:=a) mu (.inl rfl) (λb q hb z=>(hs.2 b hb).trans z) he new
theorem xW{P:jI}{w:Qe}{H':Hp}{h':QN}{kvs:List (aK × V)}{vs:List (aK × j8)}(z:kvs.length<=jr)(hd:(a == ZS)=aD)(rel:KV kvs vs)(dd:h'.DictOf (ef P w) a vs) :
  ObjOk P w H' h' a (.dK kvs):=⟨z,hd,vs,rel,dd⟩
theorem RH{H':Hp}{Q:Unit->jd->Prop}(hu:A.units+1 < gz)(I:Inv X pc σ H s)(g:DPut H a y v H')(ry:RelV y u)(rv:RelV v r)(h:∀ s',Inv X pc σ H' s'->Q () s') :
  jJ (jO X.prog X.w) A (setItem (.ref a) u r) Q E s:=by
 rcases g with ⟨kvs,k,e,ey,l,eH⟩ |⟨kvs,k,b,e,ey,eb,l,eH⟩
 ·subst ey eH;obtain⟨z,hd,vs,rel,dd⟩:=uB I.hok e;have hz:vs.length<=jr:=by rw[<-rel.length]; exact z
  have hl:(dN kvs k v).length<=jr:=by have:=t3 kvs k v; lia
  refine wpAny_setItem_pairs (hsz:=hz) (oG ry) dd λh' dd' hs=>h _ ?_;have he:∃ q,h'.get? a=aA q:=let ⟨q,_,_,hq,_⟩:=dd'; ⟨q,hq⟩
  exact sH I (by rw[e]; exact Zm) hs he (xW hl hd (rel.put k rv) dd')
 ·subst ey eH;cases (show u=Qa b from ry);obtain⟨z,hd,xs,rel,dd⟩:=HP I.hok e;have hz:xs.length<=jr:=by rw[<-YX rel]; exact z
  have hl:(dN kvs k v).length<=jr:=by have:=t3 kvs k v; lia
  refine wpAny_setItem_heap (hsz:=hz) (gK hu) (rf I.hok eb) dd λh' dd' hs=>h _ ?_;obtain⟨q,es,ep,hq,h2,h3,h4,_,h5⟩:=dd';refine sH I (by rw[e]; exact Zm) hs ⟨q,hq⟩ ⟨hl,hd,_,(rel.put k eb rv).keeps λc ys ec=>?_,q,es,ep,hq,h2,h3,h4,h5⟩
  rw[ac (IS ec e (λz=>nomatch z))]
  exact ec
end
section
variable {kvs:List (aK × V)}{k:aK}{u:j8}{A:Qh}{E:j8->jd->Prop}
theorem HN{Q:j8->jd->Prop}(I:Inv X pc σ H s)(e:Rd H a (.dK kvs))(h:∀ t s',Inv X pc σ H s'->Q (.int kvs.length t) s'):jJ (jO X.prog X.w) A (call (.builtin "len") [.ref a]) Q E s:=by
 obtain⟨z,hd,vs,rel,dd⟩:=oF I.hok e;refine call_len_dict hd dd (by rw[<-rel.length]; rw[ZL] at z; lia) ?_
 rw[<-rel.length];exact h _ _ (I.tok _)
end
def tZ(i:Q3):Prop:=∀ ov iv,W4 i aD ov iv=operate [ov,iv] (Jk ov iv)
theorem Ou{prog:jI}{w:Qe}{A:Qh}{E:j8->jd->Prop}{s:jd}{env:Env}{value slice:Q3}{pos:Pos}{T id:String}{Q:j8->jd->Prop}
  (hl:JG (.type T) "__getitem__"=pure (aA (.builtin id))) (hs:tZ slice)
  (h:jJ (jO prog w) A (eval value env) (λo s₁=>jJ (jO prog w) A (eval slice env) (λi s₂=>s₂.TypeIs o T/\jJ (jO prog w) A (Jk o i) Q E s₂) E s₁) E s) :
  jJ (jO prog w) A (eval (.Subscript value slice pos) env) Q E s:=by
 refine WE (jY h (λo s₁ h₁=>jY h₁ (λi s₂ h₂=>?_) λ_ _ x=>x) λ_ _ x=>x);obtain⟨hT,h₂⟩:=h₂;unfold N1;refine j4 ?_;rw[getitemInPython_of_ne hT.not_modules];refine j4 (wpAny_specialOf hT hl ?_);have fin:jJ (jO prog w) A (W4 slice aD o i) (λr s₃=>jJ (jO prog w) A (letTemporaryGo value o r >>= λ_=>pure r) Q E s₃) E s₂:=by
  rw[hs o i];exact wpAny_operating (jY h₂ (λr s₃ h₃=>j4 (wpAny_letTemporaryGo (jp h₃))) λ_ _ x=>x)
 first
  |exact jp (j4 fin)
  |exact j4 (jp (j4 fin))
  |exact j4 fin
theorem TV{X:Cx}{pc:List (jw × Obj)}{σ:St}{H:Hp}{s:jd}{a:jw}{y:V}{o:Option V}(I:Inv X pc σ H s)(g:DGet H a y o):s.TypeIs (.ref a) "dict":=by
 rcases g with ⟨kvs,k,e,_,_⟩ |⟨kvs,k,b,e,_,_,_⟩
 ·obtain⟨_,_,vs,_,dd⟩:=oF I.hok e;exact dd.typeIs
 ·obtain⟨_,_,xs,_,dd⟩:=rQ I.hok e;exact dd.typeIs
def IA(td ty:TE):TE:=fun σ H Q=>td σ H λx H1=>ty σ H1 λy H2=>∃ a v,x=.ref a/\DGet H2 a y (aA v)/\Q v H2
def G1(ty td:TE):TE:=fun σ H Q=>ty σ H λy H1=>td σ H1 λx H2=>∃ a o,x=.ref a/\DGet H2 a y o/\Q (.bl o.isSome) H2
def Ov(ty td:TE):TE:=fun σ H Q=>ty σ H λy H1=>td σ H1 λx H2=>∃ a o,x=.ref a/\DGet H2 a y o/\Q (.bl (!o.isSome)) H2
def xM(td ty tv:TE):TS:=λD σ H=>tv σ H λv H1=>td σ H1 λx H2=>ty σ H2 λy H3=>∃ a H4,x=.ref a/\DPut H3 a y v H4/\D.nx σ H4
section
variable {o i value:Q3}{pos' tpos:Pos}{td ty tv:TE}
theorem DC(hu:X.A.units+1 < gz)(ho:PE X o td)(hi:PE X i ty)(hs:tZ i):PE X (.Subscript o i pos) (IA td ty):=by
 intro pc s σ H Q I h;refine Ou PySem.F.slot_dict_getitem.lookup hs (aV (ho pc s σ H _ I h) λu s1 h_=>?_); obtain⟨x,H1,I1,rx,q1⟩:=h_; refine aV (hi pc s1 σ H1 _ I1 q1) λiv s2 h_=>?_; obtain⟨y,H2,I2,ry,a,v,ex,g,q2⟩:=h_;subst ex;obtain rfl:u=Qa a:=rx;exact⟨TV I2 g,RG hu I2 g ry λw' s3 I3 rw'=>⟨v,H2,I3,rw',q2⟩⟩
theorem LX(hu:X.A.units+1 < gz)(hi:PE X i ty)(ho:PE X o td):PC X .In i o (G1 ty td):=by
 intro pc s σ H Q I h;refine aV (hi pc s σ H _ I h) λiv s1 h_=>?_; obtain⟨y,H1,I1,ry,q1⟩:=h_; refine aV (ho pc s1 σ H1 _ I1 q1) λu s2 h_=>?_; obtain⟨x,H2,I2,rx,a,ov,ex,g,q2⟩:=h_;subst ex;obtain rfl:u=Qa a:=rx;exact GY hu I2 g ry λs3 I3=>⟨.bl ov.isSome,H2,I3,rfl,q2⟩
theorem EC(hu:X.A.units+1 < gz)(hi:PE X i ty)(ho:PE X o td):PC X .NotIn i o (Ov ty td):=by
 intro pc s σ H Q I h;refine aV (hi pc s σ H _ I h) λiv s1 h_=>?_; obtain⟨y,H1,I1,ry,q1⟩:=h_; refine aV (ho pc s1 σ H1 _ I1 q1) λu s2 h_=>?_; obtain⟨x,H2,I2,rx,a,ov,ex,g,q2⟩:=h_;subst ex;obtain rfl:u=Qa a:=rx;exact Ms hu I2 g ry λs3 I3=>⟨.bl (!ov.isSome),H2,I3,rfl,q2⟩
theorem OD(hu:X.A.units+1 < gz)(ho:PE X o td)(hi:PE X i ty)(hv:PE X value tv)(hs:ZX value (aA (.Subscript o i pos')) pos.line X.env=pure aD) :
  PS X (.Assign [.Subscript o i pos'] value pos) (xM td ty tv):=by
 intro pc s σ H D I h;refine wpAny_Assign_Subscript (aV (hv pc s σ H _ I h) λr s1 ⟨v,H1,I1,rv,q1⟩=>aV (ho pc s1 σ H1 _ I1 q1) λu s2 ⟨x,H2,I2,rx,q2⟩=>aV (hi pc s2 σ H2 _ I2 q2) λiv s3 ⟨y,H3,I3,ry,a,H4,ex,g,q3⟩=>?_) hs;subst ex;obtain rfl:u=Qa a:=rx;exact RH hu I3 g ry rv λs4 I4=>⟨σ,H4,I4,q3⟩
end
theorem yh{P:jI}{w:Qe}{H:Hp}(h:QN)(hb:ZS < h.objs.size):ObjOk P w H (h.push { cls:=.type "dict",data:=.dict #[] }) h.objs.size (.dK []):=
 ⟨QZ _,beq_eq_false_iff_ne.mpr (ZA (jG hb)),[],.nil,Heap.DictOf.new h⟩
def MD:TE:=λ_ H Q=>∀ p,H p=aB->Q (.ref p) (aR H p (.dK []))
section
theorem Pd:PE X (.Dict [] [] pos) MD:=λpc s σ H Q I h=>
 wpAny_Dict_empty ⟨.ref s.heap.objs.size,_,I.laid (a:=s.heap.objs.size) (o:=.dK []) (t':=s.toks) (λ_ _ q=>jb _ q) (ji _) (yh s.heap I.big),rfl,h _ (I.hok.fresh (ji _))⟩
end
def xr:List (TE × TE)->St->Hp->(List (V × V)->Hp->Prop)->Prop
 |[],_,H,Q=>Q [] H
 |(tk,tv)::r,σ,H,Q=>tk σ H λx H1=>tv σ H1 λy H2=>xr r σ H2 λps H3=>Q ((x,y)::ps) H3
abbrev VV:List (V × V)->List (j8 × j8)->Prop:=JB λp q=>RelV p.1 q.1/\RelV p.2 q.2
def wY(X:Cx)(pos:Pos)(keys:List (Option Q3))(values:List Q3)(trs:List (TE × TE)):Prop:=
 ∀(pc:List (jw × Obj)) (s:jd) (σ:St) (H:Hp) (Q:List (V × V)->Hp->Prop),Inv X pc σ H s->xr trs σ H Q->
  jJ (jO X.prog X.w) X.A (evalPairs (pairTrees keys values X.env pos)) (λvs s'=>∃ ps H',Inv X pc σ H' s'/\VV ps vs/\Q ps H') X.xe s
theorem OC{X:Cx}{pos:Pos}:wY X pos [] [] []:=λpc s σ H Q I h=>pairTrees_nil_walk ⟨[],H,I,.nil,h⟩
theorem Pr{X:Cx}{pos:Pos}{k v:Q3}{ks:List (Option Q3)}{vs:List Q3}{tk tv:TE}{trs:List (TE × TE)}(hk:PE X k tk)(hv:PE X v tv)(hr:wY X pos ks vs trs) :
  wY X pos (aA k::ks) (v::vs) ((tk,tv)::trs):=λpc s σ H Q I h=>
 pairTrees_cons_walk (aV (hk pc s σ H _ I h) λu s1 ⟨x,H1,I1,rx,q1⟩=>aV (hv pc s1 σ H1 _ I1 q1) λw2 s2 ⟨y,H2,I2,ry,q2⟩=>
  aV (hr pc s2 σ H2 _ I2 q2) λws s3 ⟨ps,H3,I3,rel,q3⟩=>⟨(x,y)::ps,H3,I3,.cons ⟨rx,ry⟩ rel,q3⟩)
def rg(kvs more:List (aK × V)):List (aK × V):=more.foldl (λacc kv=>dN acc kv.1 kv.2) kvs
theorem KV.merge:∀ {more:List (aK × V)} {rs:List (aK × j8)} {kvs:List (aK × V)} {vs:List (aK × j8)},KV more rs->KV kvs vs->KV (rg kvs more) (merged vs rs):=by
 intro more rs kvs vs r;unfold KV at r
 induction r generalizing kvs vs with
 |nil=>intro q; exact q
 |@cons p q ps qs h t ih=>
  intro r0;have e:KV (dN kvs p.1 p.2) (stored vs q.1 q.2):=by
   have:=r0.put p.1 h.2;rw[<-h.1]; exact this
  exact ih e
theorem FE:∀(more kvs:List (aK × V)),(rg kvs more).length<=kvs.length+more.length
 |[],kvs=>by show kvs.length<=kvs.length+0; lia
 |p::r,kvs=>by
  have h1:=FE r (dN kvs p.1 p.2);have h2:=t3 kvs p.1 p.2;show (rg (dN kvs p.1 p.2) r).length<=_;rw[jk]; lia
theorem Ej{P:jI}{w:Qe}:∀ {kvs:List (aK × V)} {ws:List (j8 × j8)},VV (kvs.map λkv=>(kV kv.1,kv.2)) ws->∃ rs,Carries (ef P w) ws rs/\KV kvs rs
 |[],_,r=>by rw[Zf] at r; cases r; exact⟨[],Zm,.nil⟩
 |p::kvs,_,r=>by
  rw[jq] at r;cases r with
  |@cons a b as bs h t=>
   obtain⟨rs,c,q⟩:=Ej (P:=P) (w:=w) t;obtain⟨b1,b2⟩:=b;exact⟨(p.1,b2)::rs,⟨oG h.1,rfl,c⟩,.cons ⟨rfl,h.2⟩ q⟩
def Ic(trs:List (TE × TE)):TE:=fun σ H Q=>∀ p,H p=aB->xr trs σ (aR H p (.dK [])) λps H2=>H2 p=aA (.dK [])/\∃ kvs:List (aK × V),ps=kvs.map (λkv=>(kV kv.1,kv.2))/\kvs.length<=15/\Q (.ref p) (aR H2 p (.dK (rg [] kvs)))
theorem Oh{X:Cx}{pos:Pos}{keys:List (Option Q3)}{values:List Q3}{trs:List (TE × TE)}(h:wY X pos keys values trs)(hall:keys.all (·.isSome)=aC)(hl:keys.length=values.length)(h0:keys≠[])
  (h15:keys.length<=15):PE X (.Dict keys values pos) (Ic trs):=by
 intro pc s σ H Q I q;have hn:=I.hok.fresh (ji s.heap.objs.size);have I1:=I.laid (a:=s.heap.objs.size) (o:=.dK []) (h':=s.heap.push { cls:=.type "dict",data:=.dict #[] }) (t':=s.toks) (λ_ _ q=>jb _ q) (ji _) (yh s.heap I.big);refine wpAny_Dict_walk (knd:=ef X.prog X.w) hall hl h0 h15 (aV (h pc _ σ _ _ I1 (q _ hn)) λws s2 ⟨ps,H2,I2,rel,e,kvs,ep,lk,q2⟩=>?_);subst ep;obtain⟨rs,c,rk⟩:=Ej (P:=X.prog) (w:=X.w) rel;obtain⟨z,hd,vs0,r0,dd⟩:=uB I2.hok e;cases r0;refine⟨rs,c,dd,λh' dd' hs=>⟨.ref s.heap.objs.size,_,?_,rfl,q2⟩⟩;have hz:(rg [] kvs).length<=jr:=by
  have h1:=FE kvs [];rw[ZE] at h1;rw[ZL]; lia
 have he:∃ q,h'.get? s.heap.objs.size=aA q:=let ⟨q,_,_,hq,_⟩:=dd'; ⟨q,hq⟩
 exact sH I2 (by rw[e]; exact Zm) hs he (xW hz hd (rk.merge .nil) dd')
end L2
namespace Att
open PySem PySem.W PySem.Calls PyProof.Rows
theorem Uq{P:Params}{h:QN}:∀(ns:List Int) (vs:List j8),WellAll P h vs (ns.map WData.int)->Jm vs ns:=by
 intro ns
 induction ns with
 |nil=>
  intro vs w;rw[Zf] at w;cases w;exact .nil
 |cons n ns ih=>
  intro vs w;rw[jq] at w;cases w with
  |cons a b=>
   cases a;exact .cons _ _ (ih _ b)
theorem Sm{l:OpenLaw}{n:Nat}(hn:l.most=aA n){P:Params}{h:QN}{args:List WData}{vals:List j8}
  (hpre:l.row.toRowW.claim.pre args=aC) (hwl:WellAll P h vals args) :
  ∃ a vs ns,vals=[Qa a]/\args=[WData.list (ns.map WData.int)]/\h.get? a=aA { cls:=.type "list",data:=.seq vs.toArray }/\Jm vs ns/\ns.length<=n:=by
 have hsh:WShape.hasAll [] args [.list .int]=aC:=(pre_splitW hpre).1;have hc:l.pre.holds [] { args:=args }=aC:=(pre_splitW hpre).2;obtain⟨d,r,rfl,h1,h2⟩:=hasAllW_cons hsh;obtain rfl:=hasAllW_nil h2;obtain⟨xs,rfl,h3⟩:=hasW_list h1;obtain⟨ns,rfl⟩:=items_int h3;have hlen:ns.length<=n:=by
  unfold OpenLaw.pre at hc;have h4:(WTm.not (.lt (.lit (.int (n:Int))) (.len (.arg 0)))).holds [] { args:=[.list (ns.map .int)] }=aC:=by
   have h4:=(holds_andW hc).1;rw[hn] at h4;exact h4
  have h5:=condW_of h4 (w_not (w_lt w_lit (w_len_list (w_arg rfl))));rw[j5] at h5;refine J7 λq=>?_;have q':(n:Int) < ((ns.length:Nat):Int):=by lia
  first
   |(rw[am q'] at h5; exact absurd h5 (by decide))
   |(simp at h5; lia)
 cases hwl with
 |cons w1 w2=>
  cases w2;cases w1 with
  |list ho hall=>exact⟨_,_,ns,rfl,rfl,ho,Uq ns _ hall,hlen⟩
theorem Rn(l:OpenLaw)(args:List WData):l.row.toRowW.claim.post args (.bool aC) args=aC:=
 postW_of (r:=l.row.toRowW) (X:=(aC == aC))
  (show Ug [] (.bool aC) .bool=aC by first |rfl |decide |simp[Ug,WShape.arms,WShape.armsAll])
  (show (WTm.eq .res (.lit (.bool aC))).value [] { args:=args,res:=aA (.bool aC),after:=args }=aA (.bool (aC == aC)) from w_eq_bool (w_res rfl) w_lit) rfl
theorem attach_call{l:OpenLaw}{n:Nat}{q:jI}{loose:List Str}{XP:(Str->Option j8)->QN->Prop}{YP:Qe->QN->Prop}{d:DefRec}
  (hn:l.most=aA n) (hdf:d.params.defaults=[])
  (call:∀(w:Qe) (s₀ s₁:jd) (mg mb:Str->Option j8) (fa:jw) (o:Obj) (pm cd doc:j8) (a:jw) (vs:List j8) (ns:List Int),
   Ground q loose [] XP w s₀ mg mb s₁.heap->YP w s₁.heap->
   s₁.heap.get? fa=aA o->o.data=.func (docDef d.name d.params d.body d.scope pm cd doc)->s₁.heap.CodeRec cd d.name->mg d.name=aA (.ref fa)->
   s₁.heap.get? a=aA { cls:=.type "list",data:=.seq vs.toArray }->Jm vs ns->ns.length<=n->s₁.gens=#[]->
   Yg (jO l.prog w) WI (.call (.ref fa) ⟨[.ref a],[]⟩) (λr s'=>r=.ok (.ret (.bool aC))/\OldK s₁.heap s'.heap/\s'.os=s₁.os/\YY s'.gens) s₁) :
  WalkO q loose XP YP l.row.toRowW d [] (λf vs=>JI f vs):=by
 intro w s₀ s₁ mg mb G Y fa o pm cd doc dV kV ho hd hcd hD hmg hg args vals as hpre hlay hrd hwl hlo;obtain rfl:dV=.none:=Dflts.none hD hdf;obtain rfl:kV=.none:=Dflts.noKw hD;obtain⟨a,vs,ns,rfl,rfl,hobj,hints,hlen⟩:=Sm hn hpre hwl;refine enter_call (Yu (call w s₀ s₁ mg mb fa o pm cd doc a vs ns G Y ho (fd_plain hd) hcd hmg hobj hints hlen hg) λr s' hq=>?_);obtain⟨rfl,h2,h3,h4⟩:=hq;exact⟨.inl ⟨.bool aC,.bool aC,[],rfl,λ_=>rfl,.bool aC,Rn l _,λ_=>⟨WJ,λ_ hm=>(nomatch hm)⟩⟩,h2,h3,h4⟩
end Att
namespace L2
open PySem PySem.Spec PyProof.Rows
variable {w:Qe}{X:Cx}{N:List Str}{scope:gQ}{caps:List (Option Nat)}{s:jd}{prog:jI}{A:Qh}{pos:Pos}
theorem Ef:∀ {vs:List j8} {ns:List Int},Jm vs ns->Vals (ns.map V.int) vs
 |_,_,.nil=>.nil
 |_,_,.cons n t h=>.cons ⟨t,rfl⟩ (Ef h)
def tf(H:Hp):Prop:=∀ b,H b=aB∨∃ o xs,H b=aA (.frz o (.lst xs))
theorem PU{P:jI}{w:Qe}{K:j9}{mg mb:Str->Option j8}{CX:fP}{k:Nat}{fa a:jw}{fd:Z9}{x:Str}{sp:Sp}{s₁:jd}{vs:List j8}{ns:List Int}
  (KX:K.In s₁.heap) (hns:s₁.heap.Ns jT mg) (hb:s₁.heap.Ns JC mb) (hbb:∀ x:Str,x≠"__name__"->mb x=Qu x) (hlim:s₁.heap.NoLimit) (hg:s₁.gens=#[])
  (ha:s₁.heap.get? a=aA { cls:=.type "list",data:=.seq vs.toArray }) (hi:Jm vs ns) (hl:ns.length<=jr) (hr:Room k WI)
  (F:∀ base:QN,K.In base->base.Ns jT mg->FnOk P w K mg base CX k fa fd [x] sp) (hbind:∀(s:jd) (u:j8),W3 s fd ⟨[u],[]⟩ [(x,u)])
  (hsp:∀ H:Hp,tf H->ad K H a (ns.map V.int)->sp [.ref a] H (λv _=>v=.bl aC) λ_ _ _=>False)
  (hCX:∀ H e s',CX [] H s₁ (λ_ _ _=>False) e s'->False) :
  Yg (jO P w) WI (.call (.ref fa) ⟨[.ref a],[]⟩) (λr s'=>r=.ok (.ret (.bool aC))/\OldK s₁.heap s'.heap/\s'.os=s₁.os/\YY s'.gens) s₁:=by
 have rv:=Ef hi;have lenV:=hi.length
 -- from an abstract heap in which nothing but the script may be tracked
 have core:∀ H:Hp,tf H->ad K H a (ns.map V.int)->bw P w H s₁.heap->(∀ b,H b≠aB->b=a)->(H a≠aB->K.lookup a=aB)->
   Yg (jO P w) WI (.call (.ref fa) ⟨[.ref a],[]⟩) (λr s'=>r=.ok (.ret (.bool aC))/\OldK s₁.heap s'.heap/\s'.os=s₁.os/\YY s'.gens) s₁:=by
  intro H hO hS hok hA hK;have base_of:∀ {b:jw} {o:Obj},s₁.heap.get? b=aA o->H b=aB->(lK s₁.heap H).get? b=aA o:=λe n=>PQ e n;have noA:∀ {b:jw} {o:Obj} {es:Array DictEntry} {ep:Nat},s₁.heap.get? b=aA o->o.data=.dict es ep->H b=aB:=λ{b o es ep} e d=>by
   cases q:H b with
   |none=>rfl
   |some u=>
    have e':b=a:=hA b (by rw[q]; simp)
    subst e';rw[ha] at e; cases e;have d':Ue vs.toArray _=Data.dict es ep:=d;cases d'
  have nsK:∀ {b:jw} {m:Str->Option j8},s₁.heap.Ns b m->(lK s₁.heap H).Ns b m:=λ{b m} ⟨o,es,ep,e,d,r⟩=>⟨o,es,ep,base_of e (noA e d),d,r⟩
  have hKb:K.In (lK s₁.heap H):=λb o e=>base_of (KX b o e) (by
   cases q:H b with
   |none=>rfl
   |some u=>
    have e':b=a:=hA b (by rw[q]; simp)
    subst e'
    rw[hK (by rw[q]; simp)] at e; cases e)
  have hM:Mod K mg (lK s₁.heap H):=⟨hKb,nsK hns,⟨mb,nsK hb,hbb⟩,let ⟨mc,h1,h2⟩:=hlim; ⟨mc,nsK h1,h2⟩⟩
  have e0:Env0 P w K mg (lK s₁.heap H) WI [] s₁ H:=⟨rfl,hM,λb o e=>Oa e,Nat.le_of_eq (Rz _ _),trivial,λb hb=>absurd (show b∈([]:List jw) from hb) (by simp),hok,.of_eq hg⟩
  refine Yu ((F _ hKb (nsK hns)).run WI [] s₁ H ⟨[.ref a],[]⟩ [.ref a] [.ref a] _ _ hr e0 (hbind s₁ (.ref a)) (.cons rfl .nil) (hsp H hO hS)) λr s' h=>?_;cases r with
  |error e=>exact(hCX H e s' h).elim
  |ok fl=>
   cases fl with
   |next=>exact Zl h
   |brk=>exact Zl h
   |cont=>exact Zl h
   |ret u=>
    obtain⟨v,H',os,bare,un,hok',r',q⟩:=h;have q':v=.bl aC:=q;subst q';obtain rfl:u=Jz aC:=r';refine⟨rfl,OldK.of_keep λb o e=>?_,os,bare⟩;cases q:H b with
    |none=>exact un.keep b o e q (by intro z; exact absurd (show b∈([]:List jw) from z) (by simp)) (by simp)
    |some u=>
     rcases hO b with z |⟨ob,xs,z⟩
     ·rw[q] at z; cases z
     ·have z2:=un.frzs b ob _ z;obtain⟨e1,_⟩:=hok b _ z;obtain⟨e2,_⟩:=hok' b _ z2;rw[e] at e1; cases e1;exact e2
 cases hk:K.lookup a with
 |some o=>
  -- the script is one of the module's own objects
  have e:=KX a o hk;rw[ha] at e;cases e;refine core (λ_=>aB) (λ_=>.inl rfl) (.inr ⟨_,vs.toArray,_,hk,rfl,rfl,rfl,by rw[ju,lenV]; exact hl,by simpa using rv⟩) (λb u z=>by have z':(aB:Option HO)=aA u:=z; cases z') (λb z=>absurd rfl z) λz=>absurd rfl z
 |none=>
  refine core (λb=>if b=a then aA (.frz { cls:=.type "list",data:=.seq vs.toArray } (.lst (ns.map V.int))) else aB) (λb=>?_) (.inl (.inr ⟨{ cls:=.type "list",data:=.seq vs.toArray },aI rfl⟩)) (λb u z=>?_) (λb z=>?_) λ_=>hk
  ·by_cases hb:b=a
   ·exact .inr ⟨_,_,aI hb⟩
   ·exact .inl (aH hb)
  ·by_cases hb:b=a
   ·have z':=(aI hb).symm.trans z;cases z';subst hb;exact⟨ha,by rw[j5]; exact hl,vs,_,rv,ha⟩
   ·have z':=(aH hb).symm.trans z;cases z'
  ·by_cases hb:b=a
   ·exact hb
   ·exact absurd (aH hb) z
theorem PF{l:Yj}{n k:Nat}{q:jI}{loose:List Str}{XP:(Str->Option j8)->QN->Prop}{YP:Qe->QN->Prop}{d:DefRec}{K:Params->j9}{CX:Qe->fP}{sp:Qe->Sp}{x:Str}
  (hn:l.most=aA n) (hn2:n<=jr) (hdf:d.params.defaults=[]) (hr:Room k WI)
  (hY:∀(w:Qe) (h:QN),YP w h->(K w.params).In h)
  (F:∀(w:Qe) (mg:Str->Option j8) (fa:jw) (h:QN),(K w.params).In h->h.Ns jT mg->mg d.name=aA (.ref fa)->
   ∃ fd:Z9,(∀(s:jd) (u:j8),W3 s fd ⟨[u],[]⟩ [(x,u)]) /\
    ∀ base:QN,(K w.params).In base->base.Ns jT mg->FnOk l.prog w (K w.params) mg base (CX w) k fa fd [x] (sp w))
  (hsp:∀(w:Qe) (H:Hp) (a:jw) (ns:List Int),ns.length<=n->tf H->ad (K w.params) H a (ns.map V.int)->sp w [.ref a] H (λv _=>v=.bl aC) λ_ _ _=>False)
  (hCX:∀(w:Qe) (H:Hp) (s:jd) (e:j8) (s':jd),CX w [] H s (λ_ _ _=>False) e s'->False) :
  JN q loose XP YP l.row.toRowW d [] (λf vs=>JI f vs):=by
 refine Att.attach_call hn hdf λw s₀ s₁ mg mb fa o pm cd doc a vs ns G Y ho hd hcd hmg hobj hints hlen hg=>?_;have KX:=hY w _ Y;obtain⟨fd,hb,hF⟩:=F w mg fa _ KX G.T.g hmg;exact PU KX G.T.g G.T.b G.T.builtins G.T.nolimit hg hobj hints (Q9 hlen hn2) hr hF hb (λH hO hS=>hsp w H a ns hlen hO hS) λH e s'=>hCX w H s₁ e s'
def fU(s:QR):Wg:=match s with
 |.FunctionDef _ a _ _ _ _ _ _ _ _=>a
 |_=>{ posonlyargs:=[],args:=[],vararg:=aB,kwonlyargs:=[],kw_defaults:=[],kwarg:=aB,defaults:=[] }
def dO(s:QR):List QR:=match s with
 |.FunctionDef _ _ b _ _ _ _ _ _ _=>b
 |_=>[]
def aZ(s:QR):gQ:=match s with
 |.FunctionDef _ _ _ _ _ _ sc _ _ _=>sc
 |_=>{ kind:=.function,names:=[],isGenerator:=aD,isCoroutine:=aD }
abbrev dl:fP:=λ_ _ _ _ _ _=>False
abbrev E0:XK:=λ_ _ _=>False
theorem qK{X:Cx}:nL dl X E0:=λ_ _ _ _ _ _ _ h=>h.elim
structure Fun (K:j9) (x qual:Str) (st:QR) (f:jw) (fd:Z9):Prop where
 ex:∃(oc:j8) (od:Option jw) (kV doc pm:j8) (an:Option jw) (cdv ct:j8) (osl:Array (Option j8)),
  fd=Q0 x qual (fU st) (dO st) (aZ st) .none kV doc pm an cdv ct/\K.lookup f=aA ⟨oc,od,.func fd,osl⟩/\Z2 K cdv qual=aC
 kp:Q6 K (.ref f)=aC
section
variable {P:jI}{K:j9}{mg:Str->Option j8}{base:QN}
theorem Fun.ok{x qual:Str}{st:QR}{f:jw}{fd:Z9}{N ps:List Str}{k:Nat}{sp:Sp}(F:Fun K x qual st f fd)(S:FnScope N ps (aZ st))(len:∀ vs H Q E,sp vs H Q E->vs.length=ps.length)
  (hbody:∀(cdv:j8) (A:Qh) (outer:List Env) (s:jd) (H:Hp) (vs:List V) (Q:VK) (E:XK),Room k (A.deeper (Zy qual (aZ st) s.heap.objs.size f cdv))->sp vs H Q E->
   ∃ t,bv (dr dl P w K mg base N qual (aZ st) f cdv A outer s H E).nox (dO st) t/\t { nx:=λ_ H'=>Q .non H',rt:=Q } (start N vs) H):FnOk P w K mg base dl (k+1) f fd ps sp:=by
 obtain⟨oc,od,kV,doc,pm,an,cdv,ct,osl,rfl,lk,hcd⟩:=F.ex;refine HW lk hcd S len λA outer s H vs Q E hr hsp=>?_;obtain⟨t,h,q⟩:=hbody cdv A outer s H vs Q E hr hsp;exact⟨t,h.nox,q⟩
theorem Fun.binds{x qual:Str}{st:QR}{f:jw}{fd:Z9}{ps:List Str}(F:Fun K x qual st f fd)
  (h:∀(kV doc pm:j8) (an:Option jw) (cdv ct:j8) (us:List j8),us.length=ps.length->Ye (Q0 x qual (fU st) (dO st) (aZ st) .none kV doc pm an cdv ct) ⟨us,[]⟩=pure (ps.zip us)):Binds K fd ps []:=by
 obtain⟨oc,od,kV,doc,pm,an,cdv,ct,osl,rfl,lk,hcd⟩:=F.ex;exact .all (h kV doc pm an cdv ct)
theorem CK{x qual:Str}{st:QR}{f:jw}{oc:j8}{od an:Option jw}{osl:Array (Option j8)}{kV doc pm cdv ct:j8}(l:K.lookup f=aA ⟨oc,od,.func (Q0 x qual (fU st) (dO st) (aZ st) .none kV doc pm an cdv ct),osl⟩)
  (c:Z2 K cdv qual=aC) (k:Q6 K (.ref f)=aC):Fun K x qual st f (Q0 x qual (fU st) (dO st) (aZ st) .none kV doc pm an cdv ct):=⟨⟨oc,od,kV,doc,pm,an,cdv,ct,osl,rfl,l,c⟩,k⟩
end
theorem cz{A:Qh}{k:Nat}(hr:Room k A):A.units+1 < gz:=gL (Nat.add_le_add_left (by decide:1<=64) _) hr.units
section
theorem pv(i:Nat){x:Str}{pos:Pos}(hN:X.N[i]?=aA x:=by rfl)(hv:tR X.env.scope x:=by first |exact jD rfl |exact ZP (jD rfl) |exact ZP (ZP rfl))(hd:(x == ("__debug__":Str))=aD:=by decide)
  (hcd:(x == ("__classdict__":Str))=aD:=by decide):PE X (.Name x pos) (cH i):=Lx hN hv hd hcd
end
theorem Inv.forget{X:Cx}{pc:List (jw × Obj)}{sg sg':St}{H:Hp}{s:jd}(I:Inv X pc sg H s)(hl:sg'.length=sg.length)(h:∀(i:Nat) (v:V),sg'[i]?=aA (aA v)->sg[i]?=aA (aA v)):Inv X pc sg' H s:=by
 obtain⟨m,hn,hm⟩:=I.loc;exact⟨I.ok,I.os,I.bare,I.base,⟨m,hn,λi x v e1 e2 e3=>hm i x v e1 (h i v e2) e3⟩,I.cell,I.free,I.freeC,I.pin,I.hok,by rw[hl]; exact I.len⟩
def bc(X:Cx)(N:List Str)(scope:gQ)(cl:List (Str × jw))(C:jw)(s0:jd)(H0:Hp)(fp:List jw):Cx where
 prog:=X.prog
 w:=X.w
 K:=X.K
 mg:=X.mg
 base:=X.base
 A:=X.A
 N:=N
 s₀:=s0
 H₀:=H0
 env:=Je scope cl C X.env
 outer:=X.stack
 stack:=X.stack
 ex:=fp
 fn:=λ_=>aD
 calm:=X.calm
 pn:=[]
 xe:=λ_ _=>False
def capOk(N:List Str)(XN:List Str)(sc outer:gQ)(caps:List (Option Nat)):Bool:=
 aE (caps.length=N.length)&&((j6 caps.length).all λi=>match caps[i]? with
  | some (aA j)=>(match N[i]?,XN[j]? with
   |some x,aA y=>x == y&&sc.names.lookup x == aA .free&&(outer.names.lookup x == aA .cell||outer.names.lookup x == aA .free)
   | _,_=>aD)
  | _=>aC)
def cK(caps:List (Option Nat))(sg:St):St:=caps.map λo=>o.bind λj=>(sg[j]?).join
theorem capOk.len{N XN:List Str}{sc outer:gQ}{caps:List (Option Nat)}(h:capOk N XN sc outer caps=aC):caps.length=N.length:=by
 unfold capOk at h;rw[jL] at h;exact of_decide_eq_true h.1
theorem capOk.get{N XN:List Str}{sc outer:gQ}{caps:List (Option Nat)}(h:capOk N XN sc outer caps=aC){i j:Nat}(e:caps[i]?=aA (aA j)) :
  ∃ x,N[i]?=aA x/\XN[j]?=aA x/\sc.names.lookup x=aA .free/\(outer.names.lookup x=aA .cell∨outer.names.lookup x=aA .free):=by
 unfold capOk at h;rw[jL] at h;have hi:i < caps.length:=(j7.mp e).1;have q:=jz.mp h.2 i (jc.mpr hi);rw[e] at q;dsimp only at q;cases h1:N[i]? with
 |none=>rw[h1] at q; cases q
 |some x=>
  cases h2:XN[j]? with
  |none=>rw[h1,h2] at q; cases q
  |some y=>
   rw[h1,h2] at q;dsimp only at q;rw[jL,jL,Zg] at q;obtain⟨⟨q1,q2⟩,q3⟩:=q;have e1:x=y:=eq_of_beq q1;subst e1;exact⟨x,rfl,rfl,by simpa using q2,q3.imp (λz=>by simpa using z) λz=>by simpa using z⟩
theorem zR{env:Env}:∀(names:List (Str × N0)) (acc:List (Str × jw)),(∀ x,(x,Qt)∈names->∃ c,env.cells.lookup x=aA c)->
  ∃ cl,(forIn (m:=Sem) names acc fun(p:Str × N0) cs=>(if p.2 == Qt then (do let c <-cellOf env p.1; pure (Qk ((p.1,c)::cs))) else pure (Qk cs)))=pure cl /\
   (∀ p∈cl,p∈acc∨env.cells.lookup p.1=aA p.2)/\(∀ p∈acc,p∈cl)/\(∀ x,(x,Qt)∈names->∃ c,(x,c)∈cl)
 |[],acc,_=>⟨acc,rfl,λp hp=>.inl hp,λp hp=>hp,λx hx=>nomatch hx⟩
 |(n,k)::r,acc,h=>by
  by_cases hk:k=.free
  ·subst hk;obtain⟨c,hc⟩:=h n jW;obtain⟨cl,e,h1,h2,h3⟩:=zR r ((n,c)::acc) λx hx=>h x (jA _ hx);refine⟨cl,?_,λp hp=>?_,λp hp=>h2 p (jA _ hp),λx hx=>?_⟩
   ·rw[Yk,aI (by rfl)]
    show (do let c <-cellOf env n; pure (Qk ((n,c)::acc)):Sem _) >>= _=_
    rw[cellOf,hc];exact e
   ·rcases h1 p hp with z |z
    ·rcases jy.mp z with z |z
     ·subst z; exact .inr hc
     ·exact .inl z
    ·exact .inr z
   ·rcases jy.mp hx with z |z
    ·injection z with z1 _;subst z1;exact⟨c,h2 _ jW⟩
    ·exact h3 x z
  ·obtain⟨cl,e,h1,h2,h3⟩:=zR r acc λx hx=>h x (jA _ hx);refine⟨cl,?_,h1,h2,λx hx=>?_⟩
   ·rw[Yk,aH (by simpa using hk)]
    exact e
   ·rcases jy.mp hx with z |z
    ·injection z with _ z2;exact absurd z2.symm hk
    ·exact h3 x z
theorem vj{scope:gQ}{env:Env}(h:∀ x,(x,Qt)∈scope.names->∃ c,env.cells.lookup x=aA c) :
  ∃ cl,closureFor scope env=pure cl/\(∀ p∈cl,env.cells.lookup p.1=aA p.2)/\(∀ x,(x,Qt)∈scope.names->∃ c,(x,c)∈cl):=by
 obtain⟨cl,e,h1,_,h3⟩:=zR scope.names [] h;refine⟨cl,?_,λp hp=>(h1 p hp).resolve_left (by simp),h3⟩
 have e2:closureFor scope env=((forIn (m:=Sem) scope.names ([]:List (Str × jw)) fun(p:Str × N0) cs=>(if p.2 == Qt then (do let c <-cellOf env p.1; pure (Qk ((p.1,c)::cs))) else pure (Qk cs))) >>= λcs=>pure cs):=rfl
 rw[e2,e];rfl
theorem lF{α β:Type}[BEq α][LawfulBEq α]{x:α}{y:β}:∀ {l:List (α × β)},l.lookup x=aA y->(x,y)∈l
 |(a,b)::r,h=>by
  rw[ZQ] at h;cases hx:x == a with
  |true=>
   rw[hx] at h;have e:b=y:=jh h;rw[eq_of_beq hx,e];exact jW
  |false=>rw[hx] at h; exact jA _ (lF h)
theorem AV{α β:Type}[BEq α][LawfulBEq α]{x:α}{y:β}:∀ {l:List (α × β)},(x,y)∈l->∃ z,l.lookup x=aA z
 |(a,b)::r,h=>by
  rw[ZQ];cases hx:x == a with
  |true=>exact⟨b,rfl⟩
  |false=>
   rcases jy.mp h with z |z
   ·injection z with z1 _;rw[z1] at hx;simp at hx
   ·exact AV z
theorem Ts{scope:gQ}{env:Env}(hcell:∀ y∈scope.names,y.2≠.cell){x:Str}(h:(JO scope env).names.lookup x=aA .cell∨(JO scope env).names.lookup x=aA .free):(x,Qt)∈scope.names:=by
 have key:∀ k,(x,k)∈(JO scope env).names->k=.cell∨k=.free->(x,Qt)∈scope.names:=λk hm hk=>by
  obtain⟨⟨n,k'⟩,hn,e⟩:=jx.mp hm;dsimp only at e;split at e
  ·rename_i hc;injection e with e1 e2;subst e1;have:k'=.free:=by
    simp only[jL] at hc;simpa using hc.1.1
   subst this;exact hn
  ·injection e with e1 e2;subst e1; subst e2;rcases hk with z |z
   ·subst z; exact absurd rfl (hcell _ hn)
   ·subst z; exact hn
 rcases h with h |h
 ·exact key _ (lF h) (.inl rfl)
 ·exact key _ (lF h) (.inr rfl)
theorem F9{env:Env}{x:Str}:∀ {names:List (Str × N0)},names.lookup x=aA .free->
  (names.map fun(n,k)=>if (k == Qt&&env.scope.kind == .function&&env.kindOf n == aA .cell) then (n,JP) else (n,k)).lookup x=aA .cell ∨
  (names.map fun(n,k)=>if (k == Qt&&env.scope.kind == .function&&env.kindOf n == aA .cell) then (n,JP) else (n,k)).lookup x=aA .free
 |(n,k)::r,h=>by
  rw[ZQ] at h;rw[jq];cases hx:x == n with
  |true=>
   rw[hx] at h;have e:k=.free:=jh h;subst e;dsimp only;split
   ·left; rw[ZQ,hx]
   ·right; rw[ZQ,hx]
  |false=>
   rw[hx] at h;have ih:=F9 (env:=env) h;dsimp only;split<;>(rw[ZQ,hx]; exact ih)
section
variable {cl:List (Str × jw)}{pc:List (jw × Obj)}{sg:St}{H:Hp}{fp:List jw}{h1:QN}{tk:Nat}{m0:Str->Option j8}
theorem se(hkind:scope.kind=.function)(hcell:∀ y∈scope.names,y.2≠.cell)(I:Inv X pc sg H s)
  (hcl1:∀ p∈cl,X.env.cells.lookup p.1=aA p.2) (hcl2:∀ x,(x,Qt)∈scope.names->∃ c,(x,c)∈cl)
  (hf:∀ b∈fp,ez X pc H b) (hlt:∀ b∈fp,b < s.heap.objs.size):(bc X N scope cl s.heap.objs.size s H fp).Ok where
 mod:=I.ok.mod
 kind:=hkind
 glob:=I.ok.glob
 blt:=I.ok.blt
 above:=ji _
 inj:=λx y c hx hy=>I.ok.inj x y c (hcl1 (x,c) (lF hx)) (hcl1 (y,c) (lF hy))
 has:=λx hx=>by
  obtain⟨c,hc⟩:=hcl2 x (Ts hcell hx);exact AV hc
 cab:=λx c hx=>nomatch hx
 hd:=I.ok.hd
 frames:=I.ok.frames
 stk:=.inl rfl
 exf:=λb hb=>⟨jG (hlt b hb),λx c hx=>(hf b hb).2.2.2.2.1 x c (hcl1 (x,c) (lF hx))⟩
 bs:=I.bs
 bsz:=Q9 I.ok.bsz I.sz
 noex:=λb o e hb=>by
  rcases(hf b hb).2.2.2.1 with z |z
  ·exact I.ok.noex b o e z
  ·exact absurd (jZ (jo e) (Q9 I.ok.bsz z)) (Q4 _)
 exfs:=λb hb z=>by
  rcases jy.mp (I.stkSub b z) with e |e
  ·exact(hf b hb).2.1 e
  ·exact(hf b hb).2.2.1 e
 funs:=I.stack
 frf:=I.stkFree
theorem Ek(hcap:capOk N X.N scope X.env.scope caps=aC)(hkind:scope.kind=.function)(hcell:∀ y∈scope.names,y.2≠.cell)(I:Inv X pc sg H s)
  (hcl1:∀ p∈cl,X.env.cells.lookup p.1=aA p.2) (hcl2:∀ x,(x,Qt)∈scope.names->∃ c,(x,c)∈cl)
  (hf:∀ b∈fp,ez X pc H b) (hlt:∀ b∈fp,b < s.heap.objs.size) (hk:∀ b u,s.heap.get? b=aA u->h1.get? b=aA u) (hns:h1.Ns s.heap.objs.size m0) :
  Inv (bc X N scope cl s.heap.objs.size s H fp) [] (cK caps sg) H { s with heap:=h1,toks:=tk } where
 ok:=se hkind hcell I hcl1 hcl2 hf hlt
 os:=rfl
 bare:=I.bare
 base:=Un.kept hk
 loc:=by
  refine⟨m0,hns,λi x v e1 e2 e3=>?_⟩;have e2':∃ j,caps[i]?=aA (aA j)/\sg[j]?=aA (aA v):=by
   unfold cK at e2;rw[jg] at e2;cases hc:caps[i]? with
   |none=>rw[hc] at e2; simp at e2
   |some o=>
    rw[hc] at e2;cases o with
    |none=>simp at e2
    |some j=>
     refine⟨j,rfl,?_⟩;simp only[jR,ja,Option.some.injEq] at e2;cases hj:sg[j]? with
     |none=>rw[hj] at e2; simp at e2
     |some y=>rw[hj] at e2; simp at e2; rw[e2]
  obtain⟨j,hj1,hj2⟩:=e2';obtain⟨x',n1,n2,f1,f2⟩:=capOk.get hcap hj1;have e1':N[i]?=aA x:=e1;rw[e1'] at n1;obtain rfl:x=x':=jh n1;obtain⟨m,hn,hm⟩:=I.loc;obtain⟨u,ru,l⟩:=hm j x v n2 hj2 (f2.elim (λz=>.inr (.inl z)) λz=>.inr (.inr z));refine⟨u,ru,.inr ⟨F9 f1,?_⟩⟩;rcases l with ⟨k,_⟩ |⟨_,c,hc,hcell⟩
  ·have k':X.env.scope.names.lookup x=aA .local:=k;rcases f2 with z |z<;>(rw[k'] at z; cases z)
  ·obtain⟨c',hc'⟩:=hcl2 x (lF f1);obtain⟨c'',hc''⟩:=AV hc';have q:X.env.cells.lookup x=aA c'':=hcl1 (x,c'') (lF hc'');rw[hc] at q;obtain rfl:c=c'':=jh q;obtain⟨o,ho,hd⟩:=hcell;exact⟨c,hc'',o,hk c o ho,hd⟩
 cell:=λx c hx=>by
  obtain⟨v,o,ho,hd⟩:=I.cell x c (hcl1 (x,c) (lF hx));exact⟨v,o,hk c o ho,hd⟩
 free:=I.hok.fresh (ji _)
 freeC:=λx c hx=>I.freeC x c (hcl1 (x,c) (lF hx))
 pin:=λp hp=>nomatch hp
 hok:=I.hok.kept hk
 len:=by
  show (cK caps sg).length=N.length;unfold cK;rw[j5];exact capOk.len hcap
end
def im(X:Cx)(ifs:List Q3)(t:TT):Prop:=
 ∀(pc:List (jw × Obj)) (s:jd) (sg:St) (H:Hp) (Q:Bool->Hp->Prop),Inv X pc sg H s->t sg H Q->
  jJ (jO X.prog X.w) X.A (forIn ifs aC λc r=>if r=aC then do let ok <-JD c X.env (eval c X.env); pure (Qk ok) else pure (Qk r)) (TP X pc sg Q) X.xe s
def wu:TT:=λ_ H Q=>Q aC H
theorem OG{X:Cx}:im X [] wu:=λ_ _ _ H _ I h=>wpAny_tests_nil ⟨H,I,h⟩
theorem OH{X:Cx}{c:Q3}{t:TT}(h:PT X c t):im X [c] t:=λpc s sg H Q I hq=>wpAny_tests_one (h pc s sg H Q I hq)
section
variable {R:JF->jd->Prop}
theorem Tz{elt target iter:Q3}{ifs:List Q3}{scope:gQ}{pos:Pos}{it acc:j8}{env:Env}(I:Nat->jd->Prop)
  (turn:∀ n s,I n s->jJ (jO prog w) A (NX it) (λr s1=>match r with
   |none=>R (.ok .next) s1
   | some v=>jJ (jO prog w) A (ZY target it v) (λ_ s1'=>jJ (jO prog w) A (gZ target env v) (λ_ s2=>
     jJ (jO prog w) A (forIn ifs aC λc r=>if r=aC then do let ok <-JD c env (eval c env); pure (Qk ok) else pure (Qk r)) (λok s3=>
      if ok=aC then jJ (jO prog w) A (eval elt env) (λx s4=>
       jJ (jO prog w) A (call (.builtin "list.append") [acc,x]) (λ_ s5=>∃ m,m < n/\I m s5) (λ_ _=>False) s4) (λ_ _=>False) s3
      else ∃ m,m < n/\I m s3) (λ_ _=>False) s2) (λ_ _=>False) s1') (λ_ _=>False) s1) (λ_ _=>False) s)
  (n:Nat) (h:I n s) :
  Yg (jO prog w) A (.compLoop (.ListComp elt [⟨target,iter,ifs,0⟩] scope pos) 0 it acc env) R s:=by
 refine codeAny_loop rfl I (λn s hI=>?_) n h;show jJ _ A ((compTurn (.ListComp elt [⟨target,iter,ifs,0⟩] scope pos) 0 it acc env).onRaise (λx=>do Jn x env; theTreesLotGoes x)) _ _ s
 refine wpAny_noted ?_;rw[compTurn_list];refine j4 (Zd (j4 (jY (turn n s hI) (λr s1 h1=>?_) λ_ _ h'=>h'.elim)));cases r with
 |none=>exact jp h1
 |some v=>
  refine j4 (jY h1 (λ_ s1' h1'=>?_) λ_ _ h'=>h'.elim);refine j4 (jY h1' (λ_ s2 h2=>j4 (jY h2 (λok s3 h3=>?_) λ_ _ h'=>h'.elim)) λ_ _ h'=>h'.elim);cases ok with
  |false=>exact jp ⟨rfl,h3⟩
  |true=>
   exact j4 (j4 (jY h3 (λx s4 h4=>j4 (jY h4 (λ_ s5 h5=>jp (jp ⟨rfl,h5⟩)) λ_ _ h'=>h'.elim)) λ_ _ h'=>h'.elim))
end
def i5(caps:List (Option Nat))(g:TG):Prop:=∀(x:V) (sg:St) (H:Hp) (Q:St->Hp->Prop),g x sg H Q->g x sg H λs2 H2=>Q s2 H2/\∀(j k:Nat),caps[j]?=aA (aA k)->s2[j]?=sg[j]?
def uV(caps:List (Option Nat))(g:eI):Prop:=∀(x:List V) (sg:St) (H:Hp) (Q:St->Hp->Prop),g x sg H Q->g x sg H λs2 H2=>Q s2 H2/\∀(j k:Nat),caps[j]?=aA (aA k)->s2[j]?=sg[j]?
theorem eQ{caps:List (Option Nat)}{i:Nat}(h:caps[i]?=aA aB:=by rfl):i5 caps (dY i):=λx sg H Q q=>⟨q,λj k e=>by
 have:i≠j:=λz=>by subst z; rw[h] at e; cases e
 exact jm this⟩
theorem Ks{caps:List (Option Nat)}:uV caps o6:=λx sg H Q ⟨e,q⟩=>⟨e,q,λ_ _ _=>rfl⟩
theorem DP{caps:List (Option Nat)}{t:TG}{u:eI}(mt:∀ x sg H (Q Q':St->Hp->Prop),(∀ a b,Q a b->Q' a b)->t x sg H Q->t x sg H Q')(mu:∀ x sg H (Q Q':St->Hp->Prop),(∀ a b,Q a b->Q' a b)->u x sg H Q->u x sg H Q')
  (h:i5 caps t) (h2:uV caps u):uV caps (nK t u):=λx sg H Q ⟨v,r,e,q⟩=>
 ⟨v,r,e,mt _ _ _ _ _ (λs2 H2 ⟨q2,k2⟩=>mu _ _ _ _ _ (λs3 H3 ⟨q3,k3⟩=>⟨q3,λj k e=>(k3 j k e).trans (k2 j k e)⟩) (h2 _ _ _ _ q2)) (h _ _ _ _ q)⟩
theorem Kt{caps:List (Option Nat)}{K:j9}{n:Nat}{t:eI}(h:uV caps t):i5 caps (fq K n t):=λx sg H Q ⟨a,xs,e,hq,hl,q⟩=>⟨a,xs,e,hq,hl,h _ _ _ _ q⟩
theorem zW{i:Nat}:∀ x sg H (Q Q':St->Hp->Prop),(∀ a b,Q a b->Q' a b)->dY i x sg H Q->dY i x sg H Q':=λ_ _ _ _ _ h q=>h _ _ q
theorem EU:∀ x sg H (Q Q':St->Hp->Prop),(∀ a b,Q a b->Q' a b)->o6 x sg H Q->o6 x sg H Q':=λ_ _ _ _ _ h q=>⟨q.1,h _ _ q.2⟩
theorem SU{t:TG}{u:eI}(mt:∀ x sg H (Q Q':St->Hp->Prop),(∀ a b,Q a b->Q' a b)->t x sg H Q->t x sg H Q')(mu:∀ x sg H (Q Q':St->Hp->Prop),(∀ a b,Q a b->Q' a b)->u x sg H Q->u x sg H Q') :
  ∀ x sg H (Q Q':St->Hp->Prop),(∀ a b,Q a b->Q' a b)->nK t u x sg H Q->nK t u x sg H Q':=λ_ _ _ _ _ h ⟨v,r,e,q⟩=>⟨v,r,e,mt _ _ _ _ _ (λ_ _ z=>mu _ _ _ _ _ h z) q⟩
theorem ub{caps:List (Option Nat)}{K:j9}{i j:Nat}(h:caps[i]?=aA aB:=by rfl)(h2:caps[j]?=aA aB:=by rfl):i5 caps (fq K 2 (nK (dY i) (nK (dY j) o6))):=
 Kt (DP zW (SU zW EU) (eQ h) (DP zW EU (eQ h2) Ks))
def Fs(J:It)(g:TG)(tt:TT)(te:TE)(sg':St)(Q:VK)(H1:Hp):Prop:=
 ∀ D,H1 D=aB->∃ W:Nat->Nat->Hp->Prop,(∃ m,W 0 m (aR H1 D (.lst [])))/\∀ i m H,W i m H->
  (J.stop i H/\Q (.ref D) H)∨(J.go i H/\∀ x H',J.yld i H x H'->g x sg' H' λs2 H2=>tt s2 H2 λb H3=>if b=aC then
   te s2 H3 λy H4=>∃ xs,H4 D=aA (.lst xs)/\xs.length < jr/\∃ m',m' < m/\W (i+1) m' (aR H4 D (.lst (xs++[y])))
   else ∃ m',m' < m/\W (i+1) m' H3)
section
variable {tg elt iter:Q3}{ifs:List Q3}{wi:TI}{g:TG}{tt:TT}{te:TE}
theorem Dg{pc:List (jw × Obj)}{sg:St}{H:Hp}{s2:jd}{cl:List (Str × jw)}{it:jw}{fp:List jw}{tn:Nat->QN->Prop}{J:It}{Q:VK}{E:j8->jd->Prop}{RR:j8->jw->JF->jd->Prop}
  (hc:X.calm=aC) (hcap:capOk N X.N scope X.env.scope caps=aC) (hkind:scope.kind=.function) (hcell:∀ y∈scope.names,y.2≠.cell)
  (hg:∀ cl C s0 H0 fp,PG (bc X N scope cl C s0 H0 fp) tg g) (hgk:i5 caps g) (ht:∀ cl C s0 H0 fp,im (bc X N scope cl C s0 H0 fp) ifs tt) (he:∀ cl C s0 H0 fp,PE (bc X N scope cl C s0 H0 fp) elt te)
  (hcl1:∀ p∈cl,X.env.cells.lookup p.1=aA p.2) (hcl2:∀ x,(x,Qt)∈scope.names->∃ c,(x,c)∈cl)
  (I2:Inv X pc sg H s2) (T:Turn X.prog X.w X.K tg J fp it tn) (st2:tn 0 s2.heap) (f2:∀ b∈fp,ez X pc H b) (hw:Fs J g tt te (cK caps sg) Q H)
  (hRR:∀(D C:jw) (s':jd) (H':Hp) (m':Str->Option j8),Inv X pc sg H' s'->s'.heap.Ns C m'->H' C=aB->s2.heap.objs.size<=C->(∀ x c,X.env.cells.lookup x=aA c->c≠C)->(∀ p∈X.pn++pc,p.1≠C)->C≠X.env.locals->Q (.ref D) H'->RR (.ref D) C (.ok .next) s') :
  jJ (jO X.prog X.w) X.A (newList []) (λacc s3=>jJ (jO X.prog X.w) X.A (newFunctionEnv scope X.env.globals cl [] X.env.qual aB .none (aA X.env)) (λcenv s4=>
   Yg (jO X.prog X.w) X.A (.compStart (.ListComp elt [⟨tg,iter,ifs,0⟩] scope pos) 0 (.ref it) acc { cenv with scope:=JO scope X.env }) (RR acc cenv.locals) s4) E s3) E s2:=by
 refine WK ?_;have I3:Inv X pc sg (aR H s2.heap.objs.size (.lst [])) { s2 with heap:=s2.heap.push { cls:=.type "list",dict:=aB,data:=.seq ([]:List j8).toArray } }:=
  I2.laid (t':=s2.toks) (λb u e=>jb _ e) (ji _) ⟨QZ _,[],0,.nil,jM _ rfl⟩
 have hfree:H s2.heap.objs.size=aB:=I2.hok.fresh (ji _);obtain⟨W,⟨mm,w0⟩,turn⟩:=hw s2.heap.objs.size hfree;generalize hD:s2.heap.objs.size=D at *;generalize hs3:({ s2 with heap:=s2.heap.push { cls:=.type "list",dict:=aB,data:=.seq ([]:List j8).toArray } }:jd)=s3 at *;have hlt3:∀ b o,s2.heap.get? b=aA o->s3.heap.get? b=aA o:=λb o e=>by rw[<-hs3]; exact jb _ e
 have hsz3:s3.heap.objs.size=D+1:=by rw[<-hs3,<-hD]; exact gq ..
 have fpD:∀ b∈fp,b < D:=λb hb=>by
  obtain⟨o,ho,_⟩:=T.obj 0 _ st2 b hb;rw[<-hD]; exact jo ho
 have f3:∀ b∈fp,ez X pc (aR H D (.lst [])) b:=λb hb=>⟨by rw[ac (jG (fpD b hb))]; exact(f2 b hb).1,(f2 b hb).2⟩
 have lt3:∀ b∈fp,b < s3.heap.objs.size:=λb hb=>by rw[hsz3]; exact Z0 (fpD b hb)
 have st3:tn 0 s3.heap:=T.keep 0 _ _ st2 λb _ o e=>hlt3 b o e;refine NR hcell (by intro y hy; simp at hy) (λh1 hns1 hsb1=>?_) hkind
 try dsimp only at hns1 hsb1 ⊢
 have keep1:∀ b u,s3.heap.get? b=aA u->h1.get? b=aA u:=λb u e=>hsb1.extBut b u (jG (jo e)) (jb _ e);have I4:=Ek (N:=N) (tk:=s3.toks+([]:List (Str × j8)).length) hcap hkind hcell I3 hcl1 hcl2 f3 lt3 keep1 hns1;have loop:Yg (jO X.prog X.w) X.A (.compLoop (.ListComp elt [⟨tg,iter,ifs,0⟩] scope pos) 0 (.ref it) (.ref D) (Je scope cl s3.heap.objs.size X.env)) (RR (.ref D) s3.heap.objs.size) { s3 with heap:=h1,toks:=s3.toks+([]:List (Str × j8)).length }:=by
  generalize hX':bc X N scope cl s3.heap.objs.size s3 (aR H D (.lst [])) fp=X' at I4;have eP:X'.prog=X.prog:=by rw[<-hX']; rfl
  have ew:X'.w=X.w:=by rw[<-hX']; rfl
  have eK:X'.K=X.K:=by rw[<-hX']; rfl
  have eA:X'.A=X.A:=by rw[<-hX']; rfl
  have eE:X'.env=Je scope cl s3.heap.objs.size X.env:=by rw[<-hX']; rfl
  have ex:X'.xe=λ_ _=>False:=by rw[<-hX']; rfl
  have ecalm:X'.calm=aC:=by rw[<-hX']; exact hc
  have hg':PG X' tg g:=by rw[<-hX']; exact hg _ _ _ _ _
  have ht':im X' ifs tt:=by rw[<-hX']; exact ht _ _ _ _ _
  have he':PE X' elt te:=by rw[<-hX']; exact he _ _ _ _ _
  have stat:∀ {H':Hp},(∀ b∈fp,H' b=aB)->∀ b∈fp,ez X' [] H' b:=λ{H'} hn b hb=>by
   refine⟨hn b hb,?_,?_,?_,?_,λp hp=>?_⟩
   ·rw[<-hX']; exact jG (lt3 b hb)
   ·rw[<-hX'];exact λz=>(se (N:=N) hkind hcell I3 hcl1 hcl2 f3 lt3).exfs b hb z
   ·rw[<-hX']; exact .inl hb
   ·rw[<-hX'];exact((se (N:=N) hkind hcell I3 hcl1 hcl2 f3 lt3).exf b hb).2
   ·rw[<-hX'] at hp; cases hp
  have out:∀ {sg':St} {H':Hp} {s':jd},Inv X' [] sg' H' s'->Inv X pc sg H' s':=λ{sg' H' s'} I'=>by
   have hb:=I'.base;rw[<-hX'] at hb;have ho:=I'.os;rw[<-hX'] at ho;have hk:=I'.hok;rw[eP,ew] at hk;exact I3.call' (ch:=fp) ho hb hk I'.bare λb hb=>⟨(f3 b hb).2.2.2.1,(f3 b hb).2.1,(f3 b hb).2.2.2.2.1,(f3 b hb).2.2.2.2.2⟩
  rw[<-eE,<-eA,<-eP,<-ew];refine Tz (λn s'=>∃ i H',Inv X' [] (cK caps sg) H' s'/\tn i s'.heap/\(∀ b∈fp,H' b=aB)/\W i n H') ?_ mm
   ⟨0,_,I4,T.keep 0 _ _ st3 λb _ o e=>keep1 b o e,λb hb=>(f3 b hb).1,w0⟩
  rintro n s5 ⟨i,H5,I5,st5,fr5,w5⟩;rcases turn i n H5 w5 with ⟨stop,q⟩ |⟨go,step⟩
  ·have z:=T.done X' eP ew eK ecalm i [] s5 _ H5 (λ_ _=>False) I5 (stat fr5) st5 stop;rw[<-eP,<-ew] at z;refine aV z λr s6 h_=>?_; obtain⟨hr,I6⟩:=h_;subst hr;obtain⟨m',hn',_⟩:=I6.loc;have hfr:=I6.free;rw[eE] at hn' hfr;refine hRR D s3.heap.objs.size s6 H5 m' (out I6) hn' hfr (by rw[hsz3]; exact gA _) (λx c e z=>?_) (λp hp z=>?_) (λz=>?_) q
   ·obtain⟨v,o,ho,_⟩:=I3.cell x c e;rw[z] at ho;exact absurd (jo ho) (Q4 _)
   ·have:=jo (I3.pin p hp).1;rw[z] at this;exact absurd this (Q4 _)
   ·have:=I3.lt;rw[<-z] at this;exact absurd this (Q4 _)
  ·have z:=T.item X' eP ew eK ecalm i [] s5 _ H5 (λ_ _=>False) I5 (stat fr5) st5 go;rw[<-eP,<-ew] at z;refine aV z λr s6 h_=>?_; obtain⟨u,hr,h6⟩:=h_;subst hr;dsimp only;refine aV h6 λ_ s7 h_=>?_; obtain⟨x,H7,I7,r7,y7,st7,fr7⟩:=h_;have I7':=I7.pinned (stat fr7) (T.obj _ _ st7);have q7:=step x H7 y7;have a7:=hg' _ s7 (cK caps sg) H7 x u _ I7' r7 (hgk _ _ _ _ q7);rw[ex] at a7;refine aV a7 λ_ s8 h_=>?_; obtain⟨sg8,H8,I8,q8,k8⟩:=h_;have k8':∀(j:Nat) (v:V),(cK caps sg)[j]?=aA (aA v)->sg8[j]?=aA (aA v):=λj v e=>by
    have e':=e;unfold cK at e';rw[jg] at e';cases hc:caps[j]? with
    |none=>rw[hc] at e'; simp at e'
    |some o=>
     cases o with
     |none=>rw[hc] at e'; simp at e'
     |some k=>rw[k8 j k hc]; exact e
   have a8:=ht' _ s8 sg8 H8 _ I8 q8;rw[ex] at a8;refine aV a8 λok s9 h_=>?_; obtain⟨H9,I9,q9⟩:=h_;have JZ:∀ {sg':St} {H':Hp} {s':jd} {m':Nat},Inv X' ([]++qU fp s7.heap) sg' H' s'->(∀(j:Nat) (v:V),(cK caps sg)[j]?=aA (aA v)->sg'[j]?=aA (aA v))->m' < n->W (i+1) m' H'->
     ∃ m,m < n/\∃ i H',Inv X' [] (cK caps sg) H' s'/\tn i s'.heap/\(∀ b∈fp,H' b=aB)/\W i m H':=λ{sg' H' s' m'} I' hs hm hw=>by
    refine⟨m',hm,i+1,H',I'.unpinned.forget (I4.len.trans I'.len.symm) hs,T.keep _ _ _ st7 λb hb o e=>(I'.pin (b,o) (jB _ (jB _ (qo hb e)))).1,λb hb=>?_,hw⟩;obtain⟨o,e,d⟩:=T.obj _ _ st7 b hb;exact(I'.pin (b,o) (jB _ (jB _ (qo hb e)))).2.1
   cases ok with
   |false=>
    obtain⟨m',hm,w9⟩:=q9;exact JZ I9 k8' hm w9
   |true=>
    have a9:=he' _ s9 sg8 H9 _ I9 q9;rw[ex] at a9;refine aV a9 λv s10 h_=>?_; obtain⟨y,H10,I10,r10,xs,hD',hz,m',hm,w10⟩:=h_;have a10:=oW (X:=X') _ s10 sg8 H10 (.ref D) [y] (.ref D) [v] (λ_ H'=>W (i+1) m' H') I10 rfl (.cons r10 .nil) ⟨D,xs,y,rfl,rfl,hD',hz,w10⟩;rw[ex] at a10;exact aV a10 λ_ s11 ⟨_,H11,I11,_,w11⟩=>JZ I11 k8' hm w11
 exact codeAny_compStart_list loop (T.self _ _ _ _ _ (T.keep 0 _ _ st3 λb _ o e=>keep1 b o e) loop)
def oi(caps:List (Option Nat))(wi:TI)(g:TG)(tt:TT)(te:TE):TE:=λsg H Q=>wi sg H λJ H1=>Fs J g tt te (cK caps sg) Q H1
theorem v9{X:Cx}{scope:gQ}(ok:X.Ok)(hfr:scope.names.all (λp=>p.2 != .free||(X.env.scope.names.lookup p.1 == aA .cell||X.env.scope.names.lookup p.1 == aA .free))=aC) :
  ∀ x,(x,Qt)∈scope.names->∃ c,X.env.cells.lookup x=aA c:=λx hx=>by
 have q:=jz.mp hfr (x,.free) hx;simp only[bne_self_eq_false,Wk,Zg] at q;exact ok.has x (q.imp (λz=>eq_of_beq z) λz=>eq_of_beq z)
theorem Ia(hc:X.calm=aC)(hi:PI X tg iter wi)(hg:∀ cl C s0 H0 fp,PG (bc X N scope cl C s0 H0 fp) tg g)(hgk:i5 caps g)(ht:∀ cl C s0 H0 fp,im (bc X N scope cl C s0 H0 fp) ifs tt)(he:∀ cl C s0 H0 fp,PE (bc X N scope cl C s0 H0 fp) elt te)
  (hcap:capOk N X.N scope X.env.scope caps=aC:=by rfl) (hkind:scope.kind=.function:=by rfl) (hcell:scope.names.all (λp=>p.2 != .cell)=aC:=by rfl)
  (hnames:scope.names.all (λp=>p.2 != .local||scope.names.lookup p.1 == aA .local)=aC:=by rfl)
  (hfr:scope.names.all (λp=>p.2 != .free||(X.env.scope.names.lookup p.1 == aA .cell||X.env.scope.names.lookup p.1 == aA .free))=aC:=by rfl)
  (hs:∀ x,Qz iter X.env x=pure x:=by intro _; rfl):PE X (.ListComp elt [⟨tg,iter,ifs,0⟩] scope pos) (oi caps wi g tt te):=by
 intro pc s sg H Q I h;have hcell':∀ y∈scope.names,y.2≠.cell:=λy hy=>by simpa using jz.mp hcell y hy
 have hnames':∀ x∈scope.names,x.2=.local->scope.names.lookup x.1=aA .local:=λx hx e=>by
  have q:=jz.mp hnames x hx;rw[e] at q;simpa using q
 obtain⟨cl,hclos,hcl1,hcl2⟩:=vj (scope:=scope) (env:=X.env) (v9 I.ok hfr);rw[eval_ListComp];refine ZF (use:=aB) rfl hs hclos hkind hnames' (aV (hi pc s sg H _ I h) λv s1 h1=>aV h1 λitv s2 h2=>?_);obtain⟨it,fp,tn,J,H2,e,I2,T,st2,f2,hw⟩:=h2;subst e;refine Dg (RR:=λacc C=>JQ (jO X.prog X.w) X.A X.xe aB (EP X pc sg Q) acc C) hc hcap hkind hcell' hg hgk ht he hcl1 hcl2 I2 T st2 f2 hw ?_;intro D C s' H' m' I' hn hfree hCs hCc hCp hCl q;refine⟨m',hn,λh' hs'=>⟨.ref D,H',?_,rfl,q⟩⟩;exact I'.turned (t':=s'.toks) (it:=C) (λb o hb e=>(hs'.2 b hb).trans e) hfree hCl (.inr (Q9 I2.sz hCs)) hCc hCp
theorem Pw{i:Nat}{y:Str}{py spos:Pos}(hN:X.N.Nodup)(hiy:X.N[i]?=aA y)(hy:X.env.scope.names.lookup y=aA .local)(hc:X.calm=aC)(hi:PI X tg iter wi)(hg:∀ cl C s0 H0 fp,PG (bc X N scope cl C s0 H0 fp) tg g)(hgk:i5 caps g)(ht:∀ cl C s0 H0 fp,im (bc X N scope cl C s0 H0 fp) ifs tt)(he:∀ cl C s0 H0 fp,PE (bc X N scope cl C s0 H0 fp) elt te)
  (hsw:ZX (.ListComp elt [⟨tg,iter,ifs,0⟩] scope pos) (aA (.Name y py)) spos.line X.env=pure aC:=by rfl)
  (hcap:capOk N X.N scope X.env.scope caps=aC:=by rfl) (hkind:scope.kind=.function:=by rfl) (hcell:scope.names.all (λp=>p.2 != .cell)=aC:=by rfl)
  (hnames:scope.names.all (λp=>p.2 != .local||scope.names.lookup p.1 == aA .local)=aC:=by rfl)
  (hfr:scope.names.all (λp=>p.2 != .free||(X.env.scope.names.lookup p.1 == aA .cell||X.env.scope.names.lookup p.1 == aA .free))=aC:=by rfl)
  (hs:∀ x,Qz iter X.env x=pure x:=by intro _; rfl):PS X (.Assign [.Name y py] (.ListComp elt [⟨tg,iter,ifs,0⟩] scope pos) spos) (dq (oi caps wi g tt te) (dY i)):=by
 intro pc s sg H D0 I h;have hcell':∀ y∈scope.names,y.2≠.cell:=λy hy=>by simpa using jz.mp hcell y hy
 have hnames':∀ x∈scope.names,x.2=.local->scope.names.lookup x.1=aA .local:=λx hx e=>by
  have q:=jz.mp hnames x hx;rw[e] at q;simpa using q
 obtain⟨cl,hclos,hcl1,hcl2⟩:=vj (scope:=scope) (env:=X.env) (v9 I.ok hfr);rw[Nv _ _ _ _ hsw];refine j4 (Zd (j4 ?_));show jJ _ X.A (do let _ <-comprehension (.ListComp elt [⟨tg,iter,ifs,0⟩] scope pos) scope X.env _ (newList []) aD (eval iter X.env) (aA (gZ (.Name y py) X.env))) _ _ s
 refine j4 (jY (ZF (use:=aA (gZ (.Name y py) X.env)) (Q:=λ_ s'=>SP X pc D0 .next s') rfl hs hclos hkind hnames'
  (aV (hi pc s sg H _ I h) λv s1 h1=>aV h1 λitv s2 h2=>?_)) (λ_ s' hq=>jp (jp hq)) λ_ _ e=>e)
 obtain⟨it,fp,tn,J,H2,e,I2,T,st2,f2,hw⟩:=h2;subst e;refine Dg (Q:=λx H1=>dY i x sg H1 D0.nx) (RR:=λacc C=>JQ (jO X.prog X.w) X.A X.xe (aA (gZ (.Name y py) X.env)) (λ_ s'=>SP X pc D0 .next s') acc C) hc hcap hkind hcell' hg hgk ht he hcl1 hcl2 I2 T st2 f2 hw ?_
 intro D C s' H' m' I' hn hfree hCs hCc hCp hCl q;show jJ _ X.A (gZ (.Name y py) X.env (.ref D)) _ _ _;refine YI (zB I' hN hiy (.inl hy) (v:=.ref D) rfl (λs3 I3 ⟨a,hs3,ha⟩=>?_) (.inr hy));have hCa:C≠a:=by
  rcases ha with z |z
  ·rw[z]; exact hCl
  ·exact λz'=>hCc y a z z'.symm
 refine⟨m',hn.sameBut hs3 hCa,λh' hs'=>?_⟩;exact⟨_,H',I3.turned (t':=s3.toks) (it:=C) (λb o hb e=>(hs'.2 b hb).trans e) hfree hCl (.inr (Q9 I2.sz hCs)) hCc hCp,q⟩
end
section
def Gi:V->Option Int->Option Int->Hp->VK->Prop:=λx lo hi H Q=>∃ z,x=.str z/\z.length<=jr/\Q (.str (YM z lo hi)) H
theorem Lk:Aq X Gi:=by
 intro pc s sg H x v vl vu lo hi sl Q I rx hs pl pu h;obtain⟨z,rfl,hz,q⟩:=h;obtain⟨t,rfl⟩:=rx;refine⟨"str",_,F.slot_str_getitem.lookup,JH _ _ _,?_⟩;have fin:∀ t' k,EP X pc sg Q (.str (YM z lo hi) t') { s with toks:=k }:=λt' k=>⟨.str _,H,I.tok _,⟨_,rfl⟩,q⟩;have le:=Q9 (Txt.slice_le z lo hi) hz;cases pl with
 |none=>
  cases pu with
  |none=>exact ZN (l:=aB) (u:=aB) (st:=aB) hs rfl (Yl ⟨le,fin⟩)
  |int j uj=>exact ZN (l:=aB) (u:=aA (j,uj)) (st:=aB) hs rfl (Yl ⟨le,fin⟩)
 |int i ui=>
  cases pu with
  |none=>exact ZN (l:=aA (i,ui)) (u:=aB) (st:=aB) hs rfl (Yl ⟨le,fin⟩)
  |int j uj=>exact ZN (l:=aA (i,ui)) (u:=aA (j,uj)) (st:=aB) hs rfl (Yl ⟨le,fin⟩)
end
section
variable {K:j9}
theorem Mz{es:List Q3}{k:Nat}{t:eI}{n:Nat}{pos:Pos}(hK:X.K=K)(hc:X.calm=aC)(h:oz X es t)
  (hn:(Qs es X.env).length=n:=by rfl) (hst:(Qs es X.env).findIdx? (·.1)=aB:=by rfl):PG X (.Tuple es k pos) (fq K n t):=by subst hK; exact Cg hc h hn hst
end
theorem L7:Qu "int"=aA (.type "int"):=by decide +kernel
theorem D6:Qu "list"=aA (.type "list"):=by decide +kernel
theorem MO:Qu "bool"=aA (.type "bool"):=by decide +kernel
theorem UP:Qu "isinstance"=aA (.builtin "isinstance"):=by decide +kernel
theorem Tv:Qu "enumerate"=aA (.type "enumerate"):=by decide +kernel
section
theorem op_isF:c9 X (Z5 .Is) (λx y H Q=>∃ c d,x=.bl c/\y=.bl d/\Q (.bl (c == d)) H):=by
 intro pc s sg H x y v u Q I rx ry h;obtain⟨c,d,rfl,rfl,q⟩:=h;cases rx; cases ry;exact is_bool ⟨.bl _,H,I,rfl,q⟩
theorem op_isnotF:c9 X (Z5 .IsNot) (λx y H Q=>∃ c d,x=.bl c/\y=.bl d/\Q (.bl (c != d)) H):=by
 intro pc s sg H x y v u Q I rx ry h;obtain⟨c,d,rfl,rfl,q⟩:=h;cases rx; cases ry;exact isnot_bool ⟨.bl _,H,I,rfl,q⟩
end
section
variable {E:j8->jd->Prop}
theorem EN{it t:jw}{items:Array j8}(hne:t≠it):∀(n i:Nat) (s:jd) (Q:List j8->jd->Prop),s.heap.IsListIter it t i->s.heap.IsList t items->i+n<=items.size->
  (∀ h':QN,h'.IsListIter it t (i+n)->Qp it s.heap h'->Q ((items.toList.drop i).take n) { s with heap:=h' })->jJ (jO prog w) A (draw (.ref it) n) Q E s
 |0,i,s,Q,hit,_,_,hQ=>by
  show jJ _ _ (pure []) Q E s;exact jp (by simpa using hQ s.heap hit (Heap.SameBut.refl ..))
 |n+1,i,s,Q,hit,ht,hle,hQ=>by
  have hlt:i < items.size:=by lia
  show jJ _ _ (NX (.ref it) >>= _) Q E s;refine j4 (Nk hit ht (x:=items[i]) (by simp[hlt]) λh1 hit1 hs1=>?_)
  refine j4 (Qi (EN hne n (i+1) _ _ hit1 (ht.extBut hs1.extBut hne) (by lia) λh2 hit2 hs2=>jp ?_))
  have hd:items.toList.drop i=items[i]::items.toList.drop (i+1):=by simp[Zw,hlt]
  have:=hQ h2 (by rw[show i+(n+1)=i+1+n by lia]; exact hit2) (hs1.trans hs2)
  rw[hd,List.take_succ_cons] at this;exact this
theorem V0{s:jd}{t:jw}{items:Array j8}{Q:List j8->jd->Prop}(hh:A.handled=aB)(ht:s.heap.IsList t items)
  (hQ:∀ h',N4 s.heap.objs.size s.heap h'->Q items.toList { s with heap:=h' }):jJ (jO prog w) A (unpackItems (.ref t) items.size aB) Q E s:=by
 have hlt:t≠s.heap.objs.size:=by obtain⟨o,ho,_⟩:=ht; exact jG (jo ho)
 unfold unpackItems;refine j4 ?_
 ·unfold notIterableAtAll;refine j4 (wpAny_specialOf ht.typeIs slot_list_iter.lookup ?_);refine jp ?_;simp only[Za,if_false];refine j4 (Qi (gW ht ?_));refine j4 (Qi (EN hlt items.size 0 _ _ ⟨_,jM _ rfl,rfl,rfl⟩ (ht.push _) (by lia) λh1 hit1 hs1=>?_))
  have hall:List.take items.size (List.drop 0 items.toList)=items.toList:=by
   rw[W1]; exact Q1 (by simp)
  rw[hall];rw[aH (by simp)]
  have ht1:h1.IsList t items:=(ht.push _).extBut hs1.extBut hlt;refine j4 (Qi (Nt hh hit1 ht1 (by simp) λh2 he2=>?_))
  simp only[Option.isSome_none,Za,if_false];refine jp (hQ h2 λb o hb e=>he2 b o hb (hs1.extBut b o hb (jb _ e)))
theorem V4{s:jd}{env:Env}{elts:List Q3}{x1}{pos:Pos}{t:jw}{items:Array j8}{Q:Unit->jd->Prop}(hh:A.handled=aB)(ht:s.heap.IsList t items)
  (hn:(Qs elts env).length=items.size) (hstar:(Qs elts env).findIdx? (·.1)=aB)
  (h:∀ h',N4 s.heap.objs.size s.heap h'->jJ (jO prog w) A (assignInOrder ((Qs elts env).map (·.2)) items.toList) Q E { s with heap:=h' }) :
  jJ (jO prog w) A (gZ (.Tuple elts x1 pos) env (.ref t)) Q E s:=by
 rw[PyProof.Rows.assign_Tuple];refine j4 (Zd ?_);unfold unpack;rw[hn,hstar];exact j4 (Qi (V0 hh ht λh' hx=>h h' hx))
end
section
def wo(K:j9)(n:Nat)(t:eI):TG:=λv sg H Q=>∃ a xs,v=.ref a/\ad K H a xs/\xs.length=n/\t xs sg H Q
theorem Lz{es:List Q3}{k:Nat}{t:eI}{n:Nat}(hc:X.calm=aC)(h:oz X es t)
  (hn:(Qs es X.env).length=n:=by rfl) (hst:(Qs es X.env).findIdx? (·.1)=aB:=by rfl):PG X (.Tuple es k pos) (wo X.K n t):=by
 intro pc s sg H v u Q I r hw;obtain⟨a,xs,e1,hq,hl,hw⟩:=hw;subst e1;cases r;obtain⟨its,rv,ht,hz⟩:=I.list hq;refine V4 (I.ok.hd hc) ht.isList (by simp[hn,<-hl,rv.length]) hst λh' hx=>?_
 have I1:Inv X pc sg H { s with heap:=h' }:=I.kept (t':=s.toks) λb o e=>hx b o (jG (jo e)) e;exact h pc _ sg H xs _ Q I1 (by simpa using rv) hw
def Fx(K:j9)(a:jw):It:=
 ⟨λi H=>∃ xs x,ad K H a xs/\xs[i]?=aA x,λi H v H'=>∃ p x,v=.ref p/\H p=aB/\H'=aR H p (.tup [.int i,x])/\∀ xs,ad K H a xs->xs[i]?=aA x,λi H=>∃ xs,ad K H a xs/\xs.length<=i⟩
theorem Ss{P:jI}{w:Qe}{K:j9}{elts:List Q3}{x1:Nat}{tp:Pos}(a it e:jw)(hne:e≠it) :
  Turn P w K (.Tuple elts x1 tp) (Fx K a) [e,it] e (λi h=>(∃ old,IsEnum h e it i old)/\h.IsListIter it a i) where
 mem:=by simp
 obj:=λi h st b hb=>by
  obtain⟨⟨old,he⟩,o,ho,hc,hd⟩:=st;rcases jy.mp hb with z |z
  ·subst z
   exact⟨_,he,λv z=>by
    have z':Jj _=Wb v:=z
    cases z'⟩
  ·have z':b=it:=by simpa using z
   subst z';exact⟨o,ho,λv z=>by rw[hd] at z; cases z⟩
 keep:=λi h h' st k=>by
  obtain⟨⟨old,he⟩,hi⟩:=st;exact⟨⟨old,k e (by simp) _ he⟩,hi.at λo q=>k it (by simp) o q⟩
 item:=by
  intro X hP hw hK hc i pc s sg H E I hf st hg;subst hP hw hK;obtain⟨⟨old,he⟩,hit⟩:=st;obtain⟨xs,x,hq,hx⟩:=hg;obtain⟨its,rv,p,hz⟩:=I.list hq;obtain⟨u,hu,ru⟩:=rv.get hx;obtain⟨f0,f1,f2,f3,f4,f5⟩:=hf e (by simp)
  obtain⟨g0,g1,g2,g3,g4,g5⟩:=hf it (by simp)
  refine wpAny_pyNext_enum_item he hit p.isList (x:=u) (by simpa using hu) hne λh1 eo hit1 htup hsz keep1=>?_
  refine⟨_,rfl,wpAny_letOwnedTupleGo_enum eo λh2 en sb=>?_⟩;have hn:H s.heap.objs.size=aB:=I.hok.fresh (ji _);have elt:e < s.heap.objs.size:=jo he;have keep2:∀ b o,b≠e->b≠it->s.heap.get? b=aA o->h2.get? b=aA o:=λb o n1 n2 q=>(sb.2 b n1).trans (keep1 b o n1 n2 q);have tup2:h2.get? s.heap.objs.size=aA { cls:=.type "tuple",data:=.seq #[.int i s.toks,u] }:=(sb.2 _ (gD elt)).trans htup;have nH:∀ b v,H b=aA v->b≠e/\b≠it/\b≠s.heap.objs.size:=λb v q=>⟨(λz=>by rw[z,f0] at q; cases q),(λz=>by rw[z,g0] at q; cases q),cZ q hn⟩
  have I2:Inv X pc sg (aR H s.heap.objs.size (.tup [.int i,x])) { s with heap:=h2,toks:=s.toks+1 }:=by
   refine I.step (g':=s.gens) (d':=s.drawn) (ch:=[e,it]) (λb hb=>?_) (λb o _ _ hc q _=>keep2 b o (λz=>hc (by simp[z])) (λz=>hc (by simp[z])) q)
    (λb o _ _ hc q _=>⟨o.slots,keep2 b o (λz=>hc (by simp[z])) (λz=>hc (by simp[z])) q⟩) (λb o hc q n=>by rw[ac (jG (jo q))]; exact n)
    (λb o hc q=>⟨o,keep2 b o (λz=>hc (by simp[z])) (λz=>hc (by simp[z])) q⟩) (λb ys q=>by rw[ac (nH b _ q).2.2]; exact q) (λb o v q=>by rw[ac (nH b _ q).2.2]; exact q)
    (λb ps q=>⟨#[],by rw[ac (nH b _ q).2.2,q]; simp⟩) (λm hm=>?_) (λb v q=>?_) I.bare
   ·rcases jy.mp hb with z |z
    ·subst z; exact⟨f3,f1,f4,f5⟩
    ·have z':b=it:=by simpa using z
     subst z'; exact⟨g3,g1,g4,g5⟩
   ·obtain⟨o,es,ep,ho,r⟩:=hm;exact⟨o,es,ep,keep2 _ o (ZA f1) (ZA g1) ho,r⟩
   ·by_cases hb:b=s.heap.objs.size
    ·subst hb;rw[bq] at q;cases q;exact⟨by show 2<=jr; decide,[.int i s.toks,u],.cons ⟨_,rfl⟩ (.cons ru .nil),_,tup2,rfl,_,rfl⟩
    ·rw[ac hb] at q;refine(I.hok b v q).stay (λc v' hc q'=>?_) (λc q'=>by rw[ac (nH c _ q').2.2]; exact q') λc ys q'=>by rw[ac (nH c _ q').2.2]; exact q'
     rcases hc with z |z
     ·exact keep2 c v' (by rw[z]; exact(nH b v q).1) (by rw[z]; exact(nH b v q).2.1) q'
     ·exact keep2 c v' (nH c _ z).1 (nH c _ z).2.1 q'
  refine⟨.ref s.heap.objs.size,_,I2,rfl,⟨s.heap.objs.size,x,rfl,hn,rfl,λys hy=>by rw[I.list_inj hy hq]; exact hx⟩,⟨⟨_,en⟩,?_⟩,λb hb=>?_⟩
  ·obtain⟨o,ho,r⟩:=hit1;exact⟨o,(sb.2 it (ZA hne)).trans ho,r⟩
  ·rcases jy.mp hb with z |z
   ·subst z; rw[ac (jG elt)]; exact f0
   ·have z':b=it:=by simpa using z
    subst z';obtain⟨o,ho,_⟩:=hit;rw[ac (jG (jo ho))]; exact g0
 done:=by
  intro X hP hw hK hc i pc s sg H E I hf st hg;subst hP hw hK;obtain⟨⟨old,he⟩,hit⟩:=st;obtain⟨xs,hq,hx⟩:=hg;obtain⟨its,rv,p,hz⟩:=I.list hq;obtain⟨g0,g1,g2,g3,g4,g5⟩:=hf it (by simp)
  have hl:=rv.length;exact wpAny_pyNext_enum_end (I.ok.hd hc) he hit p.isList (by simp; lia) λh' eb=>⟨rfl,I.turned (t':=s.toks) (λb o hb q=>eb b o hb q) g0 g1 g3 g4 g5⟩
 self:=λ_ _ _ _ _ st h=>by
  obtain⟨⟨old,he⟩,_⟩:=st;exact WL he h
def ID(K:j9)(ta:TA):TI:=λsg H R=>ta sg H λvs H1=>∃ a,vs=[.ref a]/\(∃ xs,ad K H1 a xs)/\R (Fx K a) H1
theorem O6{elts:List Q3}{x1:Nat}{tp:Pos}{a:Q3}{ta:TA}{p pos:Pos}(hg:Gl X "enumerate")(hm:X.mg "enumerate"=aB)(ha:PA X [a] ta)(hs:jf [a] X.env=[(aD,eval a X.env)]:=by rfl) :
  PI X (.Tuple elts x1 tp) (.Call (.Name "enumerate" p) [a] [] pos) (ID X.K ta):=by
 intro pc s sg H R I h;refine Call_ (iz I hg hm Tv (Qj (aV (ha pos pc s sg H _ I h) λus s1 ⟨vs,H1,I1,r1,q1⟩=>?_) hs rfl));obtain⟨a',rfl,⟨xs,hq⟩,q⟩:=q1;obtain⟨u,rfl,ru⟩:=rd r1;cases ru;obtain⟨its,rv,pl,hz⟩:=I1.list hq;refine call_enumerate_list pl.isList λh' en il hsz kp=>?_;refine WL en ?_;have I2:Inv X pc sg H1 { s1 with heap:=h' }:=I1.kept (t':=s1.toks) kp;refine⟨s1.heap.objs.size+1,[s1.heap.objs.size+1,s1.heap.objs.size],_,_,H1,rfl,I2,Ss a' s1.heap.objs.size (s1.heap.objs.size+1) (Nat.succ_ne_self _),⟨⟨_,en⟩,il⟩,λb hb=>?_,q⟩;rcases jy.mp hb with z |z
 ·subst z; exact I1.fpOk (gA _) (I1.hok.fresh (gA _))
 ·have z':b=s1.heap.objs.size:=by simpa using z
  subst z'; exact I1.fpOk (ji _) (I1.hok.fresh (ji _))
end
section
def BP(K:j9):List V->Hp->VK->Prop:=λxs H Q=>∃ x c t k,xs=[x,.ty c]/\TyOf K H x t/\NZ K t (.type c)=aA k/\Q (.bl k) H
theorem Po:CallR X (.builtin "isinstance") (BP X.K):=by
 intro pc s sg H xs us Q I r h;obtain⟨x,c,t,k,rfl,ty,e,q⟩:=h;obtain⟨u,u2,rfl,ru,ru2⟩:=KD r;cases ru2;exact S7 I ru ty e λtk=>⟨.bl k,H,I.tok _,rfl,q⟩
end
section
variable {R:JF->jd->Prop}
theorem UQ{kx vx target iter:Q3}{ifs:List Q3}{scope:gQ}{pos:Pos}{it:j8}{D:jw}{env:Env}(I:Nat->jd->Prop)
  (turn:∀ n s,I n s->jJ (jO prog w) A (NX it) (λr s1=>match r with
   |none=>R (.ok .next) s1
   | some v=>jJ (jO prog w) A (ZY target it v) (λ_ s1'=>jJ (jO prog w) A (gZ target env v) (λ_ s2=>
     jJ (jO prog w) A (forIn ifs aC λc r=>if r=aC then do let ok <-JD c env (eval c env); pure (Qk ok) else pure (Qk r)) (λok s3=>
      if ok=aC then jJ (jO prog w) A (eval kx env) (λkv s4=>jJ (jO prog w) A (eval vx env) (λvv s5=>
       jJ (jO prog w) A (dictSet D kv vv) (λ_ s6=>∃ m,m < n/\I m s6) (λ_ _=>False) s5) (λ_ _=>False) s4) (λ_ _=>False) s3
      else ∃ m,m < n/\I m s3) (λ_ _=>False) s2) (λ_ _=>False) s1') (λ_ _=>False) s1) (λ_ _=>False) s)
  (n:Nat) (h:I n s) :
  Yg (jO prog w) A (.compLoop (.DictComp kx vx [⟨target,iter,ifs,0⟩] scope pos) 0 it (.ref D) env) R s:=by
 refine codeAny_loop rfl I (λn s hI=>?_) n h;show jJ _ A ((compTurn (.DictComp kx vx [⟨target,iter,ifs,0⟩] scope pos) 0 it (.ref D) env).onRaise (λx=>do Jn x env; theTreesLotGoes x)) _ _ s
 refine wpAny_noted ?_;rw[compTurn_dict];refine j4 (Zd (j4 (jY (turn n s hI) (λr s1 h1=>?_) λ_ _ h'=>h'.elim)));cases r with
 |none=>exact jp h1
 |some v=>
  refine j4 (jY h1 (λ_ s1' h1'=>?_) λ_ _ h'=>h'.elim);refine j4 (jY h1' (λ_ s2 h2=>j4 (jY h2 (λok s3 h3=>?_) λ_ _ h'=>h'.elim)) λ_ _ h'=>h'.elim);cases ok with
  |false=>exact jp ⟨rfl,h3⟩
  |true=>
   exact j4 (j4 (jY h3 (λkv s4 h4=>j4 (Qi (jY h4 (λvv s5 h5=>j4 (Zd (Qi (jY h5 (λ_ s6 h6=>jp ⟨rfl,h6⟩) λ_ _ h'=>h'.elim)))) λ_ _ h'=>h'.elim))) λ_ _ h'=>h'.elim))
end
def Ft(J:It)(g:TG)(tt:TT)(tk tv:TE)(sg':St)(Q:VK)(H1:Hp):Prop:=
 ∀ D,H1 D=aB->∃ W:Nat->Nat->Hp->Prop,(∃ m,W 0 m (aR H1 D (.dK [])))/\∀ i m H,W i m H->
  (J.stop i H/\Q (.ref D) H)∨(J.go i H/\∀ x H',J.yld i H x H'->g x sg' H' λs2 H2=>tt s2 H2 λb H3=>if b=aC then
   tk s2 H3 λy H4=>tv s2 H4 λz H5=>∃ kvs k,H5 D=aA (.dK kvs)/\y=kV k/\kvs.length < jr/\∃ m',m' < m/\W (i+1) m' (aR H5 D (.dK (dN kvs k z)))
   else ∃ m',m' < m/\W (i+1) m' H3)
section
variable {tg kx vx iter:Q3}{ifs:List Q3}{wi:TI}{g:TG}{tt:TT}{tk tv:TE}
theorem Dx{pc:List (jw × Obj)}{sg:St}{H:Hp}{s2:jd}{cl:List (Str × jw)}{it:jw}{fp:List jw}{tn:Nat->QN->Prop}{J:It}{Q:VK}{E:j8->jd->Prop}{RR:j8->jw->JF->jd->Prop}
  (hc:X.calm=aC) (hcap:capOk N X.N scope X.env.scope caps=aC) (hkind:scope.kind=.function) (hcell:∀ y∈scope.names,y.2≠.cell)
  (hg:∀ cl C s0 H0 fp,PG (bc X N scope cl C s0 H0 fp) tg g) (hgk:i5 caps g) (ht:∀ cl C s0 H0 fp,im (bc X N scope cl C s0 H0 fp) ifs tt) (hk:∀ cl C s0 H0 fp,PE (bc X N scope cl C s0 H0 fp) kx tk) (he:∀ cl C s0 H0 fp,PE (bc X N scope cl C s0 H0 fp) vx tv)
  (hcl1:∀ p∈cl,X.env.cells.lookup p.1=aA p.2) (hcl2:∀ x,(x,Qt)∈scope.names->∃ c,(x,c)∈cl)
  (I2:Inv X pc sg H s2) (T:Turn X.prog X.w X.K tg J fp it tn) (st2:tn 0 s2.heap) (f2:∀ b∈fp,ez X pc H b) (hw:Ft J g tt tk tv (cK caps sg) Q H)
  (hRR:∀(D C:jw) (s':jd) (H':Hp) (m':Str->Option j8),Inv X pc sg H' s'->s'.heap.Ns C m'->H' C=aB->s2.heap.objs.size<=C->(∀ x c,X.env.cells.lookup x=aA c->c≠C)->(∀ p∈X.pn++pc,p.1≠C)->C≠X.env.locals->Q (.ref D) H'->RR (.ref D) C (.ok .next) s') :
  jJ (jO X.prog X.w) X.A (newDict) (λacc s3=>jJ (jO X.prog X.w) X.A (newFunctionEnv scope X.env.globals cl [] X.env.qual aB .none (aA X.env)) (λcenv s4=>
   Yg (jO X.prog X.w) X.A (.compStart (.DictComp kx vx [⟨tg,iter,ifs,0⟩] scope pos) 0 (.ref it) acc { cenv with scope:=JO scope X.env }) (RR acc cenv.locals) s4) E s3) E s2:=by
 refine WK ?_;have I3:Inv X pc sg (aR H s2.heap.objs.size (.dK [])) { s2 with heap:=s2.heap.push { cls:=.type "dict",dict:=aB,data:=.dict #[] } }:=
  I2.laid (t':=s2.toks) (λb u e=>jb _ e) (ji _) (yh s2.heap I2.big)
 have hfree:H s2.heap.objs.size=aB:=I2.hok.fresh (ji _);obtain⟨W,⟨mm,w0⟩,turn⟩:=hw s2.heap.objs.size hfree;generalize hD:s2.heap.objs.size=D at *;generalize hs3:({ s2 with heap:=s2.heap.push { cls:=.type "dict",dict:=aB,data:=.dict #[] } }:jd)=s3 at *;have hlt3:∀ b o,s2.heap.get? b=aA o->s3.heap.get? b=aA o:=λb o e=>by rw[<-hs3]; exact jb _ e
 have hsz3:s3.heap.objs.size=D+1:=by rw[<-hs3,<-hD]; exact gq ..
 have fpD:∀ b∈fp,b < D:=λb hb=>by
  obtain⟨o,ho,_⟩:=T.obj 0 _ st2 b hb;rw[<-hD]; exact jo ho
 have f3:∀ b∈fp,ez X pc (aR H D (.dK [])) b:=λb hb=>⟨by rw[ac (jG (fpD b hb))]; exact(f2 b hb).1,(f2 b hb).2⟩
 have lt3:∀ b∈fp,b < s3.heap.objs.size:=λb hb=>by rw[hsz3]; exact Z0 (fpD b hb)
 have st3:tn 0 s3.heap:=T.keep 0 _ _ st2 λb _ o e=>hlt3 b o e;refine NR hcell (by intro y hy; simp at hy) (λh1 hns1 hsb1=>?_) hkind
 try dsimp only at hns1 hsb1 ⊢
 have keep1:∀ b u,s3.heap.get? b=aA u->h1.get? b=aA u:=λb u e=>hsb1.extBut b u (jG (jo e)) (jb _ e);have I4:=Ek (N:=N) (tk:=s3.toks+([]:List (Str × j8)).length) hcap hkind hcell I3 hcl1 hcl2 f3 lt3 keep1 hns1;have loop:Yg (jO X.prog X.w) X.A (.compLoop (.DictComp kx vx [⟨tg,iter,ifs,0⟩] scope pos) 0 (.ref it) (.ref D) (Je scope cl s3.heap.objs.size X.env)) (RR (.ref D) s3.heap.objs.size) { s3 with heap:=h1,toks:=s3.toks+([]:List (Str × j8)).length }:=by
  generalize hX':bc X N scope cl s3.heap.objs.size s3 (aR H D (.dK [])) fp=X' at I4;have eP:X'.prog=X.prog:=by rw[<-hX']; rfl
  have ew:X'.w=X.w:=by rw[<-hX']; rfl
  have eK:X'.K=X.K:=by rw[<-hX']; rfl
  have eA:X'.A=X.A:=by rw[<-hX']; rfl
  have eE:X'.env=Je scope cl s3.heap.objs.size X.env:=by rw[<-hX']; rfl
  have ex:X'.xe=λ_ _=>False:=by rw[<-hX']; rfl
  have ecalm:X'.calm=aC:=by rw[<-hX']; exact hc
  have hg':PG X' tg g:=by rw[<-hX']; exact hg _ _ _ _ _
  have ht':im X' ifs tt:=by rw[<-hX']; exact ht _ _ _ _ _
  have hk':PE X' kx tk:=by rw[<-hX']; exact hk _ _ _ _ _
  have he':PE X' vx tv:=by rw[<-hX']; exact he _ _ _ _ _
  have stat:∀ {H':Hp},(∀ b∈fp,H' b=aB)->∀ b∈fp,ez X' [] H' b:=λ{H'} hn b hb=>by
   refine⟨hn b hb,?_,?_,?_,?_,λp hp=>?_⟩
   ·rw[<-hX']; exact jG (lt3 b hb)
   ·rw[<-hX'];exact λz=>(se (N:=N) hkind hcell I3 hcl1 hcl2 f3 lt3).exfs b hb z
   ·rw[<-hX']; exact .inl hb
   ·rw[<-hX'];exact((se (N:=N) hkind hcell I3 hcl1 hcl2 f3 lt3).exf b hb).2
   ·rw[<-hX'] at hp; cases hp
  have out:∀ {sg':St} {H':Hp} {s':jd},Inv X' [] sg' H' s'->Inv X pc sg H' s':=λ{sg' H' s'} I'=>by
   have hb:=I'.base;rw[<-hX'] at hb;have ho:=I'.os;rw[<-hX'] at ho;have hk:=I'.hok;rw[eP,ew] at hk;exact I3.call' (ch:=fp) ho hb hk I'.bare λb hb=>⟨(f3 b hb).2.2.2.1,(f3 b hb).2.1,(f3 b hb).2.2.2.2.1,(f3 b hb).2.2.2.2.2⟩
  rw[<-eE,<-eA,<-eP,<-ew];refine UQ (λn s'=>∃ i H',Inv X' [] (cK caps sg) H' s'/\tn i s'.heap/\(∀ b∈fp,H' b=aB)/\W i n H') ?_ mm
   ⟨0,_,I4,T.keep 0 _ _ st3 λb _ o e=>keep1 b o e,λb hb=>(f3 b hb).1,w0⟩
  rintro n s5 ⟨i,H5,I5,st5,fr5,w5⟩;rcases turn i n H5 w5 with ⟨stop,q⟩ |⟨go,step⟩
  ·have z:=T.done X' eP ew eK ecalm i [] s5 _ H5 (λ_ _=>False) I5 (stat fr5) st5 stop;rw[<-eP,<-ew] at z;refine aV z λr s6 h_=>?_; obtain⟨hr,I6⟩:=h_;subst hr;obtain⟨m',hn',_⟩:=I6.loc;have hfr:=I6.free;rw[eE] at hn' hfr;refine hRR D s3.heap.objs.size s6 H5 m' (out I6) hn' hfr (by rw[hsz3]; exact gA _) (λx c e z=>?_) (λp hp z=>?_) (λz=>?_) q
   ·obtain⟨v,o,ho,_⟩:=I3.cell x c e;rw[z] at ho;exact absurd (jo ho) (Q4 _)
   ·have:=jo (I3.pin p hp).1;rw[z] at this;exact absurd this (Q4 _)
   ·have:=I3.lt;rw[<-z] at this;exact absurd this (Q4 _)
  ·have z:=T.item X' eP ew eK ecalm i [] s5 _ H5 (λ_ _=>False) I5 (stat fr5) st5 go;rw[<-eP,<-ew] at z;refine aV z λr s6 h_=>?_; obtain⟨u,hr,h6⟩:=h_;subst hr;dsimp only;refine aV h6 λ_ s7 h_=>?_; obtain⟨x,H7,I7,r7,y7,st7,fr7⟩:=h_;have I7':=I7.pinned (stat fr7) (T.obj _ _ st7);have q7:=step x H7 y7;have a7:=hg' _ s7 (cK caps sg) H7 x u _ I7' r7 (hgk _ _ _ _ q7);rw[ex] at a7;refine aV a7 λ_ s8 h_=>?_; obtain⟨sg8,H8,I8,q8,k8⟩:=h_;have k8':∀(j:Nat) (v:V),(cK caps sg)[j]?=aA (aA v)->sg8[j]?=aA (aA v):=λj v e=>by
    have e':=e;unfold cK at e';rw[jg] at e';cases hc:caps[j]? with
    |none=>rw[hc] at e'; simp at e'
    |some o=>
     cases o with
     |none=>rw[hc] at e'; simp at e'
     |some k=>rw[k8 j k hc]; exact e
   have a8:=ht' _ s8 sg8 H8 _ I8 q8;rw[ex] at a8;refine aV a8 λok s9 h_=>?_; obtain⟨H9,I9,q9⟩:=h_;have JZ:∀ {sg':St} {H':Hp} {s':jd} {m':Nat},Inv X' ([]++qU fp s7.heap) sg' H' s'->(∀(j:Nat) (v:V),(cK caps sg)[j]?=aA (aA v)->sg'[j]?=aA (aA v))->m' < n->W (i+1) m' H'->
     ∃ m,m < n/\∃ i H',Inv X' [] (cK caps sg) H' s'/\tn i s'.heap/\(∀ b∈fp,H' b=aB)/\W i m H':=λ{sg' H' s' m'} I' hs hm hw=>by
    refine⟨m',hm,i+1,H',I'.unpinned.forget (I4.len.trans I'.len.symm) hs,T.keep _ _ _ st7 λb hb o e=>(I'.pin (b,o) (jB _ (jB _ (qo hb e)))).1,λb hb=>?_,hw⟩;obtain⟨o,e,d⟩:=T.obj _ _ st7 b hb;exact(I'.pin (b,o) (jB _ (jB _ (qo hb e)))).2.1
   cases ok with
   |false=>
    obtain⟨m',hm,w9⟩:=q9;exact JZ I9 k8' hm w9
   |true=>
    have a9:=hk' _ s9 sg8 H9 _ I9 q9;rw[ex] at a9;refine aV a9 λkv s10 h_=>?_; obtain⟨y,H10,I10,r10,q10⟩:=h_;have a10:=he' _ s10 sg8 H10 _ I10 q10;rw[ex] at a10;refine aV a10 λvv s11 h_=>?_; obtain⟨z,H11,I11,r11,kvs,k,hD',ey,hz,m',hm,w11⟩:=h_;subst ey;obtain⟨zz,hdd,vs,rel,dd⟩:=uB I11.hok hD';have hvz:vs.length<=jr:=by rw[<-rel.length]; exact zz
    have hl:(dN kvs k z).length<=jr:=by have:=t3 kvs k z; lia
    refine wpAny_dictSet_pairs (hsz:=hvz) (oG r10) dd λh' dd' hs=>?_;have he2:∃ q,h'.get? D=aA q:=let ⟨q,_,_,hq,_⟩:=dd'; ⟨q,hq⟩
    have I12:=sH (t':=s11.toks+1) I11 (by rw[hD']; exact Zm) hs he2 (xW hl hdd (rel.put k r11) dd')
    exact JZ I12 k8' hm w11
 exact codeAny_compStart_dict loop (T.self _ _ _ _ _ (T.keep 0 _ _ st3 λb _ o e=>keep1 b o e) loop)
def oj(caps:List (Option Nat))(wi:TI)(g:TG)(tt:TT)(tk tv:TE):TE:=λsg H Q=>wi sg H λJ H1=>Ft J g tt tk tv (cK caps sg) Q H1
theorem IZ(hc:X.calm=aC)(hi:PI X tg iter wi)(hg:∀ cl C s0 H0 fp,PG (bc X N scope cl C s0 H0 fp) tg g)(hgk:i5 caps g)(ht:∀ cl C s0 H0 fp,im (bc X N scope cl C s0 H0 fp) ifs tt)(hk:∀ cl C s0 H0 fp,PE (bc X N scope cl C s0 H0 fp) kx tk)(he:∀ cl C s0 H0 fp,PE (bc X N scope cl C s0 H0 fp) vx tv)
  (hcap:capOk N X.N scope X.env.scope caps=aC:=by rfl) (hkind:scope.kind=.function:=by rfl) (hcell:scope.names.all (λp=>p.2 != .cell)=aC:=by rfl)
  (hnames:scope.names.all (λp=>p.2 != .local||scope.names.lookup p.1 == aA .local)=aC:=by rfl)
  (hfr:scope.names.all (λp=>p.2 != .free||(X.env.scope.names.lookup p.1 == aA .cell||X.env.scope.names.lookup p.1 == aA .free))=aC:=by rfl)
  (hs:∀ x,Qz iter X.env x=pure x:=by intro _; rfl):PE X (.DictComp kx vx [⟨tg,iter,ifs,0⟩] scope pos) (oj caps wi g tt tk tv):=by
 intro pc s sg H Q I h;have hcell':∀ y∈scope.names,y.2≠.cell:=λy hy=>by simpa using jz.mp hcell y hy
 have hnames':∀ x∈scope.names,x.2=.local->scope.names.lookup x.1=aA .local:=λx hx e=>by
  have q:=jz.mp hnames x hx;rw[e] at q;simpa using q
 obtain⟨cl,hclos,hcl1,hcl2⟩:=vj (scope:=scope) (env:=X.env) (v9 I.ok hfr);rw[arm_eval_DictComp];refine ZF (use:=aB) rfl hs hclos hkind hnames' (aV (hi pc s sg H _ I h) λv s1 h1=>aV h1 λitv s2 h2=>?_);obtain⟨it,fp,tn,J,H2,e,I2,T,st2,f2,hw⟩:=h2;subst e;refine Dx (RR:=λacc C=>JQ (jO X.prog X.w) X.A X.xe aB (EP X pc sg Q) acc C) hc hcap hkind hcell' hg hgk ht hk he hcl1 hcl2 I2 T st2 f2 hw ?_;intro D C s' H' m' I' hn hfree hCs hCc hCp hCl q;refine⟨m',hn,λh' hs'=>⟨.ref D,H',?_,rfl,q⟩⟩;exact I'.turned (t':=s'.toks) (it:=C) (λb o hb e=>(hs'.2 b hb).trans e) hfree hCl (.inr (Q9 I2.sz hCs)) hCc hCp
theorem Pu{i:Nat}{y:Str}{py spos:Pos}(hN:X.N.Nodup)(hiy:X.N[i]?=aA y)(hy:X.env.scope.names.lookup y=aA .local)(hc:X.calm=aC)(hi:PI X tg iter wi)(hg:∀ cl C s0 H0 fp,PG (bc X N scope cl C s0 H0 fp) tg g)(hgk:i5 caps g)(ht:∀ cl C s0 H0 fp,im (bc X N scope cl C s0 H0 fp) ifs tt)(hk:∀ cl C s0 H0 fp,PE (bc X N scope cl C s0 H0 fp) kx tk)(he:∀ cl C s0 H0 fp,PE (bc X N scope cl C s0 H0 fp) vx tv)
  (hsw:ZX (.DictComp kx vx [⟨tg,iter,ifs,0⟩] scope pos) (aA (.Name y py)) spos.line X.env=pure aC:=by rfl)
  (hcap:capOk N X.N scope X.env.scope caps=aC:=by rfl) (hkind:scope.kind=.function:=by rfl) (hcell:scope.names.all (λp=>p.2 != .cell)=aC:=by rfl)
  (hnames:scope.names.all (λp=>p.2 != .local||scope.names.lookup p.1 == aA .local)=aC:=by rfl)
  (hfr:scope.names.all (λp=>p.2 != .free||(X.env.scope.names.lookup p.1 == aA .cell||X.env.scope.names.lookup p.1 == aA .free))=aC:=by rfl)
  (hs:∀ x,Qz iter X.env x=pure x:=by intro _; rfl):PS X (.Assign [.Name y py] (.DictComp kx vx [⟨tg,iter,ifs,0⟩] scope pos) spos) (dq (oj caps wi g tt tk tv) (dY i)):=by
 intro pc s sg H D0 I h;have hcell':∀ y∈scope.names,y.2≠.cell:=λy hy=>by simpa using jz.mp hcell y hy
 have hnames':∀ x∈scope.names,x.2=.local->scope.names.lookup x.1=aA .local:=λx hx e=>by
  have q:=jz.mp hnames x hx;rw[e] at q;simpa using q
 obtain⟨cl,hclos,hcl1,hcl2⟩:=vj (scope:=scope) (env:=X.env) (v9 I.ok hfr);rw[Nv _ _ _ _ hsw];refine j4 (Zd (j4 ?_));show jJ _ X.A (do let _ <-comprehension (.DictComp kx vx [⟨tg,iter,ifs,0⟩] scope pos) scope X.env _ (newDict) aD (eval iter X.env) (aA (gZ (.Name y py) X.env))) _ _ s
 refine j4 (jY (ZF (use:=aA (gZ (.Name y py) X.env)) (Q:=λ_ s'=>SP X pc D0 .next s') rfl hs hclos hkind hnames'
  (aV (hi pc s sg H _ I h) λv s1 h1=>aV h1 λitv s2 h2=>?_)) (λ_ s' hq=>jp (jp hq)) λ_ _ e=>e)
 obtain⟨it,fp,tn,J,H2,e,I2,T,st2,f2,hw⟩:=h2;subst e;refine Dx (Q:=λx H1=>dY i x sg H1 D0.nx) (RR:=λacc C=>JQ (jO X.prog X.w) X.A X.xe (aA (gZ (.Name y py) X.env)) (λ_ s'=>SP X pc D0 .next s') acc C) hc hcap hkind hcell' hg hgk ht hk he hcl1 hcl2 I2 T st2 f2 hw ?_
 intro D C s' H' m' I' hn hfree hCs hCc hCp hCl q;show jJ _ X.A (gZ (.Name y py) X.env (.ref D)) _ _ _;refine YI (zB I' hN hiy (.inl hy) (v:=.ref D) rfl (λs3 I3 ⟨a,hs3,ha⟩=>?_) (.inr hy));have hCa:C≠a:=by
  rcases ha with z |z
  ·rw[z]; exact hCl
  ·exact λz'=>hCc y a z z'.symm
 refine⟨m',hn.sameBut hs3 hCa,λh' hs'=>?_⟩;exact⟨_,H',I3.turned (t':=s3.toks) (it:=C) (λb o hb e=>(hs'.2 b hb).trans e) hfree hCl (.inr (Q9 I2.sz hCs)) hCc hCp,q⟩
end
section
theorem DU{k:aK}{v:j8}(h:oH k v=aC):RelV (kV k) v:=by
 rcases lG h with ⟨i,t,rfl,rfl⟩ |⟨x,t,rfl,rfl⟩
 ·exact⟨t,rfl⟩
 ·exact⟨t,rfl⟩
theorem F5:∀ {xs:List V} {us:List j8},xs.length=us.length->(∀(j:Nat) x u,xs[j]?=aA x->us[j]?=aA u->RelV x u)->Vals xs us:=by
 intro xs
 induction xs with
 |nil=>
  intro us hl _;cases us with
  |nil=>exact .nil
  |cons _ _=>cases hl
 |cons x xs ih=>
  intro us hl h;cases us with
  |nil=>cases hl
  |cons u us=>exact .cons (h 0 x u rfl rfl) (ih (WX hl) λj y v e1 e2=>h (j+1) y v e1 e2)
theorem CW{κ:Type}{kvs:List (κ × V)}{vs:List (κ × j8)}{j:Nat}{p:κ × V}(h:KV kvs vs):kvs[j]?=aA p->∃ q,vs[j]?=aA q/\p.1=q.1/\RelV p.2 q.2:=by
 induction h generalizing j with
 |nil=>intro e; cases e
 |cons r t ih=>
  intro e;cases j with
  |zero=>obtain rfl:=jh e; exact⟨_,rfl,r⟩
  |succ j=>exact ih (j:=j) e
theorem UV(hc:X.calm=aC):CallR X (.type "list") (λxs H Q=>∃ a kvs,xs=[V.ref a]/\Rd H a (.dK kvs)/\∀ l,H l=aB->Q (.ref l) (aR H l (.lst (kvs.map λkv=>kV kv.1)))):=by
 intro pc s σ H xs us Q I rv h;obtain⟨a,kvs,rfl,e,q⟩:=h;obtain⟨u,rfl,ru⟩:=rv.one;cases ru;obtain⟨z,hd,vs,rel,dd⟩:=oF I.hok e;have hl:vs.length<=jr:=by rw[<-rel.length]; exact z
 obtain⟨ep,da⟩:=dd.dictAt;refine PySem.W.kdl_call (PySem.W.kdl_dict (knd:=ef X.prog X.w) (kvs:=vs) (ep:=ep) hd) (I.ok.hd hc) da hl λh' tk acc c hk hnew hit=>?_;have hv:Vals (kvs.map λkv=>kV kv.1) acc.toList:=by
  refine F5 (by have h1:=hit.1; have h2:=rel.length; simp only[j5,QD]; lia) λj x u e1 e2=>?_
  rw[jg] at e1;obtain⟨p,h1,h2⟩:=Qm e1;obtain⟨k,y,h3,h4⟩:=hit.2 j u (by simpa using e2)
  obtain⟨w,h5,h6⟩:=CW rel h1;rw[h3] at h5;injection h5 with h5;subst h5 h2;rw[h6.1];exact DU h4
 exact⟨.ref _,_,I.laid (a:=s.heap.objs.size) (o:=.lst (kvs.map λkv=>kV kv.1)) (t':=tk) hk (ji _) ⟨by rw[j5]; exact z,acc.toList,c,hv,by rw[hnew]⟩,rfl,q _ (I.hok.fresh (ji _))⟩
end
section
variable {e:Q3}{te:TE}{p2:Pos}
def G6(K:j9)(te:TE)(ts:TO):TE:=fun σ H Q=>te σ H λx H1=>ts σ H1 λk H2=>k=aA (-1)/\∃ a xs,x=.ref a/\ad K H2 a xs/\∀ p,H2 p=aB->Q (.ref p) (aR H2 p (.lst xs.reverse))
theorem Lu{st:Q3}{ts:TO}(he:PE X e te)(hs:PO X (aA st) ts):PE X (.Subscript e (.Slice aB aB (aA st) p2) pos) (G6 X.K te ts):=by
 intro pc s σ H Q I h;refine WE (aV (he pc s σ H _ I h) λv s1 h_=>?_); obtain⟨x,H1,I1,r1,q1⟩:=h_;refine wpAny_Slice ?_;rw[Wi];refine jp (jp (aV (hs pc s1 σ H1 _ I1 q1) λvk s3 h_=>?_)); obtain⟨k,H3,I3,pk,q3⟩:=h_;obtain⟨rfl,a,xs,rfl,hx,q⟩:=q3;cases r1;have I4:Inv X pc σ H3 { s3 with heap:=s3.heap.push { cls:=.type "slice",data:=.fields #[.none,.none,vk] } }:=I3.kept (t':=s3.toks) λb ob q=>jb _ q;obtain⟨its,r,ht,hz⟩:=I4.list hx;have hlen:=r.length;show jJ (jO X.prog X.w) X.A (N1 e (.Slice aB aB (aA st) p2) (.ref a) (.ref s3.heap.objs.size)) (EP X pc σ Q) X.xe { s3 with heap:=s3.heap.push { cls:=.type "slice",data:=.fields #[.none,.none,vk] } };refine tail_any (ops:=[.ref a,.ref s3.heap.objs.size]) ht.isList.typeIs YK.lookup ?_ (by with_unfolding_all rfl)
 refine YL ht.isList (Wj ..) .none .none pk (by decide) ?_ (by rw[ju]<;>lia)
 rw[PySem.W.krv_pick];refine⟨.ref _,_,I4.laid (t':=s3.toks) (o:=.lst xs.reverse) (λb ob q=>jb _ q) (ji _) ?_,rfl,q _ (I4.hok.fresh (ji _))⟩;exact⟨by rw[W5]; exact hz,_,0,r.reverse,jM _ rfl⟩
end
section
variable {a:Q3}{ta:TA}{p p' pos':Pos}
def VN(ta:TA):TE:=fun σ H Q=>ta σ H λvs H1=>∃ j:Int,vs=[.int j]/\-(2 ^ 62)<=j/\j<=16777216/\∀ l,H1 l=aB->Q (.ref l) (aR H1 l (.lst ((j6 j.toNat).map fun(k:Nat)=>V.int k)))
theorem Tp(hc:X.calm=aC)(hg:Gl X "list")(hm:X.mg "list"=aB)(hg':Gl X "range")(hm':X.mg "range"=aB)(ha:PA X [a] ta)(hs:jf [a] X.env=[(aD,eval a X.env)]:=by rfl)
  (hs':jf [.Call (.Name "range" p') [a] [] pos'] X.env=[(aD,eval (.Call (.Name "range" p') [a] [] pos') X.env)]:=by rfl) :
  PE X (.Call (.Name "list" p) [.Call (.Name "range" p') [a] [] pos'] [] pos) (VN ta):=by
 intro pc s σ H Q I h;refine Call_ (iz I hg hm boot_list (Qj ?_ hs' rfl));rw[hs'];show jJ _ _ (spliced [(aD,eval (.Call (.Name "range" p') [a] [] pos') X.env)]) _ _ s;refine Wd (Call_ (iz I hg' hm' JE (Qj (aV (ha pos' pc s σ H _ I h) λus s1 ⟨vs,H1,I1,r1,q1⟩=>?_) hs rfl)));obtain⟨j,e,q1,q2,q⟩:=q1;subst e;cases r1 with
 |cons r rr=>
  cases rr;obtain⟨t,rfl⟩:=r;refine call_range_1 (WC ?_);have I2:Inv X pc σ H1 { s1 with heap:=s1.heap.push { cls:=.type "range",data:=.fields #[.int 0 s1.toks,.int j t,.int 1 (s1.toks+1)] },toks:=s1.toks+1+1 }:=I1.kept λb o e=>jb _ e;have hn:YZ 0 j 1=(j.toNat:Int):=by rw[rangeSize_one]; split<;>lia
  refine call_list_range (I2.ok.hd hc) (U8 ..) (small_one (by lia) (by lia) q1 (by lia)) hn (by lia) λh' tk acc c hk hnew hit=>?_
  have hv:Vals ((j6 j.toNat).map fun(k:Nat)=>V.int k) acc.toList:=by
   refine F5 (by have h1:=hit.1; simp only[j5,QK,QD]; lia) λi x u e1 e2=>?_
   rw[jg] at e1;obtain⟨k,h1,h2⟩:=Qm e1;obtain⟨tk',h3⟩:=hit.2 i u (by simpa using e2)
   obtain⟨h4,rfl⟩:=j7.mp h1;subst h2 h3;rw[ZU];exact⟨tk',by rw[Nw,Int.mul_one]⟩
  exact⟨.ref _,_,I2.laid (o:=.lst ((j6 j.toNat).map fun(k:Nat)=>V.int k)) (t':=tk) hk (ji _) ⟨by rw[j5,QK,ZL]; lia,acc.toList,c,hv,by rw[hnew]⟩,rfl,q _ (I2.hok.fresh (ji _))⟩
end
end L2
namespace Dw
open PySem PySem.Spec PyProof.Rows L2
def Sx(l:List Nat):Str:=⟨l.toArray⟩
theorem re(l:List Nat):(Sx l).cps.toList=l:=by simp[Sx]
theorem oI(l:List Nat):(Sx l).length=l.length:=by simp[Sx,Str.length]
theorem CC{l m:List Nat}(h:Sx l=Sx m):l=m:=by
 have:=congrArg (λx=>x.cps.toList) h;simpa[Sx] using this
theorem KZ(l m:List Nat):Sx l++Sx m=Sx (l++m):=by
 show Str.mk _=_;simp[Sx]
theorem HI(l:List Nat){j:Int}(h0:0<=j)(h:j<=l.length):YM (Sx l) aB (aA j)=Sx (l.take j.toNat):=by
 have:=slice_closes_to (x:=Sx l) (j:=j) ⟨h0,by rw[re]; exact h⟩
 rw[eq_of_beq this,re];simp[Sx]
theorem MJ(l:List Nat){j:Int}(h0:0<=j)(h:j<=l.length):YM (Sx l) (aA j) aB=Sx (l.drop j.toNat):=by
 have:=slice_closes_from (x:=Sx l) (i:=j) ⟨h0,by rw[re]; exact h⟩
 rw[eq_of_beq this,re,Q1 (by rw[QU]; lia)]
 rfl
def ia(x:Str):Prop:=1<=x.length/\x.length<=8/\∀ c∈x.cps.toList,97<=c/\c<=122
abbrev letters:Str:="abcdefghijklmnopqrstuvwxyz"
theorem Sa{i:Int}(h0:0<=i)(h:i < 26):cp letters.cps.toList i=aA (97+i.toNat):=by
 have key:∀ j:Nat,j < 26->letters.cps.toList[j]?=aA (97+j):=by decide +kernel
 have ek:i=((i.toNat:Nat):Int):=by lia
 have q:=ML (key i.toNat (by lia))
 rw[<-ek] at q;exact q
theorem Ta:letters.length<=jr:=by decide +kernel
structure Pairing (ps:List Nat) (n:Nat):Prop where
 len:ps.length=2*n
 lt:∀ k∈ps,k < n
 two:∀ k,k < n->ps.count k=2
structure Half (pl:List (Option Nat)) (n i:Nat):Prop where
 len:pl.length=2*n
 lt:∀ k,aA k∈pl->k < i
 two:∀ k,k < i->pl.count (aA k)=2
 free:pl.count aB+2*i=2*n
theorem Half.start(n:Nat):Half (gY (2*n) aB) n 0:=by
 refine⟨Y0 ..,λk hk=>?_,λk hk=>absurd hk (Z7 k),?_⟩
 ·have:=YN hk;cases this
 ·rw[List.count_replicate_self]; lia
theorem zu{α β:Type}[BEq α][LawfulBEq α][BEq β][LawfulBEq β]{f:α->β}(hf:∀ a b,f a=f b->a=b)(x:α):∀ l:List α,(l.map f).count (f x)=l.count x
 |[]=>rfl
 |a::r=>by
  rw[jq,ZZ,ZZ,zu hf x r]
  by_cases e:a=x
  ·subst e; simp
  ·have e1:(a == x)=aD:=by simpa using e
   have e2:(f a == f x)=aD:=by simpa using λz=>e (hf _ _ z)
   rw[e1,e2]
theorem oN{l:List Str}{k:Nat}(h:k < l.length):l.getD k jC=l[k]:=by
 simp[List.getD,j3 h]
theorem Half.next{pl:List (Option Nat)}{n i f0 f1:Nat}(h:Half pl n i)(hi:i < n)(h0:pl[f0]?=aA aB)(h1:pl[f1]?=aA aB)(hne:f0≠f1):Half ((pl.set f1 (aA i)).set f0 (aA i)) n (i+1):=by
 obtain⟨l1,e1⟩:=j7.mp h1;have h0':(pl.set f1 (aA i))[f0]?=aA aB:=by rw[jm (ZA hne)]; exact h0
 obtain⟨l0,e0⟩:=j7.mp h0';have ci:pl.count (aA i)=0:=by
  refine gM.mpr λhm=>?_;exact absurd (h.lt i hm) (Q4 _)
 have cn:=h.free;have key:∀ x,((pl.set f1 (aA i)).set f0 (aA i)).count x=pl.count x - (if (aB:Option Nat) == x then 1 else 0)+(if aA i == x then 1 else 0) - (if (aB:Option Nat) == x then 1 else 0)+(if aA i == x then 1 else 0):=λx=>by
  rw[Jv l0,e0,Jv l1,e1]
 refine⟨by rw[Qg,Qg]; exact h.len,λk hk=>?_,λk hk=>?_,?_⟩
 ·rcases YD hk with z |z
  ·rcases YD z with z |z
   ·exact Z0 (h.lt k z)
   ·cases z; exact Zn _
  ·cases z; exact Zn _
 ·rw[key]
  by_cases e:k=i
  ·subst e;rw[ci];simp
  ·have:(aA i == aA k)=aD:=by simpa using λz=>e z.symm
   rw[this];simpa using h.two k (by lia)
 ·rw[key];have:(aA i == (aB:Option Nat))=aD:=rfl;rw[this];have:((aB:Option Nat) == aB)=aC:=rfl;rw[this];simp only[if_true,Za,if_false];lia
theorem Half.done{pl:List (Option Nat)}{n:Nat}(h:Half pl n n):∃ ps:List Nat,Pairing ps n/\pl=ps.map aA:=by
 have hz:pl.count aB=0:=by have:=h.free; lia
 have hn:aB∉pl:=gM.mp hz;obtain⟨ps,rfl⟩:∃ ps:List Nat,pl=ps.map aA:=by
  clear h hz
  induction pl with
  |nil=>exact⟨[],rfl⟩
  |cons o r ih=>
   obtain⟨ps,rfl⟩:=ih λz=>hn (jA _ z);cases o with
   |none=>exact absurd jW hn
   |some j=>exact⟨j::ps,rfl⟩
 refine⟨ps,⟨by have:=h.len; rwa [j5] at this,λk hk=>h.lt k (List.mem_map_of_mem hk),λk hk=>?_⟩,rfl⟩
 have:=h.two k hk
 rwa [zu (λa b z=>jh z)] at this
theorem Pairing.put{ps sh:List Nat}{n m t:Nat}(h:Pairing ps n)(hs:Pairing sh m):Pairing (ps.take t++(sh.map λk=>n+k)++ps.drop t) (n+m):=by
 have perm:List.Perm (ps.take t++(sh.map λk=>n+k)++ps.drop t) (ps++sh.map λk=>n+k):=by
  rw[Ql];have:List.Perm (ps.take t++((sh.map λk=>n+k)++ps.drop t)) (ps.take t++(ps.drop t++(sh.map λk=>n+k))):=Nx _ List.perm_append_comm;refine this.trans ?_;rw[<-Ql,Z8]
 refine⟨?_,λk hk=>?_,λk hk=>?_⟩
 ·rw[perm.length_eq,jn,j5,h.len,hs.len]; lia
 ·rcases jt.mp (perm.mem_iff.mp hk) with z |z
  ·have:=h.lt k z; lia
  ·obtain⟨j,hj,rfl⟩:=jx.mp z;have:=hs.lt j hj; lia
 ·rw[perm.count_eq,List.count_append]
  by_cases c:k < n
  ·rw[h.two k c];have:(sh.map λk=>n+k).count k=0:=gM.mpr λhm=>by
    obtain⟨j,_,e⟩:=jx.mp hm;lia
   rw[this]
  ·have e1:ps.count k=0:=gM.mpr λhm=>c (h.lt k hm);obtain⟨j,rfl⟩:∃ j,k=n+j:=⟨k - n,by lia⟩
   rw[e1,zu (f:=λk=>n+k) (λa b (z:n+a=n+b)=>by lia) j sh,hs.two j (by lia)]
theorem Pairing.nil:Pairing [] 0:=⟨rfl,(λk hk=>by cases hk),λk hk=>absurd hk (Z7 k)⟩
theorem Pairing.of_dec{ps:List Nat}{n:Nat}(h1:ps.length=2*n)(h2:ps.all (λk=>aE (k < n))=aC)(h3:(j6 n).all (λk=>aE (ps.count k=2))=aC):Pairing ps n:=
 ⟨h1,λk hk=>of_decide_eq_true (jz.mp h2 k hk),λk hk=>of_decide_eq_true (jz.mp h3 k (jc.mpr hk))⟩
structure GoodWord (wd:List Str):Prop where
 name:∀ x∈wd,ia x
 two:∀ x∈wd,wd.count x=2
 len:wd.length<=60
theorem Ez{names:List Str}{ps:List Nat}{n:Nat}(hn:n<=30)(hl:names.length=n)(hd:names.Nodup)(hN:∀ x∈names,ia x)(hp:Pairing ps n):GoodWord (ps.map λk=>names.getD k jC):=by
 have inj:∀ j k,j < n->k < n->names.getD j jC=names.getD k jC->j=k:=λj k hj hk e=>by
  rw[oN (by lia),oN (by lia)] at e
  exact(Y4 hd).mp e
 have memn:∀ k,k < n->names.getD k jC∈names:=λk hk=>by
  rw[oN (by lia)]
  exact jX _
 have cnt:∀(l:List Nat),(∀ k∈l,k < n)->∀ k,k < n->(l.map λk=>names.getD k jC).count (names.getD k jC)=l.count k:=by
  intro l
  induction l with
  |nil=>intro _ _ _; rfl
  |cons j r ih=>
   intro hl' k hk;rw[jq,ZZ,ZZ,ih (λk hk=>hl' k (jA _ hk)) k hk]
   by_cases e:j=k
   ·subst e; simp
   ·have e1:(j == k)=aD:=by simpa using e
    have e2:(names.getD j jC == names.getD k jC)=aD:=by
     simp only[beq_eq_false_iff_ne,ne_eq];exact λz=>e (inj j k (hl' j jW) hk z)
    rw[e1,e2]
 refine⟨λx hx=>?_,λx hx=>?_,?_⟩
 ·obtain⟨k,hk,rfl⟩:=jx.mp hx;exact hN _ (memn k (hp.lt k hk))
 ·obtain⟨k,hk,rfl⟩:=jx.mp hx;rw[cnt ps hp.lt k (hp.lt k hk),hp.two k (hp.lt k hk)]
 ·rw[j5,hp.len]; lia
def bn(wd:List Str)(x:Str):List Nat:=(j6 wd.length).filter λj=>aE (wd[j]?=aA x)
theorem A2(wd:List Str)(x:Str):(bn wd x).length=wd.count x:=by
 unfold bn
 induction wd with
 |nil=>rfl
 |cons o r ih=>
  rw[jk,ZT,Zo,Ny,ZZ];have e:((j6 r.length).filter ((λj=>aE ((o::r)[j]?=aA x))∘Nat.succ))=(j6 r.length).filter λj=>aE (r[j]?=aA x):=rfl;rw[e]
  by_cases h:o=x
  ·subst h;rw[aI (by simp),jk,j5,ih]
   simp
  ·rw[aH (by simpa using h),j5,ih]
   simp[h]
theorem oh{wd:List Str}{x:Str}{i j:Nat}(h:bn wd x=[i,j]):i < j/\j < wd.length:=by
 have hs:(bn wd x).Pairwise (· < ·):=Nz List.filter_sublist Zk
 rw[h] at hs;have hm:j∈bn wd x:=by rw[h]; simp
 refine⟨?_,jc.mp (jQ.mp hm).1⟩;simpa using hs
theorem GoodWord.places{wd:List Str}(g:GoodWord wd){x:Str}(hx:x∈wd):∃ i j,bn wd x=[i,j]:=by
 have hl:=A2 wd x;rw[g.two x hx] at hl
 match h:bn wd x,hl with
 |[i,j],_=>exact⟨i,j,rfl⟩
def fj(wd:List Str)(i j:Nat):List Str:=(wd.drop (i+1)).take (j - (i+1))
def cb(acc:List Str)(x:Str):List Str:=if x∈acc then acc else acc++[x]
def aL(wd:List Str):List Str:=wd.foldl cb []
theorem TW{wd:List Str}{i:Nat}{x:Str}(h:wd[i]?=aA x):aL (wd.take (i+1))=cb (aL (wd.take i)) x:=by
 unfold aL;rw[gr,h,Option.toList_some,WM];rfl
theorem El:∀(wd acc:List Str),(wd.foldl cb acc).length<=acc.length+wd.length
 |[],acc=>by simp
 |x::wd,acc=>by
  rw[ZG];have:=El wd (cb acc x);have h:(cb acc x).length<=acc.length+1:=by unfold cb; split<;>simp
  rw[jk];lia
end Dw
namespace L3
open PySem PySem.Spec PyProof.Rows L2
class TheK where
 K:j9
variable [TheK]
inductive T where
 |non |bl (b:Bool) |int (i:Int) |str (x:Str)
 |lst (xs:List T) |tup (xs:List T) |dct (kvs:List (aK × T)) |set (S:Int->Bool) (n:Nat)
 /-- a dict that will not be changed any more: it may be walked -/
 |fd (kvs:List (aK × T))
 /-- the script -/
 |scr (ns:List Int)
 /-- nothing is known -/
 |any
abbrev Sg:=List (Option T)
inductive Rep (C:jw->Prop) (H:Hp):V->T->Prop
 |non:Rep C H .non .non
 |bl (b:Bool):Rep C H (.bl b) (.bl b)
 |int (i:Int):Rep C H (.int i) (.int i)
 |str (x:Str):Rep C H (.str x) (.str x)
 |lst {a:jw} {vs:List V} {ts:List T} (c:C a) (r:H a=aA (.lst vs)) (l:vs.length=ts.length) (h:∀(i:Nat) v t,vs[i]?=aA v->ts[i]?=aA t->Rep C H v t):Rep C H (.ref a) (.lst ts)
 |tup {a:jw} {vs:List V} {ts:List T} (c:C a) (r:H a=aA (.tup vs)) (l:vs.length=ts.length) (h:∀(i:Nat) v t,vs[i]?=aA v->ts[i]?=aA t->Rep C H v t):Rep C H (.ref a) (.tup ts)
 |dct {a:jw} {kvs:List (aK × V)} {ts:List (aK × T)} (c:C a) (r:H a=aA (.dK kvs)) (l:kvs.map (·.1)=ts.map (·.1)) (h:∀(i:Nat) v t,kvs[i]?=aA v->ts[i]?=aA t->Rep C H v.2 t.2):Rep C H (.ref a) (.dct ts)
 |set {a:jw} {S:Int->Bool} {n:Nat} (c:C a) (r:H a=aA (.set S n)):Rep C H (.ref a) (.set S n)
 |fd {a:jw} {o:Obj} {kvs:List (aK × V)} {ts:List (aK × T)} (c:C a) (r:H a=aA (.frz o (.dK kvs))) (l:kvs.map (·.1)=ts.map (·.1)) (h:∀(i:Nat) v t,kvs[i]?=aA v->ts[i]?=aA t->Rep C H v.2 t.2):Rep C H (.ref a) (.fd ts)
 |scr {a:jw} {ns:List Int} {o:Obj} (c:C a) (r:H a=aA (.frz o (.lst (ns.map V.int)))):Rep C H (.ref a) (.scr ns)
 /-- the script,as an object of the module -/
 |scrK {a:jw} {ns:List Int} (r:∀ H',ad TheK.K H' a (ns.map V.int)):Rep C H (.ref a) (.scr ns)
 |any {v:V}:Rep C H v .any
def Reps(C:jw->Prop)(H:Hp)(vs:List V)(ts:List T):Prop:=vs.length=ts.length/\∀(i:Nat) v t,vs[i]?=aA v->ts[i]?=aA t->Rep C H v t
def RepK(C:jw->Prop)(H:Hp)(vs:List (aK × V))(ts:List (aK × T)):Prop:=vs.map (·.1)=ts.map (·.1)/\∀(i:Nat) v t,vs[i]?=aA v->ts[i]?=aA t->Rep C H v.2 t.2
section
variable {C C':jw->Prop}{H H':Hp}{v:V}{t:T}{vs:List V}{ts:List T}
theorem Rep.mono(h:Rep C H v t)(hc:∀ a,C a->C' a)(hh:∀ a o,C a->H a=aA o->H' a=aA o):Rep C' H' v t:=by
 induction h with
 |non=>exact .non
 |bl b=>exact .bl b
 |int i=>exact .int i
 |str x=>exact .str x
 |lst c r l h ih=>exact .lst (hc _ c) (hh _ _ c r) l ih
 |tup c r l h ih=>exact .tup (hc _ c) (hh _ _ c r) l ih
 |dct c r l h ih=>exact .dct (hc _ c) (hh _ _ c r) l ih
 |set c r=>exact .set (hc _ c) (hh _ _ c r)
 |fd c r l h ih=>exact .fd (hc _ c) (hh _ _ c r) l ih
 |scr c r=>exact .scr (hc _ c) (hh _ _ c r)
 |scrK r=>exact .scrK r
 |any=>exact .any
theorem Rep.there(h:Rep C H v t):Rep (λa=>C a/\H a≠aB) H v t:=by
 induction h with
 |non=>exact .non
 |bl b=>exact .bl b
 |int i=>exact .int i
 |str x=>exact .str x
 |lst c r l h ih=>exact .lst ⟨c,by rw[r]; simp⟩ r l ih
 |tup c r l h ih=>exact .tup ⟨c,by rw[r]; simp⟩ r l ih
 |dct c r l h ih=>exact .dct ⟨c,by rw[r]; simp⟩ r l ih
 |set c r=>exact .set ⟨c,by rw[r]; simp⟩ r
 |fd c r l h ih=>exact .fd ⟨c,by rw[r]; simp⟩ r l ih
 |scr c r=>exact .scr ⟨c,by rw[r]; simp⟩ r
 |scrK r=>exact .scrK r
 |any=>exact .any
theorem Reps.mono(h:Reps C H vs ts)(hc:∀ a,C a->C' a)(hh:∀ a o,C a->H a=aA o->H' a=aA o):Reps C' H' vs ts:=⟨h.1,λi v t e1 e2=>(h.2 i v t e1 e2).mono hc hh⟩
theorem RepK.mono{ks:List (aK × V)}{kt:List (aK × T)}(h:RepK C H ks kt)(hc:∀ a,C a->C' a)(hh:∀ a o,C a->H a=aA o->H' a=aA o):RepK C' H' ks kt:=⟨h.1,λi v t e1 e2=>(h.2 i v t e1 e2).mono hc hh⟩
theorem Reps.there(h:Reps C H vs ts):Reps (λa=>C a/\H a≠aB) H vs ts:=⟨h.1,λi v t e1 e2=>(h.2 i v t e1 e2).there⟩
theorem RepK.there{ks:List (aK × V)}{kt:List (aK × T)}(h:RepK C H ks kt):RepK (λa=>C a/\H a≠aB) H ks kt:=⟨h.1,λi v t e1 e2=>(h.2 i v t e1 e2).there⟩
theorem Reps.nil:Reps C H [] []:=⟨rfl,λi v t e=>by simp at e⟩
theorem Reps.cons(h:Rep C H v t)(hs:Reps C H vs ts):Reps C H (v::vs) (t::ts):=by
 refine⟨by simp[hs.1],λi v' t' e1 e2=>?_⟩
 cases i with
 |zero=>simp at e1 e2; subst e1 e2; exact h
 |succ i=>exact hs.2 i v' t' (by simpa using e1) (by simpa using e2)
theorem Reps.head(hs:Reps C H (v::vs) (t::ts)):Rep C H v t:=hs.2 0 v t rfl rfl
theorem Reps.tail(hs:Reps C H (v::vs) (t::ts)):Reps C H vs ts:=⟨by simpa using hs.1,λi v' t' e1 e2=>hs.2 (i+1) v' t' (by simpa using e1) (by simpa using e2)⟩
theorem Reps.get{i:Nat}(hs:Reps C H vs ts)(e:ts[i]?=aA t):∃ v,vs[i]?=aA v/\Rep C H v t:=by
 have hi:i < ts.length:=(j7.mp e).1;have hv:i < vs.length:=by rw[hs.1]; exact hi
 exact⟨vs[i],j3 hv,hs.2 i _ t (j3 hv) e⟩
theorem Reps.append{vs':List V}{ts':List T}(h:Reps C H vs ts)(h':Reps C H vs' ts'):Reps C H (vs++vs') (ts++ts'):=by
 refine⟨by simp[h.1,h'.1],λi v t e1 e2=>?_⟩
 by_cases hi:i < vs.length
 ·rw[Q7 hi] at e1;rw[Q7 (by rw[<-h.1]; exact hi)] at e2
  exact h.2 i v t e1 e2
 ·rw[Qc (by lia)] at e1
  rw[Qc (by rw[<-h.1]; lia),<-h.1] at e2
  exact h'.2 _ v t e1 e2
theorem Reps.drop(n:Nat)(h:Reps C H vs ts):Reps C H (vs.drop n) (ts.drop n):=⟨by simp[h.1],λi v t e1 e2=>h.2 (n+i) v t (by simpa using e1) (by simpa using e2)⟩
theorem Reps.take(n:Nat)(h:Reps C H vs ts):Reps C H (vs.take n) (ts.take n):=⟨by simp[h.1],λi v t e1 e2=>by
 rw[Wm] at e1 e2;split at e1
 ·rename_i hi;rw[aI hi] at e2;exact h.2 i v t e1 e2
 ·cases e1⟩
theorem Reps.set(n:Nat)(h:Reps C H vs ts)(r:Rep C H v t):Reps C H (vs.set n v) (ts.set n t):=⟨by simp[h.1],λi v' t' e1 e2=>by
 rw[List.getElem?_set] at e1 e2
 by_cases hi:n=i
 ·rw[aI hi] at e1 e2;split at e1
  ·split at e2
   ·cases e1; cases e2; exact r
   ·cases e2
  ·cases e1
 ·rw[aH hi] at e1 e2
  exact h.2 i v' t' e1 e2⟩
inductive Live (C:jw->Prop) (H:Hp):jw->T->Prop
 |lst {a:jw} {vs:List V} {ts:List T} (r:H a=aA (.lst vs)) (h:Reps C H vs ts):Live C H a (.lst ts)
 |dct {a:jw} {kvs:List (aK × V)} {ts:List (aK × T)} (r:H a=aA (.dK kvs)) (h:RepK C H kvs ts):Live C H a (.dct ts)
 |set {a:jw} {S:Int->Bool} {n:Nat} (r:H a=aA (.set S n)):Live C H a (.set S n)
 |any {a:jw} {o:HO} (r:H a=aA o):Live C H a .any
variable {a:jw}
theorem Live.mono(h:Live C H a t)(hc:∀ a,C a->C' a)(hh:∀ a o,C a->H a=aA o->H' a=aA o)(ha:∀ o,H a=aA o->H' a=aA o):Live C' H' a t:=by
 cases h with
 |lst r h=>exact .lst (ha _ r) (h.mono hc hh)
 |dct r h=>exact .dct (ha _ r) (h.mono hc hh)
 |set r=>exact .set (ha _ r)
 |any r=>exact .any (ha _ r)
theorem Live.there(h:Live C H a t):Live (λa=>C a/\H a≠aB) H a t:=by
 cases h with
 |lst r h=>exact .lst r h.there
 |dct r h=>exact .dct r h.there
 |set r=>exact .set r
 |any r=>exact .any r
theorem Live.ne(h:Live C H a t):H a≠aB:=by
 cases h with
 |lst r h=>rw[r]; simp
 |dct r h=>rw[r]; simp
 |set r=>rw[r]; simp
 |any r=>rw[r]; simp
theorem Live.rep(h:Live C H a t)(hc:∀ b,C b->C' b)(ha:C' a):Rep C' H (.ref a) t:=by
 cases h with
 |lst r h=>exact .lst ha r h.1 λi v t e1 e2=>(h.2 i v t e1 e2).mono hc λ_ _ _ e=>e
 |dct r h=>exact .dct ha r h.1 λi v t e1 e2=>(h.2 i v t e1 e2).mono hc λ_ _ _ e=>e
 |set r=>exact .set ha r
 |any r=>exact .any
end
structure Fr where
 H0:Hp
 C0:jw->Prop
 D:jw->Prop
 adr:Nat->jw
def Free(F:Fr)(O:jw->Prop):jw->Prop:=λa=>¬ O a/\(F.C0 a∨F.H0 a=aB)
theorem Free.weak{F:Fr}{O O':jw->Prop}{a:jw}(h:∀ b,O' b->O b)(x:Free F O a):Free F O' a:=⟨λz=>x.1 (h _ z),x.2⟩
structure Rel (F:Fr) (O:jw->Prop) (M:List Nat) (s:Sg) (σ:L2.St) (H:Hp):Prop where
 len:s.length=σ.length
 val:∀(i:Nat) t,s[i]?=aA (aA t)->i∉M->∃ v,σ[i]?=aA (aA v)/\Rep (Free F O) H v t
 own:∀(i:Nat) t,s[i]?=aA (aA t)->i∈M->∃ a,σ[i]?=aA (aA (.ref a))/\Live (Free F O) H a t
 ow:∀(i:Nat) a,i∈M->σ[i]?=aA (aA (.ref a))->O a
 dis:∀(i j:Nat) a,i∈M->j∈M->σ[i]?=aA (aA (.ref a))->σ[j]?=aA (aA (.ref a))->i=j
 keep:∀ b o,¬ F.D b->F.H0 b=aA o->H b=aA o
 dom:∀ b,H b=aB->F.H0 b=aB
 fresh:∀ a,O a->F.D a∨F.H0 a=aB
 inD:∀ a,F.D a->O a
 al:∀ a,O a->H a≠aB
structure Step (σ:L2.St) (M:List Nat) (H H':Hp):Prop where
 keep:∀ b o,(∀(i:Nat),i∈M->σ[i]?≠aA (aA (.ref b)))->H b=aA o->H' b=aA o
 dom:∀ b,H' b=aB->H b=aB
section
variable {F:Fr}{O:jw->Prop}{M:List Nat}{s s':Sg}{σ:L2.St}{H H' H'':Hp}{v:V}{t:T}{a:jw}
theorem Step.refl:Step σ M H H:=⟨λ_ _ _ h=>h,λ_ h=>h⟩
theorem Step.trans(x:Step σ M H H')(y:Step σ M H' H''):Step σ M H H'':=⟨λb o n h=>y.keep b o n (x.keep b o n h),λb h=>x.dom b (y.dom b h)⟩
theorem Step.new(h:H a=aB)(o:HO):Step σ M H (aR H a o):=⟨λb u _ q=>by rw[ac (cZ q h)]; exact q,λb h'=>by
 unfold aR at h';split at h'
 ·cases h'
 ·exact h'⟩
theorem Rel.notOwned(R:Rel F O M s σ H)(h:¬ O a):∀(i:Nat),i∈M->σ[i]?≠aA (aA (.ref a)):=λi hi e=>h (R.ow i a hi e)
theorem Rel.stay(R:Rel F O M s σ H)(S:Step σ M H H')(h:Rep (Free F O) H v t):Rep (Free F O) H' v t:=
 h.mono (λ_ c=>c) λa o c e=>S.keep a o (R.notOwned c.1) e
theorem Rel.less{O':jw->Prop}(R:Rel F O M s σ H)(h:∀ b,O' b->O b)(hw:∀(i:Nat) a,i∈M->σ[i]?=aA (aA (.ref a))->O' a)(hD:∀ a,F.D a->O' a):Rel F O' M s σ H where
 len:=R.len
 val:=λi t e n=>by
  obtain⟨v,h1,h2⟩:=R.val i t e n;exact⟨v,h1,h2.mono (λ_ c=>c.weak h) λ_ _ _ e=>e⟩
 own:=λi t e n=>by
  obtain⟨a,h1,h2⟩:=R.own i t e n;exact⟨a,h1,h2.mono (λ_ c=>c.weak h) (λ_ _ _ e=>e) λ_ e=>e⟩
 ow:=hw
 dis:=R.dis
 keep:=R.keep
 dom:=R.dom
 fresh:=λa z=>R.fresh a (h a z)
 inD:=hD
 al:=λa z=>R.al a (h a z)
theorem Rel.new(R:Rel F O M s σ H)(h:H a=aB)(o:HO):Rel F (λb=>O b∨b=a) M s σ (aR H a o):=by
 have k:∀ b u,H b=aA u->aR H a o b=aA u:=λb u q=>by rw[ac (cZ q h)]; exact q
 have fr:∀ b,Free F O b/\H b≠aB->Free F (λb=>O b∨b=a) b:=λb c=>⟨λz=>z.elim c.1.1 λz=>c.2 (z▸h),c.1.2⟩;refine⟨R.len,λi t e n=>?_,λi t e n=>?_,λi b hi e=>.inl (R.ow i b hi e),R.dis,λb u n e=>k _ _ (R.keep b u n e),λb e=>?_,λb z=>?_,λb z=>.inl (R.inD b z),λb z=>?_⟩
 ·obtain⟨v,h1,h2⟩:=R.val i t e n;exact⟨v,h1,h2.there.mono fr λb u _ e=>k b u e⟩
 ·obtain⟨b,h1,h2⟩:=R.own i t e n;exact⟨b,h1,h2.there.mono fr (λb u _ e=>k b u e) λu e=>k b u e⟩
 ·refine R.dom b ?_;unfold aR at e;split at e
  ·cases e
  ·exact e
 ·rcases z with z |z
  ·exact R.fresh b z
  ·subst z; exact .inr (R.dom _ h)
 ·rcases z with z |z
  ·intro e;refine R.al b z ?_;unfold aR at e;split at e
   ·cases e
   ·exact e
  ·subst z; rw[bq]; simp
end
end L3
namespace L3
open PySem PySem.Spec PyProof.Rows L2
variable [TheK]
variable {M:List Nat}{H:Hp}{X:Cx}
inductive Kd where
 |e |b |n
def BRep(C:jw->Prop)(H:Hp)(v:V)(t:T):Prop:=Rep C H v t∨∃ a,v=.ref a/\Live C H a t
def Post(k:Kd)(F:Fr)(O:jw->Prop)(M:List Nat)(σ:L2.St)(H:Hp)(s':Sg)(t:T)(v:V)(H':Hp):Prop:=match k with
 |.e=>Rel F O M s' σ H'/\Rep (Free F O) H' v t
 |.b=>Rel F O M s' σ H'/\(Rep (Free F O) H' v t∨∃ i:Nat,i∈M/\σ[i]?=aA (aA v)/\s'[i]?=aA (aA t))
 |.n=>∃ a,v=.ref a/\H a=aB/\Rel F (λb=>O b∨b=a) M s' σ H'/\Live (Free F (λb=>O b∨b=a)) H' a t
abbrev DE:=Sg->Option (T × Sg)
abbrev DT:=Sg->Option (Bool × Sg)
abbrev DA:=Sg->Option (List T × Sg)
def cE(k:Kd)(M:List Nat)(f:DE):TE:=fun σ H Q=>∃ F O s t s',Rel F O M s σ H/\f s=aA (t,s')/\∀ v H',Step σ M H H'->Post k F O M σ H s' t v H'->Q v H'
theorem ba{k:Kd}{M:List Nat}{f:DE}{σ:L2.St}{H:Hp}{Q:VK}(h:cE k M f σ H Q){G:Prop}(g:∀ F O s t s',Rel F O M s σ H->f s=aA (t,s')->(∀ v H',Step σ M H H'->Post k F O M σ H s' t v H'->Q v H')->G):G:=by
 obtain⟨F,O,s,t,s',R,hf,q⟩:=h;exact g F O s t s' R hf q
def cT(M:List Nat)(f:DT):TT:=fun σ H Q=>∃ F O s b s',Rel F O M s σ H/\f s=aA (b,s')/\∀ H',Step σ M H H'->Rel F O M s' σ H'->Q b H'
theorem ou{M:List Nat}{f:DT}{σ:L2.St}{H:Hp}{Q:Bool->Hp->Prop}(h:cT M f σ H Q){G:Prop}(g:∀ F O s b s',Rel F O M s σ H->f s=aA (b,s')->(∀ H',Step σ M H H'->Rel F O M s' σ H'->Q b H')->G):G:=by
 obtain⟨F,O,s,b,s',R,hf,q⟩:=h;exact g F O s b s' R hf q
def cA(M:List Nat)(f:DA):TA:=fun σ H Q=>∃ F O s ts s',Rel F O M s σ H/\f s=aA (ts,s')/\∀ vs H',Step σ M H H'->Rel F O M s' σ H'->Reps (Free F O) H' vs ts->Q vs H'
theorem weak{X:Cx}{e:Q3}{t t':TE}(h:PE X e t)(hw:∀ σ H Q,t' σ H Q->t σ H Q):PE X e t':=λpc s σ H Q I q=>h pc s σ H Q I (hw _ _ _ q)
theorem fK{X:Cx}{e:Q3}{t t':TT}(h:PT X e t)(hw:∀ σ H Q,t' σ H Q->t σ H Q):PT X e t':=λpc s σ H Q I q=>h pc s σ H Q I (hw _ _ _ q)
theorem CB{X:Cx}{e:Q3}{t t':TT}(h:PW X e t)(hw:∀ σ H Q,t' σ H Q->t σ H Q):PW X e t':=λwh pc s σ H Q I q=>h wh pc s σ H Q I (hw _ _ _ q)
theorem C9{X:Cx}{es:List Q3}{t t':TA}(h:PA X es t)(hw:∀ σ H Q,t' σ H Q->t σ H Q):PA X es t':=λpos pc s σ H Q I q=>h pos pc s σ H Q I (hw _ _ _ q)
theorem eX{X:Cx}{e:QR}{t t':TS}(h:PS X e t)(hw:∀ D σ H,t' D σ H->t D σ H):PS X e t':=λpc s σ H D I q=>h pc s σ H D I (hw _ _ _ q)
theorem uX{X:Cx}{e:List QR}{t t':TS}(h:bv X e t)(hw:∀ D σ H,t' D σ H->t D σ H):bv X e t':=λpc s σ H D I q=>h pc s σ H D I (hw _ _ _ q)
section
variable {F:Fr}{O:jw->Prop}{s s':Sg}{σ:L2.St}{H':Hp}{v:V}{t:T}{a:jw}
theorem Post.ne(R:Rel F O M s σ H)(h:Post .n F O M σ H s' t v H'):Post .e F O M σ H s' t v H':=by
 obtain⟨a,rfl,h0,R',L⟩:=h;have w:∀ b,O b->(O b∨b=a):=λb z=>.inl z;refine⟨R'.less w R.ow R.inD,L.rep (λb c=>c.weak w) ⟨λz=>R.al a z h0,.inr (R.dom a h0)⟩⟩
theorem Post.eb(h:Post .e F O M σ H s' t v H'):Post .b F O M σ H s' t v H':=⟨h.1,.inl h.2⟩
theorem Post.view(h:Post .b F O M σ H s' t v H'):BRep (Free F O) H' v t:=by
 rcases h.2 with h2 |⟨i,hi,e1,e2⟩
 ·exact .inl h2
 ·obtain⟨a,e3,L⟩:=h.1.own i t e2 hi;rw[e1] at e3;exact .inr ⟨a,by injection e3 with e3; injection e3,L⟩
theorem Post.mkN(R:Rel F O M s σ H)(R1:Rel F O M s' σ H')(S:Step σ M H H'){p:jw}{o:HO}(hp:H' p=aB)(L:∀ C:jw->Prop,(∀ b,Free F O b/\H' b≠aB->C b)->Live C (aR H' p o) p t):Post .n F O M σ H s' t (.ref p) (aR H' p o):=
 ⟨p,rfl,S.dom p hp,R1.new hp o,L _ λb c=>⟨λz=>z.elim c.1.1 λz=>c.2 (z▸hp),c.1.2⟩⟩
theorem Post.mkE(R1:Rel F O M s' σ H'){p:jw}{o:HO}(hp:H' p=aB)(L:∀ C:jw->Prop,(∀ b,Free F O b/\H' b≠aB->C b)->C p->Rep C (aR H' p o) (.ref p) t):Post .e F O M σ H s' t (.ref p) (aR H' p o):=by
 have w:∀ b,O b->(O b∨b=p):=λb z=>.inl z;exact⟨(R1.new hp o).less w R1.ow R1.inD,L _ (λb c=>c.1) ⟨λz=>R1.al p z hp,.inr (R1.dom p hp)⟩⟩
end
section
variable {e a b:Q3}{fa fb:DE}
theorem ne(h:PE X e (cE .n M fa)):PE X e (cE .e M fa):=weak h fun σ H Q h_=>ba h_ λF O s t s' R hf q=>⟨F,O,s,t,s',R,hf,λv H' S p=>q v H' S (p.ne R)⟩
theorem eb(h:PE X e (cE .e M fa)):PE X e (cE .b M fa):=weak h fun σ H Q h_=>ba h_ λF O s t s' R hf q=>⟨F,O,s,t,s',R,hf,λv H' S p=>q v H' S p.eb⟩
theorem nb(h:PE X e (cE .n M fa)):PE X e (cE .b M fa):=eb (ne h)
def dV(i:Nat):DE:=λs=>(s[i]?).join.map λt=>(t,s)
def dC(t:T):DE:=λs=>aA (t,s)
theorem cQ{α:Type}{o:Option (Option α)}{x:α}(h:o.join=aA x):o=aA (aA x):=by
 cases o with
 |none=>cases h
 |some o=>cases o with
  |none=>cases h
  |some y=>injection h with h; rw[h]
theorem yM{i:Nat}{s s':Sg}{t:T}(h:dV i s=aA (t,s')):s[i]?=aA (aA t)/\s'=s:=by
 unfold dV at h;cases e:(s[i]?).join with
 |none=>rw[e] at h; cases h
 |some x=>
  rw[e] at h;injection h with h;injection h with h1 h2;subst h1 h2;exact⟨cQ e,rfl⟩
theorem uC{v:V}{t:T}(hr:∀ C H,Rep C H v t)(h:PE X e (tC v)):PE X e (cE .e M (dC t)):=weak h fun σ H Q h_=>ba h_ λF O s t' s' R hf q=>by
 injection hf with hf;injection hf with h1 h2;subst h1 h2;exact q v H .refl ⟨R,hr _ _⟩
def d2(g:T->T->Option T)(fa fb:DE):DE:=λs=>(fa s).bind λp=>(fb p.2).bind λq=>(g p.1 q.1).map λt=>(t,q.2)
def bh(g:T->T->Option T)(i:Nat)(fb:DE):DE:=λs=>(s[i]?).join.bind λ_=>(fb s).bind λq=>(q.2[i]?).join.bind λx=>(g x q.1).map λt=>(t,q.2)
theorem uo{g:T->T->Option T}{s s':Sg}{t:T}(h:d2 g fa fb s=aA (t,s')):∃ x s1 y,fa s=aA (x,s1)/\fb s1=aA (y,s')/\g x y=aA t:=by
 unfold d2 at h;cases e:fa s with
 |none=>rw[e] at h; cases h
 |some p=>
  rw[e] at h;cases e2:fb p.2 with
  |none=>simp[e2] at h
  |some q=>
   simp only[ja,e2] at h;cases e3:g p.1 q.1 with
   |none=>rw[e3] at h; cases h
   |some u=>
    rw[e3] at h;injection h with h;injection h with h1 h2;subst h1 h2;exact⟨p.1,p.2,q.1,rfl,by rw[e2],e3⟩
theorem yf{g:T->T->Option T}{i:Nat}{s s':Sg}{t:T}(h:bh g i fb s=aA (t,s')):∃ x0 x y,s[i]?=aA (aA x0)/\fb s=aA (y,s')/\s'[i]?=aA (aA x)/\g x y=aA t:=by
 unfold bh at h;cases e0:(s[i]?).join with
 |none=>rw[e0] at h; cases h
 |some x0=>
 rw[e0] at h;simp only[ja] at h;cases e:fb s with
 |none=>rw[e] at h; cases h
 |some q=>
  simp only[e,ja] at h;cases e2:(q.2[i]?).join with
  |none=>rw[e2] at h; cases h
  |some x=>
   simp only[e2,ja] at h;cases e3:g x q.1 with
   |none=>rw[e3] at h; cases h
   |some u=>
    rw[e3] at h;injection h with h;injection h with h1 h2;subst h1 h2;exact⟨x0,x,q.1,cQ e0,rfl,cQ e2,e3⟩
def fO(r:R2)(g:T->T->Option T):Prop:=∀(C:jw->Prop) (H:Hp) x y tx ty t (Q:VK),BRep C H x tx->BRep C H y ty->g tx ty=aA t->(∀ v,Rep C H v t->Q v H)->r x y H Q
def At(r:R2)(g:T->T->Option T):Prop:=∀(C:jw->Prop) (H:Hp) x y tx ty t (Q:VK),BRep C H x tx->BRep C H y ty->g tx ty=aA t->
 (∀ p o,H p=aB->(∀ C':jw->Prop,(∀ b,C b/\H b≠aB->C' b)->Live C' (aR H p o) p t)->Q (.ref p) (aR H p o))->r x y H Q
theorem dJ{r:R2}{g:T->T->Option T}(h:fO r g):∀ σ H Q,cE .e M (d2 g fa fb) σ H Q->nk r (cE .e M fa) (cE .b M fb) σ H Q:=by
 intro σ H Q h_;refine ba h_ λF O s t s' R hf q=>?_;obtain⟨x,s1,y,h1,h2,h3⟩:=uo hf;refine⟨F,O,s,x,s1,R,h1,λv H1 S1 p1=>?_⟩;refine⟨F,O,s1,y,s',p1.1,h2,λu H2 S2 p2=>?_⟩;exact h (Free F O) H2 v u x y t Q (.inl (p1.1.stay S2 p1.2)) p2.view h3 λw rw=>q w H2 (S1.trans S2) ⟨p2.1,rw⟩
theorem Il{r:R2}{g:T->T->Option T}(h:At r g):∀ σ H Q,cE .n M (d2 g fa fb) σ H Q->nk r (cE .e M fa) (cE .b M fb) σ H Q:=by
 intro σ H Q h_;refine ba h_ λF O s t s' R hf q=>?_;obtain⟨x,s1,y,h1,h2,h3⟩:=uo hf;refine⟨F,O,s,x,s1,R,h1,λv H1 S1 p1=>?_⟩;refine⟨F,O,s1,y,s',p1.1,h2,λu H2 S2 p2=>?_⟩;exact h (Free F O) H2 v u x y t Q (.inl (p1.1.stay S2 p1.2)) p2.view h3 λp o hp L=>q _ _ ((S1.trans S2).trans (.new hp o)) (.mkN R p2.1 (S1.trans S2) hp L)
theorem ya{F:Fr}{O:jw->Prop}{s s':Sg}{σ:L2.St}{H H':Hp}{i:Nat}{t0 t:T}(hi:i∈M)(R:Rel F O M s σ H)(R':Rel F O M s' σ H')(e0:s[i]?=aA (aA t0))(e:s'[i]?=aA (aA t)):∃ v,σ[i]?=aA (aA v)/\BRep (Free F O) H' v t:=by
 obtain⟨a,h1,_⟩:=R.own i t0 e0 hi;obtain⟨b,h2,L⟩:=R'.own i t e hi;rw[h1] at h2;injection h2 with h2;injection h2 with h2;injection h2 with h2;subst h2;exact⟨_,h1,.inr ⟨a,rfl,L⟩⟩
theorem Cw{r:R2}{g:T->T->Option T}{i:Nat}(hi:M.contains i=aC)(h:fO r g):∀ σ H Q,cE .e M (bh g i fb) σ H Q->nk r (cH i) (cE .b M fb) σ H Q:=by
 intro σ H Q h_;refine ba h_ λF O s t s' R hf q=>?_;obtain⟨x0,x,y,h0,h1,h2,h3⟩:=yf hf;have hi':i∈M:=by simpa using hi
 obtain⟨a,e1,_⟩:=R.own i x0 h0 hi';refine⟨_,e1,F,O,s,y,s',R,h1,λu H2 S2 p2=>?_⟩;obtain⟨v,e2,B⟩:=ya hi' R p2.1 h0 h2;rw[e1] at e2;injection e2 with e2;injection e2 with e2;subst e2;exact h (Free F O) H2 _ u x y t Q B p2.view h3 λw rw=>q w H2 S2 ⟨p2.1,rw⟩
theorem MG{r:R2}{g:T->T->Option T}{i:Nat}(hi:M.contains i=aC)(h:At r g):∀ σ H Q,cE .n M (bh g i fb) σ H Q->nk r (cH i) (cE .b M fb) σ H Q:=by
 intro σ H Q h_;refine ba h_ λF O s t s' R hf q=>?_;obtain⟨x0,x,y,h0,h1,h2,h3⟩:=yf hf;have hi':i∈M:=by simpa using hi
 obtain⟨a,e1,_⟩:=R.own i x0 h0 hi';refine⟨_,e1,F,O,s,y,s',R,h1,λu H2 S2 p2=>?_⟩;obtain⟨v,e2,B⟩:=ya hi' R p2.1 h0 h2;rw[e1] at e2;injection e2 with e2;injection e2 with e2;subst e2;exact h (Free F O) H2 _ u x y t Q B p2.view h3 λp o hp L=>q _ _ (S2.trans (.new hp o)) (.mkN R p2.1 S2 hp L)
end
section
variable {C:jw->Prop}{v:V}
theorem BRep.non(h:BRep C H v .non):v=.non:=by
 rcases h with h |⟨a,rfl,h⟩<;>cases h
 rfl
theorem BRep.bl{b:Bool}(h:BRep C H v (.bl b)):v=.bl b:=by
 rcases h with h |⟨a,rfl,h⟩<;>cases h
 rfl
theorem BRep.int{i:Int}(h:BRep C H v (.int i)):v=.int i:=by
 rcases h with h |⟨a,rfl,h⟩<;>cases h
 rfl
theorem BRep.str{x:Str}(h:BRep C H v (.str x)):v=.str x:=by
 rcases h with h |⟨a,rfl,h⟩<;>cases h
 rfl
theorem BRep.lst{ts:List T}(h:BRep C H v (.lst ts)):∃ a vs,v=.ref a/\H a=aA (.lst vs)/\Reps C H vs ts:=by
 rcases h with h |⟨a,rfl,h⟩
 ·cases h with |lst c r l h=>exact⟨_,_,rfl,r,l,h⟩
 ·cases h with |lst r h=>exact⟨_,_,rfl,r,h⟩
theorem BRep.tup{ts:List T}(h:BRep C H v (.tup ts)):∃ a vs,v=.ref a/\H a=aA (.tup vs)/\Reps C H vs ts:=by
 rcases h with h |⟨a,rfl,h⟩
 ·cases h with |tup c r l h=>exact⟨_,_,rfl,r,l,h⟩
 ·cases h
theorem BRep.dct{ts:List (aK × T)}(h:BRep C H v (.dct ts)):∃ a kvs,v=.ref a/\H a=aA (.dK kvs)/\RepK C H kvs ts:=by
 rcases h with h |⟨a,rfl,h⟩
 ·cases h with |dct c r l h=>exact⟨_,_,rfl,r,l,h⟩
 ·cases h with |dct r h=>exact⟨_,_,rfl,r,h⟩
theorem BRep.fd{ts:List (aK × T)}(h:BRep C H v (.fd ts)):∃ a o kvs,v=.ref a/\H a=aA (.frz o (.dK kvs))/\RepK C H kvs ts/\C a:=by
 rcases h with h |⟨a,rfl,h⟩
 ·cases h with |fd c r l h=>exact⟨_,_,_,rfl,r,⟨l,h⟩,c⟩
 ·cases h
theorem BRep.scr{ns:List Int}(h:BRep C H v (.scr ns)):∃ a,v=.ref a/\ad TheK.K H a (ns.map V.int):=by
 rcases h with h |⟨a,rfl,h⟩
 ·cases h with
  |scr c r=>exact⟨_,rfl,.inl (.inr ⟨_,r⟩)⟩
  |scrK r=>exact⟨_,rfl,r H⟩
 ·cases h
end
def o3:T->T->Option T
 |.int i,.int j=>aA (.int (i+j))
 |.str x,.str y=>if x.length+y.length<=jr then aA (.str (x++y)) else aB
 |_,_=>aB
def lJ:T->T->Option T
 |.lst a,.lst b=>if a.length+b.length<=jr then aA (.lst (a++b)) else aB
 |_,_=>aB
def gI(C:Int->Int->Bool)(g:Int->Int->Int):T->T->Option T
 |.int i,.int j=>if C i j=aC then aA (.int (g i j)) else aB
 |_,_=>aB
def n4(i j:Int):Bool:=aE (-(2 ^ 64) < i/\i < 2 ^ 64)||aE (-(2 ^ 64) < j/\j < 2 ^ 64)
def tm(i j:Int):Bool:=aE (0 < j/\j < 1073741824)
def tq(i j:Int):Bool:=aE (0 < j)
def GW(i j:Int):Bool:=aE (0<=j/\j<=1000000/\i.natAbs < 2 ^ 64)
def ln:=gI (λ_ _=>aC) λi j=>i - j
def cv:=gI n4 λi j=>i*j
def dM:=gI tm λi j=>i / j
def bo:=gI tq λi j=>i%j
def qB:=gI GW λi j=>i ^ j.toNat
def rH(p:Int->Int->Bool)(ps:Str->Str->Bool):T->T->Option T
 |.int i,.int j=>aA (.bl (p i j))
 |.str i,.str j=>aA (.bl (ps i j))
 |_,_=>aB
section
theorem Hn:fO (λx y H Q=>ik (λi j=>.int (i+j)) x y H Q∨∃ i j,x=.str i/\y=.str j/\i.length+j.length<=jr/\Q (.str (i++j)) H) o3:=by
 intro C H x y tx ty t Q bx by' hg q;unfold o3 at hg;split at hg
 ·injection hg with hg; subst hg;exact .inl ⟨_,_,bx.int,by'.int,q _ (.int _)⟩
 ·split at hg
  ·rename_i h;injection hg with hg; subst hg;exact .inr ⟨_,_,bx.str,by'.str,h,q _ (.str _)⟩
  ·cases hg
 ·cases hg
theorem Bu:At BO lJ:=by
 intro C H x y tx ty t Q bx by' hg q;unfold lJ at hg;split at hg
 ·split at hg
  ·rename_i h;injection hg with hg; subst hg;obtain⟨a,vs,rfl,ha,ra⟩:=bx.lst;obtain⟨b,us,rfl,hb,rb⟩:=by'.lst;refine⟨a,b,vs,us,rfl,rfl,ha,hb,by rw[ra.1,rb.1]; exact h,λp hp=>q p _ hp λC' hC=>?_⟩
   exact .lst bq ((ra.append rb).there.mono hC λc o hc e=>by rw[ac (cZ e hp)]; exact e)
  ·cases hg
 ·cases hg
theorem tI{P:Int->Int->Prop}{C:Int->Int->Bool}{g:Int->Int->Int}(hC:∀ i j,C i j=aC->P i j):fO (rI P λi j=>.int (g i j)) (gI C g):=by
 intro C' H x y tx ty t Q bx by' hg q;unfold gI at hg;split at hg
 ·split at hg
  ·rename_i h;injection hg with hg; subst hg;exact⟨_,_,bx.int,by'.int,hC _ _ h,q _ (.int _)⟩
  ·cases hg
 ·cases hg
theorem Gm{g:Int->Int->Int}:fO (ik λi j=>.int (g i j)) (gI (λ_ _=>aC) g):=by
 intro C' H x y tx ty t Q bx by' hg q;unfold gI at hg;split at hg
 ·split at hg
  ·injection hg with hg; subst hg;exact⟨_,_,bx.int,by'.int,q _ (.int _)⟩
  ·cases hg
 ·cases hg
theorem Hq{p:Int->Int->Bool}{ps:Str->Str->Bool}:fO (λx y H Q=>ik (λi j=>.bl (p i j)) x y H Q∨∃ i j,x=.str i/\y=.str j/\Q (.bl (ps i j)) H) (rH p ps):=by
 intro C H x y tx ty t Q bx by' hg q;unfold rH at hg;split at hg
 ·injection hg with hg; subst hg;exact .inl ⟨_,_,bx.int,by'.int,q _ (.bl _)⟩
 ·injection hg with hg; subst hg;exact .inr ⟨_,_,bx.str,by'.str,q _ (.bl _)⟩
 ·cases hg
variable {a b:Q3}{fa fb:DE}{pos:Pos}
theorem HQ(ha:PE X a (cE .e M fa))(hb:PE X b (cE .b M fb)):PE X (.BinOp a .Add b pos) (cE .e M (d2 o3 fa fb)):=weak (ix (op_add.or Sz) ha hb) (dJ Hn)
theorem HR(ha:PE X a (cE .e M fa))(hb:PE X b (cE .b M fb)):PE X (.BinOp a .Add b pos) (cE .n M (d2 lJ fa fb)):=weak (ix CZ ha hb) (Il Bu)
end
def br:T->T->Option Bool
 |.non,.non=>aA aC |.non,.bl _=>aA aD |.non,.int _=>aA aD |.non,.str _=>aA aD
 |.bl a,.bl b=>aA (a == b) |.bl _,.non=>aA aD |.bl a,.int b=>aA ((if a then 1 else 0) == b) |.bl _,.str _=>aA aD
 |.int a,.int b=>aA (a == b) |.int _,.non=>aA aD |.int a,.bl b=>aA (a == (if b then 1 else 0)) |.int _,.str _=>aA aD
 |.str a,.str b=>aA (a == b) |.str _,.non=>aA aD |.str _,.bl _=>aA aD |.str _,.int _=>aA aD
 |_,_=>aB
def eJ(f:T->T->Option Bool):List T->List T->Option Bool
 |x::xs,y::ys=>(f x y).bind λb=>(eJ f xs ys).map λc=>b&&c
 |_,_=>aA aC
def ap:Nat->T->T->Option Bool
 |n+1,.lst xs,.lst ys=>if xs.length=ys.length then eJ (ap n) xs ys else aA aD
 |n+1,.tup xs,.tup ys=>(eJ (ap n) xs ys).map λb=>b&&xs.length == ys.length
 |_+1,.lst _,.tup _=>aA aD
 |_+1,.tup _,.lst _=>aA aD
 |_,x,y=>br x y
def tN(n:Nat)(x y:T):Option Bool:=match x,y with
 |.lst xs,.lst ys=>if xs.length=ys.length then eJ (ap n) xs ys else aA aD
 |.tup xs,.tup ys=>(eJ (ap n) xs ys).map λb=>b&&xs.length == ys.length
 |.lst _,.tup _=>aA aD
 |.tup _,.lst _=>aA aD
 |x,y=>br x y
theorem PM(n:Nat)(x y:T):ap (n+1) x y=tN n x y:=by cases x<;>cases y<;>rfl
theorem v5{f:T->T->Option Bool}:∀ {xs ys:List T} {b:Bool},eJ f xs ys=aA b->∃ e:Nat->Bool,(∀ j x y,xs[j]?=aA x->ys[j]?=aA y->f x y=aA (e j))/\b=(j6 (min xs.length ys.length)).all e
 |[],_,b,h=>⟨λ_=>aC,λj x y e=>by simp at e,by unfold eJ at h; simp at h; simp[h]⟩
 |x::xs,[],b,h=>⟨λ_=>aC,λj x y _ e=>by simp at e,by unfold eJ at h; simp at h; simp[h]⟩
 |x::xs,y::ys,b,h=>by
  unfold eJ at h;cases h1:f x y with
  |none=>rw[h1] at h; cases h
  |some c=>
   rw[h1,ja] at h;cases h2:eJ f xs ys with
   |none=>rw[h2] at h; cases h
   |some d=>
    rw[h2] at h;injection h with h;obtain⟨e,he,hd⟩:=v5 h2;refine⟨λj=>match j with |0=>c |j+1=>e j,λj x' y' e1 e2=>?_,?_⟩
    ·cases j with
     |zero=>simp at e1 e2; subst e1 e2; exact h1
     |succ j=>exact he j x' y' (by simpa using e1) (by simpa using e2)
    ·rw[<-h,hd,jk,jk,Nat.succ_min_succ,ZT,Yf,U2];rfl
theorem RL{C:jw->Prop}{H:Hp}:∀(n:Nat) {v:V} {t t':T} {b:Bool},Rep C H v t->Rep C H v t'->ap n t t'=aA b->b=aC:=by
 have sc:∀ {v:V} {t t':T} {b:Bool},Rep C H v t->Rep C H v t'->br t t'=aA b->b=aC:=by
  intro v t t' b h h' e;cases h<;>cases h'<;>simp[br] at e<;>(try subst e)<;>simp
 intro n
 induction n with
 |zero=>intro v t t' b h h' e; unfold ap at e; exact sc h h' e
 |succ n ih=>
  intro v t t' b h h' e;have lists:∀ {vs:List V} {xs ys:List T} {b:Bool},Reps C H vs xs->Reps C H vs ys->eJ (ap n) xs ys=aA b->b=aC:=by
   intro vs xs ys b hx hy h;obtain⟨e,he,rfl⟩:=v5 h;refine jz.mpr λj hj=>?_;have hj':=jc.mp hj;have h1:j < xs.length:=by lia
   have h2:j < ys.length:=by lia
   have h3:j < vs.length:=by rw[hx.1]; exact h1
   have q1:=hx.2 j _ _ (j3 h3) (j3 h1);have q2:=hy.2 j _ _ (j3 h3) (j3 h2);exact ih q1 q2 (he j _ _ (j3 h1) (j3 h2))
  cases h with
  |lst c r l hc=>
   cases h' with
   |lst c' r' l' hc'=>
    rw[r] at r'; cases r';unfold ap at e;split at e
    ·exact lists ⟨l,hc⟩ ⟨l',hc'⟩ e
    ·lia
   |tup c' r' l' hc'=>rw[r] at r'; cases r'
   |dct c' r' l' hc'=>simp[ap,br] at e
   |set c' r'=>simp[ap,br] at e
   |fd c' r' l' hc'=>simp[ap,br] at e
   |scr c' r'=>simp[ap,br] at e
   |scrK r'=>simp[ap,br] at e
   |any=>simp[ap,br] at e
  |tup c r l hc=>
   cases h' with
   |tup c' r' l' hc'=>
    rw[r] at r'; cases r';unfold ap at e;cases h2:eJ (ap n) _ _ with
    |none=>rw[h2] at e; cases e
    |some d=>
     rw[h2] at e;injection e with e;subst e;rw[lists ⟨l,hc⟩ ⟨l',hc'⟩ h2,<-l,<-l'];simp
   |lst c' r' l' hc'=>rw[r] at r'; cases r'
   |dct c' r' l' hc'=>simp[ap,br] at e
   |set c' r'=>simp[ap,br] at e
   |fd c' r' l' hc'=>simp[ap,br] at e
   |scr c' r'=>simp[ap,br] at e
   |scrK r'=>simp[ap,br] at e
   |any=>simp[ap,br] at e
  |non=>exact sc .non h' (by cases h'<;>simpa[ap] using e)
  |bl x=>exact sc (.bl x) h' (by cases h'<;>simpa[ap] using e)
  |int x=>exact sc (.int x) h' (by cases h'<;>simpa[ap] using e)
  |str x=>exact sc (.str x) h' (by cases h'<;>simpa[ap] using e)
  |dct c r l hc=>cases h'<;>simp[ap,br] at e
  |set c r=>cases h'<;>simp[ap,br] at e
  |fd c r l hc=>cases h'<;>simp[ap,br] at e
  |scr c r=>cases h'<;>simp[ap,br] at e
  |scrK r=>cases h'<;>simp[ap,br] at e
  |any=>cases t'<;>simp[ap,br] at e
open PySem.SeqAt
section
variable {pc:List (jw × Obj)}{σ:L2.St}{s:jd}{C:jw->Prop}
theorem Bx{A:Qh}{x y:V}{tx ty:T}{b:Bool}{u w:j8}(hx:Rep C H x tx)(hy:Rep C H y ty)(rx:RelV x u)(ry:RelV y w)(h:br tx ty=aA b):EqAt A s u w b/\RcAt A s u w b/\RcNeAt A s u w (!b):=by
 cases hx with
 |non=>
  cases rx;cases hy with
  |non=>cases ry; injection h with h; subst h; exact⟨.same _,.none_none,.none_none⟩
  |bl y=>cases ry; injection h with h; subst h; exact⟨.none_bool _,.none_bool _,.none_bool _⟩
  |int y=>obtain⟨t,rfl⟩:=ry; injection h with h; subst h; exact⟨.none_int _ _,.none_int _ _,.none_int _ _⟩
  |str y=>obtain⟨t,rfl⟩:=ry; injection h with h; subst h; exact⟨.none_str _ _,.none_str _ _,.none_str _ _⟩
  |_=>cases h
 |bl x=>
  cases rx;cases hy with
  |non=>cases ry; injection h with h; subst h; exact⟨.bool_none _,.bool_none _,.bool_none _⟩
  |bl y=>cases ry; injection h with h; subst h; exact⟨.bool_bool _ _,.bool_bool _ _,.bool_bool _ _⟩
  |int y=>obtain⟨t,rfl⟩:=ry; injection h with h; subst h; exact⟨.bool_int _ _ _,.bool_int _ _ _,.bool_int _ _ _⟩
  |str y=>obtain⟨t,rfl⟩:=ry; injection h with h; subst h; exact⟨.bool_str _ _ _,.bool_str _ _ _,.bool_str _ _ _⟩
  |_=>cases h
 |int x=>
  obtain⟨t0,rfl⟩:=rx;cases hy with
  |non=>cases ry; injection h with h; subst h; exact⟨.int_none _ _,.int_none _ _,.int_none _ _⟩
  |bl y=>cases ry; injection h with h; subst h; exact⟨.int_bool _ _ _,.int_bool _ _ _,.int_bool _ _ _⟩
  |int y=>obtain⟨t,rfl⟩:=ry; injection h with h; subst h; exact⟨.int_int _ _ _ _,.int_int _ _ _ _,.int_int _ _ _ _⟩
  |str y=>obtain⟨t,rfl⟩:=ry; injection h with h; subst h; exact⟨.int_str _ _ _ _,.int_str _ _ _ _,.int_str _ _ _ _⟩
  |_=>cases h
 |str x=>
  obtain⟨t0,rfl⟩:=rx;cases hy with
  |non=>cases ry; injection h with h; subst h; exact⟨.str_none _ _,.str_none _ _,.str_none _ _⟩
  |bl y=>cases ry; injection h with h; subst h; exact⟨.str_bool _ _ _,.str_bool _ _ _,.str_bool _ _ _⟩
  |int y=>obtain⟨t,rfl⟩:=ry; injection h with h; subst h; exact⟨.str_int _ _ _ _,.str_int _ _ _ _,.str_int _ _ _ _⟩
  |str y=>obtain⟨t,rfl⟩:=ry; injection h with h; subst h; exact⟨.str_str _ _ _ _,.str_str _ _ _ _,.str_str _ _ _ _⟩
  |_=>cases h
 |_=>cases ty<;>simp[br] at h
theorem Bi(I:Inv X pc σ H s):∀(n:Nat) (A:Qh) {x y:V} {tx ty:T} {b:Bool} {u w:j8},A.units+n < gz->Rep C H x tx->Rep C H y ty->RelV x u->RelV y w->ap n tx ty=aA b->EqAt A s u w b/\RcAt A s u w b/\RcNeAt A s u w (!b):=by
 intro n
 induction n with
 |zero=>intro A x y tx ty b u w hu hx hy rx ry h; unfold ap at h; exact Bx hx hy rx ry h
 |succ n ih=>
  intro A x y tx ty b u w hu hx hy rx ry h;have hu':A.units < gz:=by lia
  have hin:A.in1.units+n < gz:=by
   have:A.in1.units=A.units+1:=rfl;lia
  have parts:∀ {vs us:List V} {xs ys:List T} {its its2:List j8} {e:Nat->Bool},Reps C H vs xs->Reps C H us ys->Vals vs its->Vals us its2->(∀ j x y,xs[j]?=aA x->ys[j]?=aA y->ap n x y=aA (e j))->
    ∀ j (h1:j < its.toArray.size) (h2:j < its2.toArray.size),EqAt A.in1 s its.toArray[j] its2.toArray[j] (e j):=by
   intro vs us xs ys its its2 e hvs hus r r2 he j h1 h2;rw[ju] at h1 h2;have v1:j < vs.length:=by rw[r.length]; exact h1
   have v2:j < us.length:=by rw[r2.length]; exact h2
   have x1:j < xs.length:=by rw[<-hvs.1]; exact v1
   have y1:j < ys.length:=by rw[<-hus.1]; exact v2
   obtain⟨w1,e1,q1⟩:=r.get (j3 v1);obtain⟨w2,e2,q2⟩:=r2.get (j3 v2);rw[j3 h1] at e1;rw[j3 h2] at e2;injection e1 with e1;injection e2 with e2;simp only[List.getElem_toArray,e1,e2];exact(ih A.in1 hin (hvs.2 j _ _ (j3 v1) (j3 x1)) (hus.2 j _ _ (j3 v2) (j3 y1)) q1 q2 (he j _ _ (j3 x1) (j3 y1))).1
  have refs:∀ {p q:jw},x=.ref p->y=.ref q->RcAt A s (.ref p) (.ref q) b->EqAt A s (.ref p) (.ref q) b:=by
   intro p q ep eq hr
   by_cases hpq:p=q
   ·subst hpq;have:b=aC:=RL (n+1) (v:=.ref p) (ep▸hx) (eq▸hy) h;rw[this];exact .same _
   ·exact .of_refs hpq hr
  have scs:br tx ty=aA b->EqAt A s u w b/\RcAt A s u w b/\RcNeAt A s u w (!b):=Bx hx hy rx ry;rw[PM] at h;unfold tN at h;split at h
  ·rename_i xs ys;obtain⟨p,vs,rfl,hp,rp⟩:=BRep.lst (.inl hx);obtain⟨q,us,rfl,hq,rq⟩:=BRep.lst (.inl hy);cases rx; cases ry;obtain⟨its,r,pl,_⟩:=I.list (ad.of hp);obtain⟨its2,r2,bt,_⟩:=I.list (ad.of hq);have l1:=r.length;have l2:=r2.length;have l3:=rp.1;have l4:=rq.1;split at h
   ·rename_i hl;obtain⟨e,he,hb⟩:=v5 h;have sz:its.toArray.size=its2.toArray.size:=by rw[ju,ju]; lia
    have rc:=RcAt.lists pl.isList bt.isList sz hu' (parts rp rq r r2 he);have rn:=RcNeAt.lists pl.isList bt.isList sz hu' (parts rp rq r r2 he);have hb':b=(j6 its.toArray.size).all e:=by rw[hb,ju,hl,Nat.min_self,show its.length=ys.length by lia]
    rw[<-hb'] at rc rn;exact⟨refs rfl rfl rc,rc,rn⟩
   ·rename_i hl;injection h with h;subst h;have sz:(its.toArray.size != its2.toArray.size)=aC:=by simp; lia
    have rc:=RcAt.lists_lengths pl.isList bt.isList sz hu';exact⟨refs rfl rfl rc,rc,RcNeAt.lists_lengths pl.isList bt.isList sz hu'⟩
  ·rename_i xs ys;obtain⟨p,vs,rfl,hp,rp⟩:=BRep.tup (.inl hx);obtain⟨q,us,rfl,hq,rq⟩:=BRep.tup (.inl hy);cases rx; cases ry;obtain⟨its,r,pl,_⟩:=I.tuple (bj.of hp);obtain⟨its2,r2,bt,_⟩:=I.tuple (bj.of hq);have l1:=r.length;have l2:=r2.length;have l3:=rp.1;have l4:=rq.1;cases h2:eJ (ap n) xs ys with
   |none=>rw[h2] at h; cases h
   |some d=>
    rw[h2] at h;injection h with h;obtain⟨e,he,hb⟩:=v5 h2;have rc:=RcAt.tuples pl bt hu' (parts rp rq r r2 he);have rn:=RcNeAt.tuples pl bt hu' (parts rp rq r r2 he);have hb':b=((j6 (min its.toArray.size its2.toArray.size)).all e&&its.toArray.size == its2.toArray.size):=by
     rw[<-h,hb,ju,ju,show its.length=xs.length by lia,show its2.length=ys.length by lia]
    rw[<-hb'] at rc rn;exact⟨refs rfl rfl rc,rc,rn⟩
  ·obtain⟨p,vs,rfl,hp,rp⟩:=BRep.lst (.inl hx);obtain⟨q,us,rfl,hq,rq⟩:=BRep.tup (.inl hy);cases rx; cases ry;obtain⟨its,r,pl,_⟩:=I.list (ad.of hp);obtain⟨its2,r2,bt,_⟩:=I.tuple (bj.of hq);injection h with h;subst h;exact⟨.list_tuple pl.isList bt hu',.list_tuple pl.isList bt hu',.list_tuple pl.isList bt hu'⟩
  ·obtain⟨p,vs,rfl,hp,rp⟩:=BRep.tup (.inl hx);obtain⟨q,us,rfl,hq,rq⟩:=BRep.lst (.inl hy);cases rx; cases ry;obtain⟨its,r,pl,_⟩:=I.tuple (bj.of hp);obtain⟨its2,r2,bt,_⟩:=I.list (ad.of hq);injection h with h;subst h;exact⟨.tuple_list pl bt.isList hu',.tuple_list pl bt.isList hu',.tuple_list pl bt.isList hu'⟩
  ·exact scs h
end
end L3
namespace L3
open PySem PySem.Spec PyProof.Rows L2
variable [TheK]
variable {X:Cx}{M M' Mb io:List Nat}{pos:Pos}{e:Q3}{fe:DE}{fa:DA}{rk:Kd}
theorem BRep.all{C:jw->Prop}{H:Hp}{v:V}{t:T}(h:BRep C H v t):Rep (λ_=>True) H v t:=by
 rcases h with h |⟨a,rfl,h⟩
 ·exact h.mono (λ_ _=>trivial) λ_ _ _ e=>e
 ·exact h.rep (λ_ _=>trivial) trivial
def bY(x y:T):Option T:=(ap 8 x y).map .bl
def cc(x y:T):Option T:=(ap 8 x y).map λb=>.bl (!b)
def u6(neg:Bool):R2:=λx y H Q=>∃ tx ty b,Rep (λ_=>True) H x tx/\Rep (λ_=>True) H y ty/\ap 8 tx ty=aA b/\Q (.bl (if neg then !b else b)) H
theorem Ca{X:Cx}(hu:X.A.units+8 < gz):c9 X (Z5 .Eq) (u6 aD):=by
 intro pc s sg H x y v u Q I rx ry h;obtain⟨tx,ty,b,hx,hy,e,q⟩:=h;exact(Bi I 8 X.A hu hx hy rx ry e).2.1 _ _ _ _ ⟨.bl b,H,I,rfl,q⟩
theorem Cb{X:Cx}(hu:X.A.units+8 < gz):c9 X (Z5 .NotEq) (u6 aC):=by
 intro pc s sg H x y v u Q I rx ry h;obtain⟨tx,ty,b,hx,hy,e,q⟩:=h;exact(Bi I 8 X.A hu hx hy rx ry e).2.2 _ _ _ _ ⟨.bl (!b),H,I,rfl,q⟩
theorem BV:fO (u6 aD) bY:=by
 intro C H x y tx ty t Q bx by' hg q;unfold bY at hg;cases e:ap 8 tx ty with
 |none=>rw[e] at hg; cases hg
 |some b=>
  rw[e] at hg;injection hg with hg; subst hg;exact⟨tx,ty,b,bx.all,by'.all,e,q _ (.bl b)⟩
theorem BX:fO (u6 aC) cc:=by
 intro C H x y tx ty t Q bx by' hg q;unfold cc at hg;cases e:ap 8 tx ty with
 |none=>rw[e] at hg; cases hg
 |some b=>
  rw[e] at hg;injection hg with hg; subst hg;exact⟨tx,ty,b,bx.all,by'.all,e,q _ (.bl (!b))⟩
def r8:=rH (λi j=>aE (i < j)) λi j=>aE (i.cps.toList < j.cps.toList)
def oq(p:Int->Int->Bool):T->T->Option T
 |.int i,.int j=>aA (.bl (p i j))
 |_,_=>aB
def Vc:=oq λi j=>aE (i<=j)
def fD:=oq λi j=>aE (j < i)
def Am:=oq λi j=>aE (j<=i)
theorem BU{p:Int->Int->Bool}:fO (ik (λi j=>.bl (p i j))) (oq p):=by
 intro C H x y tx ty t Q bx by' hg q;unfold oq at hg;split at hg
 ·injection hg with hg; subst hg;exact⟨_,_,bx.int,by'.int,q _ (.bl _)⟩
 ·cases hg
def fC:T->Option Bool
 |.non=>aA aC |.bl _=>aA aD |.int _=>aA aD |.str _=>aA aD |.lst _=>aA aD |.tup _=>aA aD |.dct _=>aA aD |.set _ _=>aA aD |.scr _=>aA aD
 |.fd _=>aA aD
 |.any=>aB
def oo(x y:T):Option T:=match x,y with
 |.bl a,.bl b=>aA (.bl (a == b))
 |x,.non=>(fC x).map .bl
 |_,_=>aB
def eN(x y:T):Option T:=match x,y with
 |.bl a,.bl b=>aA (.bl (a != b))
 |x,.non=>(fC x).map λb=>.bl (!b)
 |_,_=>aB
theorem CS{C:jw->Prop}{H:Hp}{v:V}{t:T}{b:Bool}(h:BRep C H v t)(e:fC t=aA b):b=aE (v=.non):=by
 rcases h with h |⟨a,rfl,h⟩
 ·cases h<;>simp[fC] at e<;>simp[<-e]
 ·cases h<;>simp[fC] at e<;>simp[<-e]
theorem Gn:fO (λx y H Q=>(∃ c d,x=.bl c/\y=.bl d/\Q (.bl (c == d)) H)∨(y=.non/\Q (.bl (aE (x=.non))) H)) oo:=by
 intro C H x y tx ty t Q bx by' hg q;unfold oo at hg;split at hg
 ·injection hg with hg; subst hg;exact .inl ⟨_,_,bx.bl,by'.bl,q _ (.bl _)⟩
 ·obtain⟨b,e,rfl⟩:=Qm hg;have z:=CS bx e;refine .inr ⟨by'.non,?_⟩;rw[<-z];exact q _ (.bl _)
 ·cases hg
theorem Om:fO (λx y H Q=>(∃ c d,x=.bl c/\y=.bl d/\Q (.bl (c != d)) H)∨(y=.non/\Q (.bl (!aE (x=.non))) H)) eN:=by
 intro C H x y tx ty t Q bx by' hg q;unfold eN at hg;split at hg
 ·injection hg with hg; subst hg;exact .inl ⟨_,_,bx.bl,by'.bl,q _ (.bl _)⟩
 ·obtain⟨b,e,rfl⟩:=Qm hg;have z:=CS bx e;refine .inr ⟨by'.non,?_⟩;rw[<-z];exact q _ (.bl _)
 ·cases hg
def iF:T->Option V
 |.non=>aA .non |.bl b=>aA (.bl b) |.int i=>aA (.int i) |.str x=>aA (.str x) |_=>aB
def i4:List T->Option (List V)
 |[]=>aA []
 |t::ts=>(iF t).bind λv=>(i4 ts).map λvs=>v::vs
theorem xu{C:jw->Prop}{H:Hp}{v u:V}{t:T}(h:BRep C H v t)(e:iF t=aA u):u=v/\iH v=aC:=by
 cases t<;>simp[iF] at e
 ·exact⟨by rw[h.non,<-e],by rw[h.non]; rfl⟩
 ·exact⟨by rw[h.bl,<-e],by rw[h.bl]; rfl⟩
 ·exact⟨by rw[h.int,<-e],by rw[h.int]; rfl⟩
 ·exact⟨by rw[h.str,<-e],by rw[h.str]; rfl⟩
theorem yK{C:jw->Prop}{H:Hp}:∀ {vs us:List V} {ts:List T},Reps C H vs ts->i4 ts=aA us->us=vs/\vs.all iH=aC
 |[],us,[],_,e=>by unfold i4 at e; injection e with e; exact⟨e.symm,rfl⟩
 |v::vs,us,[],h,_=>by have:=h.1; simp at this
 |[],us,t::ts,h,_=>by have:=h.1; simp at this
 |v::vs,us,t::ts,h,e=>by
  unfold i4 at e;cases e1:iF t with
  |none=>rw[e1] at e; cases e
  |some a=>
   rw[e1,ja] at e;cases e2:i4 ts with
   |none=>rw[e2] at e; cases e
   |some as=>
    rw[e2] at e;injection e with e;obtain⟨q1,q2⟩:=xu (.inl h.head) e1;obtain⟨q3,q4⟩:=yK h.tail e2;exact⟨by rw[<-e,q1,q3],by rw[Yf,q2,q4]; rfl⟩
def bQ(kvs:List (aK × T))(k:aK):Option T:=(kvs.find? λkv=>aE (kv.1=k)).map (·.2)
theorem Sb(p:aK × T)(r:List (aK × T))(k:aK):bQ (p::r) k=if p.1=k then aA p.2 else bQ r k:=by
 unfold bQ;rw[Z6]
 by_cases h:p.1=k
 ·rw[aI h,am h]; rfl
 ·rw[aH h,av h]
theorem RepK.tail{C:jw->Prop}{H:Hp}{p:aK × V}{q:aK × T}{vs:List (aK × V)}{ts:List (aK × T)}(h:RepK C H (p::vs) (q::ts)):p.1=q.1/\Rep C H p.2 q.2/\RepK C H vs ts:=by
 have h1:=h.1;rw[jq,jq] at h1;injection h1 with a b;exact⟨a,h.2 0 p q rfl rfl,b,λi v t e1 e2=>h.2 (i+1) v t (by simpa using e1) (by simpa using e2)⟩
theorem RepK.cons{C:jw->Prop}{H:Hp}{p:aK × V}{q:aK × T}{vs:List (aK × V)}{ts:List (aK × T)}(e:p.1=q.1)(r:Rep C H p.2 q.2)(h:RepK C H vs ts):RepK C H (p::vs) (q::ts):=by
 refine⟨by rw[jq,jq,e,h.1],λi v t e1 e2=>?_⟩
 cases i with
 |zero=>simp at e1 e2; subst e1 e2; exact r
 |succ i=>exact h.2 i v t (by simpa using e1) (by simpa using e2)
theorem RepK.look{C:jw->Prop}{H:Hp}(k:aK):∀ {vs:List (aK × V)} {ts:List (aK × T)},RepK C H vs ts->(fR vs k=aB/\bQ ts k=aB)∨∃ v t,fR vs k=aA v/\bQ ts k=aA t/\Rep C H v t
 |[],[],_=>.inl ⟨rfl,rfl⟩
 |p::vs,[],h=>by have:=h.1; simp at this
 |[],q::ts,h=>by have:=h.1; simp at this
 |p::vs,q::ts,h=>by
  obtain⟨e,r,h'⟩:=h.tail;rw[Sb]
  by_cases hk:q.1=k
  ·rw[aI hk,vH (e.trans hk)];exact .inr ⟨_,_,rfl,rfl,r⟩
  ·rw[aH hk,vG (λz=>hk (e.symm.trans z))];exact RepK.look k h'
def cq:T->Option aK
 |.int i=>aA (.inl i)
 |.str x=>aA (.inr x)
 |_=>aB
theorem oP{C:jw->Prop}{H:Hp}{v:V}{t:T}{k:aK}(h:BRep C H v t)(e:cq t=aA k):v=kV k:=by
 cases t<;>simp[cq] at e
 ·rw[h.int,<-e]; rfl
 ·rw[h.str,<-e]; rfl
def o5(x y:T):Option Bool:=match y with
 |.lst ys=>(iF x).bind λv=>(i4 ys).map λvs=>lm v vs
 |.tup ys=>(iF x).bind λv=>(i4 ys).map λvs=>lm v vs
 |_=>aB
def wT(x y:T):Option T:=(o5 x y).map .bl
def sC(x y:T):Option T:=(o5 x y).map λb=>.bl (!b)
def xA(x y:T):Option Bool:=match y with
 |.dct kvs=>(cq x).map λk=>(bQ kvs k).isSome
 |.fd kvs=>(cq x).map λk=>(bQ kvs k).isSome
 |_=>aB
def BH(x y:T):Option T:=(xA x y).map .bl
def yR(x y:T):Option T:=(xA x y).map λb=>.bl (!b)
theorem xO{K:j9}{neg:Bool}:fO (wR K neg) λx y=>(o5 x y).map λb=>.bl (if neg then !b else b):=by
 intro C H x y tx ty t Q bx by' hg q;obtain⟨b,e,rfl⟩:=Qm hg;have fin:∀ {p vs ys},y=.ref p->(ad K H p vs∨bj K H p vs)->Reps C H vs ys->((iF tx).bind λv=>(i4 ys).map λvs=>lm v vs)=aA b->wR K neg x y H Q:=by
  intro p vs ys e1 e2 r e5;obtain⟨v,e3,e5⟩:=Qb e5;obtain⟨us,e4,rfl⟩:=Qm e5;obtain⟨q1,q2⟩:=xu bx e3;obtain⟨q3,q4⟩:=yK r e4;subst q1 q3;exact⟨p,_,e1,e2,q2,q4,q _ (.bl _)⟩
 cases ty with
 |lst ys=>
  obtain⟨p,vs,e1,e2,r⟩:=by'.lst;exact fin e1 (.inl (ad.of e2)) r e
 |tup ys=>
  obtain⟨p,vs,e1,e2,r⟩:=by'.tup;exact fin e1 (.inr (bj.of e2)) r e
 |_=>cases e
theorem xN{neg:Bool}:fO (λy x H Q=>∃ a o,x=.ref a/\DGet H a y o/\Q (.bl (if neg then !o.isSome else o.isSome)) H) λx y=>(xA x y).map λb=>.bl (if neg then !b else b):=by
 intro C H x y tx ty t Q bx by' hg q;obtain⟨b,e,rfl⟩:=Qm hg;cases ty with
 |dct kts=>
  obtain⟨p,kvs,rfl,e2,r⟩:=by'.dct;obtain⟨k,e3,rfl⟩:=Qm (show (cq tx).map (λk=>(bQ kts k).isSome)=aA b from e);obtain rfl:=oP bx e3;refine⟨p,_,rfl,DGet.k e2,?_⟩;have:(bQ kts k).isSome=(fR kvs k).isSome:=by
   rcases r.look k with ⟨h1,h2⟩ |⟨_,_,h1,h2,_⟩<;>rw[h1,h2]<;>rfl
  rw[<-this];exact q _ (.bl _)
 |fd kts=>
  obtain⟨p,ob,kvs,rfl,e2,r,_⟩:=by'.fd;obtain⟨k,e3,rfl⟩:=Qm (show (cq tx).map (λk=>(bQ kts k).isSome)=aA b from e);obtain rfl:=oP bx e3;refine⟨p,_,rfl,.inl ⟨kvs,k,.inr ⟨ob,e2⟩,rfl,rfl⟩,?_⟩;have:(bQ kts k).isSome=(fR kvs k).isSome:=by
   rcases r.look k with ⟨h1,h2⟩ |⟨_,_,h1,h2,_⟩<;>rw[h1,h2]<;>rfl
  rw[<-this];exact q _ (.bl _)
 |_=>cases e
def fZ:T->T->Option T
 |.lst xs,.int i=>cp xs i
 |.tup xs,.int i=>cp xs i
 |.str x,.int i=>if x.length<=jr then (cp x.cps.toList i).map λc=>.str ⟨#[c]⟩ else aB
 |.scr ns,.int i=>(cp ns i).map .int
 |_,_=>aB
def o4(x y:T):Option T:=match x with
 |.dct kvs=>(cq y).bind λk=>bQ kvs k
 |.fd kvs=>(cq y).bind λk=>bQ kvs k
 |_=>aB
theorem Reps.at{C:jw->Prop}{H:Hp}{vs:List V}{ts:List T}{i:Int}{t:T}(h:Reps C H vs ts)(e:cp ts i=aA t):∃ v,cp vs i=aA v/\Rep C H v t:=by
 unfold cp at e ⊢;rw[h.1];cases e1:eS ts.length i with
 |none=>rw[e1] at e; cases e
 |some j=>
  rw[e1] at e;exact h.get e
theorem BW:fO (Fm TheK.K) fZ:=by
 intro C H x y tx ty t Q bx by' hg q;unfold fZ at hg;split at hg
 ·obtain⟨p,vs,rfl,e2,r⟩:=bx.lst;obtain⟨v,h1,h2⟩:=r.at hg;exact .inl ⟨p,vs,_,v,rfl,by'.int,ad.of e2,h1,q v h2⟩
 ·obtain⟨p,vs,rfl,e2,r⟩:=bx.tup;obtain⟨v,h1,h2⟩:=r.at hg;exact .inr (.inl ⟨p,vs,_,v,rfl,by'.int,bj.of e2,h1,q v h2⟩)
 ·split at hg
  ·rename_i hl;obtain⟨c,h1,h2⟩:=Qm hg;subst h2;exact .inr (.inr ⟨_,_,c,bx.str,by'.int,hl,h1,q _ (.str _)⟩)
  ·cases hg
 ·obtain⟨p,rfl,e2⟩:=bx.scr;obtain⟨c,h1,h2⟩:=Qm hg;subst h2;refine .inl ⟨p,_,_,.int c,rfl,by'.int,e2,?_,q _ (.int c)⟩;unfold cp at h1 ⊢;rw[j5];cases e1:eS _ _ with
  |none=>rw[e1] at h1; cases h1
  |some j=>
   rw[e1,ja] at h1;rw[ja,jg,h1];rfl
 ·cases hg
theorem Bv:fO (λx y H Q=>∃ a v,x=.ref a/\DGet H a y (aA v)/\Q v H) o4:=by
 intro C H x y tx ty t Q bx by' hg q;unfold o4 at hg;split at hg
 ·obtain⟨p,kvs,rfl,e2,r⟩:=bx.dct;cases e3:cq ty with
  |none=>rw[e3] at hg; cases hg
  |some k=>
   rw[e3,ja] at hg;obtain rfl:=oP by' e3;rcases r.look k with ⟨h1,h2⟩ |⟨v,t',h1,h2,h3⟩
   ·rw[h2] at hg; cases hg
   ·rw[h2] at hg;injection hg with hg; subst hg;exact⟨p,v,rfl,h1▸DGet.k e2,q v h3⟩
 ·obtain⟨p,ob,kvs,rfl,e2,r,_⟩:=bx.fd;cases e3:cq ty with
  |none=>rw[e3] at hg; cases hg
  |some k=>
   rw[e3,ja] at hg;obtain rfl:=oP by' e3;rcases r.look k with ⟨h1,h2⟩ |⟨v,t',h1,h2,h3⟩
   ·rw[h2] at hg; cases hg
   ·rw[h2] at hg;injection hg with hg; subst hg;exact⟨p,v,rfl,.inl ⟨kvs,k,.inr ⟨ob,e2⟩,rfl,h1.symm⟩,q v h3⟩
 ·cases hg
section
variable {a b:Q3}{fa fb:DE}
theorem Mu(ha:PE X a (cE .e M fa))(hb:PE X b (cE .b M fb))(hm:Qr .NotIn b=aD):PE X (.Compare a [.NotIn] [b] pos) (cE .e M (d2 sC fa fb)):=weak (yB FF ha hb hm) (dJ (xO (neg:=aC)))
theorem PJ(hu:X.A.units+1 < gz)(ha:PE X a (cE .e M fa))(hb:PE X b (cE .b M fb))(hm:Qr .NotIn b=aD):PE X (.Compare a [.NotIn] [b] pos) (cE .e M (d2 yR fa fb)):=weak (Lb (EC hu ha hb) hm) fun σ H Q h=>dJ (xN (neg:=aC)) σ H Q h
theorem GZ(hK:X.K=TheK.K)(ha:PE X a (cE .e M fa))(hb:PE X b (cE .b M fb))(hs:sD b):PE X (.Subscript a b pos) (cE .e M (d2 fZ fa fb)):=weak (C3 (hK▸CV) ha hb hs) (dJ BW)
theorem HU{i:Nat}(hK:X.K=TheK.K)(hi:M.contains i=aC)(ha:PE X a (cH i))(hb:PE X b (cE .b M fb))(hs:sD b):PE X (.Subscript a b pos) (cE .e M (bh fZ i fb)):=weak (C3 (hK▸CV) ha hb hs) (Cw hi BW)
theorem HS(hu:X.A.units+1 < gz)(ha:PE X a (cE .e M fa))(hb:PE X b (cE .b M fb))(hs:tZ b):PE X (.Subscript a b pos) (cE .e M (d2 o4 fa fb)):=weak (DC hu ha hb hs) fun σ H Q h=>dJ Bv σ H Q h
theorem LK{i:Nat}(hi:M.contains i=aC)(hu:X.A.units+1 < gz)(ha:PE X a (cH i))(hb:PE X b (cE .b M fb))(hs:tZ b):PE X (.Subscript a b pos) (cE .e M (bh o4 i fb)):=weak (DC hu ha hb hs) fun σ H Q h=>Cw hi Bv σ H Q h
end
def dB(f:DE):DT:=λs=>(f s).bind λp=>match p.1 with
 |.bl b=>aA (b,p.2)
 |_=>aB
theorem ur{f:DE}{s s':Sg}{b:Bool}(h:dB f s=aA (b,s')):f s=aA (.bl b,s'):=by
 obtain⟨p,h1,h2⟩:=Qb h;obtain⟨t,s1⟩:=p;cases t<;>simp at h2
 rw[h1,h2.1,h2.2]
theorem fW{M:List Nat}{f:DE}{t:TE}(h:∀ σ H Q,cE .e M f σ H Q->t σ H Q):∀ σ H Q,cT M (dB f) σ H Q->C5 t σ H Q:=by
 intro σ H Q h_;refine ou h_ λF O s b s' R hf q=>?_;exact h σ H _ ⟨F,O,s,.bl b,s',R,ur hf,λv H' S p=>⟨b,BRep.bl (.inl p.2),q H' S p.1⟩⟩
def qz:T->Option Bool
 |.non=>aA aD |.bl b=>aA b |.int i=>aA (i != 0)
 |.str x=>if x.length<=jr then aA ((x.length:Int) != 0) else aB
 |.lst xs=>aA (!xs.isEmpty) |.tup xs=>aA (!xs.isEmpty) |.dct xs=>aA (!xs.isEmpty)
 |_=>aB
theorem zD{α β:Type}{xs:List α}{ys:List β}(h:xs.length=ys.length):(!ys.isEmpty)=!xs.isEmpty:=by
 cases xs<;>cases ys<;>simp at h<;>rfl
theorem Oz{K:j9}{C:jw->Prop}{H:Hp}{v:V}{t:T}{b:Bool}(h:BRep C H v t)(e:qz t=aA b):wg K v H b:=by
 cases t with
 |non=>rw[h.non]; injection e with e; exact e.symm
 |bl x=>rw[h.bl]; injection e with e; exact e.symm
 |int x=>rw[h.int]; injection e with e; exact e.symm
 |str x=>
  rw[h.str]
  by_cases hl:x.length<=jr
  ·have e':(if x.length<=jr then aA ((x.length:Int) != 0) else aB)=aA b:=e
   rw[aI hl] at e';injection e' with e';exact⟨hl,e'.symm⟩
  ·have e':(if x.length<=jr then aA ((x.length:Int) != 0) else aB)=aA b:=e
   rw[aH hl] at e';cases e'
 |lst xs=>
  obtain⟨p,vs,rfl,e2,r⟩:=h.lst;injection e with e;exact .inl ⟨vs,ad.of e2,by rw[<-e]; exact zD r.1⟩
 |tup xs=>
  obtain⟨p,vs,rfl,e2,r⟩:=h.tup;injection e with e;exact .inr (.inl ⟨vs,bj.of e2,by rw[<-e]; exact zD r.1⟩)
 |dct xs=>
  obtain⟨p,vs,rfl,e2,r⟩:=h.dct;injection e with e;have l:vs.length=xs.length:=by simpa using congrArg Yi r.1
  exact .inr (.inr ⟨vs,e2,by rw[<-e]; exact zD l⟩)
 |_=>cases e
def fJ(f:DE):DT:=λs=>(f s).bind λp=>(qz p.1).map λb=>(b,p.2)
def iq(f g:DT):DT:=λs=>(f s).bind λp=>if p.1 then g p.2 else aA (aD,p.2)
def ot(f g:DT):DT:=λs=>(f s).bind λp=>if p.1 then aA (aC,p.2) else g p.2
def q5(f:DT):DT:=λs=>(f s).map λp=>(!p.1,p.2)
def oB(f g:DE):DE:=λs=>(dB f s).bind λp=>if p.1 then g p.2 else aA (.bl aD,p.2)
def x6(f:DE):DE:=λs=>(dB f s).map λp=>(.bl (!p.1),p.2)
def rA(c:DT)(f g:DE):DE:=λs=>(c s).bind λp=>if p.1 then f p.2 else g p.2
section
variable {a b c:Q3}{fa fb:DE}{ft fu:DT}{k:Kd}
theorem G8(ha:PE X a (cE .e M fa))(hb:PE X b (cE .b M fb))(hm:Qr .In b=aD):PT X (.Compare a [.In] [b] pos) (cT M (dB (d2 wT fa fb))):=fK (lB Rh ha hb hm) (fW (dJ (xO (neg:=aD))))
theorem Ox(ha:PE X a (cE .e M fa))(hb:PE X b (cE .b M fb))(hm:Qr .NotIn b=aD):PT X (.Compare a [.NotIn] [b] pos) (cT M (dB (d2 sC fa fb))):=fK (lB FF ha hb hm) (fW (dJ (xO (neg:=aC))))
theorem Ii(hu:X.A.units+1 < gz)(ha:PE X a (cE .e M fa))(hb:PE X b (cE .b M fb))(hm:Qr .In b=aD):PT X (.Compare a [.In] [b] pos) (cT M (dB (d2 BH fa fb))):=fK (Ci (LX hu ha hb) hm) fun σ H Q h=>fW (dJ (xN (neg:=aD))) σ H Q h
theorem RQ(hu:X.A.units+1 < gz)(ha:PE X a (cE .e M fa))(hb:PE X b (cE .b M fb))(hm:Qr .NotIn b=aD):PT X (.Compare a [.NotIn] [b] pos) (cT M (dB (d2 yR fa fb))):=fK (Ci (EC hu ha hb) hm) fun σ H Q h=>fW (dJ (xN (neg:=aC))) σ H Q h
end
def aJ:DA:=λs=>aA ([],s)
def aF(f:DE)(g:DA):DA:=λs=>(f s).bind λp=>(g p.2).map λq=>(p.1::q.1,q.2)
def bz(f:DA):DE:=λs=>(f s).bind λp=>if p.1.length<=jr then aA (.lst p.1,p.2) else aB
def du(f:DA):DE:=λs=>(f s).bind λp=>if p.1.length<=jr then aA (.tup p.1,p.2) else aB
section
variable {es:List Q3}
def oC:DE:=λs=>aA (.dct [],s)
end
abbrev DO:=Sg->Option (Option Int × Sg)
def cO(M:List Nat)(f:DO):TO:=fun σ H Q=>∃ F O s t s',Rel F O M s σ H/\f s=aA (t,s')/\∀ H',Step σ M H H'->Rel F O M s' σ H'->Q t H'
def fG:DO:=λs=>aA (aB,s)
def eG(f:DE):DO:=λs=>(f s).bind λp=>match p.1 with
 |.int i=>aA (aA i,p.2)
 |_=>aB
def d9{α:Type}(xs:List α)(lo hi:Option Int):List α:=(xs.drop (HT.sIx xs.length 0 lo)).take (HT.sIx xs.length xs.length hi - HT.sIx xs.length 0 lo)
def iM(t:T)(lo hi:Option Int):Option T:=match t with
 |.lst xs=>aA (.lst (d9 xs lo hi))
 |.scr ns=>aA (.lst ((d9 ns lo hi).map .int))
 |_=>aB
def nA(t:T)(lo hi:Option Int):Option T:=match t with
 |.str x=>if x.length<=jr then aA (.str (YM x lo hi)) else aB
 |_=>aB
def dE(g:T->Option Int->Option Int->Option T)(f:DE)(l h:DO):DE:=λs=>(f s).bind λp=>(l p.2).bind λq=>(h q.2).bind λr=>(g p.1 q.1 r.1).map λt=>(t,r.2)
def tw(g:T->Option Int->Option Int->Option T)(i:Nat)(l h:DO):DE:=λs=>(s[i]?).join.bind λ_=>(l s).bind λq=>(h q.2).bind λr=>(r.2[i]?).join.bind λx=>(g x q.1 r.1).map λt=>(t,r.2)
theorem Reps.cut{C:jw->Prop}{H:Hp}{vs:List V}{ts:List T}(h:Reps C H vs ts)(lo hi:Option Int):Reps C H (n6 vs lo hi) (d9 ts lo hi):=by
 unfold n6 d9;rw[h.1];exact(h.drop _).take _
theorem sr{C:jw->Prop}{H:Hp}:∀(ns:List Int),Reps C H (ns.map V.int) (ns.map T.int)
 |[]=>.nil
 |n::ns=>.cons (.int n) (sr ns)
def As(r:V->Option Int->Option Int->Hp->VK->Prop)(g:T->Option Int->Option Int->Option T):Prop:=∀(C:jw->Prop) (H:Hp) x lo hi tx t (Q:VK),BRep C H x tx->g tx lo hi=aA t->
 (∀ p o,H p=aB->(∀ C':jw->Prop,(∀ b,C b/\H b≠aB->C' b)->Live C' (aR H p o) p t)->Q (.ref p) (aR H p o))->r x lo hi H Q
theorem B0:As (BT TheK.K) iM:=by
 intro C H x lo hi tx t Q bx hg q;cases tx<;>simp[iM] at hg
 ·subst hg;obtain⟨a,vs,rfl,ha,ra⟩:=bx.lst;refine⟨a,vs,rfl,ad.of ha,λp hp=>q p _ hp λC' hC=>?_⟩;exact .lst bq ((ra.cut lo hi).there.mono hC λc o _ e=>by rw[ac (cZ e hp)]; exact e)
 ·rename_i ns;subst hg;obtain⟨a,rfl,ha⟩:=bx.scr;refine⟨a,_,rfl,ha,λp hp=>q p _ hp λC' hC=>.lst bq ?_⟩;have:n6 (ns.map V.int) lo hi=(d9 ns lo hi).map V.int:=by
   unfold n6 d9;rw[j5,<-Wn,<-Wo]
  rw[this];exact sr _
section
variable {lo hi:Option Q3}{fl fh:DO}{p2:Pos}
theorem Go{g:T->Option Int->Option Int->Option T}{r:V->Option Int->Option Int->Hp->VK->Prop}(hs:As r g):∀ σ H Q,cE .n M (dE g fe fl fh) σ H Q->Af r (cE .e M fe) (cO M fl) (cO M fh) σ H Q:=by
 intro σ H Q h_;refine ba h_ λF O s t s' R hf q=>?_;obtain⟨p,h1,h2⟩:=Qb hf;obtain⟨l,h3,h4⟩:=Qb h2;obtain⟨u,h5,h6⟩:=Qb h4;obtain⟨t',h7,h8⟩:=Qm h6;injection h8 with h8 h9;subst h8 h9;refine⟨F,O,s,p.1,p.2,R,h1,λv H1 S1 p1=>⟨F,O,p.2,l.1,l.2,p1.1,h3,λH2 S2 R2=>⟨F,O,l.2,u.1,u.2,R2,h5,λH3 S3 R3=>?_⟩⟩⟩;have S:=(S1.trans S2).trans S3;exact hs (Free F O) H3 v l.1 u.1 p.1 t' Q (.inl (R2.stay S3 (p1.1.stay S2 p1.2))) h7 λa o ha L=>q _ _ (S.trans (.new ha o)) (.mkN R R3 S ha L)
theorem Hv{g:T->Option Int->Option Int->Option T}{r:V->Option Int->Option Int->Hp->VK->Prop}{i:Nat}(hi:M.contains i=aC)(hs:As r g):∀ σ H Q,cE .n M (tw g i fl fh) σ H Q->Af r (cH i) (cO M fl) (cO M fh) σ H Q:=by
 intro σ H Q h_;refine ba h_ λF O s t s' R hf q=>?_;obtain⟨x0,h0,hf⟩:=Qb hf;obtain⟨l,h3,h4⟩:=Qb hf;obtain⟨u,h5,h6⟩:=Qb h4;obtain⟨x,h6',h6⟩:=Qb h6;obtain⟨t',h7,h8⟩:=Qm h6;injection h8 with h8 h9;subst h8 h9;have hi':i∈M:=by simpa using hi
 obtain⟨a,e1,_⟩:=R.own i x0 (cQ h0) hi';refine⟨_,e1,F,O,s,l.1,l.2,R,h3,λH2 S2 R2=>⟨F,O,l.2,u.1,u.2,R2,h5,λH3 S3 R3=>?_⟩⟩;have S:=S2.trans S3;obtain⟨v,e2,B⟩:=ya hi' R R3 (cQ h0) (cQ h6');rw[e1] at e2;injection e2 with e2;injection e2 with e2;subst e2;exact hs (Free F O) H3 _ l.1 u.1 x t' Q B h7 λa o ha L=>q _ _ (S.trans (.new ha o)) (.mkN R R3 S ha L)
theorem BF(hK:X.K=TheK.K)(he:PE X e (cE .e M fe))(hl:PO X lo (cO M fl))(hu:PO X hi (cO M fh)):PE X (.Subscript e (.Slice lo hi aB p2) pos) (cE .n M (dE iM fe fl fh)):=weak (yW (hK▸DW) he hl hu) (Go B0)
theorem HV(he:PE X e (cE .e M fe))(hl:PO X lo (cO M fl))(hu:PO X hi (cO M fh)):PE X (.Subscript e (.Slice lo hi aB p2) pos) (cE .e M (dE nA fe fl fh)):=weak (yW Lk he hl hu) (by
 intro σ H Q h_;refine ba h_ λF O s t s' R hf q=>?_;obtain⟨p,h1,h2⟩:=Qb hf;obtain⟨l,h3,h4⟩:=Qb h2;obtain⟨u,h5,h6⟩:=Qb h4;obtain⟨t',h7,h8⟩:=Qm h6;injection h8 with h8 h9;subst h8 h9;refine⟨F,O,s,p.1,p.2,R,h1,λv H1 S1 p1=>⟨F,O,p.2,l.1,l.2,p1.1,h3,λH2 S2 R2=>⟨F,O,l.2,u.1,u.2,R2,h5,λH3 S3 R3=>?_⟩⟩⟩;have S:=(S1.trans S2).trans S3;obtain⟨pt,ps⟩:=p;cases pt<;>simp[nA] at h7
 rename_i x;obtain⟨h7,h8⟩:=h7
 exact⟨x,BRep.str (.inl p1.2),h7,q _ _ S ⟨R3,by rw[<-h8]; exact .str _⟩⟩)
end
inductive Fl where
 |nx (s:Sg) |rt (t:T) (s:Sg) |bk (s:Sg) |ct (s:Sg)
abbrev DS:=Sg->Option Fl
structure Ios (F:Fr) (io M:List Nat) (σ:L2.St):Prop where
 at_:∀(i:Nat),i∈io->i∈M/\σ[i]?=aA (aA (.ref (F.adr i)))
 D:∀ a,F.D a->∃ j,j∈io/\a=F.adr j
def KeepO(O:jw->Prop)(H:Hp)(O':jw->Prop)(H':Hp):Prop:=(∀ b o,¬ O b->H b=aA o->H' b=aA o/\¬ O' b)/\∀ b,H' b=aB->H b=aB
def C1(F:Fr):jw->Prop:=λb=>¬ F.D b/\(F.C0 b∨F.H0 b=aB)
structure RetOk (F:Fr) (rk:Kd) (io:List Nat) (s':Sg) (t:T) (v:V) (H':Hp):Prop where
 keep:∀ b o,¬ F.D b->F.H0 b=aA o->H' b=aA o
 dom:∀ b,H' b=aB->F.H0 b=aB
 res:match rk with
  |.n=>∃ r,v=.ref r/\F.H0 r=aB/\¬ F.D r/\Live (λb=>C1 F b/\b≠r) H' r t/\∀(i:Nat),i∈io->∃ t',s'[i]?=aA (aA t')/\Live (λb=>C1 F b/\b≠r) H' (F.adr i) t'
  |.b=>Rep (λb=>F.H0 b=aB) H' v t
  |.e=>Rep (C1 F) H' v t/\∀(i:Nat),i∈io->∃ t',s'[i]?=aA (aA t')/\Live (C1 F) H' (F.adr i) t'
def EndOk(F:Fr)(rk:Kd)(io M' Mb:List Nat)(O:jw->Prop)(H:Hp)(D:Ends):Fl->Prop
 |.nx s'=>∀ O' σ' H',KeepO O H O' H'->Rel F O' M' s' σ' H'->Ios F io M' σ'->D.nx σ' H'
 |.bk s'=>∀ O' σ' H',KeepO O H O' H'->Rel F O' Mb s' σ' H'->Ios F io Mb σ'->D.bk σ' H'
 |.ct s'=>∀ O' σ' H',KeepO O H O' H'->Rel F O' Mb s' σ' H'->Ios F io Mb σ'->D.ct σ' H'
 |.rt t s'=>∀ v H',RetOk F rk io s' t v H'->D.rt v H'
def cS(rk:Kd)(io M M' Mb:List Nat)(d:DS):TS:=λD σ H=>∃ F O s r,Rel F O M s σ H/\Ios F io M σ/\d s=aA r/\EndOk F rk io M' Mb O H D r
theorem fH{rk:Kd}{io M M' Mb:List Nat}{d:DS}{D:_}{σ:L2.St}{H:Hp}(h:cS rk io M M' Mb d D σ H){G:Prop}(g:∀ F O s r,Rel F O M s σ H->Ios F io M σ->d s=aA r->EndOk F rk io M' Mb O H D r->G):G:=by
 obtain⟨F,O,s,r,R,I,hd,q⟩:=h;exact g F O s r R I hd q
section
variable {F:Fr}{O O' O'':jw->Prop}{s s':Sg}{σ:L2.St}{H H' H'':Hp}{v:V}{t:T}{a:jw}
theorem KeepO.refl:KeepO O H O H:=⟨λ_ _ n h=>⟨h,n⟩,λ_ h=>h⟩
theorem KeepO.trans(x:KeepO O H O' H')(y:KeepO O' H' O'' H''):KeepO O H O'' H'':=⟨λb o n h=>by
 obtain⟨h1,n1⟩:=x.1 b o n h
 exact y.1 b o n1 h1,λb h=>x.2 b (y.2 b h)⟩
theorem Step.keepO(S:Step σ M H H')(R:Rel F O M s σ H):KeepO O H O H':=⟨λb o n h=>⟨S.keep b o (R.notOwned n) h,n⟩,S.dom⟩
theorem EndOk.more{D:Ends}{r:Fl}(h:EndOk F rk io M' Mb O H D r)(k:KeepO O H O' H'):EndOk F rk io M' Mb O' H' D r:=by
 cases r with
 |nx s'=>exact λO2 σ2 H2 k2=>h O2 σ2 H2 (k.trans k2)
 |bk s'=>exact λO2 σ2 H2 k2=>h O2 σ2 H2 (k.trans k2)
 |ct s'=>exact λO2 σ2 H2 k2=>h O2 σ2 H2 (k.trans k2)
 |rt t s'=>exact h
theorem Rel.freeze(R:Rel F O M s σ H)(I:Ios F io M σ)(hM:∀ i,i∈M'->i∈M)(hio:∀ i,i∈io->i∈M'):∃ O',(∀ b,O' b->O b)/\Rel F O' M' s σ H/\Ios F io M' σ:=by
 refine⟨λb=>O b/\¬ ∃ j:Nat,j∈M/\j∉M'/\σ[j]?=aA (aA (.ref b)),λb z=>z.1,?_,⟨λi hi=>⟨hio i hi,(I.at_ i hi).2⟩,I.D⟩⟩;have w:∀ b,(O b/\¬ ∃ j:Nat,j∈M/\j∉M'/\σ[j]?=aA (aA (.ref b)))->O b:=λb z=>z.1;have notD:∀(i:Nat) b,i∈M->i∉M'->σ[i]?=aA (aA (.ref b))->¬ F.D b:=λi b hi hi' e z=>by
  obtain⟨j,hj,rfl⟩:=I.D b z;obtain⟨h1,h2⟩:=I.at_ j hj;have:=R.dis i j _ hi h1 e h2;subst this;exact hi' (hio i hj)
 refine⟨R.len,λi t e n=>?_,λi t e n=>?_,λi b hi e=>⟨R.ow i b (hM i hi) e,fun⟨j,h1,h2,h3⟩=>?_⟩,λi j b hi hj=>R.dis i j b (hM i hi) (hM j hj),R.keep,R.dom,λb z=>R.fresh b z.1,λb z=>⟨R.inD b z,fun⟨j,h1,h2,h3⟩=>notD j b h1 h2 h3 z⟩,λb z=>R.al b z.1⟩
 ·by_cases hi:i∈M
  ·obtain⟨b,h1,L⟩:=R.own i t e hi;refine⟨_,h1,L.rep (λc z=>z.weak w) ⟨λz=>z.2 ⟨i,hi,n,h1⟩,?_⟩⟩;rcases R.fresh b (R.ow i b hi h1) with z |z
   ·exact absurd z (notD i b hi n h1)
   ·exact .inr z
  ·obtain⟨v,h1,h2⟩:=R.val i t e hi;exact⟨v,h1,h2.mono (λ_ c=>c.weak w) λ_ _ _ e=>e⟩
 ·obtain⟨b,h1,h2⟩:=R.own i t e (hM i n);exact⟨b,h1,h2.mono (λ_ c=>c.weak w) (λ_ _ _ e=>e) λ_ e=>e⟩
 ·have:=R.dis j i b h1 (hM i hi) h3 e;subst this;exact h2 hi
theorem ic{A B:List Nat}(h:A.all (B.contains ·)=aC):∀ i,i∈A->i∈B:=λi hi=>by simpa using jz.mp h i hi
theorem PK{D:Ends}{r:Fl}{Mx:List Nat}(hM:∀ i,i∈Mx->i∈M')(hio:∀ i,i∈io->i∈Mx)(h:EndOk F rk io Mx Mb O H D r):EndOk F rk io M' Mb O H D r:=by
 cases r with
 |nx s'=>
  intro O' σ' H' k R I;obtain⟨O2,w,R',I'⟩:=R.freeze I hM hio;exact h O2 σ' H' (k.trans ⟨λb o n h=>⟨h,λz=>n (w b z)⟩,λ_ h=>h⟩) R' I'
 |bk s'=>exact h
 |ct s'=>exact h
 |rt t s'=>exact h
theorem Rel.write{i:Nat}{t0 t':T}{o:HO}(R:Rel F O M s σ H)(hi:i∈M)(e:σ[i]?=aA (aA (.ref a)))(hs:s[i]?=aA (aA t0))(L:∀ H1,(∀ b u,Free F O b->H b=aA u->H1 b=aA u)->H1 a=aA o->Live (Free F O) H1 a t'):Rel F O M (s.set i (aA t')) σ (aR H a o):=by
 have oa:=R.ow i a hi e;have k:∀ b u,Free F O b->H b=aA u->aR H a o b=aA u:=λb u c q=>(ac (λz:b=a=>c.1 (z▸oa))).trans q;have hl:i < s.length:=(j7.mp hs).1;refine⟨by rw[Qg]; exact R.len,λj t e' n=>?_,λj t e' n=>?_,R.ow,R.dis,λb u n q=>?_,λb q=>?_,R.fresh,R.inD,λb z=>?_⟩
 ·have hij:i≠j:=λz=>n (z▸hi);rw[jm hij] at e';obtain⟨v,h1,h2⟩:=R.val j t e' n;exact⟨v,h1,h2.mono (λ_ c=>c) k⟩
 ·by_cases hij:i=j
  ·subst hij;rw[jV hl] at e';injection e' with e';injection e' with e';subst e';exact⟨a,e,L _ k bq⟩
  ·rw[jm hij] at e';obtain⟨b,h1,h2⟩:=R.own j t e' n;have hne:b≠a:=λz=>hij (R.dis i j a hi n e (z▸h1));exact⟨b,h1,h2.mono (λ_ c=>c) k λu q=>by rw[ac hne]; exact q⟩
 ·refine(ac (λz=>?_)).trans (R.keep b u n q);subst z;rcases R.fresh b oa with z |z
  ·exact n z
  ·rw[z] at q; cases q
 ·refine R.dom b ?_;unfold aR at q;split at q
  ·cases q
  ·exact q
 ·intro q;refine R.al b z ?_;unfold aR at q;split at q
  ·cases q
  ·exact q
theorem Step.write{i:Nat}{o:HO}(hi:i∈M)(e:σ[i]?=aA (aA (.ref a)))(_:H a≠aB):Step σ M H (aR H a o):=⟨λb u n q=>by
 exact(ac (λz:b=a=>n i hi (z▸e))).trans q,λb q=>by
 unfold aR at q;split at q
 ·cases q
 ·exact q⟩
theorem Rel.setE{i:Nat}(R:Rel F O M s σ H)(hM:∀ j,j∈M'->j∈M/\j≠i)(hk:∀ j,j∈M->j∈M'∨j=i)(hi:i < s.length)(r:Rep (Free F O) H v t):Rel F O M' (s.set i (aA t)) (σ.set i (aA v)) H:=by
 have hi2:i < σ.length:=by rw[<-R.len]; exact hi
 refine⟨by rw[Qg,Qg]; exact R.len,λj t' e n=>?_,λj t' e n=>?_,λj b hj e=>?_,λj k b hj hk e1 e2=>?_,R.keep,R.dom,R.fresh,R.inD,R.al⟩
 ·by_cases hij:i=j
  ·subst hij;rw[jV hi] at e;injection e with e;injection e with e;subst e;exact⟨v,jV hi2,r⟩
  ·rw[jm hij] at e;rw[jm hij];exact R.val j t' e λz=>(hk j z).elim n λz=>hij z.symm
 ·obtain⟨h1,h2⟩:=hM j n;rw[jm (ZA h2)] at e;rw[jm (ZA h2)];exact R.own j t' e h1
 ·obtain⟨h1,h2⟩:=hM j hj;rw[jm (ZA h2)] at e;exact R.ow j b h1 e
 ·obtain⟨h1,h2⟩:=hM j hj;obtain⟨h3,h4⟩:=hM k hk;rw[jm (ZA h2)] at e1;rw[jm (ZA h4)] at e2;exact R.dis j k b h1 h3 e1 e2
theorem Rel.setN{i:Nat}(R:Rel F O M s σ H)(hM:∀ j,j∈M'->j=i∨j∈M)(hk:∀ j,j∈M->j∈M')(hi:i < s.length)(him:i∈M')(oa:O a)(nw:∀ j,j∈M->j≠i->σ[j]?≠aA (aA (.ref a)))(L:Live (Free F O) H a t):Rel F O M' (s.set i (aA t)) (σ.set i (aA (.ref a))) H:=by
 have hi2:i < σ.length:=by rw[<-R.len]; exact hi
 refine⟨by rw[Qg,Qg]; exact R.len,λj t' e n=>?_,λj t' e n=>?_,λj b hj e=>?_,λj k b hj hk' e1 e2=>?_,R.keep,R.dom,R.fresh,R.inD,R.al⟩
 ·have hij:i≠j:=λz=>n (z▸him);rw[jm hij] at e;rw[jm hij];exact R.val j t' e λz=>n (hk j z)
 ·by_cases hij:i=j
  ·subst hij;rw[jV hi] at e;injection e with e;injection e with e;subst e;exact⟨a,jV hi2,L⟩
  ·rw[jm hij] at e;rw[jm hij];exact R.own j t' e ((hM j n).resolve_left λz=>hij z.symm)
 ·by_cases hij:i=j
  ·subst hij;rw[jV hi2] at e;injection e with e;injection e with e;injection e with e;exact e▸oa
  ·rw[jm hij] at e;exact R.ow j b ((hM j hj).resolve_left λz=>hij z.symm) e
 ·by_cases hij:i=j
  ·by_cases hik:i=k
   ·exact hij.symm.trans hik
   ·subst hij;rw[jV hi2] at e1;rw[jm hik] at e2;injection e1 with e1;injection e1 with e1;injection e1 with e1;subst e1;exact absurd e2 (nw k ((hM k hk').resolve_left λz=>hik z.symm) (ZA hik))
  ·rw[jm hij] at e1
   by_cases hik:i=k
   ·subst hik;rw[jV hi2] at e2;injection e2 with e2;injection e2 with e2;injection e2 with e2;subst e2;exact absurd e1 (nw j ((hM j hj).resolve_left λz=>hij z.symm) (ZA hij))
   ·rw[jm hik] at e2;exact R.dis j k b ((hM j hj).resolve_left λz=>hij z.symm) ((hM k hk').resolve_left λz=>hik z.symm) e1 e2
theorem Ios.set{i:Nat}{x:Option V}(I:Ios F io M σ)(hio:i∉io)(hM:∀ j,j∈io->j∈M'):Ios F io M' (σ.set i x):=⟨λj hj=>by
 refine⟨hM j hj,?_⟩;rw[jm (λz:i=j=>hio (z▸hj))]
 exact(I.at_ j hj).2,I.D⟩
end
def aM(f g:DS):DS:=λs=>(f s).bind λr=>match r with
 |.nx s'=>g s'
 |r=>aA r
def bW:DS:=λs=>aA (.nx s)
def aa(i:Nat)(f:DE):DS:=λs=>(f s).bind λp=>if i < p.2.length then aA (.nx (p.2.set i (aA p.1))) else aB
def bU(c:DT)(f g:DS):DS:=λs=>(c s).bind λp=>if p.1 then f p.2 else g p.2
def iG(f:DE):DS:=λs=>(f s).map λp=>.nx p.2
section
variable {M'':List Nat}{st:QR}{sts:List QR}{c:Q3}{a b:List QR}{d d':DS}{ft:DT}{pos':Pos}
def By(M M' io:List Nat)(i:Nat):Bool:=M'.all (λj=>M.contains j&&j != i)&&M.all (λj=>M'.contains j||j == i)&&!io.contains i&&io.all (M'.contains ·)
def Bz(M M' io:List Nat)(i:Nat):Bool:=M'.all (λj=>j == i||M.contains j)&&M.all (M'.contains ·)&&M'.contains i&&!io.contains i&&io.all (M'.contains ·)
theorem Free.c1{F:Fr}{O:jw->Prop}{M:List Nat}{s:Sg}{σ:L2.St}{H:Hp}(R:Rel F O M s σ H){b:jw}(c:Free F O b):C1 F b:=⟨λz=>c.1 (R.inD b z),c.2⟩
theorem Br{F:Fr}{O:jw->Prop}{s:Sg}{σ:L2.St}{H:Hp}{v:V}{t:T}(R:Rel F O M s σ H)(I:Ios F io M σ)(hio:∀ i,i∈io->∃ t,s[i]?=aA (aA t))(r:Rep (Free F O) H v t):RetOk F .e io s t v H:=by
 refine⟨R.keep,R.dom,r.mono (λ_ c=>c.c1 R) (λ_ _ _ e=>e),λi hi=>?_⟩;obtain⟨t',ht⟩:=hio i hi;obtain⟨h1,h2⟩:=I.at_ i hi;obtain⟨a,h3,L⟩:=R.own i t' ht h1;rw[h2] at h3;injection h3 with h3;injection h3 with h3;injection h3 with h3;subst h3;exact⟨t',ht,L.mono (λ_ c=>c.c1 R) (λ_ _ _ e=>e) λ_ e=>e⟩
theorem Bs{F:Fr}{O:jw->Prop}{s:Sg}{σ:L2.St}{H:Hp}{t:T}{a:jw}(R:Rel F O M s σ H)(I:Ios F io M σ)(hio:∀ i,i∈io->∃ t,s[i]?=aA (aA t))(oa:O a)(h0:F.H0 a=aB)(nd:¬ F.D a)(L:Live (Free F O) H a t):RetOk F .n io s t (.ref a) H:=by
 have w:∀ b,Free F O b->C1 F b/\b≠a:=λb c=>⟨c.c1 R,λz=>c.1 (z▸oa)⟩;refine⟨R.keep,R.dom,a,rfl,h0,nd,L.mono w (λ_ _ _ e=>e) λ_ e=>e,λi hi=>?_⟩;obtain⟨t',ht⟩:=hio i hi;obtain⟨h1,h2⟩:=I.at_ i hi;obtain⟨b,h3,L⟩:=R.own i t' ht h1;rw[h2] at h3;injection h3 with h3;injection h3 with h3;injection h3 with h3;subst h3;exact⟨t',ht,L.mono w (λ_ _ _ e=>e) λ_ e=>e⟩
def hasAll(io:List Nat)(s:Sg):Bool:=io.all λi=>(s[i]?).join.isSome
theorem hasAll.get{io:List Nat}{s:Sg}(h:hasAll io s=aC):∀ i,i∈io->∃ t,s[i]?=aA (aA t):=λi hi=>by
 have:=jz.mp h i hi;cases e:(s[i]?).join with
 |none=>rw[e] at this; cases this
 |some t=>exact⟨t,cQ e⟩
def ak(io:List Nat)(f:DE):DS:=λs=>(f s).bind λp=>if hasAll io p.2 then aA (.rt p.1 p.2) else aB
end
def rW:T->Bool
 |.lst _=>aC
 |_=>aD
def SM(r:V->List V->Hp->VK->Prop)(g:T->List T->Option (T × T)):Prop:=∀(C:jw->Prop) (H:Hp) a tx vs ts t' tr (Q:VK),¬ C a->Live C H a tx->Reps C H vs ts->g tx ts=aA (t',tr)->
 (∀ o v,(∀ H1,(∀ b u,C b->H b=aA u->H1 b=aA u)->H1 a=aA o->Live C H1 a t')->Rep C H v tr->Q v (aR H a o))->r (.ref a) vs H Q
def dt(g:T->List T->Option (T × T))(i:Nat)(fa:DA):DE:=λs=>(s[i]?).join.bind λt0=>if rW t0 then (fa s).bind λp=>(p.2[i]?).join.bind λt=>(g t p.1).map λq=>(q.2,p.2.set i (aA q.1)) else aB
def fT:T->List T->Option (T × T)
 |.lst xs,[t]=>if xs.length < jr then aA (.lst (xs++[t]),.non) else aB
 |_,_=>aB
def nE:T->List T->Option (T × T)
 |.lst xs,[.lst ys]=>if xs.length+ys.length<=jr then aA (.lst (xs++ys),.non) else aB
 |_,_=>aB
def ip:T->List T->Option (T × T)
 |.lst xs,[]=>(xs[xs.length - 1]?).map λy=>(.lst xs.dropLast,y)
 |_,_=>aB
theorem Live.lst'{C:jw->Prop}{H:Hp}{a:jw}{ts:List T}(h:Live C H a (.lst ts)):∃ vs,H a=aA (.lst vs)/\Reps C H vs ts:=by
 cases h with |lst r h=>exact⟨_,r,h⟩
theorem Reps.one{C:jw->Prop}{H:Hp}{vs:List V}{t:T}(h:Reps C H vs [t]):∃ v,vs=[v]/\Rep C H v t:=by
 obtain⟨v,rfl⟩:=gS.mp (show vs.length=1 from h.1);exact⟨v,rfl,h.head⟩
theorem Reps.none{C:jw->Prop}{H:Hp}{vs:List V}(h:Reps C H vs []):vs=[]:=List.length_eq_zero_iff.mp h.1
theorem Reps.snoc{C:jw->Prop}{H:Hp}{vs:List V}{ts:List T}{v:V}{t:T}(h:Reps C H vs ts)(r:Rep C H v t):Reps C H (vs++[v]) (ts++[t]):=h.append (.cons r .nil)
theorem IP:SM yE fT:=by
 intro C H a tx vs ts t' tr Q hn L R hg q;unfold fT at hg;split at hg
 ·split at hg
  ·rename_i hl;injection hg with hg;injection hg with h1 h2;subst h1 h2;obtain⟨us,h1,h2⟩:=L.lst';obtain⟨v,rfl,rv⟩:=R.one;refine⟨a,us,v,rfl,rfl,h1,by rw[h2.1]; exact hl,q _ _ (λH1 k e=>.lst e ?_) .non⟩
   exact(h2.snoc rv).mono (λ_ c=>c) k
  ·cases hg
 ·cases hg
theorem IQ:SM yG nE:=by
 intro C H a tx vs ts t' tr Q hn L R hg q;unfold nE at hg;split at hg
 ·split at hg
  ·rename_i hl;injection hg with hg;injection hg with h1 h2;subst h1 h2;obtain⟨us,h1,h2⟩:=L.lst';obtain⟨v,rfl,rv⟩:=R.one;obtain⟨b,ws,rfl,h3,h4⟩:=BRep.lst (.inl rv);refine⟨a,b,us,ws,rfl,rfl,h1,h3,by rw[h2.1,h4.1]; exact hl,q _ _ (λH1 k e=>.lst e ?_) .non⟩
   exact(h2.append h4).mono (λ_ c=>c) k
  ·cases hg
 ·cases hg
theorem Reps.dropLast{C:jw->Prop}{H:Hp}{vs:List V}{ts:List T}(h:Reps C H vs ts):Reps C H vs.dropLast ts.dropLast:=by
 rw[NA,NA,h.1];exact h.take _
theorem Reps.rev{C:jw->Prop}{H:Hp}:∀ {vs:List V} {ts:List T},Reps C H vs ts->Reps C H vs.reverse ts.reverse
 |[],[],_=>.nil
 |v::vs,[],h=>by have:=h.1; simp at this
 |[],t::ts,h=>by have:=h.1; simp at this
 |v::vs,t::ts,h=>by
  rw[QY,QY];exact(Reps.rev h.tail).snoc h.head
theorem IR:SM wq ip:=by
 intro C H a tx vs ts t' tr Q hn L R hg q;unfold ip at hg;split at hg
 ·obtain⟨y,hy,h0⟩:=Qm hg;injection h0 with h1 h2;subst h1 h2;obtain⟨us,h1,h2⟩:=L.lst';obtain rfl:=R.none;obtain⟨v,hv,rv⟩:=h2.get hy;exact⟨a,us,v,rfl,rfl,h1,by rw[h2.1]; exact hv,q _ _ (λH1 k e=>.lst e (h2.dropLast.mono (λ_ c=>c) k)) rv⟩
 ·cases hg
section
theorem xJ{r:V->List V->Hp->VK->Prop}{g:T->List T->Option (T × T)}{i:Nat}(hi:M.contains i=aC)(hs:SM r g):∀ σ H Q,cE .e M (dt g i fa) σ H Q->nq X.K "list" r (cH i) (cA M fa) σ H Q:=by
 intro σ H Q h_;refine ba h_ λF O s t s' R hf q=>?_;have hi':i∈M:=by simpa using hi
 obtain⟨t0,h0,hf⟩:=Qb hf;split at hf
 ·rename_i hl;obtain⟨p,h1,hf⟩:=Qb hf;obtain⟨t1,h2,hf⟩:=Qb hf;obtain⟨w,h3,h4⟩:=Qm hf;injection h4 with h4 h5;subst h4 h5;obtain⟨a,e1,L0⟩:=R.own i t0 (cQ h0) hi';refine⟨_,e1,?_,F,O,s,p.1,p.2,R,h1,λvs H1 S1 R1 rs=>?_⟩
  ·cases L0 with
   |lst r h=>exact .inl ⟨rfl,_,ad.of r⟩
   |_=>cases hl
  obtain⟨b,e2,L⟩:=R1.own i t1 (cQ h2) hi';rw[e1] at e2;injection e2 with e2;injection e2 with e2;injection e2 with e2;subst e2;refine hs (Free F O) H1 a t1 vs p.1 w.1 w.2 Q (λz=>z.1 (R1.ow i a hi' e1)) L rs h3 λo v hL rv=>?_;have R2:=R1.write (o:=o) hi' e1 (cQ h2) hL;refine q v _ (S1.trans (.write hi' e1 L.ne)) ⟨R2,?_⟩;exact R1.stay (.write hi' e1 L.ne) rv
 ·cases hf
theorem LQ{r:V->List V->Hp->VK->Prop}{g:T->List T->Option (T × T)}{i:Nat}(hi:M.contains i=aC)(hs:SM r g):∀ σ H Q,cE .e M (dt g i aJ) σ H Q->u7 X.K "list" r (cH i) σ H Q:=by
 rintro σ H Q h;obtain⟨v,e,ty,F,O,s,ts,s',R,hf,q⟩:=xJ (X:=X) hi hs σ H Q h;injection hf with hf;injection hf with h1 h2;subst h1 h2;exact⟨v,e,ty,q [] H .refl R .nil⟩
end
def cW(kvs:List (aK × T))(k:aK)(v:T):List (aK × T):=
 if kvs.any λkv=>aE (kv.1=k) then kvs.map λkv=>if kv.1=k then (kv.1,v) else kv else kvs++[(k,v)]
theorem RepK.any{C:jw->Prop}{H:Hp}(k:aK):∀ {vs:List (aK × V)} {ts:List (aK × T)},RepK C H vs ts->(vs.any λkv=>aE (kv.1=k))=ts.any λkv=>aE (kv.1=k)
 |[],[],_=>rfl
 |p::vs,[],h=>by have:=h.1; simp at this
 |[],q::ts,h=>by have:=h.1; simp at this
 |p::vs,q::ts,h=>by
  obtain⟨e,r,h'⟩:=h.tail;rw[Ze,Ze,RepK.any k h',e]
theorem RepK.mapPut{C:jw->Prop}{H:Hp}{k:aK}{v:V}{t:T}(r:Rep C H v t):∀ {vs:List (aK × V)} {ts:List (aK × T)},RepK C H vs ts->RepK C H (vs.map λkv=>if kv.1=k then (kv.1,v) else kv) (ts.map λkv=>if kv.1=k then (kv.1,t) else kv)
 |[],[],h=>h
 |p::vs,[],h=>by have:=h.1; simp at this
 |[],q::ts,h=>by have:=h.1; simp at this
 |p::vs,q::ts,h=>by
  obtain⟨e,r',h'⟩:=h.tail;rw[jq,jq]
  by_cases hk:q.1=k
  ·rw[aI hk,aI (e.trans hk)];exact .cons e r (RepK.mapPut r h')
  ·rw[aH hk,aH (λz=>hk (e.symm.trans z))];exact .cons e r' (RepK.mapPut r h')
theorem RepK.append{C:jw->Prop}{H:Hp}:∀ {vs ws:List (aK × V)} {ts us:List (aK × T)},RepK C H vs ts->RepK C H ws us->RepK C H (vs++ws) (ts++us)
 |[],_,[],_,_,h=>h
 |p::vs,_,[],_,h,_=>by have:=h.1; simp at this
 |[],_,q::ts,_,h,_=>by have:=h.1; simp at this
 |p::vs,_,q::ts,_,h,h2=>by
  obtain⟨e,r',h'⟩:=h.tail;exact .cons e r' (RepK.append h' h2)
theorem RepK.put{C:jw->Prop}{H:Hp}{k:aK}{v:V}{t:T}{vs:List (aK × V)}{ts:List (aK × T)}(h:RepK C H vs ts)(r:Rep C H v t):RepK C H (dN vs k v) (cW ts k t):=by
 unfold dN cW;rw[h.any k];split
 ·exact RepK.mapPut r h
 ·exact RepK.append h (.cons rfl r ⟨rfl,λi v t e=>by simp at e⟩)
theorem RepK.len{C:jw->Prop}{H:Hp}{vs:List (aK × V)}{ts:List (aK × T)}(h:RepK C H vs ts):vs.length=ts.length:=by simpa using congrArg Yi h.1
def iY(i:Nat)(fk fv:DE):DS:=λs=>(fv s).bind λp=>(p.2[i]?).join.bind λ_=>(fk p.2).bind λq=>(q.2[i]?).join.bind λt=>match t with
 |.dct kvs=>(cq q.1).bind λk=>if kvs.length < jr then aA (.nx (q.2.set i (aA (.dct (cW kvs k p.1))))) else aB
 |_=>aB
def nJ(i:Nat)(fk fv:DE):DS:=λs=>(fv s).bind λp=>(p.2[i]?).join.bind λ_=>(fk p.2).bind λq=>(q.2[i]?).join.bind λt=>match t,q.1 with
 |.lst xs,.int k=>(eS xs.length k).map λj=>.nx (q.2.set i (aA (.lst (xs.set j p.1))))
 |_,_=>aB
section
variable {st:QR}{fk fv:DE}
def iX:List Nat->eI
 |[]=>o6
 |i::r=>nK (dY i) (iX r)
def eZ:List Nat->List T->Sg->Option Sg
 |[],[],s=>aA s
 |i::is,t::ts,s=>if i < s.length then eZ is ts (s.set i (aA t)) else aB
 |_,_,_=>aB
theorem v4{F:Fr}{O:jw->Prop}{H:Hp}{Q:L2.St->Hp->Prop}:∀ {is:List Nat} {ts:List T} {vs:List V} {s s':Sg} {σ:L2.St},Rel F O M s σ H->Ios F io M σ->(∀ i,i∈is->i∉M)->(∀ i,i∈io->i∈M)->Reps (Free F O) H vs ts->eZ is ts s=aA s'->
  (∀ σ',Rel F O M s' σ' H->Ios F io M σ'->Q σ' H)->iX is vs σ H Q
 |[],[],vs,s,s',σ,R,I,_,_,h,e,q=>by
  injection e with e;subst e;exact⟨h.none,q σ R I⟩
 |[],t::ts,vs,s,s',σ,R,I,_,_,h,e,q=>by cases e
 |i::is,[],vs,s,s',σ,R,I,_,_,h,e,q=>by cases e
 |i::is,t::ts,[],s,s',σ,R,I,_,_,h,e,q=>by have:=h.1; simp at this
 |i::is,t::ts,v::vs,s,s',σ,R,I,hm,hio,h,e,q=>by
  unfold eZ at e;split at e
  ·rename_i hl;have hi:i∉M:=hm i jW;exact⟨v,vs,rfl,v4 (R.setE (λj hj=>⟨hj,λz=>hi (z▸hj)⟩) (λj hj=>.inl hj) hl h.head) (I.set (λz=>hi (hio i z)) hio) (λj hj=>hm j (jA _ hj)) hio h.tail e q⟩
  ·cases e
def uK:T->Option (List T)
 |.lst xs=>aA xs
 |.tup xs=>aA xs
 |_=>aB
def tO(is:List Nat)(f:DE):DS:=λs=>(f s).bind λp=>(uK p.1).bind λts=>(eZ is ts p.2).map .nx
end
def qC(F:Fr)(O:jw->Prop)(its:List T)(J:It)(H1:Hp):Prop:=∀ H2,(∀ b o,Free F O b->H1 b=aA o->H2 b=aA o)->
 ∀ i:Nat,(∀ t,its[i]?=aA t->J.go i H2/\∀ x H3,J.yld i H2 x H3->(H3=H2∨∃ p o,H2 p=aB/\H3=aR H2 p o)/\Rep (λb=>(Free F O b/\H1 b≠aB)∨H2 b=aB) H3 x t)/\(its.length<=i->J.stop i H2)
abbrev DI:=Sg->Option (List T × Sg)
def cI(M:List Nat)(f:DI):TI:=fun σ H R=>∃ F O s its s',Rel F O M s σ H/\f s=aA (its,s')/\∀ J H',Step σ M H H'->Rel F O M s' σ H'->qC F O its J H'->R J H'
theorem lu{M:List Nat}{f:DI}{σ:L2.St}{H:Hp}{R:_}(h:cI M f σ H R){G:Prop}(g:∀ F O s its s',Rel F O M s σ H->f s=aA (its,s')->(∀ J H',Step σ M H H'->Rel F O M s' σ H'->qC F O its J H'->R J H')->G):G:=by
 obtain⟨F,O,s,its,s',Rl,hf,q⟩:=h;exact g F O s its s' Rl hf q
theorem lQ{X:Cx}{tg e:Q3}{t t':TI}(h:PI X tg e t)(hw:∀ σ H R,t' σ H R->t σ H R):PI X tg e t':=λpc s σ H R I q=>h pc s σ H R I (hw _ _ _ q)
def Ao(f:DE):DI:=λs=>(f s).bind λp=>match p.1 with
 |.lst xs=>aA (xs,p.2)
 |.scr ns=>aA (ns.map .int,p.2)
 |_=>aB
def BE(f:DE):DI:=λs=>(f s).bind λp=>match p.1 with
 |.tup xs=>aA (xs,p.2)
 |_=>aB
def dS(lo:Int)(n:Nat):List T:=(j6 n).map fun(i:Nat)=>T.int (lo+i)
def dR(j:Int):Bool:=(j+2000).natAbs.ble 4000
theorem vC{j:Int}(h:dR j=aC):-(2 ^ 62)<=j/\j < 2 ^ 62:=by
 unfold dR at h;have:=g9 h;lia
def fS(f:DA):DI:=λs=>(f s).bind λp=>match p.1 with
 |[.int j]=>if dR j=aC then aA (dS 0 j.toNat,p.2) else aB
 |_=>aB
def tu(f:DA):DI:=λs=>(f s).bind λp=>match p.1 with
 |[.int i,.int j]=>if dR i=aC/\dR j=aC then aA (dS i (j - i).toNat,p.2) else aB
 |_=>aB
def iU(xs:List T):List T:=(j6 xs.length).map fun(i:Nat)=>T.tup [.int i,xs.getD i .non]
def rB(f:DA):DI:=λs=>(f s).bind λp=>match p.1 with
 |[.lst xs]=>aA (iU xs,p.2)
 |_=>aB
section
variable {tg:Q3}
theorem OU{F:Fr}{O:jw->Prop}{H1:Hp}{a:jw}{vs:List V}{ts:List T}{K:j9}(fr:Free F O a)(ha:H1 a=aA (.lst vs))(r:Reps (Free F O) H1 vs ts):qC F O ts (wa K a) H1:=by
 intro H2 k i;have h2:=k a _ fr ha;refine⟨λt ht=>?_,λhl=>⟨vs,ad.of h2,by rw[r.1]; exact hl⟩⟩
 obtain⟨v,hv,rv⟩:=r.get ht;refine⟨⟨vs,v,ad.of h2,hv⟩,λx H3 ⟨e1,e2⟩=>⟨.inl e1,?_⟩⟩;have:=e2 vs (ad.of h2);rw[hv] at this;obtain rfl:v=x:=jh this;subst e1;exact rv.there.mono (λb c=>.inl c) λb o c e=>k b o c.1 e
theorem CT{F:Fr}{O:jw->Prop}{H1:Hp}{a:jw}{ns:List Int}{K:j9}(h:∀ H2,(∀ b o,Free F O b->H1 b=aA o->H2 b=aA o)->ad K H2 a (ns.map V.int)):qC F O (ns.map T.int) (wa K a) H1:=by
 intro H2 k i;have h2:=h H2 k;refine⟨λt ht=>?_,λhl=>⟨_,h2,by simpa using hl⟩⟩
 obtain⟨v,hv,rv⟩:=(sr (C:=λb=>(Free F O b/\H1 b≠aB)∨H2 b=aB) (H:=H2) ns).get ht;refine⟨⟨_,v,h2,hv⟩,λx H3 ⟨e1,e2⟩=>⟨.inl e1,?_⟩⟩;have:=e2 _ h2;rw[hv] at this;obtain rfl:v=x:=jh this;subst e1;exact rv
theorem Kh(hK:X.K=TheK.K)(h:PE X e (cE .e M fe)):PI X tg e (cI M (Ao fe)):=lQ (t:=Ba TheK.K (cE .e M fe)) (hK▸O7 h) (by
 intro σ H R h_;refine lu h_ λF O s its s' Rl hf q=>?_;obtain⟨⟨p1,p2⟩,h1,h2⟩:=Qb hf;refine⟨F,O,s,p1,p2,Rl,h1,λv H1 S1 po=>?_⟩;cases p1<;>simp at h2
 ·obtain⟨h3,h4⟩:=h2;subst h3 h4;have po2:=po.2;cases po2 with
  |lst c r l h=>
   exact⟨_,rfl,⟨_,ad.of r⟩,q _ H1 S1 po.1 (OU c r ⟨l,h⟩)⟩
 ·obtain⟨h3,h4⟩:=h2;subst h3 h4;have po2:=po.2;cases po2 with
  |@scr a ns o c r=>
   refine⟨a,rfl,⟨_,.inl (.inr ⟨o,r⟩)⟩,q _ H1 S1 po.1 ?_⟩;exact CT λH2 k=>.inl (.inr ⟨o,k a _ c r⟩)
  |@scrK a ns r=>
   refine⟨a,rfl,⟨_,r H1⟩,q _ H1 S1 po.1 ?_⟩
   exact CT λH2 k=>r H2)
theorem II(h:PE X e (cE .e M fe)):PI X tg e (cI M (BE fe)):=lQ (M0 h) (by
 intro σ H R h_;refine lu h_ λF O s its s' Rl hf q=>?_;obtain⟨⟨p1,p2⟩,h1,h2⟩:=Qb hf;refine⟨F,O,s,p1,p2,Rl,h1,λv H1 S1 po=>?_⟩;cases p1<;>simp at h2
 obtain⟨h3,h4⟩:=h2;subst h3 h4;have po2:=po.2;cases po2 with
 |tup c r l h=>
  rename_i a vs;refine⟨a,rfl,⟨vs,bj.of r⟩,q _ H1 S1 po.1 ?_⟩;intro H2 k i;have h2:=k a _ c r;refine⟨λt ht=>?_,λhl=>⟨vs,bj.of h2,by rw[l]; exact hl⟩⟩
  obtain⟨v,hv,rv⟩:=Reps.get (⟨l,h⟩:Reps (Free F O) H1 vs _) ht;refine⟨⟨vs,v,bj.of h2,hv⟩,λx H3 ⟨e1,e2⟩=>⟨.inl e1,?_⟩⟩;have:=e2 vs (bj.of h2);rw[hv] at this;obtain rfl:v=x:=jh this;subst e1
  exact rv.there.mono (λb c=>.inl c) λb o c e=>k b o c.1 e)
theorem De{F:Fr}{O:jw->Prop}{H1:Hp}{lo:Int}{n:Nat}:qC F O (dS lo n) (tV lo n) H1:=by
 intro H2 k i;unfold dS;refine⟨λt ht=>?_,λhl=>by show n<=i; simpa using hl⟩
 rw[jg] at ht;obtain⟨j,hj,e⟩:=Qm ht;have hi:i < n:=by simpa using (j7.mp hj).1
 rw[Zh hi] at hj;obtain rfl:i=j:=jh hj;refine⟨hi,λx H3 ⟨e1,e2⟩=>⟨.inl e1,?_⟩⟩;subst e1 e2 e;exact .int _
end
abbrev DG:=T->Sg->Option Sg
def cG(io M:List Nat)(g:DG):TG:=λv σ H Q=>∃ F O s t s',Rel F O M s σ H/\Ios F io M σ/\Rep (Free F O) H v t/\g t s=aA s'/\∀ σ',Rel F O M s' σ' H->Ios F io M σ'->Q σ' H
def au(i:Nat):DG:=λt s=>if i < s.length then aA (s.set i (aA t)) else aB
def eg(is:List Nat):DG:=λt s=>match t with
 |.tup ts=>eZ is ts s
 |_=>aB
theorem CA{X:Cx}{e:Q3}{t t':TG}(h:PG X e t)(hw:∀ v σ H Q,t' v σ H Q->t v σ H Q):PG X e t':=λpc s σ H v u Q I r q=>h pc s σ H v u Q I r (hw _ _ _ _ q)
section
variable {tg iter:Q3}{body:List QR}{fi:DI}{g:DG}{db:DS}
theorem gn{i:Nat}(hi:M.contains i=aD)(hio:io.all (M.contains ·)=aC):∀ v σ H Q,cG io M (au i) v σ H Q->dY i v σ H Q:=by
 rintro v σ H Q ⟨F,O,s,t,s',R,I,r,hg,q⟩;have hi':i∉M:=by simpa using hi
 unfold au at hg;split at hg
 ·rename_i hl;injection hg with hg;subst hg;exact q _ (R.setE (λj hj=>⟨hj,λz=>hi' (z▸hj)⟩) (λj hj=>.inl hj) hl r) (I.set (λz=>hi' (ic hio i z)) (ic hio))
 ·cases hg
theorem gt{is:List Nat}{n:Nat}{K:j9}(hn:is.length=n)(hm:is.all (λi=>!M.contains i)=aC)(hio:io.all (M.contains ·)=aC):∀ v σ H Q,cG io M (eg is) v σ H Q->fq K n (iX is) v σ H Q:=by
 rintro v σ H Q ⟨F,O,s,t,s',R,I,r,hg,q⟩;obtain⟨ts,rfl⟩:∃ ts,t=.tup ts:=by cases t<;>first |exact⟨_,rfl⟩ |cases hg
 have hg:eZ is ts s=aA s':=hg;have hl:∀ {is:List Nat} {ts:List T} {s s':Sg},eZ is ts s=aA s'->ts.length=is.length:=by
  intro is
  induction is with
  |nil=>intro ts s s' e; cases ts with
   |nil=>rfl
   |cons=>cases e
  |cons i is ih=>intro ts s s' e; cases ts with
   |nil=>cases e
   |cons t ts=>
    unfold eZ at e;split at e
    ·rw[jk,jk,ih e]
    ·cases e
 obtain⟨a,vs,rfl,ha,ra⟩:=BRep.tup (.inl r);exact⟨a,vs,rfl,bj.of ha,by rw[ra.1,hl hg,hn],v4 R I (λi hi=>by simpa using jz.mp hm i hi) (ic hio) ra hg q⟩
def eW(g:DG)(db:DS):List T->Sg->Option Fl
 |[],s=>aA (.nx s)
 |x::xs,s=>(g x s).bind λs1=>(db s1).bind λr=>match r with
  |.nx s2=>eW g db xs s2
  |.ct s2=>eW g db xs s2
  |.bk s2=>aA (.nx s2)
  |.rt t s2=>aA (.rt t s2)
def cJ(fi:DI)(g:DG)(db:DS):DS:=λs=>(fi s).bind λp=>eW g db p.1 p.2
theorem SI{F:Fr}{O O1:jw->Prop}{s:Sg}{σ:L2.St}{H1 H2 H3:Hp}{x:V}{t:T}(k:KeepO O H1 O1 H2)(R:Rel F O1 M s σ H2)(hy:H3=H2∨∃ p o,H2 p=aB/\H3=aR H2 p o)(r:Rep (λb=>(Free F O b/\H1 b≠aB)∨H2 b=aB) H3 x t) :
  Rel F O1 M s σ H3/\KeepO O1 H2 O1 H3/\Rep (Free F O1) H3 x t:=by
 have fr:∀ b,((Free F O b/\H1 b≠aB)∨H2 b=aB)->Free F O1 b:=λb c=>by
  rcases c with ⟨c,n⟩ |n
  ·cases e:H1 b with
   |none=>exact absurd e n
   |some o=>exact⟨(k.1 b o c.1 e).2,c.2⟩
  ·exact⟨λz=>R.al b z n,.inr (R.dom b n)⟩
 refine⟨?_,?_,r.mono fr λ_ _ _ e=>e⟩
 ·rcases hy with rfl |⟨p,o,hp,rfl⟩
  ·exact R
  ·exact(R.new hp o).less (λb z=>.inl z) R.ow R.inD
 ·rcases hy with rfl |⟨p,o,hp,rfl⟩
  ·exact .refl
  ·exact⟨λb u n e=>⟨by rw[ac (cZ e hp)]; exact e,n⟩,λb e=>by
    unfold aR at e;split at e
    ·cases e
    ·exact e⟩
theorem Kf:∀ D σ H,cS rk io M M Mb (cJ fi g db) D σ H->u8 (cI M fi) (cG io M g) (cS rk io M M M db) D σ H:=by
 intro D σ H h_;refine fH h_ λF O s r R I hd q=>?_;obtain⟨⟨its,s1⟩,h1,h2⟩:=Qb hd;refine⟨F,O,s,its,s1,R,h1,λJ H1 S1 R1 IT=>?_⟩;have k1:KeepO O H O H1:=S1.keepO R;refine⟨λi m σ' H'=>m=its.length - i/\i<=its.length/\∃ O' s',KeepO O H1 O' H'/\Rel F O' M s' σ' H'/\Ios F io M σ'/\eW g db (its.drop i) s'=aA r,⟨its.length,by simp,QZ _,O,s1,.refl,R1,I,h2⟩,?_⟩
 rintro i m σ2 H2 ⟨rfl,hi,O2,s2,k2,R2,I2,hl⟩;have it:=IT H2 (λb o c e=>(k2.1 b o c.1 e).1) i
 by_cases hlt:i < its.length
 ·refine .inr ?_;obtain⟨go,yl⟩:=it.1 its[i] (j3 hlt);rw[Zw hlt] at hl;unfold eW at hl;obtain⟨s3,hg,hl⟩:=Qb hl;obtain⟨r1,hb,hl⟩:=Qb hl;refine⟨go,fun σ' H'=>∃ O' s',KeepO O H1 O' H'/\Rel F O' M s' σ' H'/\Ios F io M σ'/\eW g db (its.drop (i+1)) s'=aA r,fun σ' H' ⟨O',s',h⟩=>⟨its.length - (i+1),by lia,rfl,hlt,O',s',h⟩,λx H3 hy=>?_⟩
  obtain⟨y1,y2⟩:=yl x H3 hy;obtain⟨R3,k3,rx⟩:=SI k2 R2 y1 y2;have k13:=k2.trans k3;refine⟨F,O2,s2,its[i],s3,R3,I2,rx,hg,fun σ4 R4 I4=>⟨F,O2,s3,r1,R4,I4,hb,?_⟩⟩;cases r1 with
  |nx s5=>exact λO5 σ5 H5 k5 R5 I5=>⟨O5,s5,k13.trans k5,R5,I5,hl⟩
  |ct s5=>exact λO5 σ5 H5 k5 R5 I5=>⟨O5,s5,k13.trans k5,R5,I5,hl⟩
  |bk s5=>
   injection hl with hl;subst hl;exact λO5 σ5 H5 k5 R5 I5=>q O5 σ5 H5 (k1.trans (k13.trans k5)) R5 I5
  |rt t s5=>
   injection hl with hl;subst hl;exact q
 ·have e:i=its.length:=by lia
  subst e;rw[Nc] at hl;injection hl with hl;subst hl;exact .inl ⟨it.2 (ji _),q O2 σ2 H2 (k1.trans k2) R2 I2⟩
def eM(ft:DT)(db:DS):Nat->Sg->Option Fl
 |0,_=>aB
 |n+1,s=>(ft s).bind λp=>if p.1 then (db p.2).bind λr=>match r with
  |.nx s2=>eM ft db n s2
  |.ct s2=>eM ft db n s2
  |.bk s2=>aA (.nx s2)
  |.rt t s2=>aA (.rt t s2)
  else aA (.nx p.2)
theorem RU{ft:DT}{n:Nat}:∀ D σ H,cS rk io M M Mb (eM ft db n) D σ H->Ct (cT M ft) (cS rk io M M M db) D σ H:=by
 intro D σ H h_;refine fH h_ λF O s r R I hd q=>?_;refine⟨λm σ' H'=>∃ O' s',KeepO O H O' H'/\Rel F O' M s' σ' H'/\Ios F io M σ'/\eM ft db m s'=aA r,⟨n,O,s,.refl,R,I,hd⟩,?_⟩;rintro m σ2 H2 ⟨O2,s2,k2,R2,I2,hl⟩;cases m with
 |zero=>cases hl
 |succ m=>
  unfold eM at hl;obtain⟨⟨b,s3⟩,h1,h2⟩:=Qb hl;refine⟨F,O2,s2,b,s3,R2,h1,λH3 S3 R3=>?_⟩;have k3:=k2.trans (S3.keepO R2);cases b with
  |true=>
   obtain⟨r1,hb,hl⟩:=Qb h2;refine⟨fun σ' H'=>∃ O' s',KeepO O H O' H'/\Rel F O' M s' σ' H'/\Ios F io M σ'/\eM ft db m s'=aA r,fun σ' H' z=>⟨m,Zn m,z⟩,F,O2,s3,r1,R3,I2,hb,?_⟩;cases r1 with
   |nx s5=>exact λO5 σ5 H5 k5 R5 I5=>⟨O5,s5,k3.trans k5,R5,I5,hl⟩
   |ct s5=>exact λO5 σ5 H5 k5 R5 I5=>⟨O5,s5,k3.trans k5,R5,I5,hl⟩
   |bk s5=>
    injection hl with hl;subst hl;exact λO5 σ5 H5 k5 R5 I5=>q O5 σ5 H5 (k3.trans k5) R5 I5
   |rt t s5=>
    injection hl with hl;subst hl;exact q
  |false=>
   injection h2 with h2;subst h2;exact q O2 σ2 H3 k3 R3 I2
end
structure CallP (rk:Kd) (C:jw->Prop) (H:Hp) (t:T) (v:V) (H':Hp):Prop where
 keep:∀ b o,H b=aA o->H' b=aA o
 dom:∀ b,H' b=aB->H b=aB
 res:match rk with
  |.n=>∃ r,v=.ref r/\H r=aB/\Live (λb=>(C b∨H b=aB)/\b≠r) H' r t
  |_=>Rep (λb=>C b∨H b=aB) H' v t
def bB(rk:Kd)(np:Nat)(fn:List T->Option T):Sp:=λvs H Q _=>∃ C ts t,ts.length=np/\Reps C H vs ts/\fn ts=aA t/\∀ v H',CallP rk C H t v H'->Q v H'
structure CallI (rk:Kd) (C:jw->Prop) (a:jw) (H:Hp) (t t0:T) (v:V) (H':Hp):Prop where
 keep:∀ b o,b≠a->H b=aA o->H' b=aA o
 dom:∀ b,H' b=aB->H b=aB
 res:match rk with
  |.n=>∃ r,v=.ref r/\H r=aB/\Live (λb=>(b≠a/\(C b∨H b=aB))/\b≠r) H' r t/\Live (λb=>(b≠a/\(C b∨H b=aB))/\b≠r) H' a t0
  |_=>Rep (λb=>b≠a/\(C b∨H b=aB)) H' v t/\Live (λb=>b≠a/\(C b∨H b=aB)) H' a t0
def fB(rk:Kd)(np:Nat)(fn:List T->Option (T × T)):Sp:=λvs H Q _=>∃ C a us t0 ts t t1,(t0::ts).length=np/\vs=.ref a::us/\¬ C a/\Live C H a t0/\Reps C H us ts/\fn (t0::ts)=aA (t,t1)/\∀ v H',CallI rk C a H t t1 v H'->Q v H'
def dL(n:Nat)(ts:List T):Sg:=ts.map aA++gY (n - ts.length) aB
def bM(n:Nat)(d:DS):List T->Option T:=λts=>match d (dL n ts) with
 |some (.rt t _)=>aA t
 |some (.nx _)=>aA .non
 |_=>aB
def iw(n:Nat)(d:DS):List T->Option T:=λts=>match d (dL n ts) with
 |some (.rt t _)=>aA t
 |_=>aB
def fN(n:Nat)(d:DS):List T->Option (T × T):=λts=>match d (dL n ts) with
 |some (.rt t s)=>(s[0]?).join.map λu=>(t,u)
 |_=>aB
theorem yz{N:List Str}{vs:List V}{ts:List T}{C:jw->Prop}{H:Hp}(r:Reps C H vs ts)(hl:ts.length<=N.length):(dL N.length ts).length=(L2.start N vs).length/\∀(i:Nat) t,(dL N.length ts)[i]?=aA (aA t)->∃ v,(L2.start N vs)[i]?=aA (aA v)/\ts[i]?=aA t/\vs[i]?=aA v/\Rep C H v t:=by
 have rl:=r.1;unfold dL L2.start;refine⟨by simp[rl],λi t e=>?_⟩
 by_cases hi:i < ts.length
 ·rw[Q7 (by rw[j5]; exact hi),jg] at e
  obtain⟨t',h1,h2⟩:=Qm e;injection h2 with h2;subst h2;obtain⟨v,hv,rv⟩:=r.get h1;refine⟨v,?_,h1,hv,rv⟩;rw[Q7 (by rw[j5,rl]; exact hi),jg,hv]
  rfl
 ·rw[Qc (by rw[j5]; lia)] at e
  have:=jF e;have:=YN this;cases this
section
variable {d:DS}{N:List Str}{np:Nat}
theorem xL{fn:List T->Option T}(hfn:∀ ts t,fn ts=aA t->(∃ s',d (dL N.length ts)=aA (.rt t s'))∨(rk=.e/\t=.non/\∃ s',d (dL N.length ts)=aA (.nx s')))(hrk:rk=.e∨rk=.n)(hN:np<=N.length){vs:List V}{H:Hp}{Q:VK}{E:XK}(h:bB rk np fn vs H Q E) :
  cS rk [] [] M' Mb d { nx:=λ_ H'=>Q .non H',rt:=Q } (L2.start N vs) H:=by
 obtain⟨C,ts,t,hl,r,hf,q⟩:=h;obtain⟨l1,l2⟩:=yz (N:=N) r (by lia)
 have w:∀ b,C b->Free ⟨H,C,λ_=>False,λ_=>0⟩ (λ_=>False) b:=λb c=>⟨λz=>z,.inl c⟩;have R:Rel ⟨H,C,λ_=>False,λ_=>0⟩ (λ_=>False) [] (dL N.length ts) (L2.start N vs) H:=by
  refine⟨l1,λi t e _=>?_,λi t e n=>by simp at n,λi a n=>by simp at n,λi j a n=>by simp at n,λb o _ e=>e,λb e=>e,λa z=>z.elim,λa z=>z,λa z=>z.elim⟩
  obtain⟨v,h1,_,_,rv⟩:=l2 i t e;exact⟨v,h1,rv.mono w λ_ _ _ e=>e⟩
 have I:Ios ⟨H,C,λ_=>False,λ_=>0⟩ [] [] (L2.start N vs):=⟨λi hi=>by simp at hi,λa z=>z.elim⟩
 rcases hfn ts t hf with ⟨s',hd⟩ |⟨e1,e2,s',hd⟩
 ·refine⟨_,_,_,_,R,I,hd,λv H' ro=>q v H' ⟨λb o e=>ro.keep b o (λz=>z) e,ro.dom,?_⟩⟩;rcases hrk with rfl |rfl
  ·exact ro.res.1.mono (λb c=>c.2) λ_ _ _ e=>e
  ·obtain⟨r,h1,h2,_,h3,_⟩:=ro.res;exact⟨r,h1,h2,h3.mono (λb c=>⟨c.1.2,c.2⟩) (λ_ _ _ e=>e) λ_ e=>e⟩
 ·subst e1 e2;refine⟨_,_,_,_,R,I,hd,λO' σ' H' k R' I'=>q .non H' ⟨λb o e=>R'.keep b o (λz=>z) e,R'.dom,.non⟩⟩
theorem Bt(hrk:rk=.e∨rk=.n)(hN:np<=N.length){vs:List V}{H:Hp}{Q:VK}{E:XK}(h:fB rk np (fN N.length d) vs H Q E) :
  cS rk [0] [0] M' Mb d { nx:=λ_ H'=>Q .non H',rt:=Q } (L2.start N vs) H:=by
 obtain⟨C,a,us,t0,ts,t,t1,hl,rfl,na,L,r,hf,q⟩:=h;have hlu:us.length+1<=N.length:=by rw[r.1]; simpa using Q9 (Nat.le_of_eq hl) hN
 have r':Reps (λb=>C b∨b=a) H (.ref a::us) (t0::ts):=.cons (L.rep (λb c=>.inl c) (.inr rfl)) (r.mono (λb c=>.inl c) λ_ _ _ e=>e);obtain⟨l1,l2⟩:=yz (N:=N) r' (by rw[hl]; exact hN)
 have w:∀ b,C b->Free ⟨H,C,λb=>b=a,λ_=>a⟩ (λb=>b=a) b:=λb c=>⟨λz=>na (z▸c),.inl c⟩;have e0:(L2.start N (.ref a::us))[0]?=aA (aA (.ref a)):=rfl;have R:Rel ⟨H,C,λb=>b=a,λ_=>a⟩ (λb=>b=a) [0] (dL N.length (t0::ts)) (L2.start N (.ref a::us)) H:=by
  refine⟨l1,λi t e n=>?_,λi t e n=>?_,λi b n e=>?_,λi j b n m _ _=>?_,λb o _ e=>e,λb e=>e,λb z=>.inl z,λb z=>z,λb z=>z▸L.ne⟩
  ·obtain⟨v,h1,h2,h3,_⟩:=l2 i t e;cases i with
   |zero=>simp at n
   |succ i=>
    have rv:=r.2 i v t (by simpa using h3) (by simpa using h2)
    exact⟨v,h1,rv.mono w λ_ _ _ e=>e⟩
  ·obtain rfl:i=0:=by simpa using n
   obtain⟨v,h1,h2,h3,_⟩:=l2 0 t e;have:t0=t:=by simpa using h2
   subst this;exact⟨a,e0,L.mono w (λ_ _ _ e=>e) λ_ e=>e⟩
  ·obtain rfl:i=0:=by simpa using n
   rw[e0] at e;injection e with e;injection e with e;injection e with e;exact e.symm
  ·have h1:i=0:=by simpa using n
   have h2:j=0:=by simpa using m
   rw[h1,h2]
 have I:Ios ⟨H,C,λb=>b=a,λ_=>a⟩ [0] [0] (L2.start N (.ref a::us)):=⟨λi hi=>by
  obtain rfl:i=0:=by simpa using hi
  exact⟨by simp,e0⟩,λb z=>⟨0,by simp,z⟩⟩
 unfold fN at hf;cases hd:d (dL N.length (t0::ts)) with
 |none=>rw[hd] at hf; cases hf
 |some r1=>
  rw[hd] at hf;cases r1 with
  |rt t' s'=>
   obtain⟨u,h1,h2⟩:=Qm hf;injection h2 with h2 h3;subst h2 h3;refine⟨_,_,_,_,R,I,hd,λv H' ro=>q v H' ⟨λb o n e=>ro.keep b o n e,ro.dom,?_⟩⟩;rcases hrk with rfl |rfl
   ·obtain⟨h2,h3⟩:=ro.res;obtain⟨t2,h4,h5⟩:=h3 0 (by simp)
    rw[cQ h1] at h4;injection h4 with h4;injection h4 with h4;subst h4;exact⟨h2,h5⟩
   ·obtain⟨r,h2,h3,_,h4,h5⟩:=ro.res;obtain⟨t2,h6,h7⟩:=h5 0 (by simp)
    rw[cQ h1] at h6;injection h6 with h6;injection h6 with h6;subst h6;exact⟨r,h2,h3,h4,h7⟩
  |nx s'=>cases hf
  |bk s'=>cases hf
  |ct s'=>cases hf
end
section
variable {F:Fr}{O:jw->Prop}{s:Sg}{σ:L2.St}{H H':Hp}
theorem Rel.ext(R:Rel F O M s σ H)(k:∀ b o,H b=aA o->H' b=aA o)(dm:∀ b,H' b=aB->H b=aB):Rel F O M s σ H' where
 len:=R.len
 val:=λi t e n=>by
  obtain⟨v,h1,h2⟩:=R.val i t e n;exact⟨v,h1,h2.mono (λ_ c=>c) λb o _ e=>k b o e⟩
 own:=λi t e n=>by
  obtain⟨a,h1,h2⟩:=R.own i t e n;exact⟨a,h1,h2.mono (λ_ c=>c) (λb o _ e=>k b o e) λo e=>k a o e⟩
 ow:=R.ow
 dis:=R.dis
 keep:=λb o n e=>k b o (R.keep b o n e)
 dom:=λb e=>R.dom b (dm b e)
 fresh:=R.fresh
 inD:=R.inD
 al:=λa z e=>R.al a z (dm a e)
theorem Rel.extN{r:jw}(R:Rel F O M s σ H)(k:∀ b o,H b=aA o->H' b=aA o)(dm:∀ b,H' b=aB->H b=aB)(hr:H r=aB)(hr':H' r≠aB):Rel F (λb=>O b∨b=r) M s σ H':=by
 have R':=R.ext k dm;have fr:∀ b,Free F O b/\H b≠aB->Free F (λb=>O b∨b=r) b:=λb c=>⟨λz=>z.elim c.1.1 λz=>c.2 (z▸hr),c.1.2⟩;refine⟨R.len,λi t e n=>?_,λi t e n=>?_,λi b hi e=>.inl (R.ow i b hi e),R.dis,R'.keep,R'.dom,λb z=>?_,λb z=>.inl (R.inD b z),λb z=>?_⟩
 ·obtain⟨v,h1,h2⟩:=R.val i t e n;exact⟨v,h1,h2.there.mono fr λb o _ e=>k b o e⟩
 ·obtain⟨b,h1,h2⟩:=R.own i t e n;exact⟨b,h1,h2.there.mono fr (λb o _ e=>k b o e) λo e=>k b o e⟩
 ·rcases z with z |z
  ·exact R.fresh b z
  ·subst z; exact .inr (R.dom _ hr)
 ·rcases z with z |z
  ·exact R'.al b z
  ·subst z; exact hr'
theorem Rel.freeNew(R:Rel F O M s σ H){b:jw}(h:Free F O b∨H b=aB):Free F O b:=h.elim id λz=>⟨λw=>R.al b w z,.inr (R.dom b z)⟩
end
def Ar(fa:DA)(n:Nat):Prop:=∀ s ts s',fa s=aA (ts,s')->ts.length=n
theorem L1:Ar aJ 0:=λs ts s' h=>by
 injection h with h;injection h with h1 _;rw[<-h1]; rfl
theorem wW{f:DE}{fa:DA}{n:Nat}(h:Ar fa n):Ar (aF f fa) (n+1):=λs ts s' e=>by
 obtain⟨p,h1,h2⟩:=Qb e;obtain⟨q,h3,h4⟩:=Qm h2;injection h4 with h4 _;rw[<-h4,jk,h _ _ _ h3]
def ae(fn:List T->Option T)(fa:DA):DE:=λs=>(fa s).bind λp=>(fn p.1).map λt=>(t,p.2)
def lR(fn:List T->Option (T × T))(i:Nat)(fa:DA):DE:=λs=>(s[i]?).join.bind λ_=>(fa s).bind λp=>(p.2[i]?).join.bind λt0=>(fn (t0::p.1)).map λq=>(q.1,p.2.set i (aA q.2))
def oJ(fn:List T->Option (T × T))(f0:DE)(fa:DA):DE:=λs=>(f0 s).bind λp=>(fa p.2).bind λq=>(fn (p.1::q.1)).map λr=>(r.1,q.2)
section
variable {f0:DE}{np:Nat}
theorem LD{fn:List T->Option T}(hn:Ar fa np):∀ σ H Q,cE .e M (ae fn fa) σ H Q->oA (bB .e np fn) [] E0 (cA M fa) σ H Q:=by
 intro σ H Q h_;refine ba h_ λF O s t s' R hf q=>?_;obtain⟨p,h1,h2⟩:=Qb hf;obtain⟨t',h3,h4⟩:=Qm h2;injection h4 with h4 h5;subst h4 h5;refine⟨F,O,s,p.1,p.2,R,h1,λvs H1 S1 R1 rs=>?_⟩
 try dsimp only
 rw[Qv];refine⟨Free F O,p.1,t',hn _ _ _ h1,rs,h3,λv H2 c=>q v H2 (S1.trans ⟨λb o _ e=>c.keep b o e,c.dom⟩) ⟨R1.ext c.keep c.dom,?_⟩⟩;exact c.res.mono (λb z=>R1.freeNew z) λ_ _ _ e=>e
theorem LE{fn:List T->Option T}(hn:Ar fa np):∀ σ H Q,cE .n M (ae fn fa) σ H Q->oA (bB .n np fn) [] E0 (cA M fa) σ H Q:=by
 intro σ H Q h_;refine ba h_ λF O s t s' R hf q=>?_;obtain⟨p,h1,h2⟩:=Qb hf;obtain⟨t',h3,h4⟩:=Qm h2;injection h4 with h4 h5;subst h4 h5;refine⟨F,O,s,p.1,p.2,R,h1,λvs H1 S1 R1 rs=>?_⟩
 try dsimp only
 rw[Qv];refine⟨Free F O,p.1,t',hn _ _ _ h1,rs,h3,λv H2 c=>?_⟩;obtain⟨r,rfl,hr,L⟩:=c.res;refine q _ H2 (S1.trans ⟨λb o _ e=>c.keep b o e,c.dom⟩) ⟨r,rfl,S1.dom r hr,R1.extN c.keep c.dom hr L.ne,L.mono (λb z=>?_) (λ_ _ _ e=>e) λ_ e=>e⟩;have:=R1.freeNew z.1;exact⟨λy=>y.elim this.1 z.2,this.2⟩
theorem MR{fn:List T->Option (T × T)}{i:Nat}(hn:Ar fa np)(hi:M.contains i=aC):∀ σ H Q,cE .e M (lR fn i fa) σ H Q->oA (fB .e (np+1) fn) [] E0 (i8 (cH i) (cA M fa)) σ H Q:=by
 intro σ H Q h_;refine ba h_ λF O s t s' R hf q=>?_;have hi':i∈M:=by simpa using hi
 obtain⟨x0,h0,hf⟩:=Qb hf;obtain⟨p,h1,hf⟩:=Qb hf;obtain⟨t0,h2,hf⟩:=Qb hf;obtain⟨w,h3,h4⟩:=Qm hf;injection h4 with h4 h5;subst h4 h5;obtain⟨a,e1,_⟩:=R.own i x0 (cQ h0) hi';refine⟨_,e1,F,O,s,p.1,p.2,R,h1,λvs H1 S1 R1 rs=>?_⟩;obtain⟨b,e2,L⟩:=R1.own i t0 (cQ h2) hi';rw[e1] at e2;injection e2 with e2;injection e2 with e2;injection e2 with e2;subst e2;have oa:=R1.ow i a hi' e1
 try dsimp only
 rw[Qv];refine⟨Free F O,a,vs,t0,p.1,w.1,w.2,by rw[jk,hn _ _ _ h1],rfl,λz=>z.1 oa,L,rs,h3,λv H2 c=>?_⟩
 obtain⟨c1,c2⟩:=c.res;have S2:Step σ M H1 H2:=⟨λb o n e=>c.keep b o (λz=>n i hi' (z▸e1)) e,c.dom⟩;have fr:∀ b,(b≠a/\(Free F O b∨H1 b=aB))->Free F O b:=λb z=>R1.freeNew z.2;have kf:∀ b u,Free F O b->H1 b=aA u->H2 b=aA u:=λb u z e=>c.keep b u (λy=>z.1 (y▸oa)) e;have hl:i < p.2.length:=(j7.mp (cQ h2)).1;refine q v H2 (S1.trans S2) ⟨?_,c1.mono fr λ_ _ _ e=>e⟩;refine⟨by rw[Qg]; exact R1.len,λj t e' n=>?_,λj t e' n=>?_,R1.ow,R1.dis,λb u n e=>?_,λb e=>R1.dom b (c.dom b e),R1.fresh,R1.inD,λb z e=>R1.al b z (c.dom b e)⟩
 ·have hij:i≠j:=λz=>n (z▸hi');rw[jm hij] at e';obtain⟨v,h1,h2⟩:=R1.val j t e' n;exact⟨v,h1,h2.mono (λ_ c=>c) kf⟩
 ·by_cases hij:i=j
  ·subst hij;rw[jV hl] at e';injection e' with e';injection e' with e';subst e';exact⟨a,e1,c2.mono fr (λ_ _ _ e=>e) λ_ e=>e⟩
  ·rw[jm hij] at e';obtain⟨b,h1,h2⟩:=R1.own j t e' n;have hne:b≠a:=λz=>hij (R1.dis i j a hi' n e1 (z▸h1));exact⟨b,h1,h2.mono (λ_ c=>c) kf λu e=>c.keep b u hne e⟩
 ·refine c.keep b u (λz=>?_) (R1.keep b u n e);subst z;rcases R1.fresh b oa with z |z
  ·exact n z
  ·rw[z] at e; cases e
theorem MS{fn:List T->Option (T × T)}(hrk:rk=.e∨rk=.n)(hn:Ar fa np):∀ σ H Q,cE rk M (oJ fn f0 fa) σ H Q->oA (fB rk (np+1) fn) [] E0 (i8 (cE .n M f0) (cA M fa)) σ H Q:=by
 intro σ H Q h_;refine ba h_ λF O s t s' R hf q=>?_;obtain⟨p,h1,hf⟩:=Qb hf;obtain⟨w,h2,hf⟩:=Qb hf;obtain⟨u,h3,h4⟩:=Qm hf;injection h4 with h4 h5;subst h4 h5;refine⟨F,O,s,p.1,p.2,R,h1,λv0 H1 S1 p1=>?_⟩;obtain⟨a,rfl,ha,R1,L⟩:=p1;refine⟨F,_,p.2,w.1,w.2,R1,h2,λvs H2 S2 R2 rs=>?_⟩;have na:∀(j:Nat),j∈M->σ[j]?≠aA (aA (.ref a)):=λj hj e=>R.al a (R.ow j a hj e) ha;have L2:Live (Free F (λb=>O b∨b=a)) H2 a p.1:=L.mono (λ_ c=>c) (λb o c e=>S2.keep b o (R1.notOwned c.1) e) λo e=>S2.keep a o na e
 try dsimp only
 rw[Qv];refine⟨Free F (λb=>O b∨b=a),a,vs,p.1,w.1,u.1,u.2,by rw[jk,hn _ _ _ h2],rfl,λz=>z.1 (.inr rfl),L2,rs,h3,λv H3 c=>?_⟩
 have S:Step σ M H H3:=⟨λb o n e=>c.keep b o (cZ e ha) ((S1.trans S2).keep b o n e),λb e=>(S1.trans S2).dom b (c.dom b e)⟩;have RO:Rel F O M w.2 σ H2:=R2.less (λb z=>.inl z) R.ow R.inD
 -- all but a is kept; a is nobody's
 have k3:∀ b o,b≠a->H2 b=aA o->H3 b=aA o:=λb o n e=>c.keep b o n e;have fa':∀ b,Free F (λb=>O b∨b=a) b->Free F O b:=λb z=>z.weak λb y=>.inl y;have R3:Rel F (λb=>O b∨b=a) M w.2 σ H3:=by
  refine⟨R2.len,λi t e n=>?_,λi t e n=>?_,R2.ow,R2.dis,λb o n e=>?_,λb e=>R2.dom b (c.dom b e),R2.fresh,R2.inD,λb z e=>R2.al b z (c.dom b e)⟩
  ·obtain⟨v,h1,h2⟩:=R2.val i t e n;exact⟨v,h1,h2.mono (λ_ c=>c) λb o z e=>k3 b o (λy=>z.1 (.inr y)) e⟩
  ·obtain⟨b,h1,h2⟩:=R2.own i t e n;exact⟨b,h1,h2.mono (λ_ c=>c) (λb o z e=>k3 b o (λy=>z.1 (.inr y)) e) λo e=>k3 b o (λz=>na i n (z▸h1)) e⟩
  ·refine k3 b o (λz=>?_) (R2.keep b o n e);subst z;have:=R.dom b ha;rw[this] at e; cases e
 have R3O:Rel F O M w.2 σ H3:=R3.less (λb z=>.inl z) R.ow R.inD;have frn:∀ b,(b≠a/\(Free F (λb=>O b∨b=a) b∨H2 b=aB))->Free F O b:=λb z=>z.2.elim (fa' b) λy=>⟨λx=>RO.al b x y,.inr (RO.dom b y)⟩;rcases hrk with rfl |rfl
 ·exact q v H3 S ⟨R3O,c.res.1.mono frn λ_ _ _ e=>e⟩
 ·obtain⟨r,rfl,hr,c1,_⟩:=c.res;have nr:∀ b,Free F O b/\H2 b≠aB->Free F (λb=>O b∨b=r) b:=λb z=>⟨λy=>y.elim z.1.1 λy=>z.2 (y▸hr),z.1.2⟩;refine q _ H3 S ⟨r,rfl,S1.dom r (S2.dom r hr),?_,c1.mono (λb z=>?_) (λ_ _ _ e=>e) λ_ e=>e⟩
  ·refine⟨R2.len,λi t e n=>?_,λi t e n=>?_,λi b hi e=>.inl (R.ow i b hi e),R2.dis,R3.keep,R3.dom,λb z=>?_,λb z=>.inl (R.inD b z),λb z=>?_⟩
   ·obtain⟨v,h1,h2⟩:=R2.val i t e n;exact⟨v,h1,h2.there.mono (λb z=>nr b ⟨fa' b z.1,z.2⟩) λb o z e=>k3 b o (λy=>z.1.1 (.inr y)) e⟩
   ·obtain⟨b,h1,h2⟩:=R2.own i t e n;exact⟨b,h1,h2.there.mono (λb z=>nr b ⟨fa' b z.1,z.2⟩) (λb o z e=>k3 b o (λy=>z.1.1 (.inr y)) e) λo e=>k3 b o (λz=>na i n (z▸h1)) e⟩
   ·rcases z with z |z
    ·exact RO.fresh b z
    ·subst z; exact .inr (RO.dom _ hr)
   ·rcases z with z |z
    ·exact R3O.al b z
    ·subst z; exact c1.ne
  ·have:=frn b z.1;exact⟨λy=>y.elim this.1 z.2,this.2⟩
end
def wX(r:List V->Hp->VK->Prop)(g:T->Option T):Prop:=∀(C:jw->Prop) (H:Hp) x tx t (Q:VK),BRep C H x tx->g tx=aA t->(∀ v,Rep C H v t->Q v H)->r [x] H Q
def Au(r:List V->Hp->VK->Prop)(g:T->Option T):Prop:=∀(C:jw->Prop) (H:Hp) x tx t (Q:VK),BRep C H x tx->g tx=aA t->
 (∀ p o,H p=aB->(∀ C':jw->Prop,(∀ b,C b/\H b≠aB->C' b)->Live C' (aR H p o) p t)->Q (.ref p) (aR H p o))->r [x] H Q
def d1(g:T->Option T)(f:DE):DE:=λs=>(f s).bind λp=>(g p.1).map λt=>(t,p.2)
section
variable {f:DE}
theorem xK{r:List V->Hp->VK->Prop}{g:T->Option T}(h:wX r g):∀ σ H Q,cE .e M (d1 g f) σ H Q->r6 r (i8 (cE .b M f) lN) σ H Q:=by
 intro σ H Q h_;refine ba h_ λF O s t s' R hf q=>?_;obtain⟨p,h1,h2⟩:=Qb hf;obtain⟨t',h3,h4⟩:=Qm h2;injection h4 with h4 h5;subst h4 h5;exact⟨F,O,s,p.1,p.2,R,h1,λv H1 S1 p1=>h (Free F O) H1 v p.1 t' Q p1.view h3 λw rw=>q w H1 S1 ⟨p1.1,rw⟩⟩
theorem IU{r:List V->Hp->VK->Prop}{g:T->Option T}(h:Au r g):∀ σ H Q,cE .n M (d1 g f) σ H Q->r6 r (i8 (cE .b M f) lN) σ H Q:=by
 intro σ H Q h_;refine ba h_ λF O s t s' R hf q=>?_;obtain⟨p,h1,h2⟩:=Qb hf;obtain⟨t',h3,h4⟩:=Qm h2;injection h4 with h4 h5;subst h4 h5;exact⟨F,O,s,p.1,p.2,R,h1,λv H1 S1 p1=>h (Free F O) H1 v p.1 t' Q p1.view h3 λa o ha L=>q _ _ (S1.trans (.new ha o)) (.mkN R p1.1 S1 ha L)⟩
end
theorem CallR.or{X:Cx}{f:j8}{r r':List V->Hp->VK->Prop}(h:CallR X f r)(h':CallR X f r'):CallR X f (λxs H Q=>r xs H Q∨r' xs H Q):=by
 intro pc s σ H xs us Q I rv q;rcases q with q |q
 ·exact h pc s σ H xs us Q I rv q
 ·exact h' pc s σ H xs us Q I rv q
theorem RA{X:Cx}:CallR X (.builtin "len") (λxs H Q=>∃ a kvs,xs=[V.ref a]/\Rd H a (.dK kvs)/\Q (.int kvs.length) H):=by
 intro pc s σ H xs us Q I r h;obtain⟨a,kvs,rfl,ha,q⟩:=h;obtain⟨u,rfl,ru⟩:=rd r;cases ru;exact HN I ha λt s' I'=>⟨.int kvs.length,H,I',⟨t,rfl⟩,q⟩
def bS:T->Option T
 |.lst xs=>aA (.int xs.length) |.tup xs=>aA (.int xs.length) |.scr xs=>aA (.int xs.length) |.dct xs=>aA (.int xs.length) |.fd xs=>aA (.int xs.length)
 |.str x=>if x.length<=jr then aA (.int x.length) else aB
 |_=>aB
theorem Hr:wX (λxs H Q=>((∃ p ys,xs=[.ref p]/\(ad TheK.K H p ys∨bj TheK.K H p ys)/\Q (.int ys.length) H)∨(∃ z,xs=[.str z]/\z.length<=jr/\Q (.int z.length) H))∨∃ a kvs,xs=[V.ref a]/\Rd H a (.dK kvs)/\Q (.int kvs.length) H) bS:=by
 intro C H x tx t Q bx hg q;cases tx with
 |lst ts=>
  injection hg with hg; subst hg;obtain⟨a,vs,rfl,ha,ra⟩:=bx.lst;exact .inl (.inl ⟨a,vs,rfl,.inl (ad.of ha),by rw[ra.1]; exact q _ (.int _)⟩)
 |tup ts=>
  injection hg with hg; subst hg;obtain⟨a,vs,rfl,ha,ra⟩:=bx.tup;exact .inl (.inl ⟨a,vs,rfl,.inr (bj.of ha),by rw[ra.1]; exact q _ (.int _)⟩)
 |scr ns=>
  injection hg with hg; subst hg;obtain⟨a,rfl,ha⟩:=bx.scr;exact .inl (.inl ⟨a,_,rfl,.inl ha,by rw[j5]; exact q _ (.int _)⟩)
 |dct ks=>
  injection hg with hg; subst hg;obtain⟨a,kvs,rfl,ha,ra⟩:=bx.dct;exact .inr ⟨a,kvs,rfl,.inl ha,by rw[ra.len]; exact q _ (.int _)⟩
 |fd ks=>
  injection hg with hg; subst hg;obtain⟨a,ob,kvs,rfl,ha,ra,_⟩:=bx.fd;exact .inr ⟨a,kvs,rfl,.inr ⟨ob,ha⟩,by rw[ra.len]; exact q _ (.int _)⟩
 |str z=>
  have hg:(if z.length<=jr then aA (T.int z.length) else aB)=aA t:=hg
  split at hg
  ·rename_i hl;injection hg with hg; subst hg;exact .inl (.inr ⟨z,by rw[bx.str],hl,q _ (.int _)⟩)
  ·cases hg
 |_=>cases hg
def HX:T->Option T
 |.lst xs=>aA (.lst xs) |.tup xs=>aA (.lst xs) |.scr ns=>aA (.lst (ns.map .int))
 |_=>aB
theorem xq:Au (λxs H Q=>∃ p ys,xs=[.ref p]/\(ad TheK.K H p ys∨bj TheK.K H p ys)/\∀ l,H l=aB->Q (.ref l) (aR H l (.lst ys))) HX:=by
 intro C H x tx t Q bx hg q;cases tx with
 |lst ts=>
  injection hg with hg; subst hg;obtain⟨a,vs,rfl,ha,ra⟩:=bx.lst;exact⟨a,vs,rfl,.inl (ad.of ha),λp hp=>q p _ hp λC' hC=>.lst bq (ra.there.mono hC λc o _ e=>by rw[ac (cZ e hp)]; exact e)⟩
 |tup ts=>
  injection hg with hg; subst hg;obtain⟨a,vs,rfl,ha,ra⟩:=bx.tup;exact⟨a,vs,rfl,.inr (bj.of ha),λp hp=>q p _ hp λC' hC=>.lst bq (ra.there.mono hC λc o _ e=>by rw[ac (cZ e hp)]; exact e)⟩
 |scr ns=>
  injection hg with hg; subst hg;obtain⟨a,rfl,ha⟩:=bx.scr;exact⟨a,_,rfl,.inl ha,λp hp=>q p _ hp λC' hC=>.lst bq (sr _)⟩
 |_=>cases hg
def fY(c:String):T->Option Bool
 |.non=>aA (c == "NoneType") |.bl _=>aA (c == "bool"||c == "int") |.int _=>aA (c == "int") |.str _=>aA (c == "str")
 |.lst _=>aA (c == "list") |.tup _=>aA (c == "tuple") |.dct _=>aA (c == "dict")
 |_=>aB
def qE(c:String)(f:DE):DE:=d1 (λt=>(fY c t).map .bl) f
def u5(c:String):Bool:=["NoneType","bool","int","str","list","tuple","dict"].contains c
theorem Kj{K:j9}{C:jw->Prop}{H:Hp}{v:V}{t:T}{c:String}{b:Bool}(hc:u5 c=aC)(h:BRep C H v t)(e:fY c t=aA b):∃ ty,TyOf K H v ty/\NZ K ty (.type c)=aA b:=by
 have hc':c="NoneType"∨c="bool"∨c="int"∨c="str"∨c="list"∨c="tuple"∨c="dict":=by simpa[u5] using hc
 cases t with
 |non=>obtain rfl:=h.non; injection e with e; subst e; refine⟨_,.non,?_⟩; rcases hc' with rfl |rfl |rfl |rfl |rfl |rfl |rfl<;>rfl
 |bl x=>obtain rfl:=h.bl; injection e with e; subst e; refine⟨_,.bl x,?_⟩; rcases hc' with rfl |rfl |rfl |rfl |rfl |rfl |rfl<;>rfl
 |int x=>obtain rfl:=h.int; injection e with e; subst e; refine⟨_,.int x,?_⟩; rcases hc' with rfl |rfl |rfl |rfl |rfl |rfl |rfl<;>rfl
 |str x=>obtain rfl:=h.str; injection e with e; subst e; refine⟨_,.str x,?_⟩; rcases hc' with rfl |rfl |rfl |rfl |rfl |rfl |rfl<;>rfl
 |lst ts=>
  obtain⟨a,vs,rfl,ha,ra⟩:=h.lst;injection e with e; subst e; refine⟨_,.lst ha,?_⟩; rcases hc' with rfl |rfl |rfl |rfl |rfl |rfl |rfl<;>rfl
 |tup ts=>
  obtain⟨a,vs,rfl,ha,ra⟩:=h.tup;injection e with e; subst e; refine⟨_,.tup ha,?_⟩; rcases hc' with rfl |rfl |rfl |rfl |rfl |rfl |rfl<;>rfl
 |dct ts=>
  obtain⟨a,vs,rfl,ha,ra⟩:=h.dct;injection e with e; subst e; refine⟨_,.dK ha,?_⟩; rcases hc' with rfl |rfl |rfl |rfl |rfl |rfl |rfl<;>rfl
 |scr ns=>cases e
 |set=>cases e
 |fd=>cases e
 |any=>cases e
theorem IJ{M:List Nat}{f:DE}{K:j9}{c:String}(hc:u5 c=aC):∀ σ H Q,cE .e M (qE c f) σ H Q->r6 (BP K) (i8 (cE .b M f) (i8 (tC (.ty c)) lN)) σ H Q:=by
 intro σ H Q h_;refine ba h_ λF O s t s' R hf q=>?_;obtain⟨p,h1,h2⟩:=Qb hf;obtain⟨t',h3,h4⟩:=Qm h2;obtain⟨b,h5,h6⟩:=Qm h3;injection h4 with h4 h7;subst h4 h7 h6;refine⟨F,O,s,p.1,p.2,R,h1,λv H1 S1 p1=>?_⟩;obtain⟨ty,g1,g2⟩:=Kj (K:=K) hc p1.view h5;exact⟨v,c,ty,b,rfl,g1,g2,q _ H1 S1 ⟨p1.1,.bl b⟩⟩
def lP:List T->Option (List Str)
 |[]=>aA []
 |.str x::ts=>(lP ts).map λr=>x::r
 |_=>aB
theorem yw{C:jw->Prop}{H:Hp}:∀ {vs:List V} {ts:List T} {ys:List Str},Reps C H vs ts->lP ts=aA ys->vs=ys.map V.str
 |[],[],ys,_,e=>by injection e with e; subst e; rfl
 |v::vs,[],ys,h,_=>by have:=h.1; simp at this
 |[],t::ts,ys,h,_=>by have:=h.1; simp at this
 |v::vs,t::ts,ys,h,e=>by
  cases t with
  |str x=>
   obtain⟨r,h1,h2⟩:=Qm (show (lP ts).map (λr=>x::r)=aA ys from e);subst h2;rw[jq,yw h.tail h1,BRep.str (.inl h.head)]
  |_=>cases e
theorem CH{x:V}:∀ {ys:List V} {us:List j8},Vals ys us->ys.all iH=aC->us.countP (fF x)=ys.countP λy=>eT y x
 |[],_,.nil,_=>rfl
 |y::ys,u::us,.cons r t,h=>by
  rw[Yf,jL] at h;rw[J8,J8,CH t h.2,xZ r h.1]
def yF:V->List V->Hp->VK->Prop:=λx vs H Q=>∃(l:jw) (ys:List V) (z:V),x=.ref l/\vs=[z]/\iH z=aC/\ys.all iH=aC/\H l=aA (.lst ys)/\Q (.int (ys.countP (λy=>eT y z):Nat)) H
theorem SC{X:Cx}:rD X "list.count" yF:=by
 intro pc s sg H x vs v us Q I rx rv h;obtain⟨l,ys,z,rfl,rfl,fz,fy,hH,q⟩:=h;cases rx;obtain⟨u,rfl,ru⟩:=rv.one;obtain⟨its,n,r,e,hz⟩:=I.lst hH;refine WG F.slot_list_count ⟨_,e,rfl⟩ F.entry_list_count (F.args_list_count_2 _ _) (SeqAt.list_countAt l its.toArray n aB #[] u (fF z)) ⟨e,λw hw=>qg ru fz r fy w (by simpa using hw),?_⟩
 refine⟨.int (ys.countP (λy=>eT y z):Nat),H,I.tok _,⟨s.toks,?_⟩,q⟩;rw[List.toList_toArray,CH r fy]
def qS(x y:T):Option T:=match x with
 |.lst ts=>(i4 ts).bind λvs=>(iF y).map λv=>.int (vs.countP (λu=>eT u v):Nat)
 |_=>aB
def Fu(r:V->List V->Hp->VK->Prop)(g:T->T->Option T):Prop:=∀(C:jw->Prop) (H:Hp) x y tx ty t (Q:VK),BRep C H x tx->BRep C H y ty->g tx ty=aA t->(∀ v,Rep C H v t->Q v H)->r x [y] H Q
def tP(g:T->T->Option T)(fa fb:DE):DE:=λs=>(fa s).bind λp=>if rW p.1 then (fb p.2).bind λq=>(g p.1 q.1).map λt=>(t,q.2) else aB
theorem Ge{M:List Nat}{fa fb:DE}{K:j9}{r:V->List V->Hp->VK->Prop}{g:T->T->Option T}(h:Fu r g):∀ σ H Q,cE .e M (tP g fa fb) σ H Q->nq K "list" r (cE .e M fa) (i8 (cE .b M fb) lN) σ H Q:=by
 intro σ H Q h_;refine ba h_ λF O s t s' R hf q=>?_;obtain⟨p,h1,h2⟩:=Qb hf;split at h2
 ·rename_i hl;obtain⟨w,h3,h4⟩:=Qb h2;obtain⟨t',h5,h6⟩:=Qm h4;injection h6 with h6 h7;subst h6 h7;refine⟨F,O,s,p.1,p.2,R,h1,λv H1 S1 pa=>?_⟩;have ty:wO K "list" v H1:=by
   obtain⟨ts,e⟩:∃ ts,p.1=.lst ts:=by cases e:p.1<;>first |exact⟨_,rfl⟩ |(rw[e] at hl; cases hl)
   have pr:=pa.2;rw[e] at pr;obtain⟨a,vs,rfl,ha,ra⟩:=BRep.lst (.inl pr);exact .inl ⟨rfl,_,ad.of ha⟩
  refine⟨ty,F,O,p.2,w.1,w.2,pa.1,h3,λu H2 S2 pb=>?_⟩;exact h (Free F O) H2 v u p.1 w.1 t' Q (.inl (pa.1.stay S2 pa.2)) pb.view h5 λx rx=>q x H2 (S1.trans S2) ⟨pb.1,rx⟩
 ·cases h2
theorem Ol:Fu yF qS:=by
 intro C H x y tx ty t Q bx by' hg q;obtain⟨ts,rfl⟩:∃ ts,tx=.lst ts:=by cases tx<;>first |exact⟨_,rfl⟩ |cases hg
 obtain⟨vs,h1,h2⟩:=Qb (show ((i4 ts).bind λvs=>(iF ty).map λv=>T.int (vs.countP (λu=>eT u v):Nat))=aA t from hg);obtain⟨v,h3,rfl⟩:=Qm h2;obtain⟨a,us,rfl,ha,ra⟩:=bx.lst;obtain⟨e1,e2⟩:=yK ra h1;obtain⟨e3,e4⟩:=xu by' h3;subst e1 e3;exact⟨a,_,_,rfl,rfl,e4,e2,ha,q _ (.int _)⟩
end L3
namespace L2
open PySem PySem.Spec PyProof.Rows
variable {X:Cx}{s:jd}{P:jI}{w:Qe}{A:Qh}{E:j8->jd->Prop}
section
theorem TU{P:jI}{w:Qe}{A:Qh}{its:Array j8}{bs:List Bool}(r:Vals (bs.map V.bl) its.toList):TruthOf P w A (λi v=>its[i]?=aA v) (λi=>bs.getD i aD):=by
 intro i v s Q E hP hQ;have hi:i < its.size:=(Ys.mp hP).1;have hl:bs.length=its.size:=by have:=r.length; simpa using this
 obtain⟨u,h1,h2⟩:=r.get (i:=i) (x:=.bl (bs[i]'(by lia))) (by rw[jg,j3 (by lia)]; rfl)
 rw[Y2,hP] at h1;cases h1;cases h2;refine ZB ?_;have e:bs.getD i aD=bs[i]'(by lia):=by rw[jv,j3 (by lia)]; rfl
 rw[<-e];exact hQ
theorem Ph(bs:List Bool):(j6 bs.length).all (λi=>bs.getD i aD)=bs.all id:=by
 rw[Zi,jz,jz];constructor
 ·intro h b hb;obtain⟨i,hi,rfl⟩:=QF hb;have:=h i (jc.mpr hi);rw[jv,j3 hi] at this;exact this
 ·intro h i hi;have hi':=jc.mp hi;rw[jv,j3 hi'];exact h _ (jX hi')
theorem Inv.walked{pc:List (jw × Obj)}{σ:St}{H:Hp}{s:jd}{o:Obj}{h':QN}{tk:Nat}(I:Inv X pc σ H s)(k:∀ b u,b∉[s.heap.objs.size]->(s.heap.push o).get? b=aA u->h'.get? b=aA u):Inv X pc σ H { s with heap:=h',toks:=tk }:=
 I.kept λb u e=>k b u (λhm=>by
  have h1:=jo e;have h2:b=s.heap.objs.size:=by simpa using hm
  exact absurd (h2▸h1) (Q4 _)) (jb _ e)
theorem Pn(hc:X.calm=aC):CallR X (.builtin "all") (λxs H Q=>∃(a:jw) (bs:List Bool),xs=[V.ref a]/\ad X.K H a (bs.map V.bl)/\Q (.bl (bs.all id)) H):=by
 intro pc s σ H xs us Q I rv h;obtain⟨a,bs,rfl,hq,q⟩:=h;obtain⟨u,rfl,ru⟩:=rv.one;cases ru;obtain⟨its,r,p,hz⟩:=I.list hq;have hh:X.A.in1.handled=aB:=I.ok.hd hc;have ne:a≠s.heap.objs.size:=by obtain⟨o,n,e,_⟩:=p; exact jG (jo e)
 refine call_all_walk (gW p.isList ⟨_,_,_,_,_,_,_,rfl,Walks.list hh _ a ne its.toArray,⟨⟨_,jM _ rfl,rfl,rfl⟩,p.isList.at λo e=>jb _ e⟩,TU (by simpa using r),λh' tk k=>?_⟩)
 have hl:=r.length;rw[j5] at hl;refine⟨.bl (bs.all id),H,I.walked k,?_,q⟩;rw[ju,<-hl,Ph]; rfl
end
section
variable {pc:List (jw × Obj)}{σ:St}{H:Hp}{a:jw}{kvs:List (aK × V)}
theorem Inv.known(I:Inv X pc σ H s)(e:H a=aA (.dK kvs)):∃ o,Inv X pc σ (aR H a (.frz o (.dK kvs))) s:=by
 obtain⟨z,hd,vs,rel,o,es,ep,ho,r⟩:=uB I.hok e;refine⟨o,?_⟩;have ne:∀ {b:jw},H b=aB->b≠a:=λ{b} hb z=>by rw[z,e] at hb; cases hb
 refine⟨I.ok,I.os,I.bare,⟨λb ob hb n1 n2 n3=>I.base.keep b ob hb n1 n2 n3,λb ob hb n1 n2 n3=>I.base.slot b ob hb n1 n2 n3,λb ob hb n1 n2=>?_,λb ob hb n1=>I.base.there b ob hb n1,λb xs hb=>?_,λb ob u hb=>?_,λb ps hb=>?_⟩,I.loc,I.cell,?_,λx c hc=>?_,λp hp=>?_,λb u hb=>?_,I.len⟩
 ·have:=I.base.free b ob hb n1 n2;rw[ac (ne this)]; exact this
 ·have:=I.base.tups b xs hb;have hne:b≠a:=λz=>by rw[z,e] at this; cases this
  rw[ac hne]; exact this
 ·have:=I.base.frzs b ob u hb;have hne:b≠a:=λz=>by rw[z,e] at this; cases this
  rw[ac hne]; exact this
 ·obtain⟨more,this⟩:=I.base.tbls b ps hb;have hne:b≠a:=λz=>by rw[z,e] at this; cases this
  exact⟨more,by rw[ac hne]; exact this⟩
 ·rw[ac (ne I.free)]; exact I.free
 ·have:=I.freeC x c hc;rw[ac (ne this)]; exact this
 ·obtain⟨p1,p2,p3⟩:=I.pin p hp;exact⟨p1,by rw[ac (ne p2)]; exact p2,p3⟩
 ·by_cases hba:b=a
  ·subst hba;rw[bq] at hb;cases hb;exact⟨ho,z,hd,vs,rel,o,es,ep,ho,r⟩
  ·rw[ac hba] at hb;refine(I.hok b u hb).stay (λc v _ q=>q) (λc q=>?_) λc xs q=>?_
   ·have hne:c≠a:=λz=>by rw[z,e] at q; cases q
    rw[ac hne]; exact q
   ·have hne:c≠a:=λz=>by rw[z,e] at q; cases q
    rw[ac hne]; exact q
end
def Ay(f:aK × V->V)(a:jw)(o:Obj):It:=
 ⟨λi H=>∃ kvs x,H a=aA (.frz o (.dK kvs))/\kvs[i]?=aA x,λi H x H'=>H'=H/\∀ kvs,H a=aA (.frz o (.dK kvs))->(kvs[i]?).map f=aA x,λi H=>∃ kvs,H a=aA (.frz o (.dK kvs))/\kvs.length<=i⟩
theorem yU{X:Cx}{pc:List (jw × Obj)}{σ:St}{H:Hp}{s:jd}{a:jw}{o:Obj}{kvs:List (aK × V)}(I:Inv X pc σ H s)(e:H a=aA (.frz o (.dK kvs))) :
  ∃ vs es ep,KV kvs vs/\s.heap.DictAt (ef X.prog X.w) a vs ep/\o.data=.dict es ep/\es.size=vs.length/\(a == ZS)=aD:=by
 obtain⟨ho,z,hd,vs,rel,o',es,ep,ho',c,d,k,p,n⟩:=(show ObjOk X.prog X.w H s.heap a (.frz o (.dK kvs)) from I.hok a _ e);rw[ho] at ho';cases ho';exact⟨vs,es,ep,rel,⟨o,es,ho,c,d,k,p,n⟩,d,by rw[<-p.length]; simp,hd⟩
theorem Sr{P:jI}{w:Qe}{K:j9}{tg:Q3}(a it:jw)(o:Obj):Turn P w K tg (Ay (λkv=>kV kv.1) a o) [it] it (λi h=>∃ n ep es,h.IsKeyIter it a i n ep/\o.data=.dict es ep/\es.size=n) where
 mem:=by simp
 obj:=λi h st b hb=>by
  have e:b=it:=by simpa using hb
  subst e;obtain⟨n,ep,es,⟨o',e,c,d⟩,_⟩:=st;exact⟨o',e,λv z=>by rw[d] at z; cases z⟩
 keep:=λi h h' ⟨n,ep,es,st,r⟩ k=>⟨n,ep,es,st.at λo e=>k it (by simp) o e,r⟩
 item:=by
  intro X hP hw hK hc i pc s σ H E I hf st hg;subst hP hw hK;obtain⟨kvs,x,hq,hx⟩:=hg;obtain⟨n,ep,es,st,d1,d2⟩:=st;obtain⟨vs,es',ep',rel,da,d3,d4,hd⟩:=yU I hq;rw[d1] at d3;cases d3;obtain⟨y,hy,y1,y2⟩:=CW rel hx;obtain⟨f0,f1,f2,f3,f4,f5⟩:=hf it (by simp)
  rw[<-d2,d4] at st;refine wpAny_pyNext_dict_item st da (k:=y.1) (v:=y.2) hy λkey h' hkey st' sb=>?_;have I1:Inv X pc σ H { s with heap:=h' }:=I.turned (t':=s.toks) (λb o hb e=>(sb.2 b hb).trans e) f0 f1 f3 f4 f5;obtain⟨o',e,c,d⟩:=id st';refine⟨key,rfl,rT (s:={ s with heap:=h' }) e c d (by decide) ⟨kV x.1,H,I1,y1▸DU hkey,⟨rfl,λkvs' h'=>?_⟩,⟨_,ep,es,st',d1,d4⟩,λb hb=>(hf b hb).1⟩⟩
  rw[hq] at h';cases h';rw[hx]; rfl
 done:=by
  intro X hP hw hK hc i pc s σ H E I hf st hg;subst hP hw hK;obtain⟨kvs,hq,hx⟩:=hg;obtain⟨n,ep,es,st,d1,d2⟩:=st;obtain⟨vs,es',ep',rel,da,d3,d4,hd⟩:=yU I hq;rw[d1] at d3;cases d3;obtain⟨f0,f1,f2,f3,f4,f5⟩:=hf it (by simp)
  have hl:=rel.length;rw[<-d2,d4] at st;exact wpAny_pyNext_dict_end (I.ok.hd hc) st da (by rw[YE]; lia) λh' eb=>⟨rfl,I.turned (t':=s.toks) (λb o hb e=>eb b o hb e) f0 f1 f3 f4 f5⟩
 self:=λ_ _ _ _ _ ⟨_,_,_,st,_⟩ h=>wpAny_pyIter_keyiter st h
def IC(tl:TE):TI:=fun σ H R=>tl σ H λx H1=>∃ a o kvs,x=.ref a/\H1 a=aA (.frz o (.dK kvs))/\R (Ay (λkv=>kV kv.1) a o) H1
theorem O4{X:Cx}{tg l:Q3}{tl:TE}(hl:PE X l tl):PI X tg l (IC tl):=by
 intro pc s σ H R I h;refine aV (hl pc s σ H _ I h) λv s1 h_=>?_; obtain⟨x,H1,I1,r1,q1⟩:=h_;obtain⟨a,o,kvs,e,hq,q⟩:=q1;subst e;cases r1;obtain⟨vs,es,ep,rel,da,d3,d4,hd⟩:=yU I1 hq;refine wpAny_pyIter_dict hd da ?_;refine⟨s1.heap.objs.size,[s1.heap.objs.size],_,_,H1,rfl,I1.kept (t':=s1.toks) λb o e=>jb _ e,Sr a _ o,⟨_,ep,es,⟨_,jM _ rfl,rfl,rfl⟩,d3,d4⟩,λb hb=>?_,q⟩;have e:b=s1.heap.objs.size:=by simpa using hb
 subst e;exact I1.fpOk (ji _) (I1.hok.fresh (ji _))
def wZ(x:Str):It:=⟨λi _=>i < x.cps.size,λi H v H'=>H'=H/\∃ c,x.cps[i]?=aA c/\v=.str ⟨#[c]⟩,λi _=>x.cps.size<=i⟩
theorem Ec{P:jI}{w:Qe}{K:j9}{tg:Q3}(it:jw)(x:Str)(t:Tok)(n:String)(hn:n="str_ascii_iterator"∨n="str_iterator"):Turn P w K tg (wZ x) [it] it (λi h=>h.IsStrIter it n x t i) where
 mem:=by simp
 obj:=λi h st b hb=>by
  have e:b=it:=by simpa using hb
  subst e;obtain⟨o,e,c,d⟩:=st;exact⟨o,e,λv z=>by rw[d] at z; cases z⟩
 keep:=λi h h' st k=>let ⟨o,ho,r⟩:=st; ⟨o,k it (by simp) o ho,r⟩
 item:=by
  intro X hP hw hK hc i pc s σ H E I hf st hg;subst hP hw hK;obtain⟨f0,f1,f2,f3,f4,f5⟩:=hf it (by simp)
  have hg:i < x.cps.size:=hg;have fin:∀ h',h'.IsStrIter it n x t (i+1)->Qp it s.heap h'->∀ u,u=ZO ⟨#[x.cps[i]]⟩ s.toks->∃ u',aA u=aA u'/\jJ (jO X.prog X.w) X.A (ZY tg (.ref it) u') (λ_ s2=>∃ y H',Inv X pc σ H' s2/\RelV y u'/\(wZ x).yld i H y H'/\s2.heap.IsStrIter it n x t (i+1)/\∀ b∈[it],H' b=aB) E { s with heap:=h',toks:=s.toks+1 }:=by
   intro h' st' sb u hu;have I1:Inv X pc σ H { s with heap:=h',toks:=s.toks+1 }:=I.turned (λb o hb e=>(sb.2 b hb).trans e) f0 f1 f3 f4 f5;obtain⟨o',e,c,d⟩:=id st';refine⟨u,rfl,rT (s:={ s with heap:=h',toks:=s.toks+1 }) e c d (by rcases hn with rfl |rfl<;>decide) ⟨.str ⟨#[x.cps[i]]⟩,H,I1,⟨_,hu⟩,⟨rfl,_,by simp[hg],rfl⟩,st',λb hb=>(hf b hb).1⟩⟩
  rcases hn with rfl |rfl
  ·exact wpAny_pyNext_ascii_item st (c:=x.cps[i]) (by simp[hg]) λh' st' sb=>fin h' st' sb _ rfl
  ·exact wpAny_pyNext_wide_item st (c:=x.cps[i]) (by simp[hg]) λh' st' sb=>fin h' st' sb _ rfl
 done:=by
  intro X hP hw hK hc i pc s σ H E I hf st hg;subst hP hw hK;obtain⟨f0,f1,f2,f3,f4,f5⟩:=hf it (by simp)
  have hg:x.cps.size<=i:=hg;rcases hn with rfl |rfl
  ·exact wpAny_pyNext_ascii_end (I.ok.hd hc) st (by simp[hg]) λh' eb=>⟨rfl,I.turned (t':=s.toks) (λb o hb e=>eb b o hb e) f0 f1 f3 f4 f5⟩
  ·exact wpAny_pyNext_wide_end (I.ok.hd hc) st (by simp[hg]) λh' eb=>⟨rfl,I.turned (t':=s.toks) (λb o hb e=>eb b o hb e) f0 f1 f3 f4 f5⟩
 self:=λ_ _ _ _ _ st h=>by
  rcases hn with rfl |rfl
  ·exact wpAny_pyIter_striter_ascii st h
  ·exact wpAny_pyIter_striter_wide st h
def IG(tl:TE):TI:=fun σ H R=>tl σ H λv H1=>∃ x,v=.str x/\R (wZ x) H1
theorem O8{X:Cx}{tg l:Q3}{tl:TE}(hl:PE X l tl):PI X tg l (IG tl):=by
 intro pc s σ H R I h;refine aV (hl pc s σ H _ I h) λv s1 h_=>?_; obtain⟨y,H1,I1,r1,q1⟩:=h_;obtain⟨x,e,q⟩:=q1;subst e;obtain⟨t,rfl⟩:=r1;have fp:∀ b∈[s1.heap.objs.size],ez X pc H1 b:=λb hb=>by
  have e:b=s1.heap.objs.size:=by simpa using hb
  subst e;exact I1.fpOk (ji _) (I1.hok.fresh (ji _))
 cases ha:x.cps.all (· < 128)
 ·exact wpAny_pyIter_wide ha ⟨s1.heap.objs.size,[s1.heap.objs.size],_,_,H1,rfl,I1.kept (t':=s1.toks) λb o e=>jb _ e,Ec _ x t "str_iterator" (.inr rfl),⟨_,jM _ rfl,rfl,rfl⟩,fp,q⟩
 ·exact wpAny_pyIter_ascii ha ⟨s1.heap.objs.size,[s1.heap.objs.size],_,_,H1,rfl,I1.kept (t':=s1.toks) λb o e=>jb _ e,Ec _ x t "str_ascii_iterator" (.inl rfl),⟨_,jM _ rfl,rfl,rfl⟩,fp,q⟩
theorem F7:∀ {ss:List Int} {us:List j8},Vals (ss.map V.int) us->Jm us ss
 |[],_,.nil=>.nil
 |s::ss,_,.cons r t=>by obtain⟨t',rfl⟩:=r; exact .cons s t' (F7 t)
section
variable {R:JF->jd->Prop}{I:jw}{fp wr:List jw}{G:Array Yd->Array Yd->Prop}{n:Nat}{Pv:Nat->j8->Prop}{St:Nat->jd->Prop}
def IsSetS(P:jI)(w:Qe)(S:jw)(l:List Str)(h:QN):Prop:=h.SetOf (strKind P w) S (λq=>aE (q∈l)) l.length
theorem IsSetS.at{S:jw}{l:List Str}{h h':QN}(x:IsSetS P w S l h)(k:∀ o,h.get? S=aA o->h'.get? S=aA o):IsSetS P w S l h':=by
 obtain⟨o,es,ep,t,e,r⟩:=x;exact⟨o,es,ep,t,k _ e,r⟩
theorem IsSetS.next{S:jw}{l:List Str}{x:Str}{h:QN}(y:h.SetOf (strKind P w) S (λq=>aE (q∈l)||aE (q=x)) (if aE (x∈l)=aC then l.length else l.length+1)):IsSetS P w S (Dw.cb l x) h:=by
 have e1:(λq=>aE (q∈l)||aE (q=x))=λq=>aE (q∈Dw.cb l x):=by
  funext q
  unfold Dw.cb
  by_cases hx:x∈l
  ·rw[aI hx]
   by_cases hq:q=x
   ·subst hq; simp[hx]
   ·simp[hq]
  ·rw[aH hx,Zi]; simp
 have e2:(if aE (x∈l)=aC then l.length else l.length+1)=(Dw.cb l x).length:=by
  unfold Dw.cb
  by_cases hx:x∈l
  ·rw[aI hx,aI (by simpa using hx)]
  ·rw[aH hx,aH (by simpa using hx),jn]; rfl
 rw[e1,e2] at y;exact y
theorem yo:∀(l acc:List Str),(l.foldl Dw.cb acc).length<=acc.length+l.length
 |[],acc=>ji _
 |x::l,acc=>by
  rw[ZG];have:=yo l (Dw.cb acc x);have h2:(Dw.cb acc x).length<=acc.length+1:=by
   unfold Dw.cb;split
   ·lia
   ·rw[jn]; exact ji _
  rw[jk];lia
theorem Rb(W:WalksS P w A.in1 I fp wr G n Pv St)(S:jw)(hS:S∉fp)(ss:List Str)(hn:ss.length=n)(hv:∀ i v x,Pv i v->ss[i]?=aA x->∃ t,v=.str x t)(hb:n+1 < gN) :
  ∀(k i:Nat) (s:jd),n - i=k->i<=n->St i s->IsSetS P w S (Dw.aL (ss.take i)) s.heap->(∀ s',Moved (S::wr) G s s'->IsSetS P w S (Dw.aL ss) s'.heap->R (.ok (.ret .none)) s')->
   Yg (jO P w) A (.builtin "set.update.loop" ⟨[.ref S,.ref I],[]⟩) R s:=by
 have nw:S∉wr:=λz=>hS (W.sub _ z);have up:∀ b∈wr,b∈S::wr:=λb z=>.tail _ z;intro k
 induction k with
 |zero=>
  intro i s hk hi st hs q;obtain rfl:i=n:=by lia
  refine NB N5 ?_;rw[NS gO _];refine j4 (m:=NX (.ref I)) (W.done s _ _ st λs' mv=>jp (q s' (mv.mono up) ?_));rw[Q1 (by lia)] at hs
  exact hs.at λo e=>mv.heap S o nw e
 |succ k ih=>
  intro i s hk hi st hs q;have lt:i < n:=by lia
  obtain⟨x,hx⟩:∃ x,ss[i]?=aA x:=⟨_,j3 (by lia)⟩
  refine NB N5 ?_;rw[NS gO _];refine j4 (m:=NX (.ref I)) (W.item i s _ _ lt st λv s1 pv st1 mv=>?_);obtain⟨t,rfl⟩:=hv i v x pv hx;have hs1:=hs.at λo e=>mv.heap S o nw e;have ky:(strKind P w).is x (.str x t)=aC:=by show QP x (.str x t)=aC; simp[QP]
  refine j4 (m:=Yz [ZO x t] (setAdd S (.str x t))) (Qi ?_);unfold setAdd;refine Qi (j4 ((strKind P w).pyHash (k:=x) ky ?_));have fl:(Dw.aL (ss.take i)).length<=i:=by
   have:=yo (ss.take i) [];rw[Qd,ZE] at this;unfold Dw.aL;lia
  refine NC (knd:=strKind P w) (s:={ s1 with toks:=s1.toks+1 }) ky rfl hs1 (by lia) λh2 sb hs2=>?_
  have hs3:=IsSetS.next hs2
  rw[<-Dw.TW hx] at hs3;refine jp ⟨plainId_quiet gO _,ih (i+1) _ (by lia) lt (W.frame _ s1 _ _ st1 (gA _) λb z o e=>(sb.2 b (λy=>hS (y▸z))).trans e) hs3 λs2 mv2=>q s2 (Moved.trans W.gtrans ((mv.mono up).then_heap (gA _) λb o z e=>(sb.2 b (λy=>z (y▸.head _))).trans e) mv2)⟩
end
section
def lL(led:Bool):Obj:={ cls:=.type "set",dict:=aB,data:=.set #[] 0 (.fresh 0 0 led) }
set_option maxHeartbeats 3200000 in
theorem TR{l:jw}{its:Array j8}{ss:List Str}{Q:j8->jd->Prop}(hh:A.handled=aB)(hl:s.heap.IsList l its)(hn:ss.length=its.size)(hv:∀(i:Nat) v x,its[i]?=aA v->ss[i]?=aA x->∃ t,v=.str x t)(hb:its.size+1 < gN)
  (q:∀(h':QN) (tk:Nat),IsSetS P w s.heap.objs.size (Dw.aL ss) h'->(∀ b o,b < s.heap.objs.size->s.heap.get? b=aA o->h'.get? b=aA o)->Q (.ref s.heap.objs.size) { s with heap:=h',toks:=tk }) :
  jJ (jO P w) A (call (.type "set") [.ref l]) Q E s:=by
 have a0:=ga.mro;obtain⟨mc,mt,a0⟩:=a0;have a1:=ga.made;have a2:=ga.sub;refine WD (codeAny_of_tree (show jJ _ _ (callAny (.type "set") _) _ _ _ from jp ⟨Yw _ (by decide +kernel),NB F.entry_type_call ?_⟩))
 rw[Around.under_plain (weight_type_call_type "set" [Qa l] []) rfl];have a3:=ga.notType;have a4:=ga.canCreate;have a5:=F.typeCall_set_1 (.ref l)
 repeat (any_goals (first |wp_step |assumption))
 refine Yu (code_set_new_1 (.ref l) (E:=E) (Q₁:=λv s1=>∃ led:Bool,v=.ref s.heap.objs.size/\s1={ s with heap:=s.heap.push (lL led) }) λled=>⟨led,rfl,rfl⟩) λr s1 hr=>?_;cases r with
 |error e=>exact hr
 |ok fl=>
  cases fl with
  |ret v=>
   obtain⟨led,rfl,rfl⟩:=hr;have g0:(s.heap.push (lL led)).get? s.heap.objs.size=aA (lL led):=jM _ rfl;have ty:JR { s with heap:=s.heap.push (lL led) } (.ref s.heap.objs.size) "set":=⟨_,g0,rfl⟩;have b1:=ga.init.lookup;have b2:=ga.init.bind (.ref s.heap.objs.size)
   repeat (any_goals (first |wp_step |assumption))
   refine Yu (NT (R:=wants (λr s2=>r=.none/\∃ h' tk,s2={ s with heap:=h',toks:=tk }/\IsSetS P w s.heap.objs.size (Dw.aL ss) h'/\(∀ b o,b < s.heap.objs.size->s.heap.get? b=aA o->h'.get? b=aA o)) E) ga.init.plain F.entry_set_init (check_set_init_1 ty ?_)) λr2 s2 hr2=>?_
   ·obtain⟨⟨c1,c2,c3,c4⟩,ho,hc,nl,hd⟩:=hl;dsimp only at hc hd;subst hc hd;have g1:(s.heap.push (lL led)).get? l=aA { cls:=.type "list",dict:=c2,data:=.seq its nl,slots:=c4 }:=jb _ ho;have d1:=F.sub_list_set;have d2:=F.sub_list_frozenset;have d3:(JA "list" == JA "dict")=aD:=by decide
    have il:(s.heap.push (lL led)).IsList l its:=⟨_,g1,rfl,nl,rfl⟩;unfold WN.«set.__init__»;unfold noKeywords Jf;generalize hPI:pyIter=PI
    wp_walk
    subst hPI;refine gW il (j4 (wpAny_runValue ?_));have lS:l < s.heap.objs.size:=jo ho;have ne:l≠(s.heap.push (lL led)).objs.size:=by rw[gq]; exact jG (Z0 lS)
    have nS:s.heap.objs.size∉[(s.heap.push (lL led)).objs.size,l]:=by
     rw[gq];intro z;rcases jy.mp z with z |z
     ·exact absurd z (jG (Zn _))
     ·exact absurd (je.mp z) (gD lS)
    refine Rb ((Walks.list (show A.in1.in1.in1.handled=aB by simp[hh]) _ l ne its).toS) s.heap.objs.size nS ss hn (λi v x hv' hx=>hv i v x hv' hx) hb (its.size - 0) 0 _ (by lia) (QZ _) ⟨⟨_,jM _ rfl,rfl,rfl⟩,il.push _⟩ ?st ?fin
    case st=>exact(setObjOf_fresh (knd:=strKind P w) led).setOf (jb _ g0) (by unfold gN; lia)
    case fin=>
     intro s' mv hs';obtain⟨h',g',d',tk',os'⟩:=s';obtain rfl:g'=s.gens:=mv.gens;obtain rfl:d'=s.drawn:=mv.drawn;obtain rfl:os'=s.os:=mv.os;refine jp (jp ⟨rfl,h',tk',rfl,hs',λb o z e=>mv.heap b o (λy=>?_) (jb _ (jb _ e))⟩);rw[gq] at y;rcases jy.mp y with y |y
     ·exact absurd y (jG z)
     ·exact absurd (je.mp y) (jG (Z0 z))
   ·cases r2 with
    |error e=>exact hr2
    |ok f2=>
     cases f2 with
     |ret r=>
      obtain⟨rfl,h',tk,rfl,y1,y2⟩:=hr2
      repeat (any_goals (first |wp_step |assumption))
      exact q _ _ y1 y2
     |_=>exact hr2.elim
  |_=>exact hr.elim
end
section
def fg(X:Cx)(a:jw)(l:List Str):HO:=.ext (IsSetS X.prog X.w a l)
theorem EJ(hc:X.calm=aC):CallR X (.type "set") (λxs H Q=>∃(a:jw) (ss:List Str),xs=[V.ref a]/\ad X.K H a (ss.map V.str)/\ss.length < 1000/\∀ l,H l=aB->Q (.ref l) (aR H l (fg X l (Dw.aL ss)))):=by
 intro pc s σ H xs us Q I rv h;obtain⟨a,ss,rfl,hq,hl,q⟩:=h;obtain⟨u,rfl,ru⟩:=rv.one;cases ru;obtain⟨its,r,p,hz⟩:=I.list hq;have hlen:=r.length;rw[j5] at hlen;refine TR (ss:=ss) (I.ok.hd hc) p.isList (by rw[ju]; exact hlen) (λi v x hv hx=>?_) (by rw[ju]; unfold gN; lia) λh' tk hs k=>?_
 ·obtain⟨u,hu,ru⟩:=r.get (i:=i) (x:=V.str x) (by rw[jg,hx]; rfl)
  have e:v=u:=by
   rw[List.getElem?_toArray,hu] at hv;exact(jh hv).symm
  rw[e];exact ru
 ·have new:ObjOk X.prog X.w (aR H s.heap.objs.size (fg X s.heap.objs.size (Dw.aL ss))) h' s.heap.objs.size (fg X s.heap.objs.size (Dw.aL ss)):=⟨hs,by obtain⟨o,_,_,_,e,_⟩:=hs; exact⟨o,e⟩,λh1 h2 x k=>x.at k⟩
  exact⟨.ref s.heap.objs.size,_,I.laid (a:=s.heap.objs.size) (t':=tk) (λb o e=>k b o (jo e) e) (ji _) new,rfl,q _ (I.hok.fresh (ji _))⟩
theorem RB:CallR X (.builtin "len") (λxs H Q=>∃(a:jw) (l:List Str),xs=[V.ref a]/\H a=aA (fg X a l)/\Q (.int l.length) H):=by
 intro pc s σ H xs us Q I rv h;obtain⟨a,l,rfl,ha,q⟩:=h;obtain⟨u,rfl,ru⟩:=rv.one;cases ru;obtain⟨hs,_,_⟩:=(show ObjOk X.prog X.w H s.heap a (fg X a l) from I.hok a _ ha);obtain⟨o,es,ep,t,e,ex,d,_,_,b,f,n⟩:=hs;refine call_len_set e ex d f (by unfold gN at b; lia) ?_
 rw[n];exact⟨.int l.length,H,I.tok _,⟨_,rfl⟩,q⟩
end
section
theorem Em{P:jI}{w:Qe}(k:Int)(t:Tok):(JM P w).is k (.int k t)=aC:=by show W2 k (.int k t)=aC; simp[W2]
theorem RE:CallR X (.type "set") (λxs H Q=>xs=[]/\∀ l,H l=aB->Q (.ref l) (aR H l (.set (λ_=>aD) 0))):=by
 intro pc s σ H xs us Q I rv h;obtain⟨rfl,q⟩:=h;cases rv;refine call_set_0 λled=>?_;have new:ObjOk X.prog X.w (aR H s.heap.objs.size (.set (λ_=>aD) 0)) (s.heap.push (lL led)) s.heap.objs.size (.set (λ_=>aD) 0):=(setObjOf_fresh (knd:=JM X.prog X.w) led).setOf (jM _ rfl) (by unfold gN; lia)
 exact⟨.ref s.heap.objs.size,_,I.laid (a:=s.heap.objs.size) (t':=s.toks) (λb o e=>jb _ e) (ji _) new,rfl,q _ (I.hok.fresh (ji _))⟩
def Bn:V->List V->Hp->VK->Prop:=λx vs H Q=>∃ a S n k,x=.ref a/\vs=[.int k]/\H a=aA (.set S n)/\n < 1000/\Q .non (aR H a (.set (λj=>S j||aE (j=k)) (if S k then n else n+1)))
theorem OZ:rD X "set.add" Bn:=by
 intro pc s σ H x vs v us Q I rx rv h;obtain⟨a,S,n,k,rfl,rfl,ha,hn,q⟩:=h;cases rx;obtain⟨u,rfl,ru⟩:=rv.one;obtain⟨t,rfl⟩:=ru;have hS:s.heap.SetOf (JM X.prog X.w) a S n:=(show ObjOk X.prog X.w H s.heap a (.set S n) from I.hok a _ ha);refine call_set_add (Em k t) rfl hS (by unfold gN; lia) λh' hs hS'=>?_
 have hx:∃ q,h'.get? a=aA q:=by obtain⟨o,_,_,_,e,_⟩:=hS'; exact⟨o,e⟩
 exact⟨.non,_,sH (t':=s.toks+1) (ob:=.set (λj=>S j||aE (j=k)) (if S k then n else n+1)) I (by rw[ha]; exact Zm) hs hx hS',rfl,q⟩
theorem Oe:c9 X (Z5 .NotIn) (λx y H Q=>∃ k a S n,x=.int k/\y=.ref a/\H a=aA (.set S n)/\Q (.bl (!S k)) H):=by
 intro pc s σ H x y v u Q I rx ry h;obtain⟨k,a,S,n,rfl,rfl,ha,q⟩:=h;obtain⟨t,rfl⟩:=rx;cases ry;have hS:s.heap.SetOf (JM X.prog X.w) a S n:=(show ObjOk X.prog X.w H s.heap a (.set S n) from I.hok a _ ha);exact wpAny_notInSet_of (Em k t) rfl hS ⟨.bl (!S k),H,I.tok _,rfl,q⟩
end
theorem US:entryFor table "set.__and__"=aA WN.«frozenset.__and__»:=
 entryFor_alias (id':="frozenset.__and__") (by kernel_rfl) rfl (by decide +kernel) (by kernel_rfl)
theorem UC:isSubtype (.type "set") (.type "set")=pure aC:=by rw[isSubtype_type]; kernel_rfl
theorem vg{α:Type}[DecidableEq α]:∀(l m:List α),l.Nodup->(∀ x,x∈l->x∈m)->m.length<=l.length->m.Perm l
 |[],m,_,_,h=>by
  have:m=[]:=Y6 (by simpa using h)
  rw[this]
 |x::l,m,nd,hs,h=>by
  have hx:x∈m:=hs x (.head _);obtain⟨n1,n2⟩:=Qf.mp nd;have p1:m.Perm (x::m.erase x):=List.perm_cons_erase hx;refine p1.trans (.cons x (vg l (m.erase x) n2 (λy hy=>?_) ?_))
  ·have:y≠x:=λe=>n1 (e▸hy);exact(gk this).mpr (hs y (.tail _ hy))
  ·have:=p1.length_eq;rw[jk] at this;rw[jk] at h;lia
theorem Up{α:Type}[DecidableEq α](l m:List α)(h1:l.Nodup)(h2:m.Nodup):(l.filter (λx=>aE (x∈m))).length=(m.filter (λx=>aE (x∈l))).length:=by
 have n1:=h1.filter (λx=>aE (x∈m));have n2:=h2.filter (λx=>aE (x∈l));refine ND ?_ ?_
 ·by_cases h:(m.filter (λx=>aE (x∈l))).length<=(l.filter (λx=>aE (x∈m))).length
  ·have:=(vg (l.filter (λx=>aE (x∈m))) (m.filter (λx=>aE (x∈l))) n1 (λx hx=>by
    have:=jQ.mp hx
    exact jQ.mpr ⟨by simpa using this.2,by simpa using this.1⟩) h).length_eq
   lia
  ·lia
 ·by_cases h:(l.filter (λx=>aE (x∈m))).length<=(m.filter (λx=>aE (x∈l))).length
  ·have:=(vg (m.filter (λx=>aE (x∈l))) (l.filter (λx=>aE (x∈m))) n2 (λx hx=>by
    have:=jQ.mp hx
    exact jQ.mpr ⟨by simpa using this.2,by simpa using this.1⟩) h).length_eq
   lia
  ·lia
theorem Fh{α:Type}:∀(l:List α) (i:Nat) (h:i < l.length),(l[i]::l.eraseIdx i).Perm l
 |x::l,0,_=>by simp
 |x::l,i+1,h=>by
  rw[N3,List.getElem_cons_succ];exact(List.Perm.swap _ _ _).trans (.cons x (Fh l i (by simpa using h)))
theorem UZ{α:Type}(next:Nat->Nat)(xs:Array α):(pickOrder next xs).toList.Perm xs.toList:=by
 have key:∀(n k:Nat) (left:List α) (out:Array α),left.length=n->(WY next n k left out).toList.Perm (out.toList++left):=by
  intro n
  induction n with
  |zero=>
   intro k left out h;have:left=[]:=Y6 h;subst this;unfold WY;simp
  |succ n ih=>
   intro k left out h;unfold WY;have hlt:next k%left.length < left.length:=Nat.mod_lt _ (by lia)
   rw[j3 hlt];dsimp only;refine(ih _ _ _ (by rw[List.length_eraseIdx,aI hlt]; lia)).trans ?_
   rw[Array.toList_push,Ql];refine Nx _ ?_;exact Fh left _ hlt
 exact(key _ _ _ _ (by simp)).trans (by simp)
section
def dI:j8->Str
 |.str x _=>x
 |_=>""
theorem SY{k:Str}:∀ {v:j8},QP k v=aC->∃ tk,v=ZO k tk
 |.str x tk,h=>⟨tk,congrArg (λz=>ZO z tk) (show x=k by simpa[QP] using h)⟩
theorem TZ(q x:Str)(tk:Tok):QP q (.str x tk)=aC↔dI (.str x tk)=q:=by
 unfold QP dI;simp
theorem IsSetS.ents{S:jw}{l:List Str}{h:QN}(x:IsSetS P w S l h):∃(o:Obj) (es:Array (Int × j8)) (ep:Nat) (t:Jg),h.get? S=aA o/\o.ExactSet/\o.data=.set es ep t/\t.fits es.size=aC/\es.size=l.length/\es.size < gN/\(∀ e∈es.toList,(∃ tk,e.2=ZO (dI e.2) tk)/\e.1=(strKind P w).hash (dI e.2))/\∀ q,q∈es.toList.map (λe=>dI e.2)↔q∈l:=by
 obtain⟨o,es,ep,t,e1,e2,e3,e4,e5,e6,e7,e8⟩:=x;have get:∀ e∈es.toList,(∃ tk,e.2=ZO (dI e.2) tk)/\e.1=(strKind P w).hash (dI e.2):=λe he=>by
  obtain⟨⟨k,hk,hh⟩,_⟩:=e4 e he;obtain⟨tk,h3⟩:=SY (show QP k e.2=aC from hk);have h4:dI e.2=k:=by rw[h3]; rfl
  rw[h4];exact⟨⟨tk,h3⟩,hh⟩
 refine⟨o,es,ep,t,e1,e2,e3,e7,e8,e6,get,λq=>?_⟩;have e5:=e5 q;rw[decide_eq_true_iff] at e5;rw[e5,jx];refine exists_congr λe=>and_congr_right λhe=>?_;obtain⟨⟨tk,h3⟩,_⟩:=get e he;rw[show (strKind P w).is q e.2=QP q e.2 from rfl,h3];exact(TZ _ _ _).symm
theorem UN{sets:List jw}{Q:Bool->jd->Prop}(hs:∀ a∈sets,∃ l:List Str,IsSetS P w a l s.heap)(h:Q aC s):jJ (jO P w) A (setsQuiet sets) Q E s:=by
 unfold setsQuiet;refine j4 ?_;refine wpAny_forIn_list _ (λrest b s'=>b=⟨aB,()⟩/\s'=s/\∀ a∈rest,a∈sets) _ ?_ ?_ sets _ ⟨rfl,rfl,λa h=>h⟩
 ·rintro a rest b s' ⟨rfl,rfl,hr⟩;obtain⟨l,hl⟩:=hs a (hr a (.head _));obtain⟨o,es,ep,t,e1,e2,e3,e4,e5,e6,e8,_⟩:=IsSetS.ents hl;refine j4 (Ym e1 e3 e4 ?_);refine j4 ?_;refine Wp _ (λrest b s''=>b=⟨aB,()⟩/\s''=s'/\∀ e∈rest,e∈es.toList) _ ?_ ?_ es _ ⟨rfl,rfl,λa h=>h⟩
  ·rintro e rest2 b s'' ⟨rfl,rfl,hr2⟩;obtain⟨⟨tk,h3⟩,_⟩:=e8 e (hr2 e (.head _));obtain⟨e0,ev⟩:=e;generalize dI ev=ky at h3;dsimp only at h3 ⊢;subst h3;exact jp ⟨rfl,rfl,λe he=>hr2 e (.tail _ he)⟩
  ·rintro b s'' ⟨rfl,rfl,_⟩;exact jp ⟨rfl,rfl,λa ha=>hr a (.tail _ ha)⟩
 ·rintro b s' ⟨rfl,rfl,_⟩;exact jp h
end
section
theorem IsSetS.same{S:jw}{l l':List Str}{h:QN}(x:IsSetS P w S l h)(e:∀ q,q∈l↔q∈l')(hl:l.length=l'.length):IsSetS P w S l' h:=by
 unfold IsSetS at x ⊢;rw[<-hl,show (λq=>aE (q∈l'))=λq=>aE (q∈l) from funext λq=>decide_eq_decide.mpr (e q).symm];exact x
theorem T9{a:jw}{o:Obj}{es:Array (Int × j8)}{ep:Nat}{t:Jg}{Q:Array (Int × j8)->jd->Prop}(ho:s.heap.get? a=aA o)(hd:o.data=.set es ep t)(hf:t.fits es.size=aC)
  (hc:w.params.followText "set-order"=aC∨(t.led&&t.plain)=aC∨es.size<=1) (q:∀ es':Array (Int × j8),es'.toList.Perm es.toList->Q es' s):jJ (jO P w) A (setWalk a) Q E s:=by
 unfold setWalk setsByText;refine j4 (YO ho hd hf ?_);refine j4 (j4 (Nf (jp ?_)));dsimp only;show jJ _ _ (if w.params.followText "set-order"=aC then _ else _) _ _ _
 by_cases hx:w.params.followText "set-order"=aC
 ·rw[aI hx];exact j4 (Nf (jp (q _ (UZ _ _))))
 ·rw[aH hx];have hd':(!t.plain&&aE (es.size > 1))=aD:=by
   rcases hc with hc |hc |hc
   ·exact absurd hc hx
   ·rw[jL] at hc; rw[hc.2]; rfl
   ·rw[av (by lia),YC]
  have hd2:(!t.led&&aE (es.size > 1))=aD:=by
   rcases hc with hc |hc |hc
   ·exact absurd hc hx
   ·rw[jL] at hc; rw[hc.1]; rfl
   ·rw[av (by lia),YC]
  show jJ _ _ (if (!t.plain&&aE (es.size > 1))=aC then _ else _) _ _ _
  rw[aH (by rw[hd']; exact jK)]
  refine j4 ?_;show jJ _ _ (if (!t.led&&aE (es.size > 1))=aC then _ else pure ()) _ _ _
  rw[aH (by rw[hd2]; exact jK)]
  exact jp (jp (q _ (.refl _)))
theorem Ul{a r:jw}{o:Obj}{es:Array (Int × j8)}{ep:Nat}{t:Jg}{Q:Array (Int × j8)->jd->Prop}{others:List jw}{lr:List Str}(ho:s.heap.get? a=aA o)(hd:o.data=.set es ep t)(hf:t.fits es.size=aC)
  (hs:∀ b∈a::others,∃ l:List Str,IsSetS P w b l s.heap) (hr:IsSetS P w r lr s.heap) (q:∀(es':Array (Int × j8)) (h':QN),es'.toList.Perm es.toList->Qp r s.heap h'->IsSetS P w r lr h'->Q es' { s with heap:=h' }):jJ (jO P w) A (Wq a others (aA r)) Q E s:=by
 unfold Wq setsByText;refine j4 (YO ho hd hf ?_);refine j4 (j4 (Nf (jp ?_)));dsimp only;show jJ _ _ (if (w.params.followText "set-order"||(t.led&&t.plain)||aE (es.size<=1))=aC then _ else _) _ _ _
 have e0:s={ s with heap:=s.heap }:=by cases s; rfl
 by_cases hx:(w.params.followText "set-order"||(t.led&&t.plain)||aE (es.size<=1))=aC
 ·rw[aI hx];refine T9 ho hd hf ?_ λes' p=>e0▸q es' s.heap p (.refl _ _) hr;simpa[Zg,or_assoc] using hx
 ·rw[aH hx];refine j4 (UN hs ?_);simp only[JS,Za,↓reduceIte];refine j4 (JJ ?_);obtain⟨o2,es2,ep2,t2,g1,g2,g3,g4,g5,g6,g7,g8⟩:=hr;refine j4 (YO g1 g3 g7 ?_);dsimp only;split
  ·refine j4 (wpAny_storeSet_of g1 g3 (jp ?_) (fits_of_scanBound g6));refine q es _ (.refl _) (Heap.SameBut.update _ _ _) ?_;have:=(SetOf_store (knd:=strKind P w) (t':={ t2 with led:=t2.led&&t.led,plain:=t2.plain&&t.plain }) g1 g2 g3 g4 g5 g6 (by cases t2; exact g7)).2
   rw[g8] at this;exact this
  ·exact j4 (jp (jp (e0▸q es s.heap (.refl _) (.refl _ _) ⟨o2,es2,ep2,t2,g1,g2,g3,g4,g5,g6,g7,g8⟩)))
theorem UM{a b r:jw}{la:List Str}{es:Array (Int × j8)}{ob:Obj}{esb:Array (Int × j8)}{was:Nat}{t:Jg}{id:String}{Q:PUnit->jd->Prop}(har:a≠r)(hbr:b≠r)
  (ha:IsSetS P w a la s.heap) (hb:s.heap.get? b=aA ob) (hbd:ob.data=.set esb was t) (hbf:t.fits esb.size=aC) (hr:IsSetS P w r [] s.heap) (hn:(es.toList.map λe=>dI e.2).Nodup) (hz:es.size+1 < gN)
  (he:∀ e∈es.toList,(∃ tk,e.2=ZO (dI e.2) tk)/\e.1=(strKind P w).hash (dI e.2))
  (q:∀ h',Qp r s.heap h'->IsSetS P w r ((es.toList.map λe=>dI e.2).filter λx=>aE (x∈la)) h'->Q ⟨⟩ { s with heap:=h' }) :
  jJ (jO P w) A (forIn es NM fun(x:Int × j8) (_:PUnit)=>do
   Yz [x.2] (do if (<-setFind a x.2 x.1).isSome=aC then let _ <-setAddHashed r x.2 x.1)
   Zj id b was
   pure (Qk NM)) Q E s:=by
 refine Wp _ (λrest _ s'=>∃ pre h',pre++rest=es.toList/\s'={ s with heap:=h' }/\Qp r s.heap h'/\IsSetS P w r ((pre.map λe=>dI e.2).filter λx=>aE (x∈la)) h') _ ?_ ?_ es _ ⟨[],s.heap,rfl,by cases s; rfl,.refl _ _,hr⟩
 ·rintro⟨e0,ev⟩ rest b' s' ⟨pre,h',hp,rfl,sb,hr'⟩;have hmem:(e0,ev)∈es.toList:=by rw[<-hp]; simp
  obtain⟨⟨tk,h3⟩,h4⟩:=he _ hmem;dsimp only at h3 h4;generalize hk:dI ev=k at h3 h4;subst h3 h4;have ky:(strKind P w).is k (.str k tk)=aC:=by show QP k (.str k tk)=aC; simp[QP]
  have ha':IsSetS P w a la h':=ha.at λo e=>(sb.2 a har).trans e;have hb':h'.get? b=aA ob:=(sb.2 b hbr).trans hb;have hnk:k∉pre.map λe=>dI e.2:=by
   rw[<-hp,jE,jq] at hn;have:=(jP.mp hn).2.2;intro hc;exact this k hc k (by dsimp only; rw[hk]; exact .head _) rfl
  have hlen:pre.length < es.size:=by rw[<-QD,<-hp]; simp
  have fl:((pre.map λe=>dI e.2).filter λx=>aE (x∈la)).length<=pre.length:=by
   refine Q9 (Zr _ _) ?_;rw[j5]; exact ji _
  have fin:∀ h2 (Qx:ForInStep PUnit->jd->Prop),Qp r h' h2->Qx (.yield ⟨⟩) { s with heap:=h2 }->jJ (jO P w) A (do
    Zj id b was
    pure (Qk NM)) Qx E { s with heap:=h2 }:=λh2 Qx sb2 hq=>by
   unfold Zj;refine j4 (j4 (WO (s:={ s with heap:=h2 }) ((sb2.2 b hbr).trans hb') hbd hbf ?_));simp only[bne_self_eq_false,Za,↓reduceIte];exact jp (jp hq)
  have pq:(pre++[((strKind P w).hash k,ZO k tk)])++rest=es.toList:=by rw[Ql]; exact hp
  refine j4 (Qi (j4 (wpAny_setFind_of (knd:=strKind P w) (s:={ s with heap:=h' }) ky rfl ha' λf hf=>?_)));rw[hf]
  by_cases hin:k∈la
  ·rw[aI (by simpa using hin)]
   refine j4 (NC (knd:=strKind P w) (s:={ s with heap:=h' }) ky rfl hr' (by lia) λh2 sb2 hs2=>jp (fin h2 _ sb2 ⟨_,h2,pq,rfl,sb.trans sb2,?_⟩))
   have hs3:=IsSetS.next hs2
   refine hs3.same (λx=>?_) ?_
   ·unfold Dw.cb;rw[aH (by simp[hnk]),jE,Zs]
    simp[dI,hin]
   ·unfold Dw.cb;rw[aH (by simp[hnk]),jE,Zs]
    simp[dI,hin]
  ·rw[aH (by simpa using hin)]
   refine jp (fin h' _ (.refl _ _) ⟨_,h',pq,rfl,sb,hr'.same (λx=>?_) ?_⟩)
   ·rw[jE,Zs]; simp[dI,hin]
   ·rw[jE,Zs]; simp[dI,hin]
 ·rintro b' s' ⟨pre,h',hp,rfl,sb,hr'⟩;rw[Qv] at hp;subst hp;exact q h' sb hr'
end
section
theorem Pi{a b:jw}{l m:List Str}{Q:j8->jd->Prop}(hab:a≠b)(ha:IsSetS P w a l s.heap)(hb:IsSetS P w b m s.heap)(hl:l.Nodup)(hm:m.Nodup)(hz:l.length+m.length < 2000)
  (q:∀ h':QN,IsSetS P w s.heap.objs.size (l.filter λx=>aE (x∈m)) h'->(∀ x o,s.heap.get? x=aA o->h'.get? x=aA o)->Q (.ref s.heap.objs.size) { s with heap:=h' }):jJ (jO P w) A (gG .BitAnd (.ref a) (.ref b)) Q E s:=by
 have ta:s.TypeIs (.ref a) "set":=YQ ha;have tb:s.TypeIs (.ref b) "set":=YQ hb;refine wpAny_binaryOp_same ta tb F.fills_set_and F.slot_set_and (Ng F.slot_set_and ta US ?_ (F.args_set_and_2 _ _));unfold WN.«frozenset.__and__»;have st:=UC
 show jJ _ _ (do
  let (self,other) <-N6 "__and__" ⟨[.ref a,.ref b],[]⟩
  let (l,r):=if aD=aC then (other,self) else (self,other)
  if !(<-gh l <&&> gh r) then rule s!"frozenset.{"__and__"}.declined"; return <-ret .notImplemented
  ret (<-WZ s!"frozenset.{"__and__"}" (<-YR l) r)) _ _ _
 unfold N6 slotArgs;simp only[List.isEmpty_nil,JS,Za,↓reduceIte,bind_assoc,ZE,bne_self_eq_false,pure_bind]
 repeat (any_goals (first |wp_step |assumption))
 rw[aH (by dsimp only; simpa using λe:b=a=>hab e.symm)]
 unfold JK;refine j4 (j4 (Nh ta st ?_));refine jp ?_;simp only[↓reduceIte];refine j4 (wpAny_newSet_of (knd:=strKind P w) λled hr=>?_);unfold YR;refine j4 (jp ?_);dsimp only;generalize hs1:s.heap.push { cls:=.type "set",dict:=aB,data:=.set #[] 0 (.fresh 0 0 led) }=h1 at hr ⊢;have k1:∀ x o,s.heap.get? x=aA o->h1.get? x=aA o:=λx o e=>by rw[<-hs1]; exact jb _ e
 have ha1:IsSetS P w a l h1:=ha.at (k1 a);have hb1:IsSetS P w b m h1:=hb.at (k1 b);have hr1:IsSetS P w s.heap.objs.size [] h1:=by
  unfold IsSetS;simpa using hr
 have tb1:JR { s with heap:=h1 } (.ref b) "set":=YQ hb1;have nea:∀ x l',IsSetS P w x l' s.heap->x≠s.heap.objs.size:=λx l' hx e=>by
  obtain⟨o,_,_,_,e1,_⟩:=hx;exact jG (jo e1) e
 have na:=nea a l ha;have nb:=nea b m hb;unfold gh;refine j4 (Qi (j4 ?_));have orr:jJ (jO P w) A.in1 (WP (.ref b) (.type "set") <||> WP (.ref b) (.type "frozenset")) (λr s2=>r=aC/\s2={ s with heap:=h1 }) E { s with heap:=h1 }:=by
  refine j4 (Nh tb1 st ?_);exact jp ⟨rfl,rfl⟩
 refine jY orr ?_ λ_ _ h=>h;rintro r s2 ⟨rfl,rfl⟩;rw[aI rfl];refine j4 (jp ?_);obtain⟨oa,esa,epa,sta,a1,a2,a3,a4,a5,a6,a7,a8⟩:=ha1.ents;obtain⟨ob,esb,epb,stb,b1,b2,b3,b4,b5,b6,b7,b8⟩:=hb1.ents;unfold JL;refine j4 (j4 (Ym (s:={ s with heap:=h1 }) b1 b3 b4 (jp ?_)));refine j4 (j4 (Ym (s:={ s with heap:=h1 }) a1 a3 a4 (jp ?_)));have done:∀ h2,Qp s.heap.objs.size h1 h2->IsSetS P w s.heap.objs.size (l.filter λx=>aE (x∈m)) h2->jJ (jO P w) A.in1 (pure (Qa s.heap.objs.size)) (λa s'=>jJ (jO P w) A.in1 (ret a) (λfin s'=>∃ v,fin=Fin.done (Flow.ret v)/\v≠NU/\Q v s') E s') E { s with heap:=h2 }:=λh2 sb hs=>by
  refine jp ?_;refine jp ⟨_,rfl,by simp,q h2 hs λx o e=>(sb.2 x ?_).trans (k1 x o e)⟩
  exact jG (jo e)
 have half:∀(x y:jw) (lx ly:List Str) (oy:Obj) (ey:Array (Int × j8)) (py:Nat) (ty:Jg),x≠s.heap.objs.size->y≠s.heap.objs.size->IsSetS P w x lx h1->ly.Nodup->ly.length < 2000->h1.get? y=aA oy->oy.data=.set ey py ty->ty.fits ey.size=aC->IsSetS P w y ly h1->ey.size=ly.length->
   (∀ e∈ey.toList,(∃ tk,e.2=ZO (dI e.2) tk)/\e.1=(strKind P w).hash (dI e.2))->(∀ q,q∈ey.toList.map (λe=>dI e.2)↔q∈ly)->(ly.filter λq=>aE (q∈lx)).length=(l.filter λq=>aE (q∈m)).length->(∀ q,q∈(ly.filter λq=>aE (q∈lx))↔q∈(l.filter λq=>aE (q∈m)))->
   jJ (jO P w) A.in1 (do
         let was <-setEpoch y
         let __do_lift <-Wq y [x,s.heap.objs.size] (aA s.heap.objs.size)
         forIn __do_lift NM fun(x_1:Int × j8) __s=>do
            Yz [x_1.2] do
              let __do_lift <-setFind x x_1.2 x_1.1
              if __do_lift.isSome=aC then do
                let _ <-setAddHashed s.heap.objs.size x_1.2 x_1.1
                pure ()
               else pure ()
            Zj (toString "frozenset."++toString "__and__") y was
            pure (Qk NM)
         pure ()) (λ_ s'=>jJ (jO P w) A.in1 (pure (Qa s.heap.objs.size)) (λa s'=>jJ (jO P w) A.in1 (ret a) (λfin s'=>∃ v,fin=Fin.done (Flow.ret v)/\v≠NU/\Q v s') E s') E s') E { s with heap:=h1 }:=by
  intro x y lx ly oy ey py ty hx hy sx nd hz' y1 y2 y3 sy y4 y5 y6 y7 y8;refine j4 (WO (s:={ s with heap:=h1 }) y1 y2 y3 ?_);refine j4 (Ul (s:={ s with heap:=h1 }) y1 y2 y3 (λz hz=>?_) hr1 λes' h2 p sb hr2=>?_)
  ·simp only[jy,Zp,or_false] at hz;rcases hz with rfl |rfl |rfl
   ·exact⟨_,sy⟩
   ·exact⟨_,sx⟩
   ·exact⟨_,hr1⟩
  ·have pm:(es'.toList.map λe=>dI e.2).Perm ly:=by
    refine(p.map _).trans (vg ly _ nd (λq hq=>(y6 q).mpr hq) ?_);rw[j5,QD,y4]; exact ji _
   refine j4 (UM (s:={ s with heap:=h2 }) hx hy (sx.at λo e=>(sb.2 x hx).trans e) ((sb.2 y hy).trans y1) y2 y3 hr2 (pm.nodup_iff.mpr nd) ?_ (λe he=>y5 e (p.mem_iff.mp he)) λh3 sb3 hs3=>?_)
   ·rw[<-QD,p.length_eq,QD,y4];unfold gN;lia
   ·refine jp (done h3 (sb.trans sb3) (hs3.same (λq=>?_) ?_))
    ·rw[<-y8 q,jQ,jQ,pm.mem_iff]
    ·rw[<-y7]; exact(pm.filter _).length_eq
 by_cases hlt:esb.size > esa.size
 ·rw[aI hlt];exact half b a m l oa esa epa sta nb na hb1 hl (by lia) a1 a3 a4 ha1 a5 a7 a8 rfl λq=>Iff.rfl
 ·rw[aH hlt];exact half a b l m ob esb epb stb na nb ha1 hm (by lia) b1 b3 b4 hb1 b5 b7 b8 (Up m l hm hl) λq=>by simp[jQ,and_comm]
end
section
theorem Ob:c9 X (gG .BitAnd) (λx y H Q=>∃ a b l m,x=.ref a/\y=.ref b/\a≠b/\H a=aA (fg X a l)/\H b=aA (fg X b m)/\l.Nodup/\m.Nodup/\l.length+m.length < 2000/\∀ c,H c=aB->Q (.ref c) (aR H c (fg X c (l.filter λx=>aE (x∈m))))):=by
 intro pc s σ H x y v u Q I rx ry h;obtain⟨a,b,l,m,rfl,rfl,hab,ha,hb,hl,hm,hz,q⟩:=h;cases rx;cases ry;obtain⟨sa,_,_⟩:=(show ObjOk X.prog X.w H s.heap a (fg X a l) from I.hok a _ ha);obtain⟨sb,_,_⟩:=(show ObjOk X.prog X.w H s.heap b (fg X b m) from I.hok b _ hb);refine Pi hab sa sb hl hm hz λh' hs k=>?_;have new:ObjOk X.prog X.w (aR H s.heap.objs.size (fg X s.heap.objs.size (l.filter λx=>aE (x∈m)))) h' s.heap.objs.size (fg X s.heap.objs.size (l.filter λx=>aE (x∈m))):=⟨hs,by obtain⟨o,_,_,_,e,_⟩:=hs; exact⟨o,e⟩,λh1 h2 x k=>x.at k⟩
 exact⟨.ref s.heap.objs.size,_,I.laid (a:=s.heap.objs.size) (t':=s.toks) (λb o e=>k b o e) (ji _) new,rfl,q _ (I.hok.fresh (ji _))⟩
end
section
variable {R:JF->jd->Prop}{I:jw}{fp wr:List jw}{G:Array Yd->Array Yd->Prop}{n:Nat}{Pv:Nat->j8->Prop}{St:Nat->jd->Prop}
def two(v:j8)(c:Nat):Obj:={ cls:=.type "list",dict:=aB,data:=.seq #[v,v] c,slots:=#[] }
end
abbrev Aj(elt t1 i1 t2 i2:Q3)(scope:gQ)(pos:Pos):Q3:=.ListComp elt [⟨t1,i1,[],0⟩,⟨t2,i2,[],0⟩] scope pos
section
variable {prog:jI}
def qF(prog:jI)(w:Qe)(A:Qh)(it:jw)(S:QN->Prop):Prop:=∀(s:jd) (Q:j8->jd->Prop) (E:j8->jd->Prop),S s.heap->
 (∀ h' e,N4 it s.heap h'->(∃ o,h'.get? e=aA o/\o.cls=.type "StopIteration")->E (.ref e) { s with heap:=h' })->jJ (jO prog w) A (Z3 (.ref it)) Q E s
structure ZAp (z TI TO i1 i2:jw) (f1 f2:List jw):Prop where
 TIz:TI≠z
 TOz:TO≠z
 i1z:i1≠z
 i2z:i2≠z
 TITO:TI≠TO
 TIi1:TI≠i1
 TIi2:TI≠i2
 TOi1:TO≠i1
 TOi2:TO≠i2
 z1:z∉f1
 z2:z∉f2
 o1:TO∉f1
 o2:TO∉f2
 a1:i1∉f2
 a2:i2∉f1
theorem Sw{z TI TO i1 i2:jw}{f1 f2:List jw}{n1 n2 k:Nat}{P1 P2:Nat->j8->Prop}{S1 S2:Nat->QN->Prop}{a b:j8}{Q:j8->jd->Prop}(D:ZAp z TI TO i1 i2 f1 f2)
  (D1:Uc prog w A i1 f1 n1 P1 S1) (D2:Uc prog w A i2 f2 n2 P2 S2) (hz:Wr s.heap z TI TO .none) (hTI:gF s.heap TI (.ref i1) (.ref i2)) (hTO:gF s.heap TO a b)
  (h1:S1 k s.heap) (h2:S2 k s.heap) (k1:k < n1) (k2:k < n2)
  (hQ:∀ x y h' tk,P1 k x->P2 k y->Wr h' z TI TO (rawInt s.heap.objs.size)->gF h' TO x y->S1 (k+1) h'->S2 (k+1) h'->gF h' s.heap.objs.size x y->h'.objs.size=s.heap.objs.size+1->
   (∀ c o,c≠z->c≠TO->c≠i1->c≠i2->s.heap.get? c=aA o->h'.get? c=aA o)->Q (.ref s.heap.objs.size) { s with heap:=h',toks:=tk }) :
  jJ (jO prog w) A (WN.«zip.__next__» ⟨[.ref z],[]⟩) (λfin s'=>∃ v,fin=.done (.ret v)/\Q v s') E s:=by
 show jJ _ _ (field (.ref z) 2 >>= _) _ _ _;refine j4 (gB hz rfl (x:=.bool aD) rfl ?_);show jJ _ _ (field (.ref z) 3 >>= _) _ _ _;refine j4 (gB hz rfl (x:=.ref TI) rfl ?_);refine j4 (gs hTI rfl ?_);show jJ _ _ (QH (.ref z) >>= _) _ _ _;refine j4 ?_;unfold QH;refine j4 (gB hz rfl (x:=.none) rfl (jp ?_));simp only[if_true];refine j4 (JJ ?_);refine j4 (gB hz rfl (x:=.ref TO) rfl ?_);refine j4 (Zt hz (by simp) λg1 hz₁ hs₁=>?_)
 replace hz₁:Wr g1 z TI TO .ellipsis:=hz₁
 refine j4 ?_;simp only[Ni,Jo,Yk,Jw];have fr:∀ {f:List jw} {b:jw} {h h':QN},Qp b h h'->b∉f->∀ c∈f,∀ o,h.get? c=aA o->h'.get? c=aA o:=λhs hb c hc o e=>hs.extBut _ _ (λz=>hb (z▸hc)) e;refine j4 (j4 (N7 ?_));show jJ _ _ (Z3 (.ref i1) >>= _) _ _ _;refine j4 (D1.item k _ _ _ k1 (D1.frame _ _ _ h1 (fr hs₁ D.z1)) λx g2 t2 hx st1 hs₂=>jp ?_)
 replace hs₂:Qp i1 g1 g2:=hs₂
 have hTO₂:gF g2 TO a b:=hs₂.extBut _ _ D.TOi1 (hs₁.extBut _ _ D.TOz hTO);refine j4 (gs hTO₂ rfl ?_);refine j4 (Ya hTO₂ λg3 hTO₃ hs₃=>?_)
 replace hTO₃:gF g3 TO x b:=hTO₃
 replace hs₃:Qp TO g2 g3:=hs₃
 refine j4 (Jp (jp ?_));refine j4 (j4 (N7 ?_));show jJ _ _ (Z3 (.ref i2) >>= _) _ _ _;refine j4 (D2.item k _ _ _ k2 (D2.frame _ _ _ (D2.frame _ _ _ (D2.frame _ _ _ h2 (fr hs₁ D.z2)) (fr hs₂ D.a1)) (fr hs₃ D.o2)) λy g4 t4 hy st2 hs₄=>jp ?_)
 replace hs₄:Qp i2 g3 g4:=hs₄
 have hTO₄:gF g4 TO x b:=hs₄.extBut _ _ D.TOi2 hTO₃;refine j4 (gs hTO₄ rfl ?_);refine j4 (Ya hTO₄ λg5 hTO₅ hs₅=>?_)
 replace hTO₅:gF g5 TO x y:=hTO₅
 replace hs₅:Qp TO g4 g5:=hs₅
 refine j4 (Jp (jp (jp ?_)));refine j4 (gs hTO₅ rfl ?_);refine j4 (wpAny_newTuple ?_);have hsz:g5.objs.size=s.heap.objs.size:=by rw[hs₅.1,hs₄.1,hs₃.1,hs₂.1,hs₁.1]
 have hz₅:Wr g5 z TI TO .ellipsis:=hs₅.extBut _ _ D.TOz.symm (hs₄.extBut _ _ D.i2z.symm (hs₃.extBut _ _ D.TOz.symm (hs₂.extBut _ _ D.i1z.symm hz₁)));have hk₅:∀ c o,c≠z->c≠TO->c≠i1->c≠i2->s.heap.get? c=aA o->g5.get? c=aA o:=λc o c1 c2 c3 c4 e=>
  hs₅.extBut _ _ c2 (hs₄.extBut _ _ c4 (hs₃.extBut _ _ c2 (hs₂.extBut _ _ c3 (hs₁.extBut _ _ c1 e))))
 have st1':S1 (k+1) g5:=D1.frame _ _ _ (D1.frame _ _ _ (D1.frame _ _ _ st1 (fr hs₃ D.o1)) (fr hs₄ D.a2)) (fr hs₅ D.o1);have st2':S2 (k+1) g5:=D2.frame _ _ _ st2 (fr hs₅ D.o2);have hzlt:z < g5.objs.size:=jo hz₅;show jJ _ _ (gv (.ref z) (.ref g5.objs.size) >>= _) _ _ _;refine j4 ?_;unfold gv;have hz₆:Wr (g5.push { cls:=.type "tuple",data:=.seq #[x,y] }) z TI TO .ellipsis:=jb _ hz₅;refine j4 (Zt hz₆ (by simp) λg7 hz₇ hs₇=>?_)
 replace hz₇:Wr g7 z TI TO (rawInt g5.objs.size):=hz₇
 refine Zt hz₇ (by simp) λg8 hz₈ hs₈=>?_
 replace hz₈:Wr g8 z TI TO (rawInt g5.objs.size):=hz₈
 have up:∀ c o,c≠z->g5.get? c=aA o->g8.get? c=aA o:=λc o c1 e=>hs₈.extBut _ _ c1 (hs₇.extBut _ _ c1 (jb _ e));have hT₈:gF g8 g5.objs.size x y:=hs₈.extBut _ _ (gD hzlt) (hs₇.extBut _ _ (gD hzlt) (jM _ rfl));have hz8:g8.objs.size=g5.objs.size+1:=by rw[hs₈.1,hs₇.1,gq]
 rw[hsz] at hz₈ hT₈ hz8;refine jp ⟨_,rfl,?_⟩;show Q (.ref g5.objs.size) _;rw[hsz];exact hQ x y g8 _ hx hy hz₈ (up _ _ D.TOz hTO₅) (D1.frame _ _ _ st1' λc hc o e=>up c o (λq=>D.z1 (q▸hc)) e) (D2.frame _ _ _ st2' λc hc o e=>up c o (λq=>D.z2 (q▸hc)) e) hT₈ hz8 λc o c1 c2 c3 c4 e=>up c o c1 (hk₅ c o c1 c2 c3 c4 e)
theorem RX{z TI TO i1 i2:jw}{f1 f2:List jw}{n1 n2 k:Nat}{P1 P2:Nat->j8->Prop}{S1 S2:Nat->QN->Prop}{a b:j8}{Q:Fin->jd->Prop}(D:ZAp z TI TO i1 i2 f1 f2)
  (D1:Uc prog w A i1 f1 n1 P1 S1) (D2:Uc prog w A i2 f2 n2 P2 S2) (hz:Wr s.heap z TI TO .none) (hTI:gF s.heap TI (.ref i1) (.ref i2)) (hTO:gF s.heap TO a b)
  (h1:S1 k s.heap) (h2:S2 k s.heap) (he:qF prog w A i1 (S1 k)∨(k < n1/\qF prog w A i2 (S2 k)))
  (hE:∀ h' e tk,(∀ c o,c≠z->c≠TO->c≠i1->c≠i2->s.heap.get? c=aA o->h'.get? c=aA o)->(∃ o,h'.get? e=aA o/\o.cls=.type "StopIteration")->E (.ref e) { s with heap:=h',toks:=tk }) :
  jJ (jO prog w) A (WN.«zip.__next__» ⟨[.ref z],[]⟩) Q E s:=by
 show jJ _ _ (field (.ref z) 2 >>= _) _ _ _;refine j4 (gB hz rfl (x:=.bool aD) rfl ?_);show jJ _ _ (field (.ref z) 3 >>= _) _ _ _;refine j4 (gB hz rfl (x:=.ref TI) rfl ?_);refine j4 (gs hTI rfl ?_);show jJ _ _ (QH (.ref z) >>= _) _ _ _;refine j4 ?_;unfold QH;refine j4 (gB hz rfl (x:=.none) rfl (jp ?_));simp only[if_true];refine j4 (JJ ?_);refine j4 (gB hz rfl (x:=.ref TO) rfl ?_);refine j4 (Zt hz (by simp) λg1 hz₁ hs₁=>?_)
 replace hz₁:Wr g1 z TI TO .ellipsis:=hz₁
 refine j4 ?_;simp only[Ni,Jo,Yk,Jw];have fr:∀ {f:List jw} {b:jw} {h h':QN},Qp b h h'->b∉f->∀ c∈f,∀ o,h.get? c=aA o->h'.get? c=aA o:=λhs hb c hc o e=>hs.extBut _ _ (λz=>hb (z▸hc)) e;refine j4 (j4 (N7 ?_));show jJ _ _ (Z3 (.ref i1) >>= _) _ _ _;rcases he with e1 |⟨k1,e2⟩
 ·refine j4 (e1 _ _ _ (D1.frame _ _ _ h1 (fr hs₁ D.z1)) λg2 e hs₂ he=>?_);obtain⟨oe,hoe,hce⟩:=he
  replace hs₂:N4 i1 g1 g2:=hs₂
  have hz₂:Wr g2 z TI TO .ellipsis:=hs₂ _ _ D.i1z.symm hz₁;have hez:e≠z:=λx=>by subst x; rw[hz₂] at hoe; cases hoe; simp at hce
  exact Zt hz₂ (by simp) λg3 _ hs₃=>hE g3 e _ (λc o c1 _ c3 _ x=>hs₃.extBut _ _ c1 (hs₂ _ _ c3 (hs₁.extBut _ _ c1 x))) ⟨oe,hs₃.extBut _ _ hez hoe,hce⟩
 ·refine j4 (D1.item k _ _ _ k1 (D1.frame _ _ _ h1 (fr hs₁ D.z1)) λx g2 t2 hx st1 hs₂=>jp ?_)
  replace hs₂:Qp i1 g1 g2:=hs₂
  have hTO₂:gF g2 TO a b:=hs₂.extBut _ _ D.TOi1 (hs₁.extBut _ _ D.TOz hTO);refine j4 (gs hTO₂ rfl ?_);refine j4 (Ya hTO₂ λg3 hTO₃ hs₃=>?_)
  replace hs₃:Qp TO g2 g3:=hs₃
  refine j4 (Jp (jp ?_));refine j4 (j4 (N7 ?_));show jJ _ _ (Z3 (.ref i2) >>= _) _ _ _;refine j4 (e2 _ _ _ (D2.frame _ _ _ (D2.frame _ _ _ (D2.frame _ _ _ h2 (fr hs₁ D.z2)) (fr hs₂ D.a1)) (fr hs₃ D.o2)) λg4 e hs₄ he=>?_);obtain⟨oe,hoe,hce⟩:=he
  replace hs₄:N4 i2 g3 g4:=hs₄
  have hz₄:Wr g4 z TI TO .ellipsis:=hs₄ _ _ D.i2z.symm (hs₃.extBut _ _ D.TOz.symm (hs₂.extBut _ _ D.i1z.symm hz₁));have hez:e≠z:=λx=>by subst x; rw[hz₄] at hoe; cases hoe; simp at hce
  exact Zt hz₄ (by simp) λg5 _ hs₅=>hE g5 e _ (λc o c1 c2 c3 c4 x=>hs₅.extBut _ _ c1 (hs₄ _ _ c4 (hs₃.extBut _ _ c2 (hs₂.extBut _ _ c3 (hs₁.extBut _ _ c1 x))))) ⟨oe,hs₅.extBut _ _ hez hoe,hce⟩
theorem UW{z TI TO i1 i2:jw}{f1 f2:List jw}{n1 n2 k:Nat}{P1 P2:Nat->j8->Prop}{S1 S2:Nat->QN->Prop}{a b:j8}{Q:Option j8->jd->Prop}(D:ZAp z TI TO i1 i2 f1 f2)
  (D1:Uc prog w A.in1 i1 f1 n1 P1 S1) (D2:Uc prog w A.in1 i2 f2 n2 P2 S2) (hz:Wr s.heap z TI TO .none) (hTI:gF s.heap TI (.ref i1) (.ref i2)) (hTO:gF s.heap TO a b)
  (h1:S1 k s.heap) (h2:S2 k s.heap) (k1:k < n1) (k2:k < n2)
  (hQ:∀ x y h' tk,P1 k x->P2 k y->Wr h' z TI TO (rawInt s.heap.objs.size)->gF h' TO x y->S1 (k+1) h'->S2 (k+1) h'->gF h' s.heap.objs.size x y->h'.objs.size=s.heap.objs.size+1->
   (∀ c o,c≠z->c≠TO->c≠i1->c≠i2->s.heap.get? c=aA o->h'.get? c=aA o)->Q (aA (.ref s.heap.objs.size)) { s with heap:=h',toks:=tk }) :
  jJ (jO prog w) A (NX (.ref z)) Q E s:=by
 have hT:s.TypeIs (.ref z) "zip":=⟨_,hz,rfl⟩;unfold NX
 exact j4 (wpAny_attempt (N8 (name:=NE "__next__") hT Yn
  (Ng Yn hT J9
   (Sw D D1 D2 hz hTI hTO h1 h2 k1 k2 λx y h' tk a1 a2 a3 a4 a5 a6 a7 a8 a9=>jp (hQ x y h' tk a1 a2 a3 a4 a5 a6 a7 a8 a9)) (WQ _))))
theorem UF{z TI TO i1 i2:jw}{f1 f2:List jw}{n1 n2 k:Nat}{P1 P2:Nat->j8->Prop}{S1 S2:Nat->QN->Prop}{a b:j8}{Q:Option j8->jd->Prop}(D:ZAp z TI TO i1 i2 f1 f2)
  (D1:Uc prog w A.in1 i1 f1 n1 P1 S1) (D2:Uc prog w A.in1 i2 f2 n2 P2 S2) (hz:Wr s.heap z TI TO .none) (hTI:gF s.heap TI (.ref i1) (.ref i2)) (hTO:gF s.heap TO a b)
  (h1:S1 k s.heap) (h2:S2 k s.heap) (he:qF prog w A.in1 i1 (S1 k)∨(k < n1/\qF prog w A.in1 i2 (S2 k)))
  (hQ:∀ h' tk,(∀ c o,c≠z->c≠TO->c≠i1->c≠i2->s.heap.get? c=aA o->h'.get? c=aA o)->Q aB { s with heap:=h',toks:=tk }):jJ (jO prog w) A (NX (.ref z)) Q E s:=by
 have hT:s.TypeIs (.ref z) "zip":=⟨_,hz,rfl⟩;unfold NX
 refine j4 (wpAny_attempt (N8 (name:=NE "__next__") hT Yn
  (Ng Yn hT J9 (RX D D1 D2 hz hTI hTO h1 h2 he λh' e tk hk he=>?_) (WQ _))))
 obtain⟨o,ho,hc⟩:=he;refine j4 (Nh (T:="StopIteration") (b:=aC) ⟨o,ho,hc⟩ isSubtype_stop ?_);exact jp (hQ _ _ hk)
end
theorem Inv.pair{X:Cx}{pc:List (jw × Obj)}{sg:St}{H:Hp}{s:jd}{h2:QN}{tk:Nat}{ch:List jw}{x y:V}{u v:j8}(I:Inv X pc sg H s)(hf:∀ b∈ch,ez X pc H b)
  (keep2:∀ b o,b∉ch->s.heap.get? b=aA o->h2.get? b=aA o) (tup2:gF h2 s.heap.objs.size u v) (ru:RelV x u) (rv:RelV y v) :
  Inv X pc sg (aR H s.heap.objs.size (.tup [x,y])) { s with heap:=h2,toks:=tk }:=by
 have hn:H s.heap.objs.size=aB:=I.hok.fresh (ji _);have nH:∀ b v,H b=aA v->b∉ch/\b≠s.heap.objs.size:=λb v q=>⟨(λz=>by rw[(hf b z).1] at q; cases q),cZ q hn⟩
 refine I.step (g':=s.gens) (d':=s.drawn) (ch:=ch) (λb hb=>?_) (λb o _ _ hc q _=>keep2 b o hc q)
  (λb o _ _ hc q _=>⟨o.slots,keep2 b o hc q⟩) (λb o hc q n=>by rw[ac (jG (jo q))]; exact n)
  (λb o hc q=>⟨o,keep2 b o hc q⟩) (λb ys q=>by rw[ac (nH b _ q).2]; exact q) (λb o v q=>by rw[ac (nH b _ q).2]; exact q)
  (λb ps q=>⟨#[],by rw[ac (nH b _ q).2,q]; simp⟩) (λm hm=>?_) (λb v' q=>?_) I.bare
 ·obtain⟨f0,f1,f2,f3,f4,f5⟩:=hf b hb;exact⟨f3,f1,f4,f5⟩
 ·obtain⟨o,es,ep,ho,r⟩:=hm;exact⟨o,es,ep,keep2 _ o (λz=>(hf _ z).2.1 rfl) ho,r⟩
 ·by_cases hb:b=s.heap.objs.size
  ·subst hb;rw[bq] at q;cases q;exact⟨by show 2<=jr; decide,[u,v],.cons ru (.cons rv .nil),_,tup2,rfl,_,rfl⟩
  ·rw[ac hb] at q;refine(I.hok b v' q).stay (λc v'' hc q'=>?_) (λc q'=>by rw[ac (nH c _ q').2]; exact q') λc ys q'=>by rw[ac (nH c _ q').2]; exact q'
   rcases hc with z |z
   ·exact keep2 c v'' (by rw[z]; exact(nH b v' q).1) q'
   ·exact keep2 c v'' (nH c _ z).1 q'
theorem Inv.turnedS{X:Cx}{pc:List (jw × Obj)}{sg:St}{H:Hp}{s:jd}{h':QN}{t':Nat}{ch:List jw}(I:Inv X pc sg H s)(hf:∀ b∈ch,ez X pc H b)
  (k:∀ b o,b∉ch->s.heap.get? b=aA o->h'.get? b=aA o):Inv X pc sg H { s with heap:=h',toks:=t' }:=by
 have nH:∀ b v,H b=aA v->b∉ch:=λb v q z=>by rw[(hf b z).1] at q; cases q
 refine I.step (g':=s.gens) (d':=s.drawn) (ch:=ch) (λb hb=>?_) (λb o _ _ hc e _=>k b o hc e) (λb o _ _ hc e _=>⟨o.slots,k b o hc e⟩) (λ_ _ _ _ n=>n)
  (λb o hc e=>⟨o,k b o hc e⟩) (λ_ _ e=>e) (λ_ _ _ e=>e) (λb ps e=>⟨#[],by rw[e]; simp⟩) (λm hm=>?_) (λb u e=>?_) I.bare
 ·obtain⟨f0,f1,f2,f3,f4,f5⟩:=hf b hb;exact⟨f3,f1,f4,f5⟩
 ·obtain⟨o,es,ep,ho,r⟩:=hm;exact⟨o,es,ep,k _ o (λz=>(hf _ z).2.1 rfl) ho,r⟩
 ·refine(I.hok b u e).stay (λc v hc q=>?_) (λc q=>q) λc xs q=>q;rcases hc with z |z
  ·exact k c v (by rw[z]; exact nH b u e) q
  ·exact k c v (nH c _ z) q
section
theorem RY(n l d:Nat)(h1:l < n)(h2:d < n):ZAp (n+4) (n+2) (n+3) n (n+1) [n,l] [n+1,d]:=by
 constructor<;>first |(show @Ne Nat _ _; lia) |(intro h; simp only[jy,gy,or_false] at h; rcases h with h |h<;>(replace h:@Eq Nat _ _:=h; lia))
end
def B9(K:j9)(a b:jw):It:=
  ⟨λi H=>∃ xs x ys y,ad K H a xs/\xs[i]?=aA x/\ad K H b ys/\ys[i]?=aA y,
   λi H v H'=>∃ p x y,v=.ref p/\H p=aB/\H'=aR H p (.tup [x,y])/\(∀ xs,ad K H a xs->xs[i]?=aA x)/\∀ ys,ad K H b ys->ys[i]?=aA y,
   λi H=>∃ xs ys,ad K H a xs/\ad K H b ys/\(xs.length<=i∨ys.length<=i)⟩
theorem Sv{P:jI}{w:Qe}{K:j9}{elts:List Q3}{x1:Nat}{tp:Pos}(a d z TI TO i1 i2:jw)(D:ZAp z TI TO i1 i2 [i1,a] [i2,d])(hai:a≠i1)(hdi:d≠i2) :
  Turn P w K (.Tuple elts x1 tp) (B9 K a d) [z,TI,TO,i1,i2] z
   (λi h=>Wr h z TI TO .none/\gF h TI (.ref i1) (.ref i2)/\(∃ u v,gF h TO u v)/\h.IsListIter i1 a i/\h.IsListIter i2 d i) where
 mem:=by simp
 obj:=λi h st b hb=>by
  obtain⟨hz,hTI,⟨u,v,hTO⟩,⟨o1,e1,c1,d1⟩,⟨o2,e2,c2,d2⟩⟩:=st;simp only[jy,gy,or_false] at hb;rcases hb with q |q |q |q |q
  ·rw[q]; exact⟨_,hz,λv z=>by have z':Jj _=Wb v:=z; cases z'⟩
  ·rw[q]; exact⟨_,hTI,λv z=>by have z':Ue _ _=Wb v:=z; cases z'⟩
  ·rw[q]; exact⟨_,hTO,λv z=>by have z':Ue _ _=Wb v:=z; cases z'⟩
  ·rw[q]; exact⟨_,e1,λv z=>by rw[d1] at z; cases z⟩
  ·rw[q]; exact⟨_,e2,λv z=>by rw[d2] at z; cases z⟩
 keep:=λi h h' st k=>by
  obtain⟨hz,hTI,⟨u,v,hTO⟩,h1,h2⟩:=st;exact⟨k z (by simp) _ hz,k TI (by simp) _ hTI,⟨u,v,k TO (by simp) _ hTO⟩,h1.at λo e=>k i1 (by simp) o e,h2.at λo e=>k i2 (by simp) o e⟩
 item:=by
  intro X hP hw hK hc i pc s sg H E I hf st hg;subst hP hw hK;obtain⟨hz,hTI,⟨u,v,hTO⟩,h1,hit⟩:=st;obtain⟨xs,x,ys,y,hqx,hx,hqy,hy⟩:=hg;obtain⟨its,rv,p,hz'⟩:=I.list hqx;obtain⟨w1,hw1,rw1⟩:=rv.get hx;obtain⟨its2,rv2,p2,hz2⟩:=I.list hqy;obtain⟨w2,hw2,rw2⟩:=rv2.get hy;have hlt1:i < its.toArray.size:=by simpa using (j7.mp hw1).1
  have hlt2:i < its2.toArray.size:=by simpa using (j7.mp hw2).1
  have D1:=WR (prog:=X.prog) (w:=X.w) (A:=X.A.in1) (I.ok.hd hc) i1 a hai its.toArray;have D2:=WR (prog:=X.prog) (w:=X.w) (A:=X.A.in1) (I.ok.hd hc) i2 d hdi its2.toArray;refine UW D D1 D2 hz hTI hTO ⟨h1,p.isList⟩ ⟨hit,p2.isList⟩ hlt1 hlt2 λux uy h1' tk hux huy zo to st1 st2 htup hsz keep1=>?_;have hux':its[i]?=aA ux:=by simpa using hux
  rw[hw1] at hux';obtain rfl:=jh hux';have huy':its2[i]?=aA uy:=by simpa using huy
  rw[hw2] at huy';obtain rfl:=jh huy';refine⟨_,rfl,wpAny_letOwnedTupleGo_zip zo λh2 zn sb=>?_⟩;have keep2:∀ b o,b∉[z,TI,TO,i1,i2]->s.heap.get? b=aA o->h2.get? b=aA o:=λb o nn q=>(sb.2 b (λe=>nn (by simp[e]))).trans (keep1 b o (λe=>nn (by simp[e])) (λe=>nn (by simp[e])) (λe=>nn (by simp[e])) (λe=>nn (by simp[e])) q)
  have zlt:z < s.heap.objs.size:=jo hz;have I2:=I.pair (tk:=tk) (x:=x) (y:=y) hf keep2 ((sb.2 _ (gD zlt)).trans htup) rw1 rw2;refine⟨.ref s.heap.objs.size,_,I2,rfl,⟨s.heap.objs.size,x,y,rfl,I.hok.fresh (ji _),rfl,λys h'=>by rw[I.list_inj h' hqx]; exact hx,λys h'=>by rw[I.list_inj h' hqy]; exact hy⟩,⟨zn,(sb.2 _ D.TIz).trans (keep1 _ _ D.TIz D.TITO D.TIi1 D.TIi2 hTI),⟨_,_,(sb.2 _ D.TOz).trans to⟩,st1.1.at λo q=>(sb.2 _ D.i1z).trans q,st2.1.at λo q=>(sb.2 _ D.i2z).trans q⟩,λb hb=>?_⟩
  rw[ac (jG ?_)]
  ·exact(hf b hb).1
  ·simp only[jy,gy,or_false] at hb;rcases hb with q |q |q |q |q
   ·rw[q]; exact zlt
   ·rw[q]; exact jo hTI
   ·rw[q]; exact jo hTO
   ·rw[q]; obtain⟨o,ho,_⟩:=h1; exact jo ho
   ·rw[q]; obtain⟨o,ho,_⟩:=hit; exact jo ho
 done:=by
  intro X hP hw hK hc i pc s sg H E I hf st hg;subst hP hw hK;obtain⟨hz,hTI,⟨u,v,hTO⟩,h1,hit⟩:=st;obtain⟨xs,ys,hqx,hqy,hx⟩:=hg;obtain⟨its,rv,p,hz'⟩:=I.list hqx;obtain⟨its2,rv2,p2,hz2⟩:=I.list hqy;have hl:=rv2.length;have hl2:=rv.length;have D1:=WR (prog:=X.prog) (w:=X.w) (A:=X.A.in1) (I.ok.hd hc) i1 a hai its.toArray;have D2:=WR (prog:=X.prog) (w:=X.w) (A:=X.A.in1) (I.ok.hd hc) i2 d hdi its2.toArray;have he:qF X.prog X.w X.A.in1 i1 (λh=>h.IsListIter i1 a i/\h.IsList a its.toArray)∨(i < its.toArray.size/\qF X.prog X.w X.A.in1 i2 (λh=>h.IsListIter i2 d i/\h.IsList d its2.toArray)):=by
   rcases NF i its.toArray.size with hi |hi
   ·have hi2:i < its.length:=by simpa using hi
    exact .inr ⟨hi,λs Q E st hE=>NG (I.ok.hd hc) st.1 st.2 (No (by simp; lia)) hE⟩
   ·exact .inl λs Q E st hE=>NG (I.ok.hd hc) st.1 st.2 (No hi) hE
  refine UF D D1 D2 hz hTI hTO ⟨h1,p.isList⟩ ⟨hit,p2.isList⟩ he λh' tk kp=>⟨rfl,?_⟩;exact I.turnedS (t':=tk) (ch:=[z,TO,i1,i2]) (λb hb=>hf b (by simp only[jy,gy,or_false] at hb ⊢; rcases hb with q |q |q |q<;>simp[q])) (λb o hb q=>kp b o (λe=>hb (by simp[e])) (λe=>hb (by simp[e])) (λe=>hb (by simp[e])) (λe=>hb (by simp[e])) q)
 self:=λ_ _ _ _ _ st h=>wpAny_pyIter_zip st.1 h
section
def IH(K:j9)(ta:TA):TI:=λsg H R=>ta sg H λvs H1=>∃ a b xs ys,vs=[.ref a,.ref b]/\ad K H1 a xs/\ad K H1 b ys/\R (B9 K a b) H1
theorem O9{elts:List Q3}{x1:Nat}{tp:Pos}{a b:Q3}{ta:TA}{p pos:Pos}(hg:Gl X "zip")(hm:X.mg "zip"=aB)(ha:PA X [a,b] ta)(hs:jf [a,b] X.env=(aD,eval a X.env)::jf [b] X.env:=by rfl)(hs2:(QQ pos (jf [b] X.env)).any (·.1)=aD:=by rfl) :
  PI X (.Tuple elts x1 tp) (.Call (.Name "zip" p) [a,b] [] pos) (IH X.K ta):=by
 intro pc s sg H R I h;refine Call_ (iz I hg hm PyProof.Rows.boot_zip (Qj (aV (ha pos pc s sg H _ I h) λus s1 ⟨vs,H1,I1,r1,q1⟩=>?_) hs hs2));obtain⟨a1,a2,xs,ys,e,hqx,hqy,q⟩:=q1;subst e;cases r1 with
 |cons r rr=>
  cases rr with
  |cons r' rr=>
   cases rr;cases r;cases r';obtain⟨its,rv,pl,hz⟩:=I1.list hqx;obtain⟨its2,rv2,bt,hz2⟩:=I1.list hqy;have lt1:a1 < s1.heap.objs.size:=by obtain⟨o,ho,_⟩:=pl.isList; exact jo ho
   have lt2:a2 < s1.heap.objs.size:=by obtain⟨o,ho,_⟩:=bt.isList; exact jo ho
   refine call_zip_2 pl.isList bt.isList λh' hz hTI hTO hi1 hi2 hsz kp=>wpAny_pyIter_zip hz ?_;refine⟨s1.heap.objs.size+4,[s1.heap.objs.size+4,s1.heap.objs.size+2,s1.heap.objs.size+3,s1.heap.objs.size,s1.heap.objs.size+1],_,_,H1,rfl,I1.kept (t':=s1.toks) kp,Sv a1 a2 _ _ _ _ _ (RY _ a1 a2 lt1 lt2) (jG lt1) (jG (Z0 lt2)),⟨hz,hTI,⟨_,_,hTO⟩,hi1,hi2⟩,λb hb=>?_,q⟩;have le:s1.heap.objs.size<=b:=by
    simp only[jy,gy,or_false] at hb;rcases hb with h |h |h |h |h<;>rw[h]<;>first |exact ji _ |exact Nat.le_add_right _ _
   exact I1.fpOk le (I1.hok.fresh le)
end
def rL:List Int->Int
 |[]=>0
 |x::xs=>xs.foldl (λa b=>if a < b then b else a) x
theorem Oy{ns:List Int}{m:Int}(hm:m∈ns)(h:∀ x∈ns,x<=m):rL ns=m:=by
 cases ns with
 |nil=>cases hm
 |cons x xs=>
  show xs.foldl (λa b=>if a < b then b else a) x=m
  have h1:=fold_max xs x;have:m<=xs.foldl (λa b=>if a < b then b else a) x:=by
   rcases jy.mp hm with e |e
   ·rw[e]; exact h1.2.1
   ·exact h1.2.2 m e
  have:xs.foldl (λa b=>if a < b then b else a) x<=m:=by
   rcases h1.1 with e |e
   ·rw[e]; exact h x (jW ..)
   ·exact h _ (jA _ e)
  lia
theorem Dj{zs:Array (Int × Tok)}{ns:List Int}(e:ns=zs.toList.map (·.1))(i:Nat):numAt zs i=ns[i]?.getD 0:=by
 subst e;unfold numAt;rw[jg,Y2]
section
theorem RC(hc:X.calm=aC):CallR X (.builtin "max") (λxs H Q=>∃(a:jw) (ns:List Int),xs=[V.ref a]/\ad X.K H a (ns.map V.int)/\0 < ns.length/\Q (.int (rL ns)) H):=by
 intro pc s σ H xs us Q I rv h;obtain⟨a,ns,rfl,hq,hn,q⟩:=h;obtain⟨u,rfl,ru⟩:=rv.one;cases ru;obtain⟨its,r,p,hz⟩:=I.list hq;have hi:=F7 r;obtain⟨zs,hx⟩:=hi.allInts.items;have e1:ns=zs.toList.map (·.1):=by
  rw[<-nums_intItems,<-hx];exact(show numsOf its.toArray.toList=ns from hi.numsOf).symm
 have el:zs.size=ns.length:=by rw[e1]; simp
 refine max_intList (xs:=zs) (I.ok.hd hc) (hx▸p.isList) (by lia) λv h' tk hv k=>?_
 obtain⟨t,rfl⟩:=intItems_at hv;have b:=argBest_gt (numAt zs) (zs.size - 1);have e2:rL ns=numAt zs (argBest (λi j=>aE (numAt zs i > numAt zs j)) (zs.size - 1)):=by
  refine Oy ?_ λx hx=>?_
  ·rw[Dj e1,j3 (by lia)]
   exact jX _
  ·obtain⟨j,hj,rfl⟩:=QF hx;have:=b.2 j (by lia)
   rw[Dj e1 j,j3 hj] at this;exact this
 rw[<-e2];exact⟨.int (rL ns),H,I.kept k,⟨_,rfl⟩,q⟩
end
end L2
namespace L2
open PySem PySem.Spec PyProof.Rows
open PySem.W (hideAll hideAll_get of_hideAll hideAll_none funFrames_hide)
structure Fly (P:jI) (w:Qe) (outer:List Env) (H:Hp) (s:jd) (x C:jw) (a0:j8) (B:QN) (H':Hp) (s':jd):Prop where
 os:s'.os=s.os
 bare:YY s'.gens
 fly:U3 B outer x (.ref C) a0 s'.heap
 hok:bw P w H' B
 un:Un (cf outer) [] H H' s.heap s'.heap
 keep:∀ b o,s.heap.get? b=aA o->H b=aB->b∉cf outer->B.get? b=aA o
 has:∀ b o,s.heap.get? b=aA o->b∉cf outer->∃ o',B.get? b=aA o'
 fr:∀ b∈cf outer,H' b=aB
def lw(P:jI)(w:Qe):fP:=λouter H s E e s'=>∃ x C a0 B H',e=.ref x/\Fly P w outer H s x C a0 B H' s'/\E (.ref C) aB H'
theorem Fly.on{P:jI}{w:Qe}{outer:List Env}{H H':Hp}{s s':jd}{x C:jw}{a0:j8}{B h'':QN}(F:Fly P w outer H s x C a0 B H' s')(st:B.StaysIn h'')(up:s'.heap.UpToSlots h'')(funs:s.heap.FunFrames base outer) :
  Un (cf outer) [] H H' s.heap h'':=by
 have sl:∀ b o,s.heap.get? b=aA o->H b=aB->b∈cf outer->∃ sl,h''.get? b=aA { o with slots:=sl }:=λb o e n hb=>by
  obtain⟨sl,e1⟩:=F.un.slot b o e n hb (by simp)
  obtain⟨_,o',ho',hd'⟩:=funs.mem hb;rw[e] at ho';obtain rfl:=jh ho';obtain⟨sl2,e2⟩:=up b _ e1 hd';exact⟨sl2,e2⟩
 refine⟨λb o e n hb _=>st b o (F.keep b o e n hb),λb o e n hb _=>sl b o e n hb,F.un.free,λb o e _=>?_,F.un.tups,F.un.frzs,F.un.tbls⟩
 by_cases hb:b∈cf outer
 ·obtain⟨o1,e1⟩:=F.un.there b o e (by simp)
  obtain⟨_,o',ho',hd'⟩:=funs.mem hb
  by_cases n:H b=aB
  ·obtain⟨sl,e2⟩:=sl b o e n hb;exact⟨_,e2⟩
  ·obtain⟨_,_,ho2,hd2⟩:=F.fly.2.2.1.mem hb;obtain⟨sl,e2⟩:=up b _ ho2 hd2;exact⟨_,e2⟩
 ·obtain⟨o',e1⟩:=F.has b o e hb;exact⟨o',st b o' e1⟩
end L2
namespace L2
open PySem PySem.Spec PyProof.Rows
def nO(X:Cx):St:=gY X.N.length aB
abbrev Cx.held(X:Cx)(x:jw):Cx:={ X with A:=X.A.mark (aA (.ref x)),calm:=aD,xe:=λ_ _=>False }
section
variable {X:Cx}{pc:List (jw × Obj)}{σ:St}{H H':Hp}{s:jd}{x:jw}
theorem Inv.held(I:Inv X pc σ H s)(x:jw):Inv (X.held x) pc σ H s:=
 ⟨⟨I.ok.mod,I.ok.kind,I.ok.glob,I.ok.blt,I.ok.above,I.ok.inj,I.ok.has,I.ok.cab,(λz=>by cases z),I.ok.frames,I.ok.stk,I.ok.exf,I.ok.bs,I.ok.bsz,I.ok.noex,I.ok.exfs,I.ok.funs,I.ok.frf⟩,I.os,I.bare,I.base,I.loc,I.cell,I.free,I.freeC,I.pin,I.hok,I.len⟩
theorem Inv.unheld(ok:X.Ok)(I:Inv (X.held x) pc σ H s):Inv X pc σ H s:=
 ⟨ok,I.os,I.bare,I.base,I.loc,I.cell,I.free,I.freeC,I.pin,I.hok,I.len⟩
theorem Inv.nopins(I:Inv X pc σ H s):Inv X [] σ H s:=Inv.unpinned (pc:=[]) (pl:=pc) (by simpa using I)
theorem PY{i:Nat}{v:V}:(nO X)[i]?≠aA (aA v):=λe=>by
 unfold nO at e;rw[gJ] at e;split at e<;>cases e
theorem Inv.noNames(I:Inv X pc σ H s):Inv X pc (nO X) H s:=I.forget (by unfold nO; rw[Y0]; exact I.len.symm) λi v e=>absurd e PY
end
def tT(X:Cx)(st:QR)(t:TS):Prop:=∀(s:jd) (σ:St) (H:Hp) (D:Ends),Inv X [] σ H s->t D σ H->jJ (jO X.prog X.w) X.A (exec st X.env) (SP X [] D) X.xe s
def nC(X:Cx)(st:List QR)(t:TS):Prop:=∀(s:jd) (σ:St) (H:Hp) (D:Ends),Inv X [] σ H s->t D σ H->jJ (jO X.prog X.w) X.A (execs st X.env) (SP X [] D) X.xe s
section
variable {X:Cx}
theorem Fly.inv{pc:List (jw × Obj)}{σ:St}{H1 H':Hp}{s1 s':jd}{x C:jw}{a0:j8}{B h'':QN}{tk:Nat}(I1:Inv X pc σ H1 s1)(F:Fly X.prog X.w X.stack H1 s1 x C a0 B H' s')(st:B.StaysIn h'')(up:s'.heap.UpToSlots h''):Inv X [] (nO X) H' { s' with heap:=h'',toks:=tk }:=
 (I1.nopins.noNames).call' (ch:=[]) (s':={ s' with heap:=h'',toks:=tk }) F.os (F.on st up I1.stack) (F.hok.kept st) F.bare (λb hb=>by simp at hb)
end
end L2
namespace L2
open PySem PySem.Spec PySem.Calls PyProof.Rows PySem.W Builtin Builtin.ObjectAttr Builtin.Getset_descriptor
def HH(x C:jw)(h:QN):Prop:=∃ o,h.get? x=aA o/\o.cls=.ref C
section
variable {prog:jI}{w:Qe}{A:Qh}{E:j8->jd->Prop}{K:Frag}{x C:jw}{h:QN}{g:Array Yd}{d:Drawn}{t:Nat}{os:OsState}
theorem E3(M:U7)(h:QN)(p:HH x C h):Looks M h (typeOf (.ref x)) (.ref C):=by
 obtain⟨o,h1,h2⟩:=p;exact h2▸(Looks.ld h1).andThen .now
end
end L2
namespace L2
open PySem PySem.Spec PyProof.Rows
theorem Ke{CX:fP}{P:jI}{w:Qe}{K:j9}{mg:Str->Option j8}{base:QN}{k:Nat}{f:jw}{name qual:Str}{params:Wg}{body:List QR}{scope:gQ}{dV kV doc pm cdv ct oc:j8}{an od:Option jw}
  {osl:Array (Option j8)} {N ps:List Str} {sp:Sp} (lk:K.lookup f=aA ⟨oc,od,.func (Q0 name qual params body scope dV kV doc pm an cdv ct),osl⟩) (hcd:Z2 K cdv qual=aC) (S:FnScope N ps scope)
  (len:∀ vs H Q E,sp vs H Q E->vs.length=ps.length)
  (hbody:∀(A:Qh) (outer:List Env) (s:jd) (H:Hp) (vs:List V) (Q:VK) (E:XK),Room k (A.deeper (Zy qual scope s.heap.objs.size f cdv))->A.frames=aA outer->sp vs H Q E->
   ∃ t,nC (dr CX P w K mg base N qual scope f cdv A outer s H E) body t/\t { nx:=λ_ H'=>Q .non H',rt:=Q } (start N vs) H) :
  FnOk P w K mg base CX (k+1) f (Q0 name qual params body scope dV kV doc pm an cdv ct) ps sp:=by
 refine⟨len,λA outer s H args us vs Q E hr e0 hb r hsp=>?_⟩;have hl:=len _ _ _ _ hsp;have KX:K.In s.heap:=e0.mod.kin.keeps λb o e=>(e0.bs b o e).1;have lim:s.heap.NoLimit:=e0.mod.nolimit.keeps λb o e=>(e0.bs b o e).1;have hkind:∀ y∈ps.zip us,scope.names.lookup y.1=aA .local∨(scope.names.lookup y.1=aA .cell/\((We (s.heap.objs.size+1) scope.names []).lookup y.1).isSome=aC):=fun⟨n,v⟩ hy=>by
  rcases S.par n (Yh hy).1 with q |q
  ·exact .inl q
  ·exact .inr ⟨q,gR _ _ _ (.inl q)⟩
 refine Y1 hr.depth (KX _ _ lk) rfl S.co S.gen rfl (Yv KX hcd) (hb _ _ _ _ ?_);refine gg S.kind hkind λenv he s1 x=>?_;subst he;refine⟨lim.keeps x.toInCall.keep,WU ?_⟩;obtain⟨t,ht,hq⟩:=hbody A outer s H vs Q E (hr.deeper _) e0.frames hsp;have I:Inv (dr CX P w K mg base N qual scope f cdv A outer s H E) [] (start N vs) H s1:=EW S hr.hd e0 hl r x;refine jY (ht s1 (start N vs) H _ I hq) (λfl s' hs=>?_) λe s' hs=>hs;have fin:∀ {σ':St} {H':Hp} {v:V} {u:j8},Inv (dr CX P w K mg base N qual scope f cdv A outer s H E) [] σ' H' s'->RelV v u->Q v H'->CE outer P w H s Q u s':=
  λ{σ' H' v u} J rv q=>⟨v,H',J.os,J.bare,J.base,J.hok,rv,q⟩
 cases fl with
 |ret u=>
  obtain⟨v,σ',H',J,rv,q⟩:=hs;exact fin J rv q
 |next=>
  obtain⟨σ',H',J,q⟩:=hs;exact fin (v:=V.non) (u:=YG) J rfl q
 |brk=>
  obtain⟨_,_,_,q⟩:=hs;exact Zl q
 |cont=>
  obtain⟨_,_,_,q⟩:=hs;exact Zl q
theorem bv.zero{X:Cx}{st:List QR}{t:TS}(h:bv X st t):nC X st t:=λs σ H D I q=>h [] s σ H D I q
def iV(h:QN)(C:jw)(rest:List j8):QN:=(h.push { cls:=.type "tuple",data:=.seq rest.toArray }).push { cls:=.ref C,data:=.fields #[.ref h.objs.size,.none,.none,.none,.bool aD,.none] }
section
variable {prog:jI}{w:Qe}{A:Qh}{E:j8->jd->Prop}{h:QN}{g:Array Yd}{d:Drawn}{t:Nat}{os:OsState}
variable {nm q:Str}{C N:jw}{bs bm bmB:List j8}{hdct:Bool}{sn:List Str}{sub:List j8}{ab:Bool}{col:Option Bool}{dd:Option jw}{k0 k1 k2 k3 k5:Option j8}{B newId initId:String}
theorem Uk(F:ExcBaseFacts B newId initId bmB)(T:OwnTail h bmB bm){mN:Str->Option j8}{rest:List j8}{f:jw}{of:Obj}{Q:Fin->jd->Prop}
  (hC:h.get? C=aA (Yo nm q C N bs bm hdct sn sub ab col dd k0 k1 k2 k3 k5 newId)) (hn:h.Ns N mN) (hi:mN "__init__"=aA (.ref f)) (hfo:h.get? f=aA of) (hfc:of.cls=.type "function")
  (hq:jJ (jO prog w) A (call (.ref f) (.ref (h.objs.size+1)::rest)) (λv s'=>v=.none/\Q (.done (.ret (.ref (h.objs.size+1)))) s') E ⟨iV h C rest,g,d,t,os⟩) (hrest:rest.length<=jr:=by size_fits) :
  jJ (jO prog w) A (WN.«type.__call__» ⟨.ref C::rest,[]⟩) Q E ⟨h,g,d,t,os⟩:=by
 repeat (first |with_reducible refine Z1 hC ?_ |with_reducible refine wpAny_madeBy_exc hC ?_ |wp_step)
 refine codeAny_call_builtin_code (Yw _ F.quiet) (wpAny_check_new_subT F T hC ?_);refine codeAny_exc_new_subT F T hC ?_ hrest;show jJ _ _ _ _ _ _;have keep:∀ b o,h.get? b=aA o->(iV h C rest).get? b=aA o:=λb o e=>jb _ (jb _ e);have hC₁:=keep _ _ hC;have hn₁:(iV h C rest).Ns N mN:=let ⟨o,es,ep,e,r⟩:=hn; ⟨o,es,ep,keep _ _ e,r⟩
 have hget:(iV h C rest).get? (h.objs.size+1)=aA { cls:=.ref C,data:=.fields #[.ref h.objs.size,.none,.none,.none,.bool aD,.none] }:=by
  unfold iV
  heap_get
 have hcC:(Qa C::bm).contains (.ref C)=aC:=by simp
 have T₁:=T.keeps keep;have hfo₁:=keep _ _ hfo;unfold iV at hC₁ hn₁ hget T₁ hfo₁ hq;unfold WP
 repeat (first |with_reducible refine Z1 hget ?_ |(with_reducible refine gC hC₁ ?_; rw[hcC]) |wp_step)
 show jJ _ _ (JG (.ref C) _) _ _ _;refine wpAny_typeLookup_tail hC₁ hn₁ T₁ F.mroIs F.init.lookup ?_;rw[hi];refine Qi (j4 (wpAny_bindSpecial_def hfo₁ hfc ?_));refine j4 (jY hq (λv s' z=>?_) λ_ _ z=>z);obtain⟨rfl,z⟩:=z;refine jp ?_;show jJ _ _ (if (YG != YG)=aC then _ else _) _ _ _
 rw[aH (by decide)]
 exact jp z
theorem R9(F:ExcBaseFacts B newId initId bmB)(T:OwnTail h bmB bm){mN:Str->Option j8}{rest:List j8}{f:jw}{of:Obj}{Q:j8->jd->Prop}
  (hC:h.get? C=aA (Yo nm q C N bs bm hdct sn sub ab col dd k0 k1 k2 k3 k5 newId)) (hn:h.Ns N mN) (hi:mN "__init__"=aA (.ref f)) (hfo:h.get? f=aA of) (hfc:of.cls=.type "function")
  (hq:jJ (jO prog w) (A.under (.builtin "type.__call__" ⟨.ref C::rest,[]⟩)) (call (.ref f) (.ref (h.objs.size+1)::rest)) (λv s'=>v=.none/\Q (.ref (h.objs.size+1)) s') E ⟨iV h C rest,g,d,t,os⟩) (hrest:rest.length<=jr:=by size_fits) :
  jJ (jO prog w) A (call (.ref C) rest) Q E ⟨h,g,d,t,os⟩:=by
 have f1:=tc_lookup;have f2:=tc_bind (.ref C);have hT:(⟨h,g,d,t,os⟩:jd).TypeIs (.ref C) "type":=⟨_,hC,rfl⟩;refine WD (codeAny_of_tree ?_);show jJ _ _ (callAny (.ref C) _) _ _ _
 repeat (any_goals (first |assumption |with_reducible refine Z1 hC ?_ |wp_step))
 refine⟨rfl,?_⟩;refine codeAny_call_builtin_at (Yw _ (by decide +kernel)) entry_typeCall (wpAny_check_type_call_sub hC (Uk (hrest:=hrest) F T hC hn hi hfo hfc ?_))
 exact jY hq (λv s' z=>z) λe s' z=>z
end
end L2
namespace L2
open PySem PySem.Spec PySem.Calls PyProof.Rows PySem.W Builtin Builtin.ObjectAttr
section
variable {prog:jI}{w:Qe}{A:Qh}{E:j8->jd->Prop}{h:QN}{g:Array Yd}{d:Drawn}{t:Nat}{os:OsState}{K:Frag}{x C D:jw}{cd:Jq}{name:Str}{v:j8}
structure XStore (K:Frag) (C D:jw) (cd:Jq) (name:Str):Prop where
 cl:clsIn K C=aA cd
 mro:cd.mro=[.ref C,.ref D,.type "ValueError",.type "Exception",.type "BaseException",.type "object"]
 hd:cd.hasDict=aC
 sa:findIn K (.ref C) "__setattr__"=aA (aA (.builtin "object.__setattr__"))
 no:findIn K (.ref C) name=aA aB
theorem UO{tk:Tok}{Q:Fin->jd->Prop}{o:Obj}(X:K.In h)(c:XStore K C D cd name)(hx:h.get? x=aA o)(hc:o.cls=.ref C)(hnc:∀ c,o.data≠.cls c)(hdn:o.dict=aB)
  (hq:∀ h' tk',h'.Ns1 h.objs.size (λy=>if y=name then aA v else aB)->(∀ b o,b≠x->h.get? b=aA o->h'.get? b=aA o)->h'.get? x=aA { o with dict:=aA h.objs.size }->Q (.done (.ret .none)) ⟨h',g,d,tk',os⟩) :
  jJ (jO prog w) A (WN.«object.__setattr__» ⟨[.ref x,.str name tk,v],[]⟩) Q E ⟨h,g,d,t,os⟩:=by
 have hpass:=Ws.passes (.ref x);have L0:=E3 (jO prog w) h ⟨o,hx,hc⟩;have LC:=looks_clsIn (M:=jO prog w) X c.cl;have LM:Looks (jO prog w) h (mroOf (.ref C)) cd.mro:=LC.andThen .now;have LN:=looks_findIn (M:=jO prog w) X c.no;rw[osa_eq,refuse_eq];refine j4 (j4 (L0.at (j4 (LM.at ?_))));rw[c.mro,refuseLoop_ref,refuseLoop_ref,hpass];refine jp (j4 (L0.at (j4 (LN.at (j4 (jp ?_))))));dsimp only
 repeat (first |(with_reducible refine Z1 hx ?_; rw[hc]) |with_reducible refine LC.at ?_ |wp_step)
 rw[c.hd,aH (by decide)]
 dsimp only;rw[hdn,aH (by simp[typeHasDict])]
 split
 ·rename_i hcd;cases hcd
 split
 ·rename_i c' hcd;exact absurd hcd (hnc c')
 ·have hx₁:(h.push { cls:=.type "dict",data:=.dict #[] }).get? x=aA o:=jb _ hx;have hxs:x≠h.objs.size:=jG (jo hx);refine j4 (wpAny_alloc' ?_);refine j4 (wpAny_update' hx₁ ?_);refine jp ?_;have hgd:((h.push { cls:=.type "dict",data:=.dict #[] }).update x λo=>{ cls:=o.cls,dict:=aA h.objs.size,data:=o.data,slots:=o.slots }).get? h.objs.size
    = aA { cls:=.type "dict",data:=.dict #[] }:=
   (W6 _ _ _ _ hxs.symm).trans (Heap.get?_push_at rfl rfl)
  have hnd:((h.push { cls:=.type "dict",data:=.dict #[] }).update x λo=>{ cls:=o.cls,dict:=aA h.objs.size,data:=o.data,slots:=o.slots }).Ns h.objs.size (λ_=>aB):=
   ⟨_,#[],_,hgd,rfl,λe he=>absurd he (by simp),λ_=>rfl⟩
  show jJ _ _ (storeInDict h.objs.size (.str name tk) name v) _ _ _;unfold storeInDict newKeyGuard;refine j4 (jp (j4 (wpAny_nsSet1 (Heap.Ns1.of_empty hnd) λh' hn' hs=>?_)));obtain⟨oD,esD,epD,hoD,hdD,hcD⟩:=hn'.count (Within.cons name v Within.nil);refine j4 (wpAny_lookBehind hoD (by rw[hdD]; exact pastItsLine_dict (Q9 hcD (by rw[jk,ZE,ZL]; lia))) ?_)
  wp_walk
  refine hq h' _ hn' (λb ob hbx hb=>?_) ?_
  ·exact(hs.2 b (jG (jo hb))).trans ((W6 _ _ _ _ hbx).trans (jb _ hb))
  ·refine(hs.2 x hxs).trans (Nu _ hx₁ ?_);have hfr:=(Heap.get?_some_iff.mp hx).2;obtain⟨oc,od,odt,osl⟩:=o;cases odt<;>first |rfl |exact hfr
theorem Te{Q:Unit->jd->Prop}{o:Obj}(X:K.In h)(c:XStore K C D cd name)(hx:h.get? x=aA o)(hc:o.cls=.ref C)(hnc:∀ c,o.data≠.cls c)(hdn:o.dict=aB)
  (hq:∀ h' tk',h'.Ns1 h.objs.size (λy=>if y=name then aA v else aB)->(∀ b o,b≠x->h.get? b=aA o->h'.get? b=aA o)->h'.get? x=aA { o with dict:=aA h.objs.size }->Q () ⟨h',g,d,tk',os⟩) :
  jJ (jO prog w) A (setAttr (.ref x) name v) Q E ⟨h,g,d,t,os⟩:=by
 have L0:=E3 (jO prog w) h ⟨o,hx,hc⟩;have LS:=looks_findIn (M:=jO prog w) X c.sa;have LC:=looks_clsIn (M:=jO prog w) X c.cl;have LO:Looks (jO prog w) h (WP (.ref x) (.type "object")) aC:=L0.andThen (looks_mroIn X (by unfold mroIn; rw[c.cl,ja,c.mro]; rfl))
 have f3:=Ws.slot.bind (.ref x);have SF:=F.store_object;unfold setAttr callSpecial? specialOf
 repeat (any_goals (first |assumption |with_reducible refine L0.at ?_ |with_reducible refine LS.at ?_ |wp_step))
 refine NT SF.slot.plain SF.entry (@check_slot (jO prog w) _ _ _ "object.__setattr__" "object" "__setattr__" (.ref x) [.str name t,v] [] _ SF.kind SF.split LO (SF.args (.ref x) (.str name t) v) ?_);refine UO X c hx hc hnc hdn λh' tk' a1 a2 a3=>?_
 repeat (any_goals (first |assumption |wp_step))
 exact hq h' tk' a1 a2 a3
end
end L2
namespace L2
open PySem PySem.Spec PyProof.Rows
variable {A:Qh}
section
variable {M:U7}{E:j8->jd->Prop}{env:Env}
variable {nm q:Str}{C N:jw}{bs bm:List j8}{hdct:Bool}{sn:List Str}{sub:List j8}{ab:Bool}{col:Option Bool}{dd:Option jw}{k0 k1 k2 k3 k5:Option j8}{newId:String}
theorem TN{s:jd}{x:Sem j8}{Q:Flow->jd->Prop}(hbase:bm.contains (.type "BaseException")=aC)(hh:A.handled=aB)
  (h:jJ M A x (λv s₁=>∃ e t dx sl,v=.ref e/\s₁.heap.get? C=aA (Yo nm q C N bs bm hdct sn sub ab col dd k0 k1 k2 k3 k5 newId) /\
   s₁.heap.get? e=aA { cls:=.ref C,dict:=dx,data:=.fields #[.ref t,.none,.none,.none,.bool aD,.none],slots:=sl }/\E (.ref e) s₁) E s) :
  jJ M A (raiseStmt env (aA x) aB) Q E s:=by
 have hcB:(Qa C::bm).contains (.type "BaseException")=aC:=by rw[Yx,hbase,U4]
 unfold raiseStmt;refine j4 (jY h (λv s₁ h₁=>?_) λ_ _ x=>x);obtain⟨e,t,dx,sl,rfl,hC,he,hE⟩:=h₁;obtain⟨hp,g,d,tk,os⟩:=s₁
 repeat (first |with_reducible refine Z1 he ?_ |with_reducible refine Z1 hC ?_ |(with_reducible refine gC hC ?_; rw[hcB]) |wp_step)
 exact wpAny_raiseNew_none hh hE
end
structure MadeD (h h':QN) (e C:jw):Prop where
 keeps:∀ b o,h.get? b=aA o->h'.get? b=aA o
 new:h.get? e=aB
 there:∃ t dx sl,h'.get? e=aA { cls:=.ref C,dict:=dx,data:=.fields #[.ref t,.none,.none,.none,.bool aD,.none],slots:=sl }
section
variable {M:U7}{E:j8->jd->Prop}{s:jd}
theorem Tg{base h:QN}{env:Env}{outer:List Env}{L e C:jw}{Q:Unit->jd->Prop}
  (hfr:A.frames=aA (env::outer)) (hf:env.frame=aA L) (hkb:base.StaysIn h) (hl:h.FunFrames base (env::outer)) (hx:MadeD h s.heap e C)
  (hQ:∀ h' t,U3 base outer e (.ref C) (.ref t) h'->s.heap.UpToSlots h'->Q () { s with heap:=h' }):jJ M A (leaving env (.ref e)) Q E s:=by
 obtain⟨t,dx,sl,he⟩:=hx.there;have fresh:∀ b,h.get? b=aB->base.get? b=aB:=λb hb=>by
  cases hq:base.get? b with
  |none=>rfl
  |some o'=>have:=hkb b o' hq; rw[hb] at this; cases this
 refine wpAny_leaving_firstW (a0:=.ref t) hfr (hl.of_keeps λb o hb _=>⟨o,hx.keeps b o hb,rfl⟩) hf he (λb o hb=>hx.keeps b o (hkb b o hb)) (fresh e hx.new) rfl rfl rfl λh' hL=>?_;obtain⟨k1,⟨_,_,k2⟩,k3,k4⟩:=hL;exact hQ h' t ⟨k1,fresh e hx.new,k2,k3⟩ k4
end
open PySem.W (hideAll hideAll_get of_hideAll hideAll_none funFrames_hide)
section
variable {P:jI}{w:Qe}{K:j9}{mg:Str->Option j8}{base:QN}{N:List Str}{qual:Str}{scope:gQ}{f:jw}{cd:j8}{outer:List Env}{s:jd}{H:Hp}{E:XK}
theorem TQ{pc:List (jw × Obj)}{σ:St}{Hc:Hp}{s2:jd}{h':QN}{e C:jw}{tk:Nat}
  (I:Inv (dr (lw P w) P w K mg base N qual scope f cd A outer s H E) pc σ Hc s2) (hA:A.frames=aA outer) (hx:MadeD s2.heap h' e C) (hE:E (.ref C) aB Hc) :
  (dr (lw P w) P w K mg base N qual scope f cd A outer s H E).xe (.ref e) { s2 with heap:=h',toks:=tk }:=by
 show jJ (jO P w) (A.deeper (Zy qual scope s.heap.objs.size f cd)) (leaving (Zy qual scope s.heap.objs.size f cd) (.ref e)) _ _ _;have stk:=I.stack;have fsub:∀ env∈(Zy qual scope s.heap.objs.size f cd::outer),∀ b,env.frame=aA b->b∈cf (Zy qual scope s.heap.objs.size f cd::outer):=λenv he b hb=>Yt.mpr ⟨env,he,hb⟩;refine Tg (base:=hideAll s2.heap (cf (Zy qual scope s.heap.objs.size f cd::outer))) (NP hA) rfl (λb o q=>of_hideAll _ q) (funFrames_hide stk fsub) hx λh'' t x1 x4=>?_;have own:∀ b o,s.heap.get? b=aA o->b∉cf outer->b∉cf (Zy qual scope s.heap.objs.size f cd::outer):=λb o q hb hm=>by
  unfold cf at hm;rw[ZK] at hm;rcases jy.mp hm with z |z
  ·exact absurd (jo q) (by rw[z]; exact Q4 _)
  ·exact hb z
 have un:Un (cf outer) [] H Hc s.heap s2.heap:=I.base;have up:s2.heap.UpToSlots h'':=(JT hx.keeps).trans x4;refine⟨e,C,_,hideAll s2.heap (cf (Zy qual scope s.heap.objs.size f cd::outer)),Hc,rfl,⟨I.os,I.bare,x1,λa o q=>?_,⟨λb o q n hb _=>?_,λb o q n hb _=>?_,un.free,λb o q _=>?_,un.tups,un.frzs,un.tbls⟩,λb o q n hb=>?_,λb o q hb=>?_,λb hb=>?_⟩,hE⟩
 ·have nf:∀ b u,Hc b=aA u->b∉cf (Zy qual scope s.heap.objs.size f cd::outer):=λb u hu hm=>by
   rw[I.stkFree b hm] at hu;cases hu
  exact(I.hok a o q).stay (λb u hb r=>N9 _ r (by
   rcases hb with rfl |hb
   ·exact nf _ _ q
   ·exact nf _ _ hb)) (λ_ r=>r) λ_ _ r=>r
 ·exact x1.1 b o (N9 _ (un.keep b o q n hb (by simp)) (own b o q hb))
 ·obtain⟨sl,e1⟩:=un.slot b o q n hb (by simp)
  obtain⟨_,o',ho',hd'⟩:=I.funs.mem hb;rw[e1] at ho';obtain rfl:=jh ho';obtain⟨sl2,e2⟩:=up b _ e1 hd';exact⟨sl2,e2⟩
 ·obtain⟨o1,e1⟩:=un.there b o q (by simp)
  by_cases hb:b∈cf outer
  ·obtain⟨_,o',ho',hd'⟩:=I.funs.mem hb;obtain⟨sl2,e2⟩:=up b _ ho' hd';exact⟨_,e2⟩
  ·exact⟨o1,x1.1 b o1 (N9 _ e1 (own b o q hb))⟩
 ·exact N9 _ (un.keep b o q n hb (by simp)) (own b o q hb)
 ·obtain⟨o1,e1⟩:=un.there b o q (by simp)
  exact⟨o1,N9 _ e1 (own b o q hb)⟩
 ·refine I.stkFree b ?_;show b∈cf (Zy qual scope s.heap.objs.size f cd::outer);unfold cf;rw[ZK];exact jA _ hb
end
end L2
namespace L2
open PySem PySem.Spec PyProof.Rows
theorem PR{P:jI}{w:Qe}{K:j9}{A:Qh}{E:j8->jd->Prop}{s:jd}{f e C D:jw}{cdt:Jq}{u:j8}{o:Obj}{n1 n2:Str}{p1 p2 p3 p4:Pos}
  {name qual:Str} {params:Wg} {scope:gQ} {dV kV doc pm cdv ct oc:j8} {an od:Option jw} {osl:Array (Option j8)} {Q:j8->jd->Prop}
  (KX:K.In s.heap) (lim:s.heap.NoLimit) (lk:K.lookup f=aA ⟨oc,od,.func (Q0 name qual params [.Assign [.Attribute (.Name n1 p1) n2 p2] (.Name n2 p3) p4] scope dV kV doc pm an cdv ct),osl⟩) (hcd:Z2 K cdv qual=aC)
  (S:FnScope [n1,n2] [n1,n2] scope) (l1:scope.names.lookup n1=aA .local) (l2:scope.names.lookup n2=aA .local) (hd1:(n1 == ("__debug__":Str))=aD) (hd2:(n2 == ("__debug__":Str))=aD)
  (hb:W3 s (Q0 name qual params [.Assign [.Attribute (.Name n1 p1) n2 p2] (.Name n2 p3) p4] scope dV kV doc pm an cdv ct) ⟨[.ref e,u],[]⟩ ([n1,n2].zip [.ref e,u])) (hdp:A.depth < W0)
  (c:XStore K C D cdt n2) (he:s.heap.get? e=aA o) (hc:o.cls=.ref C) (hnc:∀ c,o.data≠.cls c) (hdn:o.dict=aB)
  (hq:∀ h' tk dx,(∀ b ob,b≠e->s.heap.get? b=aA ob->h'.get? b=aA ob)->h'.get? e=aA { o with dict:=aA dx }->Q .none { s with heap:=h',toks:=tk }) :
  jJ (jO P w) A (call (.ref f) [.ref e,u]) Q E s:=by
 have hkind:∀ y∈[n1,n2].zip [Qa e,u],scope.names.lookup y.1=aA .local∨(scope.names.lookup y.1=aA .cell/\((We (s.heap.objs.size+1) scope.names []).lookup y.1).isSome=aC):=fun⟨n,v⟩ hy=>by
  rcases jy.mp (show (n,v)∈[(n1,Qa e),(n2,u)] from hy) with z |z
  ·cases z; exact .inl l1
  ·rcases jy.mp z with z |z
   ·cases z; exact .inl l2
   ·cases z
 refine WD (Y1 hdp (KX _ _ lk) rfl S.co S.gen rfl (Yv KX hcd) (hb _ _ _ _ ?_));refine gg S.kind hkind λenv henv s1 x=>?_;subst henv;refine⟨lim.keeps x.toInCall.keep,WU ?_⟩;have hns:=x.toInCall.ns;obtain⟨h1,tk,rfl,hk⟩:=x.done;have nd:[n1,n2].Nodup:=S.nd;have g1:=vJ (kindOf:=(Zy qual scope s.heap.objs.size f cdv).kindOf) (m:=λ_=>aB) (i:=0) (vs:=[Qa e,u]) nd rfl rfl l1;have g2:=vJ (kindOf:=(Zy qual scope s.heap.objs.size f cdv).kindOf) (m:=λ_=>aB) (i:=1) (vs:=[Qa e,u]) nd rfl rfl l2;refine Y5 (plainObj_wpAny_Assign_Attribute (NK (Y9 S.kind l2 hns g2 (NK (Y9 S.kind l1 hns g1 ?_) hd1)) hd2) rfl);refine Te (KX.keeps hk) c (hk _ _ he) hc hnc hdn λh' tk' a1 a2 a3=>ZW ?_;exact hq h' tk' h1.objs.size (λb ob hb q=>a2 b ob hb (hk b ob q)) a3
structure XClsI (K:j9) (h:QN) (C D:jw) (bm:List j8):Prop where
 obj:∃ N nm q bs hdct sn sub ab col dd k0 k1 k2 k3 k5 mN f,h.get? C=aA (Yo nm q C N bs bm hdct sn sub ab col dd k0 k1 k2 k3 k5 "ValueError.__new__")/\h.Ns N mN/\mN "__init__"=aA (.ref f)/\OwnTail h [.type "ValueError",.type "Exception",.type "BaseException",.type "object"] bm /\
  ∃ n1 n2 p1 p2 p3 p4 name qual params scope dV kV doc pm cdv ct od an osl cdt,K.lookup f=aA ⟨.type "function",od,.func (Q0 name qual params [.Assign [.Attribute (.Name n1 p1) n2 p2] (.Name n2 p3) p4] scope dV kV doc pm an cdv ct),osl⟩/\Z2 K cdv qual=aC /\
   FnScope [n1,n2] [n1,n2] scope/\scope.names.lookup n1=aA .local/\scope.names.lookup n2=aA .local/\(n1 == ("__debug__":Str))=aD/\(n2 == ("__debug__":Str))=aD /\
   Binds K (Q0 name qual params [.Assign [.Attribute (.Name n1 p1) n2 p2] (.Name n2 p3) p4] scope dV kV doc pm an cdv ct) [n1,n2] []/\XStore K C D cdt n2
def uk(X:Cx)(E:XK):Prop:=∀(pc:List (jw × Obj)) (σ:St) (H:Hp) (s:jd) (h':QN) (tk:Nat) (e C:jw),Inv X pc σ H s->MadeD s.heap h' e C->E (.ref C) aB H->X.xe (.ref e) { s with heap:=h',toks:=tk }
theorem T2{P:jI}{w:Qe}{K:j9}{mg:Str->Option j8}{base:QN}{N:List Str}{qual:Str}{scope:gQ}{f:jw}{cd:j8}{A:Qh}{outer:List Env}{s:jd}{H:Hp}{E:XK}(hA:A.frames=aA outer) :
  uk (dr (lw P w) P w K mg base N qual scope f cd A outer s H E) E:=λpc σ Hc s2 h' tk e C I hx hE=>TQ (tk:=tk) I hA hx hE
section
variable {X:Cx}{E:XK}{C D:jw}{bm:List j8}{x:Str}{np cpos pos:Pos}{e0:Q3}{t:TA}
theorem Ro{k:Nat}(hR:uk X E)(hc:X.calm=aC)(hr:Room (k+1) X.A)(xc:XClsI X.K X.base C D bm)(hg:Gl X x)(hm:X.mg x=aA (.ref C))(ha:PA X [e0] t)
  (he:jf [e0] X.env=(aD,eval e0 X.env)::jf [] X.env:=by rfl) (hpl:(QQ cpos (jf [] X.env)).any (·.1)=aD:=by rfl) (hd:(x == ("__debug__":Str))=aD:=by decide) :
  PS X (.Raise (aA (.Call (.Name x np) [e0] [] cpos)) aB pos) (λD σ H=>t σ H λvs H1=>vs.length=1/\E (.ref C) aB H1):=by
 intro pc s σ H D' I h;obtain⟨N,nm,q,bs,hdct,sn,sub,ab,col,dd,k0,k1,k2,k3,k5,mN,f,e1,e2,e3,e4,n1,n2,p1,p2,p3,p4,name,qual,params,scope,dV,kV,doc,pm,cdv,ct,od,an,osl,cdt,lk,hcd,S,l1,l2,d1,d2,hbi,xs⟩:=xc.obj;have hbase:=e4.hasType Yb.hasBase;have hplain:(QQ cpos (jf [e0] X.env)).any (·.1)=aD:=by rw[he]; show (aD||(QQ cpos (jf [] X.env)).any (·.1))=aD; rw[hpl]; rfl
 have start:jJ (jO X.prog X.w) X.A (eval (.Name x np) X.env) (λfv s₁=>fv=.ref C/\jJ (jO X.prog X.w) X.A (evalArgs (.ref C) aC (QQ cpos (jf [e0] X.env)) []) (λa s₂=>∃ u vs H1,a=⟨[u],[]⟩/\Inv X pc σ H1 s₂/\Vals vs [u]/\E (.ref C) aB H1) X.xe s₁) X.xe s:=by
  refine yS I hg hm ⟨rfl,?_⟩ hd;have a:=ha cpos pc s σ H _ I h;rw[he] at a ⊢;refine NQ (jY a (λus s2 h2=>?_) λ_ _ y=>y);obtain⟨vs,H1,I1,r,hl,hE⟩:=h2;have hlu:us.length=1:=by rw[<-r.length]; exact hl
  obtain⟨u,rfl⟩:=gS.mp hlu;exact⟨u,vs,H1,rfl,I1,r,hE⟩
 rw[arm_exec_Raise];simp only[evalOpt,Option.map];refine j4 (Zd (TN (C:=C) (nm:=nm) (q:=q) (N:=N) (bs:=bs) (bm:=bm) (hdct:=hdct) (sn:=sn) (sub:=sub) (ab:=ab) (col:=col) (dd:=dd) (k0:=k0) (k1:=k1) (k2:=k2) (k3:=k3) (k5:=k5) (newId:="ValueError.__new__") hbase (I.ok.hd hc) ?_));refine j4 (jY (wpAny_Call_ofName (jY start (λfv s₁ h₁=>?_) λ_ _ y=>y)) (λv s₃ h₃=>j4 (Zd (jp h₃))) λ_ _ y=>y);obtain⟨rfl,h₁⟩:=h₁;unfold callWith;refine j4 (Qi (jY h₁ (λa s₂ h₂=>j4 (Zd ?_)) λ_ _ y=>y));obtain⟨u,vs,H1,rfl,I1,r,hE⟩:=h₂;have bk:=I1.bk;have hC2:=bk _ _ e1;have KX2:=I1.kIn;have lim2:s₂.heap.NoLimit:=I1.mod.nolimit.keeps bk;obtain⟨hp,g,d,tk,os⟩:=s₂;simp only[hplain];refine j4 (PySem.wpAny_keeperOf_exc hC2 ?_);have kp:∀ b o,hp.get? b=aA o->(iV hp C [u]).get? b=aA o:=λb o q=>jb _ (jb _ q);refine j4 (R9 (rest:=[u]) (f:=f) Yb (e4.keeps bk) hC2 (e2.keeps bk) e3 (KX2 _ _ lk) rfl ?_ (by show 1<=jr; decide))
 have hget:(iV hp C [u]).get? (hp.objs.size+1)=aA { cls:=.ref C,data:=.fields #[.ref hp.objs.size,.none,.none,.none,.bool aD,.none] }:=by
  unfold iV
  heap_get
 refine PR (s:=⟨iV hp C [u],g,d,tk,os⟩) (K:=X.K) (D:=D) (KX2.keeps kp) (lim2.keeps kp) lk hcd S l1 l2 d1 d2 (hbi ⟨iV hp C [u],g,d,tk,os⟩ [.ref (hp.objs.size+1),u] (KX2.keeps kp) rfl) (by rw[Sc]; have:=hr.dp; lia) xs hget rfl (λc z=>by cases z) rfl λh' tk' dx a1 a2=>⟨rfl,?_⟩
 have ne:∀ b o,hp.get? b=aA o->b≠hp.objs.size+1:=λb o q z=>absurd (jo q) (by rw[z]; exact Nat.not_lt.mpr (gA _))
 have md:MadeD hp h' (hp.objs.size+1) C:=⟨λb o q=>a1 b o (ne b o q) (kp b o q),NO (gA _),_,_,_,a2⟩;refine j4 (Qi (wpAny_point (jp ?_)));exact⟨_,_,_,_,rfl,md.keeps _ _ hC2,a2,hR pc σ H1 ⟨hp,g,d,tk,os⟩ h' tk' _ C I1 md hE⟩
end
structure XObj (h:QN) (C:jw) (bm:List j8):Prop where
 obj:∃ N nm q bs hdct sn sub ab col dd k0 k1 k2 k3 k5,h.get? C=aA (Yo nm q C N bs bm hdct sn sub ab col dd k0 k1 k2 k3 k5 "ValueError.__new__")/\OwnTail h [.type "ValueError",.type "Exception",.type "BaseException",.type "object"] bm
theorem XObj.keeps{h h':QN}{C:jw}{bm:List j8}(x:XObj h C bm)(k:∀ b o,h.get? b=aA o->h'.get? b=aA o):XObj h' C bm:=by
 obtain⟨N,nm,q,bs,hdct,sn,sub,ab,col,dd,k0,k1,k2,k3,k5,e1,e4⟩:=x.obj;exact⟨N,nm,q,bs,hdct,sn,sub,ab,col,dd,k0,k1,k2,k3,k5,k _ _ e1,e4.keeps k⟩
theorem XClsI.o{K:j9}{h:QN}{C D:jw}{bm:List j8}(x:XClsI K h C D bm):XObj h C bm:=by
 obtain⟨N,nm,q,bs,hdct,sn,sub,ab,col,dd,k0,k1,k2,k3,k5,mN,f,e1,e2,e3,e4,_⟩:=x.obj;exact⟨N,nm,q,bs,hdct,sn,sub,ab,col,dd,k0,k1,k2,k3,k5,e1,e4⟩
section
variable {M:U7}{A:Qh}{E:j8->jd->Prop}
theorem UA{h:QN}{g:Array Yd}{d:Drawn}{t:Nat}{os:OsState}{e C D:jw}{oe:Obj}{bm bmD:List j8}{Q:Bool->jd->Prop}(xc:XObj h C bm)(xd:XObj h D bmD)(he:h.get? e=aA oe)(hcls:oe.cls=.ref C)(hm:(Qa C::bm).contains (.ref D)=aC)
  (hq:Q aC ⟨h,g,d,t,os⟩):jJ M A (excMatches (.ref e) (.ref D)) Q E ⟨h,g,d,t,os⟩:=by
 obtain⟨N,nm,q,bs,hdct,sn,sub,ab,col,dd,k0,k1,k2,k3,k5,hC,_⟩:=xc.obj;obtain⟨N',nm',q',bs',hdct',sn',sub',ab',col',dd',k0',k1',k2',k3',k5',hD,T⟩:=xd.obj;have hcB:(Qa D::bmD).contains (.type "BaseException")=aC:=by rw[Yx,T.hasType (X:="BaseException") (b:=aC) Yb.hasBase,U4]
 have f:=tc_notTuple;unfold excMatches
 repeat (first |(with_reducible refine Z1 he ?_; rw[hcls]) |with_reducible refine Z1 hD ?_ |(with_reducible refine gC hD ?_; rw[hcB]) |(with_reducible refine gC hC ?_; rw[hm]) |wp_step)
 exact hq
end
section
variable {X:Cx}
def Du(X:Cx)(D:jw)(ts:TS)(En:Ends):XK:=λcls _ H'=>∃ C bm,cls=.ref C/\XObj X.base C bm/\(Qa C::bm).contains (.ref D)=aC/\ts { nx:=λ_ _=>False,rt:=En.rt } (nO X) H'
theorem Rp{body suite:List QR}{b0:QR}{d:Str}{np hpos pos:Pos}{tb:XK->TS}{ts:TS}{D:jw}{bmD:List j8}
  (hb:∀ W E,nL (lw X.prog X.w) (X.wish W) E->bv (X.wish W) body (tb E)) (hst:X.stack=X.env::X.outer) (hfr:X.env.frame=aA X.env.locals) (hex:X.ex=[])
  (hgd:Gl X d) (hmd:X.mg d=aA (.ref D)) (xd:XObj X.base D bmD) (hs:∀ x,bv (X.held x) (b0::suite) ts)
  (hdb:(d == ("__debug__":Str))=aD:=by decide) :
  tT X (.Try body [.ExceptHandler (aA (.Name d np)) aB (b0::suite) hpos] [] [] pos) (λEn σ H=>tb (Du X D ts En) En σ H):=by
 intro s σ H En I h;refine wpAny_Try_except ?_;have pass:nL (lw X.prog X.w) (X.wish (λe s1=>jJ (jO X.prog X.w) X.A (Jn e X.env) (λ_ s2=>jJ (jO X.prog X.w) X.A (setFlight e aB) (λ_ s3=>jJ (jO X.prog X.w) X.A (handleBy e X.env [.ExceptHandler (aA (.Name d np)) aB (b0::suite) hpos]) (SP X [] En) X.xe s3) X.xe s2) X.xe s1)) (Du X D ts En):=by
  intro pc σ' H1 s1 ev s' I1 hq;obtain⟨x,C,a0,B,H',rfl,F,C',bm,eC,xc,hm,hsuite⟩:=hq;obtain rfl:C=C':=by injection eC
  have I1:=I1.unwish;have F:Fly X.prog X.w X.stack H1 s1 x C a0 B H' s':=F;have fl:=F.fly;rw[hst] at fl;have hA:X.A.frames=aA (X.env::X.outer):=by rw[<-hst]; exact I.ok.frames
  show jJ (jO X.prog X.w) X.A (Jn (.ref x) X.env) _ _ _;refine wpAny_looks_onW hA hfr fl λh4 held4 up4=>?_;refine wpAny_landsW held4 λh5 fly5 up5=>?_;have J5:Inv X [] (nO X) H' { s' with heap:=h5 }:=F.inv (tk:=s'.toks) I1 fly5.1 (up4.trans up5);obtain⟨oe,he,hcls⟩:=fly5.there;refine wpAny_handleBy_cons (codeAny_handlers_test ?_) (by intro q; cases q)
  refine yS (J5.held x) hgd hmd ?_ hdb;refine UA (xc.keeps J5.bk) (xd.keeps J5.bk) he hcls hm ?_;show Yg _ _ _ _ _;refine codeAny_handlers_suite ?_;refine lands_againW fly5 λh6 fly6 up6=>?_;have J6:Inv X [] (nO X) H' { s' with heap:=h6 }:=F.inv (tk:=s'.toks) I1 fly6.1 ((up4.trans up5).trans up6);refine jY (hs x [] _ _ _ _ (J6.held x) hsuite) (λf s9 q=>?_) λ_ _ z=>Zl z;cases f with
  |next=>obtain⟨_,_,_,q⟩:=q; exact q.elim
  |brk=>obtain⟨_,_,_,q⟩:=q; exact q.elim
  |cont=>obtain⟨_,_,_,q⟩:=q; exact q.elim
  |ret u=>
   obtain⟨v,σ9,H9,I9,r,q⟩:=q;exact⟨v,σ9,H9,I9.unheld I.ok,r,q⟩
 refine jY (hb _ _ pass [] s σ H En (I.wish _) h) (λf s1 q=>?_) λ_ _ z=>z;have q:=q.unwish;cases f with
 |next=>exact ZW q
 |brk=>exact q
 |cont=>exact q
 |ret u=>exact q
end
end L2
namespace L3
open PySem PySem.Spec PyProof.Rows L2
variable [TheK]
variable {X:Cx}{M:List Nat}{a b c e:Q3}{fa fb fe:DE}{p pos:Pos}
def fI(caps:List (Option Nat))(s:Sg):Sg:=caps.map λo=>o.bind λj=>(s[j]?).join
def ca(M:List Nat):List (Option Nat)->Sg->Sg->Sg
 |some j::cs,x::xs,s=>ca M cs xs (if M.contains j then s.set j x else s)
 |none::cs,_::xs,s=>ca M cs xs s
 |_,_,s=>s
structure CapOk (caps:List (Option Nat)) (M Mi:List Nat):Prop where
 yes:∀(i:Nat),i∈Mi->∃ j,caps[i]?=aA (aA j)/\j∈M
 no:∀(i j:Nat),caps[i]?=aA (aA j)->i∉Mi->j∉M
 inj:∀(i i' j:Nat),caps[i]?=aA (aA j)->caps[i']?=aA (aA j)->i=i'
def qD(caps:List (Option Nat))(M Mi:List Nat):Bool:=
 Mi.all (λi=>match caps[i]? with |some (aA j)=>M.contains j |_=>aD) &&
 (j6 caps.length).all (λi=>match caps[i]? with |some (aA j)=>Mi.contains i||!M.contains j |_=>aC) &&
 (j6 caps.length).all (λi=>(j6 caps.length).all λi'=>match caps[i]?,caps[i']? with |some (aA j),aA (aA j')=>j != j'||i == i' |_,_=>aC)
theorem CapOk.of{caps:List (Option Nat)}{M Mi:List Nat}(h:qD caps M Mi=aC):CapOk caps M Mi:=by
 unfold qD at h;rw[jL,jL] at h;obtain⟨⟨h1,h2⟩,h3⟩:=h;have lt:∀ {i:Nat} {o:Option Nat},caps[i]?=aA o->i∈j6 caps.length:=λe=>jc.mpr (j7.mp e).1;refine⟨λi hi=>?_,λi j e n=>?_,λi i' j e e'=>?_⟩
 ·have:=jz.mp h1 i hi;cases hc:caps[i]? with
  |none=>rw[hc] at this; cases this
  |some o=>cases o with
   |none=>rw[hc] at this; cases this
   |some j=>rw[hc] at this; exact⟨j,rfl,by simpa using this⟩
 ·have:=jz.mp h2 i (lt e);rw[e] at this;intro hj;have a:Mi.contains i=aD:=by simpa using n
  have b:M.contains j=aC:=by simpa using hj
  dsimp only at this;rw[a,b] at this;cases this
 ·have:=jz.mp (jz.mp h3 i (lt e)) i' (lt e');rw[e,e'] at this;simpa using this
theorem Dt{caps:List (Option Nat)}{s:Sg}{i:Nat}{t:T}(h:(fI caps s)[i]?=aA (aA t)):∃ j,caps[i]?=aA (aA j)/\s[j]?=aA (aA t):=by
 unfold fI at h;rw[jg] at h;obtain⟨o,h1,h2⟩:=Qm h;cases o with
 |none=>cases h2
 |some j=>exact⟨j,h1,cQ h2⟩
theorem EK{caps:List (Option Nat)}{σ:L2.St}{i j:Nat}(h:caps[i]?=aA (aA j)):(cK caps σ)[i]?=aA (σ[j]?).join:=by
 unfold cK;rw[jg,h];rfl
theorem nZ{caps:List (Option Nat)}{σ:L2.St}{i:Nat}{v:V}(h:(cK caps σ)[i]?=aA (aA v)):∃ j,caps[i]?=aA (aA j)/\σ[j]?=aA (aA v):=by
 unfold cK at h;rw[jg] at h;obtain⟨o,h1,h2⟩:=Qm h;cases o with
 |none=>cases h2
 |some j=>
  refine⟨j,h1,?_⟩;have h2:(σ[j]?).join=aA v:=h2;cases e:σ[j]? with
  |none=>rw[e] at h2; cases h2
  |some x=>rw[e] at h2; cases x with
   |none=>cases h2
   |some y=>injection h2 with h2; rw[h2]
theorem Rel.cap{F:Fr}{O:jw->Prop}{M Mi:List Nat}{s:Sg}{σ:L2.St}{H:Hp}{caps:List (Option Nat)}(R:Rel F O M s σ H)(c:CapOk caps M Mi):Rel F O Mi (fI caps s) (cK caps σ) H:=by
 refine⟨by unfold fI cK; simp,λi t e n=>?_,λi t e n=>?_,λi a hi e=>?_,λi i' a hi hi' e e'=>?_,R.keep,R.dom,R.fresh,R.inD,R.al⟩
 ·obtain⟨j,h1,h2⟩:=Dt e;obtain⟨v,h3,h4⟩:=R.val j t h2 (c.no i j h1 n);exact⟨v,by rw[EK h1,h3]; rfl,h4⟩
 ·obtain⟨j,h1,h2⟩:=Dt e;obtain⟨j',h1',h3⟩:=c.yes i n;rw[h1] at h1';obtain rfl:j=j':=by injection h1' with h; injection h
  obtain⟨a,h4,L⟩:=R.own j t h2 h3;exact⟨a,by rw[EK h1,h4]; rfl,L⟩
 ·obtain⟨j,h1,h2⟩:=nZ e;obtain⟨j',h1',h3⟩:=c.yes i hi;rw[h1] at h1';obtain rfl:j=j':=by injection h1' with h; injection h
  exact R.ow j a h3 h2
 ·obtain⟨j,h1,h2⟩:=nZ e;obtain⟨j',h1',h2'⟩:=nZ e';obtain⟨k,hk,h3⟩:=c.yes i hi;obtain⟨k',hk',h3'⟩:=c.yes i' hi';rw[h1] at hk;rw[h1'] at hk';obtain rfl:j=k:=by injection hk with h; injection h
  obtain rfl:j'=k':=by injection hk' with h; injection h
  have:=R.dis j j' a h3 h3' h2 h2';subst this;exact c.inj i i' j h1 h1'
theorem vT(M:List Nat):∀(caps:List (Option Nat)) (si s:Sg),(ca M caps si s).length=s.length
 |[],_,_=>by unfold ca; rfl
 |none::cs,[],s=>by unfold ca; rfl
 |some j::cs,[],s=>by unfold ca; rfl
 |none::cs,x::xs,s=>by unfold ca; exact vT M cs xs s
 |some j::cs,x::xs,s=>by
  unfold ca;rw[vT M cs xs];split
  ·rw[Qg]
  ·rfl
theorem sY(M:List Nat){j:Nat}:∀(caps:List (Option Nat)) (si s:Sg),(j∉M∨∀ i:Nat,caps[i]?≠aA (aA j))->(ca M caps si s)[j]?=s[j]?
 |[],_,_,_=>by unfold ca; rfl
 |none::cs,[],s,_=>by unfold ca; rfl
 |some k::cs,[],s,_=>by unfold ca; rfl
 |none::cs,x::xs,s,h=>by
  unfold ca;exact sY M cs xs s (h.imp id λz i=>by simpa using z (i+1))
 |some k::cs,x::xs,s,h=>by
  unfold ca;rw[sY M cs xs _ (h.imp id λz i=>by simpa using z (i+1))]
  split
  ·rename_i hk;refine jm λz=>?_;subst z;rcases h with h |h
   ·exact h (by simpa using hk)
   ·exact h 0 rfl
  ·rfl
theorem yu(M:List Nat){j:Nat}(hj:j∈M):∀(caps:List (Option Nat)) (si s:Sg) (i:Nat),caps[i]?=aA (aA j)->(∀ i':Nat,caps[i']?=aA (aA j)->i'=i)->i < si.length->j < s.length->(ca M caps si s)[j]?=si[i]?
 |[],_,_,i,e,_,_,_=>by simp at e
 |c::cs,[],s,i,_,_,hi,_=>by simp at hi
 |none::cs,x::xs,s,i,e,u,hi,hl=>by
  unfold ca;cases i with
  |zero=>simp at e
  |succ i=>
   rw[gP];exact yu M hj cs xs s i (by simpa using e) (λi' e'=>by simpa using u (i'+1) (by simpa using e')) (by simpa using hi) hl
 |some k::cs,x::xs,s,i,e,u,hi,hl=>by
  unfold ca;cases i with
  |zero=>
   have hk:k=j:=by simpa using e
   subst hk;rw[sY M cs xs _ (.inr λi' e'=>by simpa using u (i'+1) (by simpa using e')),aI (by simpa using hj),jV hl]
   rfl
  |succ i=>
   rw[gP];refine yu M hj cs xs _ i (by simpa using e) (λi' e'=>by simpa using u (i'+1) (by simpa using e')) (by simpa using hi) ?_
   split
   ·rw[Qg]; exact hl
   ·exact hl
theorem Rel.back{F:Fr}{O:jw->Prop}{M Mi:List Nat}{s si:Sg}{σ σ2:L2.St}{H2 H4:Hp}{caps:List (Option Nat)}(R:Rel F O M s σ H2)(c:CapOk caps M Mi)(S:Step σ2 Mi H2 H4)(Ri:Rel F O Mi si σ2 H4)
  (hk:∀(i j:Nat),caps[i]?=aA (aA j)->σ2[i]?=(cK caps σ)[i]?) (hl:si.length=caps.length):Rel F O M (ca M caps si s) σ H4:=by
 have addr:∀(i:Nat) b,i∈Mi->σ2[i]?=aA (aA (.ref b))->∃ j,caps[i]?=aA (aA j)/\j∈M/\σ[j]?=aA (aA (.ref b)):=λi b hi e=>by
  obtain⟨j,h1,h2⟩:=c.yes i hi;rw[hk i j h1] at e;obtain⟨j',h3,h4⟩:=nZ e;rw[h1] at h3;obtain rfl:j=j':=by injection h3 with h; injection h
  exact⟨j,h1,h2,h4⟩
 have kf:∀ b u,Free F O b->H2 b=aA u->H4 b=aA u:=λb u z e=>S.keep b u (λi hi e'=>by
  obtain⟨j,_,h2,h3⟩:=addr i b hi e'
  exact z.1 (R.ow j b h2 h3)) e
 refine⟨by rw[vT]; exact R.len,λj t e n=>?_,λj t e n=>?_,R.ow,R.dis,Ri.keep,Ri.dom,R.fresh,R.inD,Ri.al⟩
 ·rw[sY M caps si s (.inl n)] at e;obtain⟨v,h1,h2⟩:=R.val j t e n;exact⟨v,h1,h2.mono (λ_ c=>c) kf⟩
 ·by_cases hc:∃ i:Nat,caps[i]?=aA (aA j)
  ·obtain⟨i,hi⟩:=hc;have hlt:i < caps.length:=(j7.mp hi).1;have hjl:j < s.length:=by
    have:=(j7.mp e).1
    rwa [vT] at this
   rw[yu M n caps si s i hi (λi' e'=>c.inj i' i j e' hi) (by lia) hjl] at e
   have him:i∈Mi:=Decidable.byContradiction λz=>c.no i j hi z n;obtain⟨a,h1,L⟩:=Ri.own i t e him;obtain⟨j',h2,_,h3⟩:=addr i a him h1;rw[hi] at h2;obtain rfl:j=j':=by injection h2 with h; injection h
   exact⟨a,h3,L⟩
  ·rw[sY M caps si s (.inr λi z=>hc ⟨i,z⟩)] at e;obtain⟨a,h1,L⟩:=R.own j t e n;refine⟨a,h1,L.mono (λ_ c=>c) kf λu e'=>S.keep a u (λi hi e''=>?_) e'⟩;obtain⟨j',h2,h3,h4⟩:=addr i a hi e'';have:=R.dis j j' a n h3 h1 h4;subst this;exact hc ⟨i,h2⟩
def lz(g:TG)(dg:DG)(Mi:List Nat)(caps:List (Option Nat)):Prop:=∀ F O s t s' v σ H (Q:L2.St->Hp->Prop),Rel F O Mi s σ H->Rep (Free F O) H v t->dg t s=aA s'->
 (∀ σ',Rel F O Mi s' σ' H->(∀(i j:Nat),caps[i]?=aA (aA j)->σ'[i]?=σ[i]?)->σ'.length=σ.length->Q σ' H)->g v σ H Q
theorem fA{i:Nat}{Mi:List Nat}{caps:List (Option Nat)}(hc:caps[i]?=aA aB:=by rfl)(hi:Mi.contains i=aD:=by rfl):lz (dY i) (au i) Mi caps:=by
 intro F O s t s' v σ H Q R r hg q;have hi':i∉Mi:=by simpa using hi
 unfold au at hg;split at hg
 ·rename_i hl;injection hg with hg;subst hg;refine q _ (R.setE (λj hj=>⟨hj,λz=>hi' (z▸hj)⟩) (λj hj=>.inl hj) hl r) (λk j e=>?_) ?_;exact jm λz=>by subst z; rw[hc] at e; cases e
  exact Qg
 ·cases hg
theorem Cv{Mi:List Nat}{caps:List (Option Nat)}{F:Fr}{O:jw->Prop}{H:Hp}{Q:L2.St->Hp->Prop}:∀ {is:List Nat} {ts:List T} {vs:List V} {s s':Sg} {σ:L2.St},Rel F O Mi s σ H->(∀ i,i∈is->i∉Mi/\caps[i]?=aA aB)->Reps (Free F O) H vs ts->eZ is ts s=aA s'->
  (∀ σ',Rel F O Mi s' σ' H->(∀(i j:Nat),caps[i]?=aA (aA j)->σ'[i]?=σ[i]?)->σ'.length=σ.length->Q σ' H)->iX is vs σ H Q
 |[],[],vs,s,s',σ,R,_,h,e,q=>by
  injection e with e;subst e;exact⟨h.none,q σ R (λ_ _ _=>rfl) rfl⟩
 |[],t::ts,vs,s,s',σ,R,_,h,e,q=>by cases e
 |i::is,[],vs,s,s',σ,R,_,h,e,q=>by cases e
 |i::is,t::ts,[],s,s',σ,R,_,h,e,q=>by have:=h.1; simp at this
 |i::is,t::ts,v::vs,s,s',σ,R,hm,h,e,q=>by
  unfold eZ at e;split at e
  ·rename_i hl;obtain⟨hi,hc⟩:=hm i jW;refine⟨v,vs,rfl,Cv (R.setE (λj hj=>⟨hj,λz=>hi (z▸hj)⟩) (λj hj=>.inl hj) hl h.head) (λj hj=>hm j (jA _ hj)) h.tail e fun σ' R' k l=>q σ' R' (λk' j e'=>(k k' j e').trans ?_) (l.trans Qg)⟩;exact jm λz=>by subst z; rw[hc] at e'; cases e'
  ·cases e
theorem Eg:∀ {is:List Nat} {ts:List T} {s s':Sg},eZ is ts s=aA s'->ts.length=is.length
 |[],[],_,_,_=>rfl
 |[],_::_,_,_,e=>by cases e
 |_::_,[],_,_,e=>by cases e
 |i::is,t::ts,s,s',e=>by
  unfold eZ at e;split at e
  ·rw[jk,jk,Eg e]
  ·cases e
theorem uT{is:List Nat}{n:Nat}{K:j9}{Mi:List Nat}{caps:List (Option Nat)}(hn:is.length=n:=by rfl)(h:is.all (λi=>!Mi.contains i&&caps[i]? == aA aB)=aC:=by rfl):lz (fq K n (iX is)) (eg is) Mi caps:=by
 intro F O s t s' v σ H Q R r hg q;obtain⟨ts,rfl⟩:∃ ts,t=.tup ts:=by cases t<;>first |exact⟨_,rfl⟩ |cases hg
 have hg:eZ is ts s=aA s':=hg;obtain⟨a,vs,rfl,ha,ra⟩:=BRep.tup (.inl r);refine⟨a,vs,rfl,bj.of ha,by rw[ra.1,Eg hg,hn],Cv R (λi hi=>?_) ra hg q⟩
 have:=jz.mp h i hi;rw[jL] at this;exact⟨by simpa using this.1,by simpa using this.2⟩
@[irreducible] def zg8:Nat:=1000000
theorem Df:zg8=1000000:=by unfold zg8; rfl
def nB(M:List Nat)(caps:List (Option Nat))(dg:DG)(ft:DT)(fe:DE):List T->List T->Sg->Option (List T × Sg)
 |[],acc,s=>aA (acc,s)
 |x::xs,acc,s=>(dg x (fI caps s)).bind λs1=>(ft s1).bind λp=>if p.1 then (fe p.2).bind λq=>nB M caps dg ft fe xs (acc++[q.1]) (ca M caps q.2 s) else nB M caps dg ft fe xs acc (ca M caps p.2 s)
def dF(M:List Nat)(caps:List (Option Nat))(fi:DI)(dg:DG)(ft:DT)(fe:DE):DE:=λs=>(fi s).bind λp=>if p.1.length<=zg8 then (nB M caps dg ft fe p.1 [] p.2).map λq=>(.lst q.1,q.2) else aB
def dH:DT:=λs=>aA (aC,s)
theorem Bf{M Mi:List Nat}{caps:List (Option Nat)}{fi:DI}{g:TG}{dg:DG}{ft:DT}{fe:DE}{tt:TT}(c:CapOk caps M Mi)(hg:lz g dg Mi caps)(htt:∀ σ H Q,cT Mi ft σ H Q->tt σ H Q) :
  ∀ σ H Q,cE .n M (dF M caps fi dg ft fe) σ H Q->oi caps (cI M fi) g tt (cE .e Mi fe) σ H Q:=by
 intro σ H Q h_;refine ba h_ λF O s t s' R hf q=>?_;obtain⟨⟨its,s1⟩,h1,h2⟩:=Qb hf;split at h2
 case isFalse=>cases h2
 rename_i hsz;have hsz:its.length<=zg8:=hsz;rw[Df] at hsz;obtain⟨⟨tsE,sE⟩,h3,h4⟩:=Qm h2;injection h4 with h4 h5;subst h4 h5;refine⟨F,O,s,its,s1,R,h1,λJ H1 S1 R1 IT D hD=>?_⟩;have nD:∀(j:Nat),j∈M->σ[j]?≠aA (aA (.ref D)):=λj hj e=>R1.al D (R1.ow j D hj e) hD;have RD:=R1.new hD (.lst [])
 refine⟨λi m H'=>m=its.length - i/\i<=its.length/\∃ s' acc ys,Rel F (λb=>O b∨b=D) M s' σ H'/\H' D=aA (.lst ys)/\ys.length<=i/\Reps (Free F (λb=>O b∨b=D)) H' ys acc/\Step σ M H H' /\
  (∀ b o,Free F O b->H1 b=aA o->H' b=aA o)/\nB M caps dg ft fe (its.drop i) acc s'=aA (tsE,sE),⟨its.length,by simp,QZ _,s1,[],[],RD,bq,ji _,.nil,S1.trans (.new hD _),λb o _ e=>by rw[ac (cZ e hD)]; exact e,h3⟩,?_⟩
 rintro i m H2 ⟨rfl,hi,s2,acc,ys,R2,hD2,hy,ry,S2,k2,hl⟩;have it:=IT H2 k2 i
 by_cases hlt:i < its.length
 ·refine .inr ?_;obtain⟨go,yl⟩:=it.1 its[i] (j3 hlt);rw[Zw hlt] at hl;unfold nB at hl;obtain⟨si1,hdg,hl⟩:=Qb hl;obtain⟨⟨b,si2⟩,hft,hl⟩:=Qb hl;refine⟨go,λx H3 hy3=>?_⟩;obtain⟨y1,y2⟩:=yl x H3 hy3
  -- what was yielded is free of D
  have R3:Rel F (λb=>O b∨b=D) M s2 σ H3/\(∀ b u,H2 b=aA u->H3 b=aA u)/\(∀ b,H3 b=aB->H2 b=aB):=by
   rcases y1 with rfl |⟨p,o,hp,rfl⟩
   ·exact⟨R2,λ_ _ e=>e,λ_ e=>e⟩
   ·exact⟨(R2.new hp o).less (λb z=>.inl z) R2.ow R2.inD,λb u e=>by rw[ac (cZ e hp)]; exact e,λb e=>by
     unfold aR at e;split at e
     ·cases e
     ·exact e⟩
  obtain⟨R3,k3,dm3⟩:=R3
  have rx:Rep (Free F (λb=>O b∨b=D)) H3 x its[i]:=y2.mono (λb z=>by
   rcases z with ⟨z,n⟩ |n
   ·exact⟨λy=>y.elim z.1 λy=>n (y▸hD),z.2⟩
   ·exact⟨λy=>R2.al b y n,.inr (R2.dom b n)⟩) λ_ _ _ e=>e
  have ry3:Reps (Free F (λb=>O b∨b=D)) H3 ys acc:=ry.mono (λ_ z=>z) λb o _ e=>k3 b o e;have hD3:=k3 _ _ hD2;refine hg F _ (fI caps s2) its[i] si1 x (cK caps σ) H3 _ (R3.cap c) rx hdg fun σ4 R4 hk4 hl4=>?_;have hsl:∀ {sx:Sg} {Hx:Hp},Rel F (λb=>O b∨b=D) Mi sx σ4 Hx->sx.length=caps.length:=λ{sx Hx} Rx=>by
   rw[Rx.len,hl4];unfold cK;rw[j5]
  have nD4:∀(k:Nat),k∈Mi->σ4[k]?≠aA (aA (.ref D)):=λk hk e=>by
   obtain⟨j,e1,e2⟩:=c.yes k hk;rw[hk4 k j e1] at e;obtain⟨j',e3,e4⟩:=nZ e;rw[e1] at e3;obtain rfl:j=j':=by injection e3 with h; injection h
   exact nD j e2 e4
  refine htt _ _ _ ⟨F,_,si1,b,si2,R4,hft,λH5 S5 R5=>?_⟩;have freeK:∀ {Hx Hy:Hp},Step σ4 Mi Hx Hy->∀ b o,(Free F O b/\b≠D)->Hx b=aA o->Hy b=aA o:=λ{Hx Hy} Sx b o z e=>Sx.keep b o (R4.notOwned λy=>y.elim z.1.1 z.2) e
  have S3':∀ {Hx:Hp},Step σ4 Mi H3 Hx->Step σ M H Hx:=λ{Hx} Sx=>⟨λb o n e=>Sx.keep b o (λk hk e'=>by
   obtain⟨j,e1,e2⟩:=c.yes k hk;rw[hk4 k j e1] at e';obtain⟨j',e3,e4⟩:=nZ e';rw[e1] at e3;obtain rfl:j=j':=by injection e3 with h; injection h
   exact n j e2 e4) (k3 b o (S2.keep b o n e)),λb e=>S2.dom b (dm3 b (Sx.dom b e))⟩
  have keepF:∀ {Hx:Hp},Step σ4 Mi H3 Hx->∀ b o,Free F O b->H1 b=aA o->Hx b=aA o:=λ{Hx} Sx b o z e=>freeK Sx b o ⟨z,λy=>by rw[y,hD] at e; cases e⟩ (k3 b o (k2 b o z e))
  cases b with
  |false=>
   rw[aH jK] at hl;dsimp only;rw[aH jK];exact⟨its.length - (i+1),by lia,rfl,hlt,ca M caps si2 s2,acc,ys,R3.back c S5 R5 hk4 (hsl R5),S5.keep D _ nD4 hD3,WS hy,ry3.mono (λ_ z=>z) λb o z e=>S5.keep b o (R4.notOwned z.1) e,S3' S5,keepF S5,hl⟩
  |true=>
   rw[aI rfl] at hl;dsimp only;rw[aI rfl];obtain⟨⟨te,si3⟩,hfe,hl⟩:=Qb hl;refine⟨F,_,si2,te,si3,R5,hfe,λy H6 S6 p6=>?_⟩;have S56:=S5.trans S6;have hD6:H6 D=aA (.lst ys):=S56.keep D _ nD4 hD3;have R6:=R3.back c S56 p6.1 hk4 (hsl p6.1);refine⟨ys,hD6,by rw[ZL]; lia,its.length - (i+1),by lia,rfl,hlt,ca M caps si3 s2,acc++[te],ys++[y],?_,bq,by rw[jn,Zq]; lia,?_,?_,?_,hl⟩
   ·-- D is nobody's: writing there keeps the relation
    have kD:∀ b u,b≠D->H6 b=aA u->aR H6 D (.lst (ys++[y])) b=aA u:=λb u n e=>by rw[ac n]; exact e
    refine⟨R6.len,λj t e n=>?_,λj t e n=>?_,R6.ow,R6.dis,λb u n e=>?_,λb e=>?_,R6.fresh,R6.inD,λb z e=>?_⟩
    ·obtain⟨v,a1,a2⟩:=R6.val j t e n;exact⟨v,a1,a2.mono (λ_ z=>z) λb u z e=>kD b u (λw=>z.1 (.inr w)) e⟩
    ·obtain⟨a,a1,a2⟩:=R6.own j t e n;exact⟨a,a1,a2.mono (λ_ z=>z) (λb u z e=>kD b u (λw=>z.1 (.inr w)) e) λu e=>kD a u (λw=>nD j n (w▸a1)) e⟩
    ·refine kD b u (λw=>?_) (R6.keep b u n e);subst w;have:=R1.dom b hD;rw[this] at e; cases e
    ·refine R6.dom b ?_;unfold aR at e;split at e
     ·cases e
     ·exact e
    ·refine R6.al b z ?_;unfold aR at e;split at e
     ·cases e
     ·exact e
   ·have r1:Reps (Free F (λb=>O b∨b=D)) H6 (ys++[y]) (acc++[te]):=(ry3.mono (λ_ z=>z) λb o z e=>S56.keep b o (R4.notOwned z.1) e).snoc p6.2;exact r1.mono (λ_ z=>z) λb u z e=>by rw[ac (λw=>z.1 (.inr w))]; exact e
   ·exact⟨λb o n e=>by rw[ac (cZ e (S1.dom D hD))]; exact(S3' S56).keep b o n e,λb e=>(S3' S56).dom b (by
     unfold aR at e;split at e
     ·cases e
     ·exact e)⟩
   ·exact λb o z e=>by rw[ac (cZ e hD)]; exact keepF S56 b o z e
 ·have e:i=its.length:=by lia
  subst e;rw[Nc] at hl;injection hl with hl;injection hl with e1 e2;subst e1 e2;exact .inl ⟨it.2 (ji _),q _ H2 S2 ⟨D,rfl,S1.dom D hD,R2,.lst hD2 ry⟩⟩
theorem rK{X:Cx}{e:Q3}{t t':TE}(h:PE X e t)(h':PE X e t'):PE X e (fun σ H Q=>t σ H Q∨t' σ H Q):=λpc s σ H Q I q=>q.elim (h pc s σ H Q I) (h' pc s σ H Q I)
theorem BN{X:Cx}{e:Q3}{t t':TT}(h:PT X e t)(h':PT X e t'):PT X e (fun σ H Q=>t σ H Q∨t' σ H Q):=λpc s σ H Q I q=>q.elim (h pc s σ H Q I) (h' pc s σ H Q I)
theorem wp{X:Cx}{tg e:Q3}{t t':TI}(h:PI X tg e t)(h':PI X tg e t'):PI X tg e (fun σ H R=>t σ H R∨t' σ H R):=λpc s σ H R I q=>q.elim (h pc s σ H R I) (h' pc s σ H R I)
theorem sA{M:List Nat}{k k' k2:Kd}{f f' f2:DE}(hs:∀ s p,f2 s=aA p->f s=aA p∨f' s=aA p)(hk:∀ F O σ H s' t v H' (s:Sg),Rel F O M s σ H->Post k F O M σ H s' t v H'->Post k2 F O M σ H s' t v H')(hk':∀ F O σ H s' t v H' (s:Sg),Rel F O M s σ H->Post k' F O M σ H s' t v H'->Post k2 F O M σ H s' t v H') :
  ∀ σ H Q,cE k2 M f2 σ H Q->cE k M f σ H Q∨cE k' M f' σ H Q:=by
 intro σ H Q h_;refine ba h_ λF O s t s' R hf q=>?_;rcases hs s _ hf with h |h
 ·exact .inl ⟨F,O,s,t,s',R,h,λv H' S p=>q v H' S (hk F O σ H s' t v H' s R p)⟩
 ·exact .inr ⟨F,O,s,t,s',R,h,λv H' S p=>q v H' S (hk' F O σ H s' t v H' s R p)⟩
def dP(g g':T->T->Option T):T->T->Option T:=λx y=>match g x y with
 |some t=>aA t
 |none=>g' x y
theorem Ce{g g':T->T->Option T}{x y:T}{t:T}(h:dP g g' x y=aA t):g x y=aA t∨g' x y=aA t:=by
 unfold dP at h;cases e:g x y with
 |none=>rw[e] at h; exact .inr h
 |some u=>rw[e] at h; exact .inl h
theorem rP{g g':T->T->Option T}{fa fb:DE}:∀ s p,d2 (dP g g') fa fb s=aA p->d2 g fa fb s=aA p∨d2 g' fa fb s=aA p:=λs p h=>by
 obtain⟨t,s'⟩:=p;obtain⟨x,s1,y,h1,h2,h3⟩:=uo h;rcases Ce h3 with e |e
 ·left; unfold d2; rw[h1,ja,h2,ja,e]; rfl
 ·right; unfold d2; rw[h1,ja,h2,ja,e]; rfl
theorem LH{g g':T->T->Option T}{i:Nat}{fb:DE}:∀ s p,bh (dP g g') i fb s=aA p->bh g i fb s=aA p∨bh g' i fb s=aA p:=λs p h=>by
 obtain⟨t,s'⟩:=p;obtain⟨x0,x,y,h0,h1,h2,h3⟩:=yf h;have j0:(s[i]?).join=aA x0:=by rw[h0]; rfl
 have j2:(s'[i]?).join=aA x:=by rw[h2]; rfl
 rcases Ce h3 with e |e
 ·left; unfold bh; rw[j0,ja,h1,ja,j2,ja,e]; rfl
 ·right; unfold bh; rw[j0,ja,h1,ja,j2,ja,e]; rfl
def aP:=dP fZ o4
def iS:=dP wT BH
def dZ:=dP sC yR
def bK:=dP o3 lJ
section
theorem ny:∀(F:Fr) (O:jw->Prop) (σ:L2.St) (H:Hp) (s':Sg) (t:T) (v:V) (H':Hp) (s:Sg),Rel F O M s σ H->Post .e F O M σ H s' t v H'->Post .e F O M σ H s' t v H':=λ_ _ _ _ _ _ _ _ _ _ p=>p
theorem Fq:∀(F:Fr) (O:jw->Prop) (σ:L2.St) (H:Hp) (s':Sg) (t:T) (v:V) (H':Hp) (s:Sg),Rel F O M s σ H->Post .n F O M σ H s' t v H'->Post .e F O M σ H s' t v H':=λ_ _ _ _ _ _ _ _ _ R p=>p.ne R
theorem D7{f f' f2:DE}(hs:∀ s p,f2 s=aA p->f s=aA p∨f' s=aA p):∀ σ H Q,cT M (dB f2) σ H Q->cT M (dB f) σ H Q∨cT M (dB f') σ H Q:=by
 intro σ H Q h_;refine ou h_ λF O s b s' R hf q=>?_;rcases hs s _ (ur hf) with h |h
 ·exact .inl ⟨F,O,s,b,s',R,by unfold dB; rw[h]; rfl,q⟩
 ·exact .inr ⟨F,O,s,b,s',R,by unfold dB; rw[h]; rfl,q⟩
def cP(x:T)(lo hi:Option Int):Option T:=match x with
 |.str _=>nA x lo hi
 |_=>iM x lo hi
theorem LI{fl fh:DO}:∀ s p,dE cP fa fl fh s=aA p->dE nA fa fl fh s=aA p∨dE iM fa fl fh s=aA p:=λs p h=>by
 obtain⟨p1,h1,h2⟩:=Qb h;obtain⟨q1,h3,h4⟩:=Qb h2;obtain⟨r1,h5,h6⟩:=Qb h4;obtain⟨t,h7,h8⟩:=Qm h6;have e:nA p1.1 q1.1 r1.1=aA t∨iM p1.1 q1.1 r1.1=aA t:=by
  unfold cP at h7;split at h7
  ·exact .inl h7
  ·exact .inr h7
 rcases e with e |e
 ·left; unfold dE; rw[h1,ja,h3,ja,h5,ja,e]; exact congrArg aA h8
 ·right; unfold dE; rw[h1,ja,h3,ja,h5,ja,e]; exact congrArg aA h8
def kT:aK->T
 |.inl i=>.int i
 |.inr x=>.str x
theorem Kn{C:jw->Prop}{H:Hp}(k:aK):Rep C H (kV k) (kT k):=by
 cases k with
 |inl i=>exact .int i
 |inr x=>exact .str x
theorem vQ{C:jw->Prop}{H:Hp}:∀ {vs:List (aK × V)} {ts:List (aK × T)},vs.map (·.1)=ts.map (·.1)->Reps C H (vs.map λkv=>kV kv.1) (ts.map λkv=>kT kv.1)
 |[],[],_=>.nil
 |p::vs,[],h=>by simp at h
 |[],q::ts,h=>by simp at h
 |p::vs,q::ts,h=>by
  rw[jq,jq] at h;injection h with h1 h2;rw[jq,jq,h1];exact .cons (Kn _) (vQ h2)
def qM(c:Nat):T:=.str ⟨#[c]⟩
def bJ(f:DE):DI:=λs=>(f s).bind λp=>match p.1 with
 |.lst xs=>aA (xs,p.2)
 |.scr ns=>aA (ns.map .int,p.2)
 |.tup xs=>aA (xs,p.2)
 |.fd kvs=>aA (kvs.map λkv=>kT kv.1,p.2)
 |.str x=>aA (x.cps.toList.map qM,p.2)
 |_=>aB
def BC(f:DE):DI:=λs=>(f s).bind λp=>match p.1 with
 |.fd kvs=>aA (kvs.map λkv=>kT kv.1,p.2)
 |_=>aB
def BD(f:DE):DI:=λs=>(f s).bind λp=>match p.1 with
 |.str x=>aA (x.cps.toList.map qM,p.2)
 |_=>aB
theorem OT{F:Fr}{O:jw->Prop}{H1:Hp}{a:jw}{o:Obj}{kvs:List (aK × V)}{f:aK × V->V}{ts:List T}(fr:Free F O a)(ha:H1 a=aA (.frz o (.dK kvs)))(r:Reps (Free F O) H1 (kvs.map f) ts):qC F O ts (Ay f a o) H1:=by
 intro H2 k i;have h2:=k a _ fr ha;have hl0:kvs.length=ts.length:=by have:=r.1; simpa using this
 refine⟨λt ht=>?_,λhl=>⟨kvs,h2,by rw[hl0]; exact hl⟩⟩
 obtain⟨v,hv,rv⟩:=r.get ht;rw[jg] at hv;obtain⟨y,hy,hyv⟩:=Qm hv;refine⟨⟨kvs,y,h2,hy⟩,λx H3 ⟨e1,e2⟩=>⟨.inl e1,?_⟩⟩;have:=e2 kvs h2;rw[hy] at this;have hx:f y=x:=jh this;subst hx hyv e1;exact rv.there.mono (λb c=>.inl c) λb o c e=>k b o c.1 e
theorem Gb{tg:Q3}(h:PE X e (cE .e M fe)):PI X tg e (cI M (BC fe)):=lQ (O4 h) (by
 intro σ H R h_;refine lu h_ λF O s its s' Rl hf q=>?_;obtain⟨⟨p1,p2⟩,h1,h2⟩:=Qb hf;obtain⟨ks,rfl⟩:∃ ks,p1=.fd ks:=by cases p1<;>first |exact⟨_,rfl⟩ |cases h2
 injection h2 with h2;injection h2 with h3 h4;subst h3 h4;refine⟨F,O,s,_,_,Rl,h1,λv H1 S1 p=>?_⟩;obtain⟨a,o,kvs,rfl,ha,ra,fr⟩:=BRep.fd (.inl p.2)
 exact⟨a,o,kvs,rfl,ha,q _ H1 S1 p.1 (OT fr ha (vQ ra.1))⟩)
theorem Ki{tg:Q3}(h:PE X e (cE .e M fe)):PI X tg e (cI M (BD fe)):=lQ (O8 h) (by
 intro σ H R h_;refine lu h_ λF O s its s' Rl hf q=>?_;obtain⟨⟨p1,p2⟩,h1,h2⟩:=Qb hf;obtain⟨x,rfl⟩:∃ x,p1=.str x:=by cases p1<;>first |exact⟨_,rfl⟩ |cases h2
 injection h2 with h2;injection h2 with h3 h4;subst h3 h4;refine⟨F,O,s,_,_,Rl,h1,λv H1 S1 p=>?_⟩;refine⟨x,BRep.str (.inl p.2),q _ H1 S1 p.1 ?_⟩;intro H2 k i;refine⟨λt ht=>?_,λhl=>by simpa[wZ] using hl⟩
 rw[jg] at ht;obtain⟨c,hc,rfl⟩:=Qm ht;have hc':x.cps[i]?=aA c:=by simpa using hc
 refine⟨(Ys.mp hc').1,λy H3 ⟨e1,c',e2,e3⟩=>⟨.inl e1,?_⟩⟩;rw[hc'] at e2;cases e2;subst e3
 exact .str _)
variable {es:List Q3}{fs:DA}{x:Str}{k:Nat}{f:jw}{fd:Z9}{ps:List Str}{np:Nat}
theorem iB{Mi:List Nat}:∀ σ H Q,cT Mi dH σ H Q->wu σ H Q:=by
 intro σ H Q h_;refine ou h_ λF O s b s' R hf q=>?_;injection hf with hf;injection hf with h1 h2;subst h1 h2;exact q H .refl R
theorem x5{st:QR}{t t':TE}{g:TG}(h:PS X st (dq t g))(hw:∀ σ H Q,t' σ H Q->t σ H Q):PS X st (dq t' g):=eX h λD σ H q=>hw σ H _ q
end
def ir(M:List Nat)(caps:List (Option Nat))(dg:DG)(ft:DT)(fk fe:DE):List T->List (aK × T)->Sg->Option (List (aK × T) × Sg)
 |[],acc,s=>aA (acc,s)
 |x::xs,acc,s=>(dg x (fI caps s)).bind λs1=>(ft s1).bind λp=>if p.1 then (fk p.2).bind λr=>(cq r.1).bind λk=>(fe r.2).bind λq=>ir M caps dg ft fk fe xs (cW acc k q.1) (ca M caps q.2 s) else ir M caps dg ft fk fe xs acc (ca M caps p.2 s)
def ls(M:List Nat)(caps:List (Option Nat))(fi:DI)(dg:DG)(ft:DT)(fk fe:DE):DE:=λs=>(fi s).bind λp=>if p.1.length<=zg8 then (ir M caps dg ft fk fe p.1 [] p.2).map λq=>(.dct q.1,q.2) else aB
theorem Bh{M Mi:List Nat}{caps:List (Option Nat)}{fi:DI}{g:TG}{dg:DG}{ft:DT}{fk fe:DE}{tt:TT}(c:CapOk caps M Mi)(hg:lz g dg Mi caps)(htt:∀ σ H Q,cT Mi ft σ H Q->tt σ H Q) :
  ∀ σ H Q,cE .n M (ls M caps fi dg ft fk fe) σ H Q->oj caps (cI M fi) g tt (cE .e Mi fk) (cE .e Mi fe) σ H Q:=by
 intro σ H Q h_;refine ba h_ λF O s t s' R hf q=>?_;obtain⟨⟨its,s1⟩,h1,h2⟩:=Qb hf;split at h2
 case isFalse=>cases h2
 rename_i hsz;have hsz:its.length<=zg8:=hsz;rw[Df] at hsz;obtain⟨⟨tsE,sE⟩,h3,h4⟩:=Qm h2;injection h4 with h4 h5;subst h4 h5;refine⟨F,O,s,its,s1,R,h1,λJ H1 S1 R1 IT D hD=>?_⟩;have nD:∀(j:Nat),j∈M->σ[j]?≠aA (aA (.ref D)):=λj hj e=>R1.al D (R1.ow j D hj e) hD;have RD:=R1.new hD (.dK [])
 refine⟨λi m H'=>m=its.length - i/\i<=its.length/\∃ s' acc ys,Rel F (λb=>O b∨b=D) M s' σ H'/\H' D=aA (.dK ys)/\ys.length<=i/\RepK (Free F (λb=>O b∨b=D)) H' ys acc/\Step σ M H H' /\
  (∀ b o,Free F O b->H1 b=aA o->H' b=aA o)/\ir M caps dg ft fk fe (its.drop i) acc s'=aA (tsE,sE),⟨its.length,by simp,QZ _,s1,[],[],RD,bq,ji _,⟨rfl,λi v t e=>by simp at e⟩,S1.trans (.new hD _),λb o _ e=>by rw[ac (cZ e hD)]; exact e,h3⟩,?_⟩
 rintro i m H2 ⟨rfl,hi,s2,acc,ys,R2,hD2,hy,ry,S2,k2,hl⟩;have it:=IT H2 k2 i
 by_cases hlt:i < its.length
 ·refine .inr ?_;obtain⟨go,yl⟩:=it.1 its[i] (j3 hlt);rw[Zw hlt] at hl;unfold ir at hl;obtain⟨si1,hdg,hl⟩:=Qb hl;obtain⟨⟨b,si2⟩,hft,hl⟩:=Qb hl;refine⟨go,λx H3 hy3=>?_⟩;obtain⟨y1,y2⟩:=yl x H3 hy3
  -- what was yielded is free of D
  have R3:Rel F (λb=>O b∨b=D) M s2 σ H3/\(∀ b u,H2 b=aA u->H3 b=aA u)/\(∀ b,H3 b=aB->H2 b=aB):=by
   rcases y1 with rfl |⟨p,o,hp,rfl⟩
   ·exact⟨R2,λ_ _ e=>e,λ_ e=>e⟩
   ·exact⟨(R2.new hp o).less (λb z=>.inl z) R2.ow R2.inD,λb u e=>by rw[ac (cZ e hp)]; exact e,λb e=>by
     unfold aR at e;split at e
     ·cases e
     ·exact e⟩
  obtain⟨R3,k3,dm3⟩:=R3
  have rx:Rep (Free F (λb=>O b∨b=D)) H3 x its[i]:=y2.mono (λb z=>by
   rcases z with ⟨z,n⟩ |n
   ·exact⟨λy=>y.elim z.1 λy=>n (y▸hD),z.2⟩
   ·exact⟨λy=>R2.al b y n,.inr (R2.dom b n)⟩) λ_ _ _ e=>e
  have ry3:RepK (Free F (λb=>O b∨b=D)) H3 ys acc:=ry.mono (λ_ z=>z) λb o _ e=>k3 b o e;have hD3:=k3 _ _ hD2;refine hg F _ (fI caps s2) its[i] si1 x (cK caps σ) H3 _ (R3.cap c) rx hdg fun σ4 R4 hk4 hl4=>?_;have hsl:∀ {sx:Sg} {Hx:Hp},Rel F (λb=>O b∨b=D) Mi sx σ4 Hx->sx.length=caps.length:=λ{sx Hx} Rx=>by
   rw[Rx.len,hl4];unfold cK;rw[j5]
  have nD4:∀(k:Nat),k∈Mi->σ4[k]?≠aA (aA (.ref D)):=λk hk e=>by
   obtain⟨j,e1,e2⟩:=c.yes k hk;rw[hk4 k j e1] at e;obtain⟨j',e3,e4⟩:=nZ e;rw[e1] at e3;obtain rfl:j=j':=by injection e3 with h; injection h
   exact nD j e2 e4
  refine htt _ _ _ ⟨F,_,si1,b,si2,R4,hft,λH5 S5 R5=>?_⟩;have freeK:∀ {Hx Hy:Hp},Step σ4 Mi Hx Hy->∀ b o,(Free F O b/\b≠D)->Hx b=aA o->Hy b=aA o:=λ{Hx Hy} Sx b o z e=>Sx.keep b o (R4.notOwned λy=>y.elim z.1.1 z.2) e
  have S3':∀ {Hx:Hp},Step σ4 Mi H3 Hx->Step σ M H Hx:=λ{Hx} Sx=>⟨λb o n e=>Sx.keep b o (λk hk e'=>by
   obtain⟨j,e1,e2⟩:=c.yes k hk;rw[hk4 k j e1] at e';obtain⟨j',e3,e4⟩:=nZ e';rw[e1] at e3;obtain rfl:j=j':=by injection e3 with h; injection h
   exact n j e2 e4) (k3 b o (S2.keep b o n e)),λb e=>S2.dom b (dm3 b (Sx.dom b e))⟩
  have keepF:∀ {Hx:Hp},Step σ4 Mi H3 Hx->∀ b o,Free F O b->H1 b=aA o->Hx b=aA o:=λ{Hx} Sx b o z e=>freeK Sx b o ⟨z,λy=>by rw[y,hD] at e; cases e⟩ (k3 b o (k2 b o z e))
  cases b with
  |false=>
   rw[aH jK] at hl;dsimp only;rw[aH jK];exact⟨its.length - (i+1),by lia,rfl,hlt,ca M caps si2 s2,acc,ys,R3.back c S5 R5 hk4 (hsl R5),S5.keep D _ nD4 hD3,WS hy,ry3.mono (λ_ z=>z) λb o z e=>S5.keep b o (R4.notOwned z.1) e,S3' S5,keepF S5,hl⟩
  |true=>
   rw[aI rfl] at hl;dsimp only;rw[aI rfl];obtain⟨⟨tk,si3⟩,hfk,hl⟩:=Qb hl;obtain⟨k,hkk,hl⟩:=Qb hl;obtain⟨⟨te,si4⟩,hfe,hl⟩:=Qb hl;refine⟨F,_,si2,tk,si3,R5,hfk,λky H5' S5' p5=>⟨F,_,si3,te,si4,p5.1,hfe,λy H6 S6 p6=>?_⟩⟩;have S56:=(S5.trans S5').trans S6;have hD6:H6 D=aA (.dK ys):=S56.keep D _ nD4 hD3;have R6:=R3.back c S56 p6.1 hk4 (hsl p6.1);obtain rfl:=oP (.inl p5.2) hkk;have lp:=t3 ys k y;refine⟨ys,k,hD6,rfl,by rw[ZL]; lia,its.length - (i+1),by lia,rfl,hlt,ca M caps si4 s2,cW acc k te,dN ys k y,?_,bq,by lia,?_,?_,?_,hl⟩
   ·-- D is nobody's: writing there keeps the relation
    have kD:∀ b u,b≠D->H6 b=aA u->aR H6 D (.dK (dN ys k y)) b=aA u:=λb u n e=>by rw[ac n]; exact e
    refine⟨R6.len,λj t e n=>?_,λj t e n=>?_,R6.ow,R6.dis,λb u n e=>?_,λb e=>?_,R6.fresh,R6.inD,λb z e=>?_⟩
    ·obtain⟨v,a1,a2⟩:=R6.val j t e n;exact⟨v,a1,a2.mono (λ_ z=>z) λb u z e=>kD b u (λw=>z.1 (.inr w)) e⟩
    ·obtain⟨a,a1,a2⟩:=R6.own j t e n;exact⟨a,a1,a2.mono (λ_ z=>z) (λb u z e=>kD b u (λw=>z.1 (.inr w)) e) λu e=>kD a u (λw=>nD j n (w▸a1)) e⟩
    ·refine kD b u (λw=>?_) (R6.keep b u n e);subst w;have:=R1.dom b hD;rw[this] at e; cases e
    ·refine R6.dom b ?_;unfold aR at e;split at e
     ·cases e
     ·exact e
    ·refine R6.al b z ?_;unfold aR at e;split at e
     ·cases e
     ·exact e
   ·have r1:RepK (Free F (λb=>O b∨b=D)) H6 (dN ys k y) (cW acc k te):=(ry3.mono (λ_ z=>z) λb o z e=>S56.keep b o (R4.notOwned z.1) e).put p6.2;exact r1.mono (λ_ z=>z) λb u z e=>by rw[ac (λw=>z.1 (.inr w))]; exact e
   ·exact⟨λb o n e=>by rw[ac (cZ e (S1.dom D hD))]; exact(S3' S56).keep b o n e,λb e=>(S3' S56).dom b (by
     unfold aR at e;split at e
     ·cases e
     ·exact e)⟩
   ·exact λb o z e=>by rw[ac (cZ e hD)]; exact keepF S56 b o z e
 ·have e:i=its.length:=by lia
  subst e;rw[Nc] at hl;injection hl with hl;injection hl with e1 e2;subst e1 e2;exact .inl ⟨it.2 (ji _),q _ H2 S2 ⟨D,rfl,S1.dom D hD,R2,.dct hD2 ry⟩⟩
section
variable {fc fk:DE}
def i9:T->Option T
 |.lst xs=>aA (.lst xs) |.tup xs=>aA (.lst xs) |.scr ns=>aA (.lst (ns.map .int)) |.dct kvs=>aA (.lst (kvs.map λkv=>kT kv.1)) |.fd kvs=>aA (.lst (kvs.map λkv=>kT kv.1))
 |_=>aB
theorem On:Au (λxs H Q=>(∃ p ys,xs=[.ref p]/\(ad TheK.K H p ys∨bj TheK.K H p ys)/\∀ l,H l=aB->Q (.ref l) (aR H l (.lst ys)))∨∃ a kvs,xs=[V.ref a]/\Rd H a (.dK kvs)/\∀ l,H l=aB->Q (.ref l) (aR H l (.lst (kvs.map λkv=>kV kv.1)))) i9:=by
 intro C H x tx t Q bx hg q;cases tx with
 |dct ts=>
  injection hg with hg; subst hg;obtain⟨a,kvs,rfl,ha,ra⟩:=bx.dct;exact .inr ⟨a,kvs,rfl,.inl ha,λp hp=>q p _ hp λC' hC=>.lst bq (vQ ra.1)⟩
 |fd ts=>
  injection hg with hg; subst hg;obtain⟨a,ob,kvs,rfl,ha,ra,_⟩:=bx.fd;exact .inr ⟨a,kvs,rfl,.inr ⟨ob,ha⟩,λp hp=>q p _ hp λC' hC=>.lst bq (vQ ra.1)⟩
 |lst ts=>exact .inl (xq C H x (.lst ts) t Q bx hg q)
 |tup ts=>exact .inl (xq C H x (.tup ts) t Q bx hg q)
 |scr ts=>exact .inl (xq C H x (.scr ts) t Q bx hg q)
 |_=>cases hg
def iT:T->Option T
 |.int i=>aA (.int (-i))
 |_=>aB
end
def u0:T->Option T
 |.lst xs=>aA (.lst xs.reverse)
 |_=>aB
def wm(f:DE)(k:DO):DE:=λs=>(f s).bind λp=>(k p.2).bind λq=>if q.1=aA (-1) then (u0 p.1).map λt=>(t,q.2) else aB
section
variable {st:Q3}{fk:DO}{p2:Pos}
def An(f:DA):DE:=λs=>(f s).bind λp=>match p.1 with
 |[.int j]=>if dR j=aC then aA (.lst (dS 0 j.toNat),p.2) else aB
 |_=>aB
theorem T3{j:Int}(h:dR j=aC):-16777216<=j/\j<=16777216:=by
 have:=g9 h;lia
end
def n5:List T->Option (List Bool)
 |[]=>aA []
 |.bl b::ts=>(n5 ts).map (b::·)
 |_=>aB
theorem D5{C:jw->Prop}{H:Hp}:∀ {vs:List V} {ts:List T} {bs:List Bool},Reps C H vs ts->n5 ts=aA bs->vs=bs.map V.bl
 |[],[],bs,_,h=>by injection h with h; subst h; rfl
 |[],_::_,_,r,_=>by have:=r.1; simp at this
 |_::_,[],_,r,_=>by have:=r.1; simp at this
 |v::vs,t::ts,bs,r,h=>by
  obtain⟨b,rfl⟩:∃ b,t=.bl b:=by cases t<;>first |exact⟨_,rfl⟩ |cases h
  obtain⟨l,h1,rfl⟩:=Qm (show (n5 ts).map (b::·)=aA bs from h)
  rw[D5 r.tail h1,BRep.bl (.inl r.head)]; rfl
def qA:T->Option T
 |.lst ts=>(n5 ts).map λbs=>.bl (bs.all id)
 |_=>aB
def BG:T->Option T
 |.lst ts=>(n5 ts).map λbs=>.bl (bs.any id)
 |_=>aB
theorem Ho:wX (λxs H Q=>∃(a:jw) (bs:List Bool),xs=[V.ref a]/\ad TheK.K H a (bs.map V.bl)/\Q (.bl (bs.all id)) H) qA:=by
 intro C H x tx t Q bx hg q;obtain⟨ts,rfl⟩:∃ ts,tx=.lst ts:=by cases tx<;>first |exact⟨_,rfl⟩ |cases hg
 obtain⟨bs,h1,rfl⟩:=Qm (show (n5 ts).map (λbs=>T.bl (bs.all id))=aA t from hg);obtain⟨a,us,rfl,ha,ra⟩:=bx.lst;rw[D5 ra h1] at ha;exact⟨a,bs,rfl,ad.of ha,q _ (.bl _)⟩
theorem L6:Qu "all"=aA (.builtin "all"):=by first |exact PyProof.Rows.boot_all |decide +kernel
def G3(t:TS):TS:=λD σ H=>∃ a kvs,H a=aA (.dK kvs)/\∀ o,t D σ (aR H a (.frz o (.dK kvs)))
theorem Ps{X:Cx}{st:QR}{t:TS}(h:PS X st t):PS X st (G3 t):=λpc s σ H D I ⟨a,kvs,e,q⟩=>by
 obtain⟨o,I2⟩:=I.known e;exact h pc s σ _ D I2 (q o)
def n9(i:Nat)(d:DS):DS:=λs=>match (s[i]?).join with
 |some (.dct kvs)=>d (s.set i (aA (.fd kvs)))
 |_=>aB
def rV:List T->Option (List Int)
 |[]=>aA []
 |.int i::ts=>(rV ts).map (i::·)
 |_=>aB
theorem Dc{C:jw->Prop}{H:Hp}:∀ {vs:List V} {ts:List T} {ns:List Int},Reps C H vs ts->rV ts=aA ns->vs=ns.map V.int
 |[],[],ns,_,h=>by injection h with h; subst h; rfl
 |[],_::_,_,r,_=>by have:=r.1; simp at this
 |_::_,[],_,r,_=>by have:=r.1; simp at this
 |v::vs,t::ts,ns,r,h=>by
  obtain⟨b,rfl⟩:∃ b,t=.int b:=by cases t<;>first |exact⟨_,rfl⟩ |cases h
  obtain⟨l,h1,rfl⟩:=Qm (show (rV ts).map (b::·)=aA ns from h)
  rw[Dc r.tail h1,BRep.int (.inl r.head)]; rfl
def xV:DS:=λ_=>aB
def lO:T->Bool
 |.non |.bl _ |.int _ |.str _=>aC
 |_=>aD
theorem E5{C C':jw->Prop}{H H':Hp}{v:V}{t:T}(h:Rep C H v t)(f:lO t=aC):Rep C' H' v t:=by
 cases h<;>first |exact .non |exact .bl _ |exact .int _ |exact .str _ |cases f
def rz(fn:List T->Option T)(i:Nat)(fa:DA):DE:=λs=>(s[i]?).join.bind λ_=>(fa s).bind λp=>(p.2[i]?).join.bind λt0=>(fn (t0::p.1)).bind λt=>if lO t=aC then aA (t,p.2) else aB
theorem MQ{M:List Nat}{fa:DA}{np:Nat}{fn:List T->Option T}{i:Nat}(hn:Ar fa np)(hi:M.contains i=aC):∀ σ H Q,cE .e M (rz fn i fa) σ H Q->oA (bB .e (np+1) fn) [] E0 (i8 (cH i) (cA M fa)) σ H Q:=by
 intro σ H Q h_;refine ba h_ λF O s t s' R hf q=>?_;have hi':i∈M:=by simpa using hi
 obtain⟨x0,h0,hf⟩:=Qb hf;obtain⟨p,h1,hf⟩:=Qb hf;obtain⟨t0,h2,hf⟩:=Qb hf;obtain⟨w,h3,h4⟩:=Qb hf;split at h4
 ·rename_i hfl;injection h4 with h4;injection h4 with h4 h5;subst h4 h5;obtain⟨a,e1,_⟩:=R.own i x0 (cQ h0) hi';refine⟨_,e1,F,O,s,p.1,p.2,R,h1,λvs H1 S1 R1 rs=>?_⟩;obtain⟨b,e2,L⟩:=R1.own i t0 (cQ h2) hi';rw[e1] at e2;injection e2 with e2;injection e2 with e2;injection e2 with e2;subst e2
  try dsimp only
  rw[Qv];refine⟨λ_=>True,t0::p.1,w,by rw[jk,hn _ _ _ h1],.cons (L.rep (λ_ _=>trivial) trivial) (rs.mono (λ_ _=>trivial) λ_ _ _ e=>e),h3,λv H2 c=>q v H2 (S1.trans ⟨λb o _ e=>c.keep b o e,c.dom⟩) ⟨R1.ext c.keep c.dom,?_⟩⟩
  exact E5 c.res hfl
 ·cases h4
theorem xT:Qu "set"=aA (.type "set"):=by decide +kernel
theorem Rel.plus{F:Fr}{O:jw->Prop}{M:List Nat}{s:Sg}{σ:L2.St}{H:Hp}{l:jw}(R:Rel F O M s σ H)(h:H l=aB)(o:HO):Rel F O M s σ (aR H l o):=
 R.ext (λb u e=>by rw[ac (cZ e h)]; exact e) λb e=>by
  unfold aR at e;split at e
  ·cases e
  ·exact e
section
def x9:DE:=λs=>aA (.set (λ_=>aD) 0,s)
def x8(i:Nat)(fe:DE):DE:=λs=>(s[i]?).join.bind λt0=>match t0 with
 |.set _ _=>(fe s).bind λp=>(p.2[i]?).join.bind λt1=>match p.1,t1 with
  |.int k,.set S n=>if n < 1000 then aA (.non,p.2.set i (aA (.set (λj=>S j||aE (j=k)) (if S k then n else n+1)))) else aB
  |_,_=>aB
 |_=>aB
def qH:T->T->Option T
 |.int k,.set S _=>aA (.bl (!S k))
 |_,_=>aB
theorem BRep.setI{C:jw->Prop}{H:Hp}{v:V}{S:Int->Bool}{n:Nat}(h:BRep C H v (.set S n)):∃ a,v=.ref a/\H a=aA (.set S n):=by
 rcases h with h |⟨a,rfl,h⟩
 ·cases h with |set c r=>exact⟨_,rfl,r⟩
 ·cases h with |set r=>exact⟨_,rfl,r⟩
theorem Lg:fO (λx y H Q=>∃ k a S n,x=.int k/\y=.ref a/\H a=aA (.set S n)/\Q (.bl (!S k)) H) qH:=by
 intro C H x y tx ty t Q bx by' hg q;obtain⟨k,rfl⟩:∃ k,tx=.int k:=by cases tx<;>first |exact⟨_,rfl⟩ |cases hg
 obtain⟨S,n,rfl⟩:∃ S n,ty=.set S n:=by cases ty<;>first |exact⟨_,_,rfl⟩ |cases hg
 injection hg with hg;subst hg;obtain rfl:=BRep.int bx;obtain⟨a,rfl,r⟩:=BRep.setI by';exact⟨k,a,S,n,rfl,rfl,r,q _ (.bl _)⟩
end
def sG(fn:List T->Option T)(i:Nat)(f0:DE)(fa:DA):DE:=λs=>(f0 s).bind λp=>(p.2[i]?).join.bind λ_=>(fa p.2).bind λq=>(q.2[i]?).join.bind λt0=>(fn (p.1::t0::q.1)).bind λt=>if lO t=aC then aA (t,q.2) else aB
theorem Pm{M:List Nat}{f0:DE}{fa:DA}{np:Nat}{fn:List T->Option T}{i:Nat}(hn:Ar fa np)(hi:M.contains i=aC):∀ σ H Q,cE .e M (sG fn i f0 fa) σ H Q->oA (bB .e (np+2) fn) [] E0 (i8 (cE .e M f0) (i8 (cH i) (cA M fa))) σ H Q:=by
 intro σ H Q h_;refine ba h_ λF O s t s' R hf q=>?_;have hi':i∈M:=by simpa using hi
 obtain⟨p,h0,hf⟩:=Qb hf;obtain⟨x0,h1,hf⟩:=Qb hf;obtain⟨r,h2,hf⟩:=Qb hf;obtain⟨t0,h3,hf⟩:=Qb hf;obtain⟨w,h4,h5⟩:=Qb hf
 by_cases hfl:lO w=aC
 ·rw[aI hfl] at h5;injection h5 with h5;injection h5 with h5 h6;subst h5 h6;refine⟨F,O,s,p.1,p.2,R,h0,λv H1 S1 p1=>?_⟩;obtain⟨a,e1,_⟩:=p1.1.own i x0 (cQ h1) hi';refine⟨_,e1,F,O,p.2,r.1,r.2,p1.1,h2,λvs H2 S2 R2 rs=>?_⟩;obtain⟨b,e2,L⟩:=R2.own i t0 (cQ h3) hi';rw[e1] at e2;injection e2 with e2;injection e2 with e2;injection e2 with e2;subst e2;have rv:=p1.1.stay S2 p1.2
  try dsimp only
  rw[Qv];refine⟨λ_=>True,p.1::t0::r.1,w,by rw[jk,jk,hn _ _ _ h2],.cons (rv.mono (λ_ _=>trivial) λ_ _ _ e=>e) (.cons (L.rep (λ_ _=>trivial) trivial) (rs.mono (λ_ _=>trivial) λ_ _ _ e=>e)),h4,λv H3 c=>q v H3 ((S1.trans S2).trans ⟨λb o _ e=>c.keep b o e,c.dom⟩) ⟨R2.ext c.keep c.dom,?_⟩⟩
  exact E5 c.res hfl
 ·rw[aH hfl] at h5; cases h5
theorem F8:∀(l acc:List Str),acc.Nodup->(l.foldl Dw.cb acc).Nodup
 |[],_,h=>h
 |x::l,acc,h=>by
  rw[ZG];refine F8 l _ ?_;unfold Dw.cb;split
  ·exact h
  ·rename_i hx;exact jP.mpr ⟨h,by simp,λa ha b hb e=>by rw[je] at hb; subst hb e; exact hx ha⟩
theorem FD(l:List Str):(Dw.aL l).Nodup:=F8 l [] Zx
def rO(xs ys:List Str):Nat:=((Dw.aL xs).filter λx=>aE (x∈Dw.aL ys)).length
def uY:T->T->Option T
 |.lst xs,.lst ys=>(lP xs).bind λa=>(lP ys).bind λb=>if a.length < 900 then if b.length < 900 then aA (.int (rO a b)) else aB else aB
 |_,_=>aB
def o7(xs ys:List T):List T:=(xs.zip ys).map λp=>.tup [p.1,p.2]
theorem Pc{F:Fr}{O:jw->Prop}{H1 H2:Hp}{p:jw}{x y:V}{t u:T}(k:∀ b o,Free F O b->H1 b=aA o->H2 b=aA o)(hp:H2 p=aB)(rx:Rep (Free F O) H1 x t)(ry:Rep (Free F O) H1 y u) :
  Rep (λb=>(Free F O b/\H1 b≠aB)∨H2 b=aB) (aR H2 p (.tup [x,y])) (.ref p) (.tup [t,u]):=by
 have up:∀ {v:V} {w:T},Rep (Free F O) H1 v w->Rep (λb=>(Free F O b/\H1 b≠aB)∨H2 b=aB) (aR H2 p (.tup [x,y])) v w:=λr=>
  r.there.mono (λb c=>.inl c) λb o c e=>by rw[ac (cZ (k b o c.1 e) hp)]; exact k b o c.1 e
 have rr:Reps (λb=>(Free F O b/\H1 b≠aB)∨H2 b=aB) (aR H2 p (.tup [x,y])) [x,y] [t,u]:=.cons (up rx) (.cons (up ry) .nil);exact .tup (.inr hp) bq rr.1 rr.2
def tz(f:DA):DI:=λs=>(f s).bind λp=>match p.1 with
 |[.lst xs,.lst ys]=>aA (o7 xs ys,p.2)
 |_=>aB
def BI(f:List Int->Int):T->Option T
 |.lst ts=>(rV ts).bind λns=>if 0 < ns.length then aA (.int (f ns)) else aB
 |_=>aB
def rS:=BI rL
theorem Hs{f:List Int->Int}:wX (λxs H Q=>∃(a:jw) (ns:List Int),xs=[V.ref a]/\ad TheK.K H a (ns.map V.int)/\0 < ns.length/\Q (.int (f ns)) H) (BI f):=by
 intro C H x tx t Q bx hg q;cases tx with
 |lst ts=>
  obtain⟨ns,h1,h2⟩:=Qb (show ((rV ts).bind λns=>if 0 < ns.length then aA (T.int (f ns)) else aB)=aA t from hg)
  split at h2
  ·rename_i hn;injection h2 with h2; subst h2;obtain⟨a,us,rfl,ha,ra⟩:=bx.lst;rw[Dc ra h1] at ha;exact⟨a,ns,rfl,ad.of ha,hn,q _ (.int _)⟩
  ·cases h2
 |_=>cases hg
theorem MP:Qu "max"=aA (.builtin "max"):=by first |exact PySem.boot_max |exact PyProof.Rows.boot_max |decide +kernel
def HE(i j:Int):Prop:=i.natAbs < 2 ^ 200/\j.natAbs < 2 ^ 200
theorem D4{k:Int}(h:k.natAbs < 2 ^ 200):W7 k<=2 ^ 20:=by
 unfold W7;split
 ·exact QZ _
 ·rename_i hne;have h0:k.natAbs≠0:=by
   intro z;exact hne (by simpa using z)
  have:=(Nat.log2_lt h0).mpr h;have e:(2:Nat) ^ 20=1048576:=by decide
  lia
theorem Od{X:Cx}:c9 X (gG .Mult) (rI HE λi j=>.int (i*j)):=tJ λ_ _ _ _ _ _ _ hc q=>mul_int q (.of_bits (D4 hc.1) (D4 hc.2))
def Bg(i j:Int):Bool:=Nat.ble i.natAbs 10000000000000000000000000000000000000000&&Nat.ble j.natAbs 10000000000000000000000000000000000000000
def xE:=gI Bg λi j=>i*j
abbrev DR:=Sg->Bool
def cR(E:XK)(N:jw)(d:DR):TS:=λD σ H=>∃ F O s,Rel F O [] s σ H/\Ios F [] [] σ/\d s=aC/\∀ O' H',KeepO O H O' H'->E (.ref N) aB H'
def rJ(ft:DT)(da db:DR):DR:=λs=>match ft s with
 |some (b,s')=>if b then da s' else db s'
 |none=>aD
def qG(d1:DR)(dn:DS)(d2:DR):DR:=λs=>d1 s||match dn s with
 |some (.nx s')=>d2 s'
 |_=>aD
def nt(N:jw)(np:Nat)(rs:List T->Bool):Sp:=λvs H _ E=>∃ C ts,ts.length=np/\Reps C H vs ts/\rs ts=aC/\∀ H',(∀ b o,H b=aA o->H' b=aA o)->(∀ b,H' b=aB->H b=aB)->E (.ref N) aB H'
def o0:DR:=λ_=>aD
section
variable {E:XK}{N:jw}{da db d1 d2:DR}{dn:DS}{ft:DT}{a b sts:List QR}{st:QR}
theorem Gj(hc:PT X c (cT [] ft))(ha:bv X a (cR E N da))(hb:bv X b (cR E N db)):PS X (.If c a b pos) (cR E N (rJ ft da db)):=eX (C4 hc ha hb) (by
 intro D σ H hz; obtain⟨F,O,s,R,I,hd,q⟩:=hz;unfold rJ at hd;split at hd
 case h_2=>cases hd
 rename_i k s' hf;refine⟨F,O,s,k,s',R,hf,λH1 S1 R1=>?_⟩;have k1:=S1.keepO R;cases k with
 |true=>exact⟨F,O,s',R1,I,hd,λO' H' k=>q O' H' (k1.trans k)⟩
 | false=>exact⟨F,O,s',R1,I,hd,λO' H' k=>q O' H' (k1.trans k)⟩)
theorem Gk:bv X sts (cR E N o0):=λpc s σ H D I hz=>by
 obtain⟨F,O,s,R,I,hd,q⟩:=hz;cases hd
theorem Hi:PS X st (cR E N o0):=λpc s σ H D I hz=>by
 obtain⟨F,O,s,R,I,hd,q⟩:=hz;cases hd
theorem Hj(h:PS X st (cR E N da)):bv X [st] (cR E N da):=uX (sO h) (λD σ H hz=>hz)
theorem Hk{rk:Kd}(h1:PS X st (cR E N d1))(hn:PS X st (cS rk [] [] [] [] dn))(h2:bv X sts (cR E N d2)):bv X (st::sts) (cR E N (qG d1 dn d2)):=by
 intro pc s0 σ H D I0 hz;obtain⟨F,O,s,R,I,hd,q⟩:=hz;unfold qG at hd;rcases Bool.or_eq_true_iff.mp hd with hd |hd
 ·exact yX h1 h2 pc s0 σ H D I0 ⟨F,O,s,R,I,hd,q⟩
 ·split at hd
  case h_2=>cases hd
  rename_i s' hf;refine yX hn h2 pc s0 σ H D I0 ⟨F,O,s,_,R,I,hf,λO' σ' H' k R' I'=>⟨F,O',s',R',I',hd,λO2 H2 k2=>q O2 H2 (k.trans k2)⟩⟩
end
def yL(fe:DE):DR:=λs=>(fe s).isSome
section
variable {E:XK}{N D:jw}
theorem RK{k:Nat}{bm:List j8}{x:Str}{np cpos:Pos}{e0:Q3}{fe:DE}(hR:uk X E)(hc:X.calm=aC)(hr:Room (k+1) X.A)(xc:XClsI X.K X.base N D bm)(hg:Gl X x)(hm:X.mg x=aA (.ref N))(he0:PE X e0 (cE .e [] fe))
  (he:jf [e0] X.env=(aD,eval e0 X.env)::jf [] X.env:=by rfl) (hpl:(QQ cpos (jf [] X.env)).any (·.1)=aD:=by rfl) (hd:(x == ("__debug__":Str))=aD:=by decide) :
  PS X (.Raise (aA (.Call (.Name x np) [e0] [] cpos)) aB pos) (cR E N (yL fe)):=eX (Ro hR hc hr xc hg hm (f9 he0 ib he) he hpl hd) (by
 intro D' σ H hz; obtain⟨F,O,s,R,I,hd,q⟩:=hz;obtain⟨⟨t,s'⟩,h1⟩:=ZD.mp (show (fe s).isSome=aC from hd)
 exact⟨F,O,s,t,s',R,h1,λv H' S po=>⟨rfl,q O H' (S.keepO R)⟩⟩)
end
theorem Rel.wr{F:Fr}{O:jw->Prop}{M:List Nat}{s:Sg}{σ:L2.St}{H:Hp}{p:jw}(R:Rel F O M s σ H)(hO:O p)(hn:∀(i:Nat),i∈M->σ[i]?≠aA (aA (.ref p)))(h0:F.H0 p=aB)(o:HO):Rel F O M s σ (aR H p o):=by
 have k:∀ b u,Free F O b->H b=aA u->aR H p o b=aA u:=λb u c e=>by rw[ac (λz:b=p=>c.1 (z▸hO))]; exact e
 refine⟨R.len,λi t e n=>?_,λi t e n=>?_,R.ow,R.dis,λb u n e=>?_,λb e=>?_,R.fresh,R.inD,λb z e=>?_⟩
 ·obtain⟨v,h1,h2⟩:=R.val i t e n;exact⟨v,h1,h2.mono (λ_ c=>c) k⟩
 ·obtain⟨a,h1,h2⟩:=R.own i t e n;exact⟨a,h1,h2.mono (λ_ c=>c) k λu e=>by rw[ac (λz:a=p=>hn i n (z▸h1))]; exact e⟩
 ·rw[ac (λz=>by rw[z,h0] at e; cases e)]
  exact R.keep b u n e
 ·refine R.dom b ?_;unfold aR at e;split at e
  ·cases e
  ·exact e
 ·refine R.al b z ?_;unfold aR at e;split at e
  ·cases e
  ·exact e
def xU(fk fv:DE):DE:=λs=>(fk s).bind λq=>(fv q.2).bind λr=>(cq q.1).map λk=>(.dct [(k,r.1)],r.2)
end L3
namespace L3
open PySem PySem.Spec PyProof.Rows L2
def Here(K:j9)(mg:Str->Option j8)(x:Str)(st:QR)(ps:List Str):Prop:=
 ∃ f fd,Fun K x x st f fd/\Binds K fd ps []/\Q6 K (.ref f)=aC/\mg x=aA (.ref f)
def dk(P:jI)(w:Qe)(K:j9)(mg:Str->Option j8)(base:QN)(n:Nat)(x:Str)(ps:List Str)(sp:Sp):Prop:=
 ∃ f fd,FnOk P w K mg base dl n f fd ps sp/\Binds K fd ps []/\Q6 K (.ref f)=aC/\mg x=aA (.ref f)
theorem OQ{K:j9}{h:QN}{mg:Str->Option j8}(X:K.In h)(G:h.Ns jT mg){x:Str}{st:QR}{ps:List Str}{f:jw}{oc:j8}{od an:Option jw}{osl:Array (Option j8)}{kV doc pm cdv ct:j8}
  (hb:∀(kV doc pm:j8) (an:Option jw) (cdv ct:j8) (us:List j8),us.length=ps.length->Ye (Q0 x x (fU st) (dO st) (aZ st) .none kV doc pm an cdv ct) ⟨us,[]⟩=pure (ps.zip us))
  (a:Qq K jT x=aA (aA (.ref f))) (l:K.lookup f=aA ⟨oc,od,.func (Q0 x x (fU st) (dO st) (aZ st) .none kV doc pm an cdv ct),osl⟩)
  (c:Z2 K cdv x=aC) (k:Q6 K (.ref f)=aC):Here K mg x st ps:=by
 have F:=CK (st:=st) l c k;exact⟨f,_,F,F.binds hb,k,Wt X G a⟩
section
variable {P:jI}{w:Qe}{K:j9}{mg:Str->Option j8}{base:QN}
theorem Here.ok{x:Str}{st:QR}{N ps:List Str}{k:Nat}{sp:Sp}(h:Here K mg x st ps)(S:FnScope N ps (aZ st))(len:∀ vs H Q E,sp vs H Q E->vs.length=ps.length)
  (hbody:∀(f:jw) (cdv:j8) (A:Qh) (outer:List Env) (s:jd) (H:Hp) (vs:List V) (Q:VK) (E:XK),Room k (A.deeper (Zy x (aZ st) s.heap.objs.size f cdv))->sp vs H Q E->
   ∃ t,bv (dr dl P w K mg base N x (aZ st) f cdv A outer s H E).nox (dO st) t/\t { nx:=λ_ H'=>Q .non H',rt:=Q } (L2.start N vs) H):dk P w K mg base (k+1) x ps sp:=by
 obtain⟨f,fd,F,b,kp,m⟩:=h;exact⟨f,fd,F.ok S len λcdv A outer s H vs Q E hr hs=>hbody f cdv A outer s H vs Q E hr hs,b,kp,m⟩
theorem dk.mono{j k:Nat}{x:Str}{ps:List Str}{sp:Sp}(h:dk P w K mg base j x ps sp)(hjk:j<=k):dk P w K mg base k x ps sp:=by
 obtain⟨f,fd,F,b,kp,m⟩:=h;exact⟨f,fd,F.mono hjk,b,kp,m⟩
end
def rE(tk:TheK)(P:jI)(w:Qe)(mg:Str->Option j8)(base:QN)(k:Nat)(x:Str)(st:QR)(N:List Str)(t:TS):Prop:=
 ∀(f:jw) (cdv:j8) (A:Qh) (outer:List Env) (s:jd) (H:Hp) (E:XK),Room k (A.deeper (Zy x (aZ st) s.heap.objs.size f cdv))->bv (dr dl P w tk.K mg base N x (aZ st) f cdv A outer s H E).nox (dO st) t
variable [tk:TheK]
section
variable {P:jI}{w:Qe}{mg:Str->Option j8}{base:QN}{x:Str}{st:QR}{N ps:List Str}{k:Nat}{d:DS}{M' Mb:List Nat}
theorem Here.okP(h:Here tk.K mg x st ps)(S:FnScope N ps (aZ st))(hb:rE tk P w mg base k x st N (cS .e [] [] M' Mb d))(hN:ps.length<=N.length:=by decide):dk P w tk.K mg base (k+1) x ps (bB .e ps.length (bM N.length d)):=by
 refine h.ok S (λvs H Q E ⟨C,ts,t,hl,r,_⟩=>by rw[r.1,hl]) λf cdv A outer s H vs Q E hr hs=>⟨_,hb f cdv A outer s H E hr,?_⟩
 refine xL (λts t e=>?_) (.inl rfl) hN hs;unfold bM at e;split at e
 ·injection e with e; subst e; exact .inl ⟨_,by assumption⟩
 ·injection e with e; subst e; exact .inr ⟨rfl,rfl,_,by assumption⟩
 ·cases e
theorem Here.okN(h:Here tk.K mg x st ps)(S:FnScope N ps (aZ st))(hb:rE tk P w mg base k x st N (cS .n [] [] M' Mb d))(hN:ps.length<=N.length:=by decide):dk P w tk.K mg base (k+1) x ps (bB .n ps.length (iw N.length d)):=by
 refine h.ok S (λvs H Q E ⟨C,ts,t,hl,r,_⟩=>by rw[r.1,hl]) λf cdv A outer s H vs Q E hr hs=>⟨_,hb f cdv A outer s H E hr,?_⟩
 refine xL (λts t e=>?_) (.inr rfl) hN hs;unfold iw at e;split at e
 ·injection e with e; subst e; exact .inl ⟨_,by assumption⟩
 ·cases e
theorem DX{rk:Kd}{np:Nat}{fn:List T->Option (T × T)}{vs:List V}{H:Hp}{Q:VK}{E:XK}(h:fB rk np fn vs H Q E):vs.length=np:=by
 obtain⟨C,a,us,t0,ts,t,t1,hl,rfl,_,_,r,_⟩:=h;rw[<-hl,jk,jk,r.1]
theorem Here.okI(h:Here tk.K mg x st ps)(S:FnScope N ps (aZ st))(hb:rE tk P w mg base k x st N (cS .e [0] [0] M' Mb d))(hN:ps.length<=N.length:=by decide):dk P w tk.K mg base (k+1) x ps (fB .e ps.length (fN N.length d)):=
 h.ok S (λvs H Q E h=>DX h) λf cdv A outer s H vs Q E hr hs=>⟨_,hb f cdv A outer s H E hr,Bt (.inl rfl) hN hs⟩
def qO(K:j9):Sp:=λvs H Q _=>∃(a:jw) (ns:List Int),vs=[.ref a]/\tf H/\ad K H a (ns.map V.int)/\ns.length<=63/\∀ H',Q (.bl aC) H'
theorem Kv{fw:jw}{dw:Z9}(F:Fun tk.K x x st fw dw)(S:FnScope N [ps0] (aZ st))(hb:rE tk P w mg base k x st N (cS .e [] [] M' Mb d))(hN:1<=N.length)(hd:∀ ns:List Int,ns.length<=63->bM N.length d [.scr ns]=aA (.bl aC)):FnOk P w tk.K mg base dl (k+1) fw dw [ps0] (qO tk.K):=by
 refine F.ok S (λvs H Q E ⟨a,ns,e,_⟩=>by rw[e]; rfl) λcdv A outer s H vs Q E hr hs=>⟨_,hb fw cdv A outer s H E hr,?_⟩
 obtain⟨a,ns,rfl,hO,hS,h63,q⟩:=hs;have rp:Rep (λ_=>True) H (.ref a) (.scr ns):=by
  rcases hS with (hS |⟨o,hS⟩) |hS
  ·rcases hO a with z |⟨_,_,z⟩<;>rw[hS] at z<;>cases z
  ·exact .scr trivial hS
  ·exact .scrK λH'=>.inr hS
 refine xL (np:=1) (N:=N) (fn:=L3.bM N.length d) (λts t e=>?_) (.inl rfl) hN (E:=E) ⟨λ_=>True,[.scr ns],.bl aC,rfl,.cons rp .nil,hd ns h63,λv H' c=>?_⟩
 ·unfold L3.bM at e;split at e
  ·injection e with e; subst e; exact .inl ⟨_,by assumption⟩
  ·injection e with e; subst e; exact .inr ⟨rfl,rfl,_,by assumption⟩
  ·cases e
 ·have:v=.bl aC:=BRep.bl (.inl c.res);rw[this];exact q H'
end
end L3
namespace L3
open PySem PySem.Spec PyProof.Rows L2
variable {X:Cx}{p p2 pos:Pos}{a c e iter o tg:Q3}{es:List Q3}{N ps:List Str}{M M' Mb io:List Nat}{fa fb fe fk:DE}{ft:DT}{rk:Kd}{st:QR}{fs:DA}{x:Str}{k np:Nat}{f:jw}{fd:Z9}{P:jI}{w:Qe}{mg:Str->Option j8}{base:QN}
theorem dv{A:Qh}{k:Nat}(hr:Room k A):A.units+8 < gz:=by have:=hr.un; lia
structure QE (X:Cx) (e:Q3) (t:TE):Prop where
 un:L2.PE X e t
structure QT (X:Cx) (e:Q3) (t:TT):Prop where
 un:L2.PT X e t
structure QW (X:Cx) (e:Q3) (t:TT):Prop where
 un:L2.PW X e t
structure QA (X:Cx) (e:List Q3) (t:TA):Prop where
 un:L2.PA X e t
structure QSs (X:Cx) (e:List QR) (t:TS):Prop where
 un:L2.bv X e t
structure QS (X:Cx) (e:QR) (t:TS):Prop where
 un:L2.PS X e t
structure QI (X:Cx) (tg iter:Q3) (t:TI):Prop where
 un:L2.PI X tg iter t
structure QGs (X:Cx) (e:List Q3) (t:eI):Prop where
 un:L2.oz X e t
structure QG (X:Cx) (e:Q3) (t:TG):Prop where
 un:L2.PG X e t
structure QTs (X:Cx) (e:List Q3) (t:TT):Prop where
 un:L2.im X e t
structure QO (X:Cx) (e:Option Q3) (t:TO):Prop where
 un:L2.PO X e t
section
theorem yY{x:Str}{v:V}{u:j8}{pos:Pos}(hg:Gl X x)(hm:X.mg x=aB)(hv:Qu x=aA u)(r:RelV v u)(hn:x≠"__name__":=by decide)(hd:(x == ("__debug__":Str))=aD:=by decide):QE X (.Name x pos) (tC v):=⟨L2.Og hg hm hv r hn hd⟩
end
section
theorem ao{i:Nat}{x:Str}(hN:X.N.Nodup)(hi:X.N[i]?=aA x)(hx:nz X.env.scope x)(hf:X.fn x=aC∨X.env.scope.names.lookup x=aA .local:=by first |exact .inl rfl |exact .inr rfl |assumption):QG X (.Name x pos) (dY i):=⟨L2.Oi hN hi hx hf⟩
theorem fM :QGs X [] o6:=⟨L2.O3 ⟩
theorem cC{e:Q3}{es:List Q3}{t:TG}{u:eI}(h1:QG X e t)(h2:QGs X es u)(hs:(Qs (e::es) X.env).map (·.2)=gZ e X.env::(Qs es X.env).map (·.2):=by rfl):QGs X (e::es) (nK t u):=⟨L2.Pf h1.un h2.un hs⟩
theorem lZ{es:List Q3}{k:Nat}{t:eI}{n:Nat}(hc:X.calm=aC)(h:QGs X es t)(hn:(Qs es X.env).length=n:=by rfl)(hst:(Qs es X.env).findIdx? (·.1)=aB:=by rfl):QG X (.Tuple es k pos) (fq X.K n t):=⟨L2.Cg hc h.un hn hst⟩
theorem ue{o i:Q3}{to ti:TE}{t:tj}(ho:QE X o to)(hi:QE X i ti)(hs:wf X t)(ha:∀ v,gZ (.Subscript o i pos) X.env v=(do
   let ov <-Yz [v] (eval o X.env)
   let iv <-Yz [v,ov] (eval i X.env)
   standAt pos
   Yz [v,ov,iv] (setItem ov iv v)
   release [v,ov,iv] []):=by intro _; rfl):QG X (.Subscript o i pos) (wn to ti t):=⟨L2.Ly ho.un hi.un hs ha⟩
theorem oR{tg e:Q3}{te:TE}{g:TG}(he:QE X e te)(hg:QG X tg g)(hs:swapsWithSole [tg] e pos.line X.env=pure aD:=by rfl)(hw:swappedStores [tg] e X.env=pure aB:=by rfl)(h1:(Qs [tg] X.env).map (·.2)=[gZ tg X.env]:=by rfl):QS X (.Assign [tg] e pos) (dq te g):=⟨L2.M1 he.un hg.un hs hw h1⟩
theorem ai{i:Nat}{x:Str}{e:Q3}{te:TE}{pos':Pos}(hN:X.N.Nodup)(hi:X.N[i]?=aA x)(hx:nz X.env.scope x)(he:QE X e te)(hs:ZX e (aA (.Name x pos')) pos.line X.env=pure aD:=by rfl)(hf:X.fn x=aC∨X.env.scope.names.lookup x=aA .local:=by first |exact .inl rfl |exact .inr rfl |assumption):QS X (.Assign [.Name x pos'] e pos) (dq te (dY i)):=⟨L2.Ch hN hi hx he.un hs hf⟩
end
section
theorem eF{iter:Q3}{body:List QR}{wi:TI}{g:TG}{tb:TS}{pos:Pos}(hp:Ji (jO X.prog X.w) X.A X.env X.xe)(hc:X.calm=aC)(hi:QI X tg iter wi)(hg:QG X tg g)(hb:QSs X body tb)(hs:∀ x,Qz iter X.env x=pure x:=by intro _; rfl):QS X (.For tg iter body [] pos) (u8 wi g tb):=⟨L2.M2 hp hc hi.un hg.un hb.un hs⟩
end
section
variable {te:TE}{t:TA}
theorem DH :QA X [] lN:=⟨L2.ib ⟩
theorem Dk(ha:QE X e te)(hr:QA X es t)(hs:jf (e::es) X.env=(aD,eval e X.env)::jf es X.env:=by rfl):QA X (e::es) (i8 te t):=⟨L2.f9 ha.un hr.un hs⟩
end
section
variable {b:Q3}{ta tb:TE}
variable {to:TE}{t:TA}{name:Str}{apos cpos:Pos}{T id:String}{r:V->List V->Hp->VK->Prop}
theorem ud(pa:WF T)(slot:Slot T name id)(hty:typeOf (.builtin id)=pure (.type "method_descriptor"))(hm:rD X id r)(ho:QE X o to)(hbase:N2 o name X.env (eval o X.env)=eval o X.env:=by rfl)(hline:(apos.endLine == cpos.line)=aC:=by rfl):QE X (.Call (.Attribute o name apos) [] [] cpos) (u7 X.K T r to):=⟨L2.LZ pa slot hty hm ho.un hbase hline⟩
theorem l9(pa:WF T)(slot:Slot T name id)(hty:typeOf (.builtin id)=pure (.type "method_descriptor"))(hm:rD X id r)(ho:QE X o to)(ha:QA X (e::es) t)(hbase:N2 o name X.env (eval o X.env)=eval o X.env:=by rfl)(hfew:((QQ cpos (jf (e::es) X.env)).all (λx=>!x.1)&&(backToKw cpos (keywordEach [] X.env)).all (λx=>x.1.isSome)
   && aE ((e::es).length+([]:List Keyword).length+(if ([]:List Keyword).isEmpty then 0 else 1) < 30))=aC:=by rfl) (hline:(apos.endLine == cpos.line)=aC:=by rfl) (hs:jf (e::es) X.env=(aD,eval e X.env)::jf es X.env:=by rfl) (hplain:(QQ cpos (jf es X.env)).any (·.1)=aD:=by rfl):QE X (.Call (.Attribute o name apos) (e::es) [] cpos) (nq X.K T r to t):=⟨L2.IY pa slot hty hm ho.un ha.un hbase hfew hline hs hplain⟩
end
section
variable {i value:Q3}{pos' tpos:Pos}{td ty tv:TE}
theorem nX(hu:X.A.units+1 < gz)(ho:QE X o td)(hi:QE X i ty)(hv:QE X value tv)(hs:ZX value (aA (.Subscript o i pos')) pos.line X.env=pure aD):QS X (.Assign [.Subscript o i pos'] value pos) (xM td ty tv):=⟨L2.OD hu ho.un hi.un hv.un hs⟩
end
section
theorem aj(i:Nat){x:Str}{pos:Pos}(hN:X.N[i]?=aA x:=by rfl)(hv:tR X.env.scope x:=by first |exact jD rfl |exact ZP (jD rfl) |exact ZP (ZP rfl))(hd:(x == ("__debug__":Str))=aD:=by decide)(hcd:(x == ("__classdict__":Str))=aD:=by decide):QE X (.Name x pos) (cH i):=⟨L2.pv i hN hv hd hcd⟩
end
section
theorem iE{X:Cx}:QTs X [] wu:=⟨L2.OG ⟩
theorem oU{X:Cx}{c:Q3}{t:TT}(h:QT X c t):QTs X [c] t:=⟨L2.OH h.un⟩
end
section
variable {scope:gQ}{caps:List (Option Nat)}{elt:Q3}{ifs:List Q3}{wi:TI}{g:TG}{tt:TT}{te:TE}
theorem iA(hc:X.calm=aC)(hi:QI X tg iter wi)(hg:∀ cl C s0 H0 fp,QG (bc X N scope cl C s0 H0 fp) tg g)(hgk:i5 caps g)(ht:∀ cl C s0 H0 fp,QTs (bc X N scope cl C s0 H0 fp) ifs tt)(he:∀ cl C s0 H0 fp,QE (bc X N scope cl C s0 H0 fp) elt te)(hcap:capOk N X.N scope X.env.scope caps=aC:=by rfl)(hkind:scope.kind=.function:=by rfl)(hcell:scope.names.all (λp=>p.2 != .cell)=aC:=by rfl)(hnames:scope.names.all (λp=>p.2 != .local||scope.names.lookup p.1 == aA .local)=aC:=by rfl)(hfr:scope.names.all (λp=>p.2 != .free||(X.env.scope.names.lookup p.1 == aA .cell||X.env.scope.names.lookup p.1 == aA .free))=aC:=by rfl)(hs:∀ x,Qz iter X.env x=pure x:=by intro _; rfl):QE X (.ListComp elt [⟨tg,iter,ifs,0⟩] scope pos) (oi caps wi g tt te):=⟨L2.Ia hc hi.un (λcl C s0 H0 fp=>(hg cl C s0 H0 fp).un) hgk (λcl C s0 H0 fp=>(ht cl C s0 H0 fp).un) (λcl C s0 H0 fp=>(he cl C s0 H0 fp).un) hcap hkind hcell hnames hfr hs⟩
theorem sq{i:Nat}{y:Str}{py spos:Pos}(hN:X.N.Nodup)(hiy:X.N[i]?=aA y)(hy:X.env.scope.names.lookup y=aA .local)(hc:X.calm=aC)(hi:QI X tg iter wi)(hg:∀ cl C s0 H0 fp,QG (bc X N scope cl C s0 H0 fp) tg g)(hgk:i5 caps g)(ht:∀ cl C s0 H0 fp,QTs (bc X N scope cl C s0 H0 fp) ifs tt)(he:∀ cl C s0 H0 fp,QE (bc X N scope cl C s0 H0 fp) elt te)(hsw:ZX (.ListComp elt [⟨tg,iter,ifs,0⟩] scope pos) (aA (.Name y py)) spos.line X.env=pure aC:=by rfl)(hcap:capOk N X.N scope X.env.scope caps=aC:=by rfl)(hkind:scope.kind=.function:=by rfl)(hcell:scope.names.all (λp=>p.2 != .cell)=aC:=by rfl)(hnames:scope.names.all (λp=>p.2 != .local||scope.names.lookup p.1 == aA .local)=aC:=by rfl)(hfr:scope.names.all (λp=>p.2 != .free||(X.env.scope.names.lookup p.1 == aA .cell||X.env.scope.names.lookup p.1 == aA .free))=aC:=by rfl)(hs:∀ x,Qz iter X.env x=pure x:=by intro _; rfl):QS X (.Assign [.Name y py] (.ListComp elt [⟨tg,iter,ifs,0⟩] scope pos) spos) (dq (oi caps wi g tt te) (dY i)):=⟨L2.Pw hN hiy hy hc hi.un (λcl C s0 H0 fp=>(hg cl C s0 H0 fp).un) hgk (λcl C s0 H0 fp=>(ht cl C s0 H0 fp).un) (λcl C s0 H0 fp=>(he cl C s0 H0 fp).un) hsw hcap hkind hcell hnames hfr hs⟩
end
section
variable {K:j9}
theorem vA{es:List Q3}{k:Nat}{t:eI}{n:Nat}{pos:Pos}(hK:X.K=K)(hc:X.calm=aC)(h:QGs X es t)(hn:(Qs es X.env).length=n:=by rfl)(hst:(Qs es X.env).findIdx? (·.1)=aB:=by rfl):QG X (.Tuple es k pos) (fq K n t):=⟨L2.Mz hK hc h.un hn hst⟩
end
section
theorem yD{es:List Q3}{k:Nat}{t:eI}{n:Nat}(hc:X.calm=aC)(h:QGs X es t)(hn:(Qs es X.env).length=n:=by rfl)(hst:(Qs es X.env).findIdx? (·.1)=aB:=by rfl):QG X (.Tuple es k pos) (wo X.K n t):=⟨L2.Lz hc h.un hn hst⟩
end
section
variable {scope:gQ}{caps:List (Option Nat)}{kx vx:Q3}{ifs:List Q3}{wi:TI}{g:TG}{tt:TT}{tk tv:TE}
theorem Ld(hc:X.calm=aC)(hi:QI X tg iter wi)(hg:∀ cl C s0 H0 fp,QG (bc X N scope cl C s0 H0 fp) tg g)(hgk:i5 caps g)(ht:∀ cl C s0 H0 fp,QTs (bc X N scope cl C s0 H0 fp) ifs tt)(hk:∀ cl C s0 H0 fp,QE (bc X N scope cl C s0 H0 fp) kx tk)(he:∀ cl C s0 H0 fp,QE (bc X N scope cl C s0 H0 fp) vx tv)(hcap:capOk N X.N scope X.env.scope caps=aC:=by rfl)(hkind:scope.kind=.function:=by rfl)(hcell:scope.names.all (λp=>p.2 != .cell)=aC:=by rfl)(hnames:scope.names.all (λp=>p.2 != .local||scope.names.lookup p.1 == aA .local)=aC:=by rfl)(hfr:scope.names.all (λp=>p.2 != .free||(X.env.scope.names.lookup p.1 == aA .cell||X.env.scope.names.lookup p.1 == aA .free))=aC:=by rfl)(hs:∀ x,Qz iter X.env x=pure x:=by intro _; rfl):QE X (.DictComp kx vx [⟨tg,iter,ifs,0⟩] scope pos) (oj caps wi g tt tk tv):=⟨L2.IZ hc hi.un (λcl C s0 H0 fp=>(hg cl C s0 H0 fp).un) hgk (λcl C s0 H0 fp=>(ht cl C s0 H0 fp).un) (λcl C s0 H0 fp=>(hk cl C s0 H0 fp).un) (λcl C s0 H0 fp=>(he cl C s0 H0 fp).un) hcap hkind hcell hnames hfr hs⟩
theorem Rv{i:Nat}{y:Str}{py spos:Pos}(hN:X.N.Nodup)(hiy:X.N[i]?=aA y)(hy:X.env.scope.names.lookup y=aA .local)(hc:X.calm=aC)(hi:QI X tg iter wi)(hg:∀ cl C s0 H0 fp,QG (bc X N scope cl C s0 H0 fp) tg g)(hgk:i5 caps g)(ht:∀ cl C s0 H0 fp,QTs (bc X N scope cl C s0 H0 fp) ifs tt)(hk:∀ cl C s0 H0 fp,QE (bc X N scope cl C s0 H0 fp) kx tk)(he:∀ cl C s0 H0 fp,QE (bc X N scope cl C s0 H0 fp) vx tv)(hsw:ZX (.DictComp kx vx [⟨tg,iter,ifs,0⟩] scope pos) (aA (.Name y py)) spos.line X.env=pure aC:=by rfl)(hcap:capOk N X.N scope X.env.scope caps=aC:=by rfl)(hkind:scope.kind=.function:=by rfl)(hcell:scope.names.all (λp=>p.2 != .cell)=aC:=by rfl)(hnames:scope.names.all (λp=>p.2 != .local||scope.names.lookup p.1 == aA .local)=aC:=by rfl)(hfr:scope.names.all (λp=>p.2 != .free||(X.env.scope.names.lookup p.1 == aA .cell||X.env.scope.names.lookup p.1 == aA .free))=aC:=by rfl)(hs:∀ x,Qz iter X.env x=pure x:=by intro _; rfl):QS X (.Assign [.Name y py] (.DictComp kx vx [⟨tg,iter,ifs,0⟩] scope pos) spos) (dq (oj caps wi g tt tk tv) (dY i)):=⟨L2.Pu hN hiy hy hc hi.un (λcl C s0 H0 fp=>(hg cl C s0 H0 fp).un) hgk (λcl C s0 H0 fp=>(ht cl C s0 H0 fp).un) (λcl C s0 H0 fp=>(hk cl C s0 H0 fp).un) (λcl C s0 H0 fp=>(he cl C s0 H0 fp).un) hsw hcap hkind hcell hnames hfr hs⟩
end
section
variable [TheK]
variable {b:Q3}
theorem bi(h:QE X e (cE .n M fa)):QE X e (cE .e M fa):=⟨L3.ne h.un⟩
theorem aN(h:QE X e (cE .e M fa)):QE X e (cE .b M fa):=⟨L3.eb h.un⟩
theorem lj(h:QE X e (cE .n M fa)):QE X e (cE .b M fa):=⟨L3.nb h.un⟩
theorem VW{i:Nat}(hi:M.contains i=aD)(h:QE X e (cH i)):QE X e (cE .e M (dV i)):=⟨have h:=h.un;weak h fun σ H Q h_=>ba h_ λF O s t s' R hf q=>by
 obtain⟨e1,rfl⟩:=yM hf;obtain⟨v,h1,h2⟩:=R.val i t e1 (by simpa using hi)
 exact⟨v,h1,q v H .refl ⟨R,h2⟩⟩⟩
theorem f8{i:Nat}(hi:M.contains i=aC)(h:QE X e (cH i)):QE X e (cE .b M (dV i)):=⟨have h:=h.un;weak h fun σ H Q h_=>ba h_ λF O s t s' R hf q=>by
 obtain⟨e1,rfl⟩:=yM hf;obtain⟨a,h1,h2⟩:=R.own i t e1 (by simpa using hi)
 exact⟨_,h1,q _ H .refl ⟨R,.inr ⟨i,by simpa using hi,h1,e1⟩⟩⟩⟩
theorem aW{i j pos}:QE X (.Constant (.int i) j pos) (cE .e M (dC (.int i))):=⟨uC (λ_ _=>.int i) Lp⟩
theorem rR{i j pos}:QE X (.Constant (.bool i) j pos) (cE .e M (dC (.bl i))):=⟨uC (λ_ _=>.bl i) IX⟩
theorem l7{i j pos}:QE X (.Constant (.str i) j pos) (cE .e M (dC (.str i))):=⟨uC (λ_ _=>.str i) Lv⟩
theorem l5{j pos}:QE X (.Constant .none j pos) (cE .e M (dC .non)):=⟨uC (λ_ _=>.non) Cf⟩
end
section
variable [TheK]
variable {b:Q3}
theorem OK{i:Nat}(hi:M.contains i=aC)(ha:QE X a (cH i))(hb:QE X b (cE .b M fb)):QE X (.BinOp a .Add b pos) (cE .n M (bh lJ i fb)):=⟨have ha:=ha.un;have hb:=hb.un;weak (ix CZ ha hb) (MG hi Bu)⟩
theorem qX(ha:QE X a (cE .e M fa))(hb:QE X b (cE .b M fb)):QE X (.BinOp a .Sub b pos) (cE .e M (d2 ln fa fb)):=⟨have ha:=ha.un;have hb:=hb.un;weak (ix LW ha hb) (dJ Gm)⟩
theorem dy(ha:QE X a (cE .e M fa))(hb:QE X b (cE .b M fb)):QE X (.BinOp a .Mult b pos) (cE .e M (d2 cv fa fb)):=⟨have ha:=ha.un;have hb:=hb.un;weak (ix LU ha hb) (dJ (tI λi j h=>by
 unfold n4 at h;rw[Zg,decide_eq_true_iff,decide_eq_true_iff] at h
 exact h))⟩
theorem f7(ha:QE X a (cE .e M fa))(hb:QE X b (cE .b M fb)):QE X (.BinOp a .FloorDiv b pos) (cE .e M (d2 dM fa fb)):=⟨have ha:=ha.un;have hb:=hb.un;weak (ix Oc ha hb) (dJ (tI λi j h=>of_decide_eq_true (p:=0 < j/\j < 1073741824) h))⟩
theorem dD(ha:QE X a (cE .e M fa))(hb:QE X b (cE .b M fb)):QE X (.BinOp a .Mod b pos) (cE .e M (d2 bo fa fb)):=⟨have ha:=ha.un;have hb:=hb.un;weak (ix LT ha hb) (dJ (tI λi j h=>of_decide_eq_true h))⟩
theorem xg(ha:QE X a (cE .e M fa))(hb:QE X b (cE .b M fb)):QE X (.BinOp a .Pow b pos) (cE .e M (d2 qB fa fb)):=⟨have ha:=ha.un;have hb:=hb.un;weak (ix LV ha hb) (dJ (tI λi j h=>of_decide_eq_true (p:=0<=j/\j<=1000000/\i.natAbs < 2 ^ 64) h))⟩
end
section
variable [TheK]
variable {b:Q3}
theorem qL(hu:X.A.units+8 < gz)(ha:QE X a (cE .e M fa))(hb:QE X b (cE .b M fb)):QE X (.Compare a [.Eq] [b] pos) (cE .e M (d2 bY fa fb)):=⟨have ha:=ha.un;have hb:=hb.un;weak (yB (Ca hu) ha hb (lU _)) (dJ BV)⟩
theorem Hb(hu:X.A.units+8 < gz)(ha:QE X a (cE .e M fa))(hb:QE X b (cE .b M fb)):QE X (.Compare a [.NotEq] [b] pos) (cE .e M (d2 cc fa fb)):=⟨have ha:=ha.un;have hb:=hb.un;weak (yB (Cb hu) ha hb (lU _)) (dJ BX)⟩
end
section
variable [TheK]
variable {b:Q3}{fu:DT}{k:Kd}
theorem lA(h:QE X a (cE .b M fa))(he:∀ whole,JD a X.env whole=(do let v <-whole; standAt a.pos; Yz [v] (truthy v)):=by intro _; rfl):QT X a (cT M (fJ fa)):=⟨have h:=h.un;fK (Py h he) (by
 intro σ H Q h_;refine ou h_ λF O s b s' R hf q=>?_;obtain⟨p,h1,h2⟩:=Qb hf;obtain⟨b',h3,h4⟩:=Qm h2;injection h4 with h4 h5;subst h4 h5
 exact⟨F,O,s,p.1,p.2,R,h1,λv H' S po=>⟨b',Oz po.view h3,q H' S po.1⟩⟩)⟩
theorem i7(hu:X.A.units+8 < gz)(ha:QE X a (cE .e M fa))(hb:QE X b (cE .b M fb)):QT X (.Compare a [.Eq] [b] pos) (cT M (dB (d2 bY fa fb))):=⟨have ha:=ha.un;have hb:=hb.un;fK (lB (Ca hu) ha hb (lU _)) (fW (dJ BV))⟩
theorem nI(hu:X.A.units+8 < gz)(ha:QE X a (cE .e M fa))(hb:QE X b (cE .b M fb)):QT X (.Compare a [.NotEq] [b] pos) (cT M (dB (d2 cc fa fb))):=⟨have ha:=ha.un;have hb:=hb.un;fK (lB (Cb hu) ha hb (lU _)) (fW (dJ BX))⟩
theorem Bm(ha:QE X a (cE .e M fa))(hb:QE X b (cE .b M fb)):QT X (.Compare a [.Lt] [b] pos) (cT M (dB (d2 r8 fa fb))):=⟨have ha:=ha.un;have hb:=hb.un;fK (lB (op_lt.or Rj) ha hb (lU _)) (fW (dJ Hq))⟩
theorem o9(ha:QE X a (cE .e M fa))(hb:QE X b (cE .b M fb)):QT X (.Compare a [.Gt] [b] pos) (cT M (dB (d2 fD fa fb))):=⟨have ha:=ha.un;have hb:=hb.un;fK (lB IW ha hb (lU _)) (fW (dJ BU))⟩
theorem Hh(ha:QE X a (cE .e M fa))(hb:QE X b (cE .b M fb)):QT X (.Compare a [.GtE] [b] pos) (cT M (dB (d2 Am fa fb))):=⟨have ha:=ha.un;have hb:=hb.un;fK (lB IV ha hb (lU _)) (fW (dJ BU))⟩
theorem Bl(ha:QE X a (cE .e M fa))(hb:QE X b (cE .b M fb)):QT X (.Compare a [.Is] [b] pos) (cT M (dB (d2 oo fa fb))):=⟨have ha:=ha.un;have hb:=hb.un;fK (lB (op_isF.or LR) ha hb (lU _)) (fW (dJ Gn))⟩
theorem vB(ha:QE X a (cE .e M fa))(hb:QE X b (cE .b M fb)):QT X (.Compare a [.IsNot] [b] pos) (cT M (dB (d2 eN fa fb))):=⟨have ha:=ha.un;have hb:=hb.un;fK (lB (op_isnotF.or Of) ha hb (lU _)) (fW (dJ Om))⟩
theorem uQ(h:QT X a (cT M ft)):QT X (.UnaryOp .Not a pos) (cT M (q5 ft)):=⟨have h:=h.un;fK (M4 h) (by
 intro σ H Q h_;refine ou h_ λF O s b s' R hf q=>?_;obtain⟨p,h1,h2⟩:=Qm hf;injection h2 with h2 h3;subst h2 h3
 exact⟨F,O,s,p.1,p.2,R,h1,λH' S R'=>q H' S R'⟩)⟩
theorem ug(h:QT X a (cT M ft)):QW X (.BoolOp .And [a] pos) (cT M ft):=⟨have h:=h.un;OI h⟩
theorem uR(h:QT X a (cT M ft)):QW X (.BoolOp .Or [a] pos) (cT M ft):=⟨have h:=h.un;M7 h⟩
theorem rm{rest:List Q3}(ha:QT X a (cT M ft))(hb:QW X (.BoolOp .And (b::rest) pos) (cT M fu)):QW X (.BoolOp .And (a::b::rest) pos) (cT M (iq ft fu)):=⟨have ha:=ha.un;have hb:=hb.un;CB (M6 ha hb) (by
 intro σ H Q h_;refine ou h_ λF O s b s' R hf q=>?_;obtain⟨p,h1,h2⟩:=Qb hf;refine⟨F,O,s,p.1,p.2,R,h1,λH' S R'=>?_⟩;split at h2
 ·rename_i hp;rw[aI hp];exact⟨F,O,p.2,b,s',R',h2,λH2 S2 R2=>q H2 (S.trans S2) R2⟩
 ·rename_i hp;rw[aH hp];injection h2 with h2;injection h2 with h2 h3;subst h2 h3
  exact q H' S R')⟩
theorem uG{rest:List Q3}(ha:QT X a (cT M ft))(hb:QW X (.BoolOp .Or (b::rest) pos) (cT M fu)):QW X (.BoolOp .Or (a::b::rest) pos) (cT M (ot ft fu)):=⟨have ha:=ha.un;have hb:=hb.un;CB (HZ ha hb) (by
 intro σ H Q h_;refine ou h_ λF O s b s' R hf q=>?_;obtain⟨p,h1,h2⟩:=Qb hf;refine⟨F,O,s,p.1,p.2,R,h1,λH' S R'=>?_⟩;split at h2
 ·rename_i hp;rw[aI hp];injection h2 with h2;injection h2 with h2 h3;subst h2 h3;exact q H' S R'
 ·rename_i hp;rw[aH hp]
  exact⟨F,O,p.2,b,s',R',h2,λH2 S2 R2=>q H2 (S.trans S2) R2⟩)⟩
theorem uO{op}(h:QE X a (cE .e M fa)):QE X (.BoolOp op [a] pos) (cE .e M fa):=⟨have h:=h.un;Ls h⟩
theorem rh{rest:List Q3}(ha:QE X a (cE .e M fa))(hb:QE X (.BoolOp .And (b::rest) pos) (cE .e M fb)):QE X (.BoolOp .And (a::b::rest) pos) (cE .e M (oB fa fb)):=⟨have ha:=ha.un;have hb:=hb.un;weak (LY ha hb) (by
 intro σ H Q h_;refine ba h_ λF O s t s' R hf q=>?_;obtain⟨p,h1,h2⟩:=Qb hf;refine⟨F,O,s,.bl p.1,p.2,R,ur h1,λv H' S po=>⟨p.1,BRep.bl (.inl po.2),?_⟩⟩;split at h2
 ·rename_i hp;rw[aI hp];exact⟨F,O,p.2,t,s',po.1,h2,λw H2 S2 p2=>q w H2 (S.trans S2) p2⟩
 ·rename_i hp;rw[aH hp];injection h2 with h2;injection h2 with h2 h3;subst h2 h3
  exact q _ H' S ⟨po.1,.bl aD⟩)⟩
theorem M9(ha:QE X a (cE .e M fa)):QE X (.UnaryOp .Not a pos) (cE .e M (x6 fa)):=⟨have ha:=ha.un;weak (Lr ha) (by
 intro σ H Q h_;refine ba h_ λF O s t s' R hf q=>?_;obtain⟨p,h1,h2⟩:=Qm hf;injection h2 with h2 h3;subst h2 h3
 exact⟨F,O,s,.bl p.1,p.2,R,ur h1,λv H' S po=>⟨p.1,BRep.bl (.inl po.2),q _ H' S ⟨po.1,.bl _⟩⟩⟩)⟩
theorem xB(hc:QT X c (cT M ft))(ha:QE X a (cE .e M fa))(hb:QE X b (cE .e M fb)):QE X (.IfExp c a b pos) (cE .e M (rA ft fa fb)):=⟨have hc:=hc.un;have ha:=ha.un;have hb:=hb.un;weak (Pe hc ha hb) (by
 intro σ H Q h_;refine ba h_ λF O s t s' R hf q=>?_;obtain⟨p,h1,h2⟩:=Qb hf;refine⟨F,O,s,p.1,p.2,R,h1,λH' S R'=>?_⟩;split at h2
 ·rename_i hp;rw[aI hp];exact⟨F,O,p.2,t,s',R',h2,λw H2 S2 p2=>q w H2 (S.trans S2) p2⟩
 ·rename_i hp;rw[aH hp]
  exact⟨F,O,p.2,t,s',R',h2,λw H2 S2 p2=>q w H2 (S.trans S2) p2⟩)⟩
end
section
variable [TheK]
variable {fa:DA}
theorem aQ :QA X [] (cA M aJ):=⟨C9 ib (by
 rintro σ H Q ⟨F,O,s,ts,s',R,hf,q⟩;injection hf with hf;injection hf with h1 h2;subst h1 h2
 exact q [] H .refl R .nil)⟩
theorem aG(h:QE X e (cE .e M fe))(ha:QA X es (cA M fa))(hs:jf (e::es) X.env=(aD,eval e X.env)::jf es X.env:=by rfl):QA X (e::es) (cA M (aF fe fa)):=⟨have h:=h.un;have ha:=ha.un;C9 (f9 h ha hs) (by
 rintro σ H Q ⟨F,O,s,ts,s',R,hf,q⟩;obtain⟨p,h1,h2⟩:=Qb hf;obtain⟨r,h3,h4⟩:=Qm h2;injection h4 with h4 h5;subst h4 h5;refine⟨F,O,s,p.1,p.2,R,h1,λv H1 S1 p1=>⟨F,O,p.2,r.1,r.2,p1.1,h3,λvs H2 S2 R2 rs=>?_⟩⟩
 exact q _ H2 (S1.trans S2) R2 (.cons (p1.1.stay S2 p1.2) rs))⟩
theorem cX(h:QA X es (cA M fa)):QE X (.List es pos) (cE .n M (bz fa)):=⟨have h:=h.un;weak (Lq h) (by
 intro σ H Q h_;refine ba h_ λF O s t s' R hf q=>?_;obtain⟨p,h1,h2⟩:=Qb hf;split at h2
 ·rename_i hl;injection h2 with h2;injection h2 with h2 h3;subst h2 h3;refine⟨F,O,s,p.1,p.2,R,h1,λvs H1 S1 R1 rs=>⟨by rw[rs.1]; exact hl,λa ha=>?_⟩⟩
  exact q _ _ (S1.trans (.new ha _)) (.mkN R R1 S1 ha λC hC=>.lst bq (rs.there.mono hC λc o _ e=>by rw[ac (cZ e ha)]; exact e))
 ·cases h2)⟩
theorem iI{x1}(h:QA X es (cA M fa)):QE X (.Tuple es x1 pos) (cE .e M (du fa)):=⟨have h:=h.un;weak (Lw h) (by
 intro σ H Q h_;refine ba h_ λF O s t s' R hf q=>?_;obtain⟨p,h1,h2⟩:=Qb hf;split at h2
 ·rename_i hl;injection h2 with h2;injection h2 with h2 h3;subst h2 h3;refine⟨F,O,s,p.1,p.2,R,h1,λvs H1 S1 R1 rs=>⟨by rw[rs.1]; exact hl,λa ha=>?_⟩⟩
  refine q _ _ (S1.trans (.new ha _)) (.mkE R1 ha λC hC hp=>?_);have:=rs.there.mono (C':=C) (H':=aR H1 a (.tup vs)) hC λc o _ e=>by rw[ac (cZ e ha)]; exact e
  exact .tup hp bq this.1 this.2
 ·cases h2)⟩
theorem sQ :QE X (.Dict [] [] pos) (cE .n M oC):=⟨weak Pd (by
 intro σ H Q h_;refine ba h_ λF O s t s' R hf q=>?_;injection hf with hf;injection hf with h1 h2;subst h1 h2;intro a ha
 exact q _ _ (.new ha _) (.mkN R R .refl ha λC hC=>.dct bq ⟨rfl,λi v t e=>by simp at e⟩))⟩
end
section
variable [TheK]
variable {lo hi:Option Q3}{fl fh:DO}
theorem ig :QO X aB (cO M fG):=⟨λpc s σ H Q I h=>by
 obtain⟨F,O,s',t,s'',R,hf,q⟩:=h;injection hf with hf;injection hf with h1 h2;subst h1 h2
 exact OA pc s σ H Q I (q H .refl R)⟩
theorem iD(h:QE X e (cE .e M fe)):QO X (aA e) (cO M (eG fe)):=⟨have h:=h.un;λpc s σ H Q I hw=>by
 obtain⟨F,O,s',t,s'',R,hf,q⟩:=hw;obtain⟨⟨t',s1⟩,h1,h2⟩:=Qb hf;cases t'<;>simp at h2
 rename_i i;obtain⟨h2,h3⟩:=h2;subst h2 h3
 exact OB h pc s σ H Q I ⟨F,O,s',.int i,s1,R,h1,λv H' S p=>⟨i,BRep.int (.inl p.2),q H' S p.1⟩⟩⟩
theorem Hd(hK:X.K=TheK.K)(he:QE X e (cE .e M fe))(hl:QO X lo (cO M fl))(hu:QO X hi (cO M fh)):QE X (.Subscript e (.Slice lo hi aB p2) pos) (cE .n M (dE iM fe fl fh)):=⟨L3.BF hK he.un hl.un hu.un⟩
theorem MB{i:Nat}(hK:X.K=TheK.K)(hi':M.contains i=aC)(he:QE X e (cH i))(hl:QO X lo (cO M fl))(hu:QO X hi (cO M fh)):QE X (.Subscript e (.Slice lo hi aB p2) pos) (cE .n M (tw iM i fl fh)):=⟨have he:=he.un;have hl:=hl.un;have hu:=hu.un;weak (yW (hK▸DW) he hl hu) (Hv hi' B0)⟩
end
section
variable [TheK]
variable {F:Fr}{O O' O'':jw->Prop}{s s':Sg}{σ:L2.St}{H H' H'':Hp}{v:V}{t:T}{a:jw}
theorem rj{X:Cx}{st:QR}{d:DS}{Mx:List Nat}(h:QS X st (cS rk io M' Mx Mb d))(hM:M'.all (M.contains ·)=aC:=by rfl)(hio:io.all (M'.contains ·)=aC:=by rfl):QS X st (cS rk io M Mx Mb d):=⟨have h:=h.un;eX h (by
 intro D σ H h_;refine fH h_ λF O s r R I hd q=>?_;obtain⟨O',w,R',I'⟩:=R.freeze I (ic hM) (ic hio)
 exact⟨F,O',s,r,R',I',hd,q.more ⟨λb o n h=>⟨h,λz=>n (w b z)⟩,λ_ h=>h⟩⟩)⟩
theorem yZ{X:Cx}{st:List QR}{d:DS}{Mx:List Nat}(h:QSs X st (cS rk io M M' Mb d))(hM:Mx.all (M'.contains ·)=aC:=by rfl)(hio:io.all (Mx.contains ·)=aC:=by rfl):QSs X st (cS rk io M Mx Mb d):=⟨have h:=h.un;uX h (by
 intro D σ H h_;refine fH h_ λF O s r R I hd q=>?_
 exact⟨F,O,s,r,R,I,hd,PK (ic hM) (ic hio) q⟩)⟩
end
section
variable [TheK]
variable {M'':List Nat}{sts:List QR}{a b:List QR}{d d':DS}{pos':Pos}
theorem cM :QSs X [] (cS rk io M M Mb bW):=⟨uX OF (by
 intro D σ H h_;refine fH h_ λF O s r R I hd q=>?_;injection hd with hd;subst hd
 exact q O σ H .refl R I)⟩
theorem aU(h:QS X st (cS rk io M M' Mb d)):QSs X [st] (cS rk io M M' Mb d):=⟨have h:=h.un;sO h⟩
theorem aS(h:QS X st (cS rk io M M' Mb d))(h2:QSs X sts (cS rk io M' M'' Mb d')):QSs X (st::sts) (cS rk io M M'' Mb (aM d d')):=⟨have h:=h.un;have h2:=h2.un;uX (yX h h2) (by
 intro D σ H h_;refine fH h_ λF O s r R I hd q=>?_;obtain⟨r1,h1,h2⟩:=Qb hd;refine⟨F,O,s,r1,R,I,h1,?_⟩;cases r1 with
 |nx s1=>exact λO1 σ1 H1 k1 R1 I1=>⟨F,O1,s1,r,R1,I1,h2,q.more k1⟩
 |bk s1=>injection h2 with h2; subst h2; exact q
 |ct s1=>injection h2 with h2; subst h2; exact q
 | rt t s1=>injection h2 with h2; subst h2; exact q)⟩
theorem cB(hc:QT X c (cT M ft))(ha:QSs X a (cS rk io M M' Mb d))(hb:QSs X b (cS rk io M M' Mb d')):QS X (.If c a b pos) (cS rk io M M' Mb (bU ft d d')):=⟨have hc:=hc.un;have ha:=ha.un;have hb:=hb.un;eX (C4 hc ha hb) (by
 intro D σ H h_;refine fH h_ λF O s r R I hd q=>?_;obtain⟨p,h1,h2⟩:=Qb hd;refine⟨F,O,s,p.1,p.2,R,h1,λH1 S1 R1=>?_⟩;have k:=S1.keepO R;dsimp only;split at h2
 ·rename_i hp;rw[aI hp];exact⟨F,O,p.2,r,R1,I,h2,q.more k⟩
 ·rename_i hp;rw[aH hp]
  exact⟨F,O,p.2,r,R1,I,h2,q.more k⟩)⟩
theorem bA{i:Nat}(h:QS X st (dq (cE .e M fe) (dY i)))(hM:By M M' io i=aC:=by rfl):QS X st (cS rk io M M' Mb (aa i fe)):=⟨have h:=h.un;eX h (by
 unfold By at hM;rw[jL,jL,jL] at hM;obtain⟨⟨⟨m1,m2⟩,m3⟩,m4⟩:=hM;intro D σ H h_;refine fH h_ λF O s r R I hd q=>?_;obtain⟨p,h1,h2⟩:=Qb hd;split at h2
 ·rename_i hi;injection h2 with h2;subst h2;refine⟨F,O,s,p.1,p.2,R,h1,λv H1 S1 p1=>?_⟩;refine q O _ H1 (S1.keepO R) (p1.1.setE (λj hj=>?_) (λj hj=>?_) hi p1.2) (I.set (by simpa using m3) (ic m4))
  ·simpa using jz.mp m1 j hj
  ·simpa using jz.mp m2 j hj
 ·cases h2)⟩
theorem di{i:Nat}(h:QS X st (dq (cE .n M fe) (dY i)))(hM:Bz M M' io i=aC:=by rfl):QS X st (cS rk io M M' Mb (aa i fe)):=⟨have h:=h.un;eX h (by
 unfold Bz at hM;rw[jL,jL,jL,jL] at hM;obtain⟨⟨⟨⟨m1,m2⟩,m5⟩,m3⟩,m4⟩:=hM;intro D σ H h_;refine fH h_ λF O s r R I hd q=>?_;obtain⟨p,h1,h2⟩:=Qb hd;split at h2
 ·rename_i hi;injection h2 with h2;subst h2;refine⟨F,O,s,p.1,p.2,R,h1,λv H1 S1 p1=>?_⟩;obtain⟨a,rfl,h0,R1,L⟩:=p1;have k:KeepO O H (λb=>O b∨b=a) H1:=⟨λb o n h=>⟨S1.keep b o (R.notOwned n) h,λz=>z.elim n λz=>by rw[z,h0] at h; cases h⟩,S1.dom⟩
  refine q _ _ H1 k (R1.setN (λj hj=>?_) (λj hj=>?_) hi (by simpa using m5) (.inr rfl) (λj hj _ e=>R.al a (R.ow j a hj e) h0) L) (I.set (by simpa using m3) (ic m4))
  ·simpa using jz.mp m1 j hj
  ·simpa using jz.mp m2 j hj
 ·cases h2)⟩
theorem iZ{k:Kd}(hk:k=.e∨k=.b)(he:QE X e (cE k M fe))(hs:ZX e aB pos.line X.env=pure aD:=by rfl):QS X (.Expr e pos) (cS rk io M M Mb (iG fe)):=⟨have he:=he.un;eX (OE he hs) (by
 intro D σ H h_;refine fH h_ λF O s r R I hd q=>?_;obtain⟨p,h1,h2⟩:=Qm hd;subst h2;refine⟨F,O,s,p.1,p.2,R,h1,λv H1 S1 p1=>?_⟩;rcases hk with rfl |rfl
 ·exact q O σ H1 (S1.keepO R) p1.1 I
 ·exact q O σ H1 (S1.keepO R) p1.1 I)⟩
theorem az(he:QE X e (cE .e M fe)):QS X (.Return (aA e) pos) (cS .e io M M' Mb (ak io fe)):=⟨have he:=he.un;eX (uN he) (by
 intro D σ H h_;refine fH h_ λF O s r R I hd q=>?_;obtain⟨p,h1,h2⟩:=Qb hd;split at h2
 ·rename_i hh;injection h2 with h2;subst h2;exact⟨F,O,s,p.1,p.2,R,h1,λv H1 S1 p1=>q v H1 (Br p1.1 I (hasAll.get hh) p1.2)⟩
 ·cases h2)⟩
theorem DQ(he:QE X e (cE .n M fe)):QS X (.Return (aA e) pos) (cS .n io M M' Mb (ak io fe)):=⟨have he:=he.un;eX (uN he) (by
 intro D σ H h_;refine fH h_ λF O s r R I hd q=>?_;obtain⟨p,h1,h2⟩:=Qb hd;split at h2
 ·rename_i hh;injection h2 with h2;subst h2;refine⟨F,O,s,p.1,p.2,R,h1,λv H1 S1 p1=>?_⟩;obtain⟨a,rfl,h0,R1,L⟩:=p1;exact q _ H1 (Bs R1 I (hasAll.get hh) (.inr rfl) (R.dom a h0) (λz=>R.al a (R.inD a z) h0) L)
 ·cases h2)⟩
theorem OO{i:Nat}(hi:M.contains i=aC)(hn:io.contains i=aD)(he:QE X e (cH i)):QS X (.Return (aA e) pos) (cS .n io M M' Mb (ak io (dV i))):=⟨have he:=he.un;eX (uN he) (by
 intro D σ H h_;refine fH h_ λF O s r R I hd q=>?_;obtain⟨p,h1,h2⟩:=Qb hd;obtain⟨t,s1⟩:=p;obtain⟨h3,h4⟩:=yM h1;subst h4;split at h2
 ·rename_i hh;injection h2 with h2;subst h2;have hi':i∈M:=by simpa using hi
  obtain⟨a,e1,L⟩:=R.own i t h3 hi';have nd:¬ F.D a:=λz=>by
   obtain⟨j,hj,rfl⟩:=I.D a z;obtain⟨h5,h6⟩:=I.at_ j hj;have:=R.dis i j _ hi' h5 e1 h6;subst this;have:io.contains i=aC:=by simpa using hj
   rw[hn] at this; cases this
  refine⟨_,e1,q _ H (Bs R I (hasAll.get hh) (R.ow i a hi' e1) ?_ nd L)⟩;rcases R.fresh a (R.ow i a hi' e1) with z |z
  ·exact absurd z nd
  ·exact z
 ·cases h2)⟩
end
section
variable [TheK]
variable {fv:DE}
theorem nP{i:Nat}(hi:M.contains i=aC)(h:QS X st (xM (cH i) (cE .e M fk) (cE .e M fv))):QS X st (cS rk io M M Mb (iY i fk fv)):=⟨have h:=h.un;eX h (by
 intro D σ H h_;refine fH h_ λF O s r R I hd q=>?_;have hi':i∈M:=by simpa using hi
 obtain⟨p,h1,hd⟩:=Qb hd;obtain⟨t0,h0,hd⟩:=Qb hd;obtain⟨w,h2,hd⟩:=Qb hd;obtain⟨t1,h3,hd⟩:=Qb hd;obtain⟨kvs,rfl⟩:∃ kvs,t1=.dct kvs:=by cases t1<;>first |exact⟨_,rfl⟩ |cases hd
 have hd:((cq w.1).bind λk=>if kvs.length < jr then aA (Fl.nx (w.2.set i (aA (.dct (cW kvs k p.1))))) else aB)=aA r:=hd
 obtain⟨k,h4,hd⟩:=Qb hd;split at hd
 case isFalse=>cases hd
 rename_i h5;injection hd with h6;subst h6;refine⟨F,O,s,p.1,p.2,R,h1,λv H1 S1 p1=>?_⟩;obtain⟨a,e1,_⟩:=p1.1.own i t0 (cQ h0) hi';refine⟨_,e1,F,O,p.2,w.1,w.2,p1.1,h2,λy H2 S2 p2=>?_⟩;obtain⟨b,e2,L⟩:=p2.1.own i _ (cQ h3) hi';rw[e1] at e2;injection e2 with e2;injection e2 with e2;injection e2 with e2;subst e2;have ne:=L.ne;cases L with
 |dct hr hk=>
  obtain rfl:=oP (.inl p2.2) h4;refine⟨a,_,rfl,DPut.k hr (by rw[hk.len]; exact h5),?_⟩
  have rv:=p1.1.stay S2 p1.2;have R2:=p2.1.write (t':=.dct (cW kvs k p.1)) hi' e1 (cQ h3) (λHx kx ex=>.dct ex ((hk.put rv).mono (λ_ c=>c) kx))
  exact q O σ _ (((S1.trans S2).trans (.write hi' e1 ne)).keepO R) R2 I)⟩
theorem uf{i:Nat}(hi:M.contains i=aC)(h:QS X st (dq (cE .e M fv) (wn (cH i) (cE .e M fk) Bp))):QS X st (cS rk io M M Mb (nJ i fk fv)):=⟨have h:=h.un;eX h (by
 intro D σ H h_;refine fH h_ λF O s r R I hd q=>?_;have hi':i∈M:=by simpa using hi
 obtain⟨p,h1,hd⟩:=Qb hd;obtain⟨t0,h0,hd⟩:=Qb hd;obtain⟨⟨w1,w2⟩,h2,hd⟩:=Qb hd;obtain⟨t1,h3,hd⟩:=Qb hd;obtain⟨xs,rfl⟩:∃ xs,t1=.lst xs:=by cases t1<;>first |exact⟨_,rfl⟩ |cases hd
 obtain⟨k,rfl⟩:∃ k,w1=.int k:=by cases w1<;>first |exact⟨_,rfl⟩ |cases hd
 obtain⟨j,h4,h6⟩:=Qm (show (eS xs.length k).map (λj=>Fl.nx (w2.set i (aA (.lst (xs.set j p.1)))))=aA r from hd);subst h6;refine⟨F,O,s,p.1,p.2,R,h1,λv H1 S1 p1=>?_⟩;obtain⟨a,e1,_⟩:=p1.1.own i t0 (cQ h0) hi';refine⟨_,e1,F,O,p.2,_,_,p1.1,h2,λy H2 S2 p2=>?_⟩;obtain⟨b,e2,L⟩:=p2.1.own i _ (cQ h3) hi';rw[e1] at e2;injection e2 with e2;injection e2 with e2;injection e2 with e2;subst e2;have ne:=L.ne;obtain⟨vs,hr,hk⟩:=L.lst';obtain rfl:y=.int k:=BRep.int (.inl p2.2);refine⟨a,vs,k,j,rfl,rfl,hr,by rw[hk.1]; exact h4,?_⟩
 have rv:=p1.1.stay S2 p1.2;have R2:=p2.1.write (t':=.lst (xs.set j p.1)) hi' e1 (cQ h3) (λHx kx ex=>.lst ex ((hk.set j rv).mono (λ_ c=>c) kx))
 exact q O σ _ (((S1.trans S2).trans (.write hi' e1 ne)).keepO R) R2 I)⟩
theorem xo{is:List Nat}{n:Nat}{K:j9}{fe:DE}(h:QS X st (dq (cE .e M fe) (λv σ H Q=>wo K n (iX is) v σ H Q∨fq K n (iX is) v σ H Q)))(hn:is.length=n)(hm:is.all (λi=>!M.contains i)=aC)(hio:io.all (M.contains ·)=aC):QS X st (cS rk io M M Mb (tO is fe)):=⟨have h:=h.un;eX h (by
 intro D σ H h_;refine fH h_ λF O s r R I hd q=>?_;obtain⟨⟨p1,p2⟩,h1,hd⟩:=Qb hd;obtain⟨ts,h2,hd⟩:=Qb hd;obtain⟨s2,h3,hd⟩:=Qm hd;subst hd;have hl:∀ {is:List Nat} {ts:List T} {s s':Sg},eZ is ts s=aA s'->ts.length=is.length:=by
  intro is
  induction is with
  |nil=>intro ts s s' e; cases ts with
   |nil=>rfl
   |cons=>cases e
  |cons i is ih=>intro ts s s' e; cases ts with
   |nil=>cases e
   |cons t ts=>
    unfold eZ at e;split at e
    ·rw[jk,jk,ih e]
    ·cases e
 have hmm:∀ i,i∈is->i∉M:=λi hi=>by simpa using jz.mp hm i hi
 refine⟨F,O,s,p1,p2,R,h1,λv H1 S1 po=>?_⟩;cases p1<;>simp[uK] at h2
 ·subst h2;obtain⟨a,vs,rfl,ha,ra⟩:=BRep.lst (.inl po.2);exact .inl ⟨a,vs,rfl,ad.of ha,by rw[ra.1,hl h3,hn],v4 po.1 I hmm (ic hio) ra h3 fun σ' R' I'=>q O σ' H1 (S1.keepO R) R' I'⟩
 ·subst h2;obtain⟨a,vs,rfl,ha,ra⟩:=BRep.tup (.inl po.2)
  exact .inr ⟨a,vs,rfl,bj.of ha,by rw[ra.1,hl h3,hn],v4 po.1 I hmm (ic hio) ra h3 fun σ' R' I'=>q O σ' H1 (S1.keepO R) R' I'⟩)⟩
end
section
variable [TheK]
variable {fa:DA}
theorem oX{a:Q3}{p pos:Pos}(hg:Gl X "range")(hm:X.mg "range"=aB)(ha:QA X [a] (cA M fa))(hs:jf [a] X.env=[(aD,eval a X.env)]:=by rfl):QI X tg (.Call (.Name "range" p) [a] [] pos) (cI M (fS fa)):=⟨have ha:=ha.un;lQ (Rk hg hm ha hs) (by
 intro σ H R h_;refine lu h_ λF O s its s' Rl hf q=>?_;obtain⟨⟨p1,p2⟩,h1,h2⟩:=Qb hf;refine⟨F,O,s,p1,p2,Rl,h1,λvs H1 S1 R1 rs=>?_⟩;dsimp only at h2;split at h2
 case h_2=>cases h2
 ·rename_i j;have h2:(if dR j=aC then aA (dS 0 j.toNat,p2) else aB)=aA (its,s'):=h2
  split at h2
  ·rename_i hj;have hj:=vC hj;injection h2 with h2;injection h2 with h3 h4;subst h3 h4;obtain⟨v,rfl,rv⟩:=rs.one;obtain rfl:v=.int j:=BRep.int (.inl rv);exact⟨j,rfl,hj.1,hj.2,q _ H1 S1 R1 De⟩
  ·cases h2)⟩
theorem Ru{a b:Q3}{p pos:Pos}(hg:Gl X "range")(hm:X.mg "range"=aB)(ha:QA X [a,b] (cA M fa))(hs:jf [a,b] X.env=[(aD,eval a X.env),(aD,eval b X.env)]:=by rfl)(hs2:jf [b] X.env=[(aD,eval b X.env)]:=by rfl):QI X tg (.Call (.Name "range" p) [a,b] [] pos) (cI M (tu fa)):=⟨have ha:=ha.un;lQ (Rm hg hm ha hs hs2) (by
 intro σ H R h_;refine lu h_ λF O s its s' Rl hf q=>?_;obtain⟨⟨p1,p2⟩,h1,h2⟩:=Qb hf;refine⟨F,O,s,p1,p2,Rl,h1,λvs H1 S1 R1 rs=>?_⟩;dsimp only at h2;split at h2
 case h_2=>cases h2
 ·rename_i i j;have h2:(if dR i=aC/\dR j=aC then aA (dS i (j - i).toNat,p2) else aB)=aA (its,s'):=h2
  split at h2
  ·rename_i hj;have hj:-(2 ^ 62)<=i/\i < 2 ^ 62/\-(2 ^ 62)<=j/\j < 2 ^ 62:=⟨(vC hj.1).1,(vC hj.1).2,vC hj.2⟩;injection h2 with h2;injection h2 with h3 h4;subst h3 h4
   match vs,rs with
   |v::vs,rs=>
    obtain⟨u,rfl,ru⟩:=rs.tail.one;obtain rfl:v=.int i:=BRep.int (.inl rs.head);obtain rfl:u=.int j:=BRep.int (.inl ru);exact⟨i,j,rfl,hj,q _ H1 S1 R1 De⟩
   |[],rs=>exact absurd rs.1 (by simp)
  ·cases h2)⟩
theorem yC{elts:List Q3}{x1:Nat}{tp:Pos}{a:Q3}{p pos:Pos}(hg:Gl X "enumerate")(hm:X.mg "enumerate"=aB)(ha:QA X [a] (cA M fa))(hs:jf [a] X.env=[(aD,eval a X.env)]:=by rfl):QI X (.Tuple elts x1 tp) (.Call (.Name "enumerate" p) [a] [] pos) (cI M (rB fa)):=⟨have ha:=ha.un;lQ (O6 hg hm ha hs) (by
 intro σ H R h_;refine lu h_ λF O s its s' Rl hf q=>?_;obtain⟨⟨p1,p2⟩,h1,h2⟩:=Qb hf;refine⟨F,O,s,p1,p2,Rl,h1,λvs H1 S1 R1 rs=>?_⟩;dsimp only at h2;split at h2
 case h_2=>cases h2
 ·rename_i xs;injection h2 with h2;injection h2 with h3 h4;subst h3 h4;obtain⟨v,rfl,rv⟩:=rs.one;cases rv with
  |@lst a us _ c r l h=>
   refine⟨a,rfl,⟨us,ad.of r⟩,q _ H1 S1 R1 ?_⟩;intro H2 k i;have h2:=k a _ c r;have hlen:(iU xs).length=us.length:=by unfold iU; rw[j5,QK,l]
   refine⟨λt ht=>?_,λhl=>⟨us,ad.of h2,by rw[<-hlen]; exact hl⟩⟩
   have hi:i < us.length:=by rw[<-hlen]; exact(j7.mp ht).1
   have hx:i < xs.length:=by rw[<-l]; exact hi
   have et:t=.tup [.int i,xs[i]]:=by
    unfold iU at ht;rw[jg,Zh hx] at ht;have:=jh ht;rw[<-this];simp[List.getD,j3 hx]
   subst et;refine⟨⟨us,us[i],ad.of h2,j3 hi⟩,λx H3 ⟨p',x',e1,e2,e3,e4⟩=>⟨.inr ⟨p',_,e2,e3⟩,?_⟩⟩;have:=e4 us (ad.of h2);rw[j3 hi] at this;obtain rfl:us[i]=x':=jh this;subst e1 e3;have ri:=h i _ _ (j3 hi) (j3 hx);have ri2:Rep (λb=>(Free F O b/\H1 b≠aB)∨H2 b=aB) (aR H2 p' (.tup [.int i,us[i]])) us[i] xs[i]:=
    ri.there.mono (λb c=>.inl c) λb o c e=>by rw[ac (cZ (k b o c.1 e) e2)]; exact k b o c.1 e
   have rr:Reps (λb=>(Free F O b/\H1 b≠aB)∨H2 b=aB) (aR H2 p' (.tup [.int i,us[i]])) [.int i,us[i]] [.int i,xs[i]]:=.cons (.int _) (.cons ri2 .nil)
   exact .tup (.inr e2) bq rr.1 rr.2)⟩
end
section
variable [TheK]
variable {body:List QR}{fi:DI}{g:DG}{db:DS}
theorem iC{i:Nat}(h:QG X tg (dY i))(hi:M.contains i=aD:=by rfl)(hio:io.all (M.contains ·)=aC:=by rfl):QG X tg (cG io M (au i)):=⟨have h:=h.un;CA h (gn hi hio)⟩
theorem qY{is:List Nat}{n:Nat}{K:j9}(h:QG X tg (fq K n (iX is)))(hn:is.length=n:=by rfl)(hm:is.all (λi=>!M.contains i)=aC:=by rfl)(hio:io.all (M.contains ·)=aC:=by rfl):QG X tg (cG io M (eg is)):=⟨have h:=h.un;CA h (gt hn hm hio)⟩
theorem eB(h:QS X (.For tg iter body [] pos) (u8 (cI M fi) (cG io M g) (cS rk io M M M db))):QS X (.For tg iter body [] pos) (cS rk io M M Mb (cJ fi g db)):=⟨have h:=h.un;eX h Kf⟩
theorem oV{c:Q3}{ft:DT}(n:Nat)(hp:Ji (jO X.prog X.w) X.A X.env X.xe)(hc:QT X c (cT M ft))(hb:QSs X body (cS rk io M M M db)):QS X (.While c body [] pos) (cS rk io M M Mb (eM ft db n)):=⟨have hc:=hc.un;have hb:=hb.un;eX (Px hp hc hb) RU⟩
end
section
variable [TheK]
variable {b:Q3}
theorem bL(hK:X.K=TheK.K)(hu:X.A.units+1 < gz)(ha:QE X a (cE .e M fa))(hb:QE X b (cE .b M fb))(hs:sD b):QE X (.Subscript a b pos) (cE .e M (d2 aP fa fb)):=⟨have ha:=ha.un;have hb:=hb.un;weak (rK (GZ hK ha hb hs) (HS hu ha hb hs)) (sA rP ny ny)⟩
theorem fV{i:Nat}(hK:X.K=TheK.K)(hi:M.contains i=aC)(hu:X.A.units+1 < gz)(ha:QE X a (cH i))(hb:QE X b (cE .b M fb))(hs:sD b):QE X (.Subscript a b pos) (cE .e M (bh aP i fb)):=⟨have ha:=ha.un;have hb:=hb.un;weak (rK (HU hK hi ha hb hs) (LK hi hu ha hb hs)) (sA LH ny ny)⟩
theorem Rt(hu:X.A.units+1 < gz)(ha:QE X a (cE .e M fa))(hb:QE X b (cE .b M fb))(hm:Qr .NotIn b=aD):QE X (.Compare a [.NotIn] [b] pos) (cE .e M (d2 dZ fa fb)):=⟨have ha:=ha.un;have hb:=hb.un;weak (rK (Mu ha hb hm) (PJ hu ha hb hm)) (sA rP ny ny)⟩
theorem xp(hu:X.A.units+1 < gz)(ha:QE X a (cE .e M fa))(hb:QE X b (cE .b M fb))(hm:Qr .In b=aD):QT X (.Compare a [.In] [b] pos) (cT M (dB (d2 iS fa fb))):=⟨have ha:=ha.un;have hb:=hb.un;fK (BN (G8 ha hb hm) (Ii hu ha hb hm)) (D7 rP)⟩
theorem oY(hu:X.A.units+1 < gz)(ha:QE X a (cE .e M fa))(hb:QE X b (cE .b M fb))(hm:Qr .NotIn b=aD):QT X (.Compare a [.NotIn] [b] pos) (cT M (dB (d2 dZ fa fb))):=⟨have ha:=ha.un;have hb:=hb.un;fK (BN (Ox ha hb hm) (RQ hu ha hb hm)) (D7 rP)⟩
theorem cL(ha:QE X a (cE .e M fa))(hb:QE X b (cE .b M fb)):QE X (.BinOp a .Add b pos) (cE .e M (d2 bK fa fb)):=⟨have ha:=ha.un;have hb:=hb.un;weak (rK (HQ ha hb) (HR ha hb)) (sA rP ny Fq)⟩
theorem l6{lo hi:Option Q3}{fl fh:DO}{p2:Pos}(hK:X.K=TheK.K)(he:QE X e (cE .e M fe))(hl:QO X lo (cO M fl))(hu:QO X hi (cO M fh)):QE X (.Subscript e (.Slice lo hi aB p2) pos) (cE .e M (dE cP fe fl fh)):=⟨have he:=he.un;have hl:=hl.un;have hu:=hu.un;weak (rK (HV he hl hu) (BF hK he hl hu)) (sA LI ny Fq)⟩
theorem cY{tg:Q3}(hK:X.K=TheK.K)(h:QE X e (cE .e M fe)):QI X tg e (cI M (bJ fe)):=⟨have h:=h.un;lQ (wp (wp (Kh hK h) (II h)) (wp (Gb h) (Ki h))) (by
 intro σ H R h_;refine lu h_ λF O s its s' Rl hf q=>?_;obtain⟨⟨p1,p2⟩,h1,h2⟩:=Qb hf;cases p1 with
 |lst xs=>exact .inl (.inl ⟨F,O,s,its,s',Rl,by unfold Ao; rw[h1]; exact h2,q⟩)
 |scr xs=>exact .inl (.inl ⟨F,O,s,its,s',Rl,by unfold Ao; rw[h1]; exact h2,q⟩)
 |tup xs=>exact .inl (.inr ⟨F,O,s,its,s',Rl,by unfold BE; rw[h1]; exact h2,q⟩)
 |fd xs=>exact .inr (.inl ⟨F,O,s,its,s',Rl,by unfold BC; rw[h1]; exact h2,q⟩)
 |str x=>exact .inr (.inr ⟨F,O,s,its,s',Rl,by unfold BD; rw[h1]; exact h2,q⟩)
 | _=>cases h2)⟩
end
section
variable [TheK]
variable {b:Q3}
theorem OJ{fn:List T->Option T}(F:FnOk X.prog X.w X.K X.mg X.base dl k f fd ps (bB .e np fn))(hr:Room k X.A)(hg:Gl X x)(hm:X.mg x=aA (.ref f))(hk:Q6 X.K (.ref f)=aC)(hb:Binds X.K fd ps [])(ha:QA X (e::es) (cA M fs))(ar:Ar fs np)(hdb:(x == ("__debug__":Str))=aD:=by decide)(he:jf (e::es) X.env=(aD,eval e X.env)::jf es X.env:=by rfl)(hpl:(QQ pos (jf es X.env)).any (·.1)=aD:=by rfl):QE X (.Call (.Name x p) (e::es) [] pos) (cE .e M (ae fn fs)):=⟨have ha:=ha.un;weak (oQ F hr hg hm hk hb .nil qK ha hdb he hpl) (LD ar)⟩
theorem R7{fn:List T->Option T}(F:FnOk X.prog X.w X.K X.mg X.base dl k f fd ps (bB .n np fn))(hr:Room k X.A)(hg:Gl X x)(hm:X.mg x=aA (.ref f))(hk:Q6 X.K (.ref f)=aC)(hb:Binds X.K fd ps [])(ha:QA X (e::es) (cA M fs))(ar:Ar fs np)(hdb:(x == ("__debug__":Str))=aD:=by decide)(he:jf (e::es) X.env=(aD,eval e X.env)::jf es X.env:=by rfl)(hpl:(QQ pos (jf es X.env)).any (·.1)=aD:=by rfl):QE X (.Call (.Name x p) (e::es) [] pos) (cE .n M (ae fn fs)):=⟨have ha:=ha.un;weak (oQ F hr hg hm hk hb .nil qK ha hdb he hpl) (LE ar)⟩
theorem R0{fn:List T->Option (T × T)}{i:Nat}(hi:M.contains i=aC)(F:FnOk X.prog X.w X.K X.mg X.base dl k f fd ps (fB .e (np+1) fn))(hr:Room k X.A)(hg:Gl X x)(hm:X.mg x=aA (.ref f))(hk:Q6 X.K (.ref f)=aC)(hb:Binds X.K fd ps [])(h0:QE X e (cH i))(ha:QA X es (cA M fs))(ar:Ar fs np)(hdb:(x == ("__debug__":Str))=aD:=by decide)(he:jf (e::es) X.env=(aD,eval e X.env)::jf es X.env:=by rfl)(hpl:(QQ pos (jf es X.env)).any (·.1)=aD:=by rfl):QE X (.Call (.Name x p) (e::es) [] pos) (cE .e M (lR fn i fs)):=⟨have h0:=h0.un;have ha:=ha.un;weak (oQ F hr hg hm hk hb .nil qK (f9 h0 ha he) hdb he hpl) (MR ar hi)⟩
theorem R8{fn:List T->Option (T × T)}{rk:Kd}(hrk:rk=.e∨rk=.n)(F:FnOk X.prog X.w X.K X.mg X.base dl k f fd ps (fB rk (np+1) fn))(hr:Room k X.A)(hg:Gl X x)(hm:X.mg x=aA (.ref f))(hk:Q6 X.K (.ref f)=aC)(hb:Binds X.K fd ps [])(h0:QE X e (cE .n M fe))(ha:QA X es (cA M fs))(ar:Ar fs np)(hdb:(x == ("__debug__":Str))=aD:=by decide)(he:jf (e::es) X.env=(aD,eval e X.env)::jf es X.env:=by rfl)(hpl:(QQ pos (jf es X.env)).any (·.1)=aD:=by rfl):QE X (.Call (.Name x p) (e::es) [] pos) (cE rk M (oJ fn fe fs)):=⟨have h0:=h0.un;have ha:=ha.un;weak (oQ F hr hg hm hk hb .nil qK (f9 h0 ha he) hdb he hpl) (MS hrk ar)⟩
theorem dW(hK:X.K=TheK.K)(hg:Gl X "len")(hm:X.mg "len"=aB)(h:QE X e (cE .b M fe))(he:jf [e] X.env=(aD,eval e X.env)::jf [] X.env:=by rfl)(hpl:(QQ pos (jf [] X.env)).any (·.1)=aD:=by rfl):QE X (.Call (.Name "len" p) [e] [] pos) (cE .e M (d1 bS fe)):=⟨have h:=h.un; weak (sU (((show CallR X _ _ from hK▸Tw).or Tx).or RA) hg hm Jx (f9 h ib he) (by decide) (by decide) he hpl) (xK Hr)⟩
theorem xf{cn:String}{ce:Q3}(hc:u5 cn=aC)(hg:Gl X "isinstance")(hm:X.mg "isinstance"=aB)(h:QE X e (cE .b M fe))(h2:QE X ce (tC (.ty cn)))(he:jf [e,ce] X.env=(aD,eval e X.env)::jf [ce] X.env:=by rfl)(he2:jf [ce] X.env=(aD,eval ce X.env)::jf [] X.env:=by rfl)(hpl:(QQ pos (jf [ce] X.env)).any (·.1)=aD:=by rfl):QE X (.Call (.Name "isinstance" p) [e,ce] [] pos) (cE .e M (qE cn fe)):=⟨have h:=h.un;have h2:=h2.un;weak (sU Po hg hm UP (f9 h (f9 h2 ib he2) he) (by decide) (by decide) he hpl) (IJ hc)⟩
theorem qk{i:Nat}{o:Q3}{apos:Pos}(hi:M.contains i=aC)(h:QE X (.Call (.Attribute o "append" apos) (e::es) [] pos) (nq X.K "list" yE (cH i) (cA M fs))):QE X (.Call (.Attribute o "append" apos) (e::es) [] pos) (cE .e M (dt fT i fs)):=⟨have h:=h.un;weak h (xJ hi IP)⟩
theorem ED{i:Nat}{o:Q3}{apos:Pos}(hi:M.contains i=aC)(h:QE X (.Call (.Attribute o "extend" apos) (e::es) [] pos) (nq X.K "list" yG (cH i) (cA M fs))):QE X (.Call (.Attribute o "extend" apos) (e::es) [] pos) (cE .e M (dt nE i fs)):=⟨have h:=h.un;weak h (xJ hi IQ)⟩
theorem uP{i:Nat}{o:Q3}{apos:Pos}(hi:M.contains i=aC)(h:QE X (.Call (.Attribute o "pop" apos) [] [] pos) (u7 X.K "list" wq (cH i))):QE X (.Call (.Attribute o "pop" apos) [] [] pos) (cE .e M (dt ip i aJ)):=⟨have h:=h.un;weak h (LQ hi IR)⟩
theorem RI{o:Q3}{apos:Pos}(h:QE X (.Call (.Attribute o "count" apos) [e] [] pos) (nq X.K "list" yF (cE .e M fa) (i8 (cE .b M fe) lN))):QE X (.Call (.Attribute o "count" apos) [e] [] pos) (cE .e M (tP qS fa fe)):=⟨have h:=h.un;weak h (Ge Ol)⟩
theorem i6{Mi:List Nat}{caps:List (Option Nat)}{fi:DI}{g:TG}{dg:DG}{ft:DT}{tt:TT}(c:qD caps M Mi=aC)(hg:lz g dg Mi caps)(htt:∀ σ H Q,cT Mi ft σ H Q->tt σ H Q)(h:QE X e (oi caps (cI M fi) g tt (cE .e Mi fe))):QE X e (cE .n M (dF M caps fi dg ft fe)):=⟨have h:=h.un;weak h (Bf (.of c) hg htt)⟩
theorem rY{st:QR}{Mi:List Nat}{caps:List (Option Nat)}{fi:DI}{g:TG}{g2:TG}{dg:DG}{ft:DT}{tt:TT}(c:qD caps M Mi=aC)(hg:lz g dg Mi caps)(htt:∀ σ H Q,cT Mi ft σ H Q->tt σ H Q)(h:QS X st (dq (oi caps (cI M fi) g tt (cE .e Mi fe)) g2)):QS X st (dq (cE .n M (dF M caps fi dg ft fe)) g2):=⟨have h:=h.un;x5 h (Bf (.of c) hg htt)⟩
theorem xD{st:QR}{g2:TG}{ff:DE}(h:QS X st (dq (cE .n M ff) g2)):QS X st (dq (cE .e M ff) g2):=⟨have h:=h.un;x5 h fun σ H Q h_=>ba h_ λF O s t s' R hf q=>⟨F,O,s,t,s',R,hf,λv H' S p=>q v H' S (p.ne R)⟩⟩
theorem xC{tg:Q3}{t t':TG}(h:QG X tg t)(h':QG X tg t'):QG X tg (λv σ H Q=>t v σ H Q∨t' v σ H Q):=⟨have h:=h.un;have h':=h'.un;λpc s σ H v u Q I r q=>q.elim (h pc s σ H v u Q I r) (h' pc s σ H v u Q I r)⟩
end
section
variable [TheK]
variable {b:Q3}{fc:DE}
theorem Ha{Mi:List Nat}{caps:List (Option Nat)}{fi:DI}{g:TG}{dg:DG}{ft:DT}{tt:TT}(c:qD caps M Mi=aC)(hg:lz g dg Mi caps)(htt:∀ σ H Q,cT Mi ft σ H Q->tt σ H Q)(h:QE X e (oj caps (cI M fi) g tt (cE .e Mi fk) (cE .e Mi fe))):QE X e (cE .n M (ls M caps fi dg ft fk fe)):=⟨have h:=h.un;weak h (Bh (.of c) hg htt)⟩
theorem Hg{st:QR}{Mi:List Nat}{caps:List (Option Nat)}{fi:DI}{g:TG}{g2:TG}{dg:DG}{ft:DT}{tt:TT}(c:qD caps M Mi=aC)(hg:lz g dg Mi caps)(htt:∀ σ H Q,cT Mi ft σ H Q->tt σ H Q)(h:QS X st (dq (oj caps (cI M fi) g tt (cE .e Mi fk) (cE .e Mi fe)) g2)):QS X st (dq (cE .n M (ls M caps fi dg ft fk fe)) g2):=⟨have h:=h.un;x5 h (Bh (.of c) hg htt)⟩
theorem qh(hK:X.K=TheK.K)(hc:X.calm=aC)(hg:Gl X "list")(hm:X.mg "list"=aB)(h:QE X e (cE .b M fe))(he:jf [e] X.env=(aD,eval e X.env)::jf [] X.env:=by rfl)(hpl:(QQ pos (jf [] X.env)).any (·.1)=aD:=by rfl):QE X (.Call (.Name "list" p) [e] [] pos) (cE .n M (d1 i9 fe)):=⟨have h:=h.un; weak (zE (CallR.or (show CallR X _ _ from hK▸Ty) (UV hc)) hg hm D6 (f9 h ib he) (by decide) (by decide) he hpl) (IU On)⟩
theorem qW(h:QE X a (cE .b M fa)):QE X (.UnaryOp .USub a pos) (cE .e M (d1 iT fa)):=⟨have h:=h.un;weak (Ib MH h) (by
 intro σ H Q h_;refine ba h_ λF O s t s' R hf q=>?_;obtain⟨⟨p1,p2⟩,h1,h2⟩:=Qb hf;obtain⟨t',h3,h4⟩:=Qm h2;injection h4 with h4 h5;subst h4 h5;obtain⟨i,rfl⟩:∃ i,p1=.int i:=by cases p1<;>first |exact⟨_,rfl⟩ |cases h3
 injection h3 with h3;subst h3
 exact⟨F,O,s,_,_,R,h1,λv H1 S1 p1=>⟨i,p1.view.int,q _ H1 S1 ⟨p1.1,.int _⟩⟩⟩)⟩
end
section
variable [TheK]
variable {st:Q3}{fk:DO}
theorem MA(hK:X.K=TheK.K)(he:QE X e (cE .e M fe))(hs:QO X (aA st) (cO M fk)):QE X (.Subscript e (.Slice aB aB (aA st) p2) pos) (cE .n M (wm fe fk)):=⟨have he:=he.un;have hs:=hs.un;weak (Lu he hs) (by
 intro σ H Q h_;refine ba h_ λF O s t s' R hf q=>?_;obtain⟨p,h1,h2⟩:=Qb hf;obtain⟨l,h3,h4⟩:=Qb h2;split at h4
 case isFalse=>cases h4
 rename_i hk;obtain⟨t',h7,h8⟩:=Qm h4;injection h8 with h8 h9;subst h8 h9;refine⟨F,O,s,p.1,p.2,R,h1,λv H1 S1 p1=>⟨F,O,p.2,l.1,l.2,p1.1,h3,λH2 S2 R2=>⟨hk,?_⟩⟩⟩;have r2:=p1.1.stay S2 p1.2;obtain⟨pt,ps⟩:=p;cases pt<;>simp[u0] at h7
 rename_i xs;subst h7;obtain⟨a,vs,rfl,ha,ra⟩:=BRep.lst (.inl r2)
 refine⟨a,vs,rfl,hK▸ad.of ha,λb hb=>q _ _ ((S1.trans S2).trans (.new hb _)) (.mkN R R2 (S1.trans S2) hb λC' hC=>.lst bq (ra.rev.there.mono hC λc o _ e=>by rw[ac (cZ e hb)]; exact e))⟩)⟩
theorem Tq{a:Q3}{fa:DA}{p p' pos':Pos}(hc:X.calm=aC)(hg:Gl X "list")(hm:X.mg "list"=aB)(hg':Gl X "range")(hm':X.mg "range"=aB)(ha:QA X [a] (cA M fa))(hs:jf [a] X.env=[(aD,eval a X.env)]:=by rfl)(hs':jf [.Call (.Name "range" p') [a] [] pos'] X.env=[(aD,eval (.Call (.Name "range" p') [a] [] pos') X.env)]:=by rfl):QE X (.Call (.Name "list" p) [.Call (.Name "range" p') [a] [] pos'] [] pos) (cE .n M (An fa)):=⟨have ha:=ha.un;weak (Tp hc hg hm hg' hm' ha hs hs') (by
 intro σ H Q h_;refine ba h_ λF O s t s' R hf q=>?_;obtain⟨⟨p1,p2⟩,h1,h2⟩:=Qb hf;refine⟨F,O,s,p1,p2,R,h1,λvs H1 S1 R1 rs=>?_⟩;dsimp only at h2;split at h2
 case h_2=>cases h2
 ·rename_i j;have h2:(if dR j=aC then aA (T.lst (dS 0 j.toNat),p2) else aB)=aA (t,s'):=h2
  split at h2
  ·rename_i hj;have hj:=T3 hj;injection h2 with h2;injection h2 with h3 h4;subst h3 h4;obtain⟨v,rfl,rv⟩:=rs.one;obtain rfl:v=.int j:=BRep.int (.inl rv);refine⟨j,rfl,by lia,hj.2,λb hb=>q _ _ (S1.trans (.new hb _)) (.mkN R R1 S1 hb λC' hC=>.lst bq ?_)⟩
   have e:((j6 j.toNat).map fun(k:Nat)=>V.int k)=((j6 j.toNat).map fun(k:Nat)=>(k:Int)).map V.int:=by rw[jU]; rfl
   have e':dS 0 j.toNat=((j6 j.toNat).map fun(k:Nat)=>(k:Int)).map T.int:=by
    unfold dS;rw[jU];refine QJ λk _=>?_;rw[Nw]; rfl
   rw[e,e'];exact sr _
  ·cases h2)⟩
end
section
variable [TheK]
variable {apos:Pos}
theorem M8(hK:X.K=TheK.K)(hc:X.calm=aC)(hg:Gl X "all")(hm:X.mg "all"=aB)(h:QE X e (cE .b M fe))(he:jf [e] X.env=(aD,eval e X.env)::jf [] X.env:=by rfl)(hpl:(QQ pos (jf [] X.env)).any (·.1)=aD:=by rfl):QE X (.Call (.Name "all" p) [e] [] pos) (cE .e M (d1 qA fe)):=⟨have h:=h.un; weak (sU (show CallR X _ _ from hK▸Pn hc) hg hm L6 (f9 h ib he) (by decide) (by decide) he hpl) (xK Ho)⟩
end
section
variable [TheK]
theorem rX{X:Cx}{st:QR}{d:DS}{rk:Kd}{io M M' Mx Mb:List Nat}{i:Nat}(h:QS X st (cS rk io M' Mx Mb d))(hi:M.contains i=aC:=by rfl)(hM:M'.all (λj=>M.contains j&&j != i)=aC:=by rfl)(hM2:M.all (λj=>M'.contains j||j == i)=aC:=by rfl)(hio:io.all (M'.contains ·)=aC:=by rfl):QS X st (cS rk io M Mx Mb (n9 i d)):=⟨have h:=h.un;eX (Ps h) (by
 intro D σ H h_;refine fH h_ λF O s r R I hd q=>?_;have hi':i∈M:=by simpa using hi
 have m1:∀ j,j∈M'->j∈M/\j≠i:=λj hj=>by have:=jz.mp hM j hj; simpa using this
 have m2:∀ j,j∈M->j∈M'∨j=i:=λj hj=>by have:=jz.mp hM2 j hj; simpa using this
 have mi:i∉M':=λz=>(m1 i z).2 rfl;have mio:∀ j,j∈io->j∈M':=λj hj=>by have:=jz.mp hio j hj; simpa using this
 unfold n9 at hd;split at hd
 ·rename_i ks e;have e:=cQ e;obtain⟨a,ha,L⟩:=R.own i _ e hi';obtain⟨kvs,hr,rk'⟩:∃ kvs,H a=aA (.dK kvs)/\RepK (Free F O) H kvs ks:=by
   cases L with |dct r h=>exact⟨_,r,h⟩
  have hsl:i < s.length:=(j7.mp e).1
  -- what stays owned
  have oth:∀(j:Nat) b,j∈M'->σ[j]?=aA (aA (.ref b))->b≠a:=λj b hj e1 z=>by
   subst z;exact(m1 j hj).2 (R.dis j i b (m1 j hj).1 hi' e1 ha)
  have hD:¬ F.D a:=λz=>by
   obtain⟨j,hj,e1⟩:=I.D a z;have e2:=(I.at_ j hj).2;rw[<-e1] at e2;exact oth j a (mio j hj) e2 rfl
  have hF0:F.H0 a=aB:=(R.fresh a (R.ow i a hi' ha)).resolve_left hD;refine⟨a,kvs,hr,λo=>?_⟩;have kD:∀ b u,b≠a->H b=aA u->aR H a (.frz o (.dK kvs)) b=aA u:=λb u n e=>by rw[ac n]; exact e
  have wk:∀ b,Free F O b->Free F (λb=>O b/\b≠a) b:=λb z=>z.weak λc y=>y.1;have fra:Free F (λb=>O b/\b≠a) a:=⟨λz=>z.2 rfl,.inr hF0⟩;have na:∀ b,Free F O b->b≠a:=λb z y=>z.1 (y▸R.ow i a hi' ha);have R':Rel F (λb=>O b/\b≠a) M' (s.set i (aA (.fd ks))) σ (aR H a (.frz o (.dK kvs))):=by
   refine⟨by rw[Qg]; exact R.len,λj t e' n=>?_,λj t e' n=>?_,λj b hj e1=>⟨R.ow j b (m1 j hj).1 e1,oth j b hj e1⟩,λj k b hj hk e1 e2=>R.dis j k b (m1 j hj).1 (m1 k hk).1 e1 e2,λb u n e1=>?_,λb e1=>?_,λb z=>R.fresh b z.1,λb z=>⟨R.inD b z,λy=>hD (y▸z)⟩,λb z e1=>?_⟩
   ·by_cases hji:j=i
    ·subst hji;rw[jV hsl] at e';cases e';exact⟨_,ha,.fd fra bq rk'.1 λk v t e1 e2=>(rk'.2 k v t e1 e2).mono wk λb u z e=>kD b u (na b z) e⟩
    ·rw[jm (λz=>hji z.symm)] at e';obtain⟨v,a1,a2⟩:=R.val j t e' (λz=>(m2 j z).elim n hji);exact⟨v,a1,a2.mono wk λb u z e=>kD b u (na b z) e⟩
   ·have hji:i≠j:=λz=>mi (z▸n);rw[jm hji] at e';obtain⟨c,a1,a2⟩:=R.own j t e' (m1 j n).1;exact⟨c,a1,a2.mono wk (λb u z e=>kD b u (na b z) e) λu e=>kD c u (oth j c n a1) e⟩
   ·exact kD b u (λz=>by rw[z,hF0] at e1; cases e1) (R.keep b u n e1)
   ·refine R.dom b ?_;unfold aR at e1;split at e1
    ·cases e1
    ·exact e1
   ·refine R.al b z.1 ?_;rw[ac z.2] at e1;exact e1
  refine⟨F,_,_,r,R',⟨λj hj=>⟨mio j hj,(I.at_ j hj).2⟩,I.D⟩,hd,q.more ⟨λb u n e1=>⟨kD b u (λz=>n (z▸R.ow i a hi' ha)) e1,λz=>n z.1⟩,λb e1=>?_⟩⟩;unfold aR at e1;split at e1
  ·cases e1
  ·exact e1
 ·cases hd)⟩
theorem Dl{X:Cx}{st:QR}{rk:Kd}{io M M' Mb:List Nat}:QS X st (cS rk io M M' Mb xV):=⟨λpc s σ H D I ⟨F,O,s',r,R,Io,hd,q⟩=>by cases hd⟩
end
section
variable [TheK]
theorem Pz{fn:List T->Option T}{i:Nat}(hi:M.contains i=aC)(F:FnOk X.prog X.w X.K X.mg X.base dl k f fd ps (bB .e (np+1) fn))(hr:Room k X.A)(hg:Gl X x)(hm:X.mg x=aA (.ref f))(hk:Q6 X.K (.ref f)=aC)(hb:Binds X.K fd ps [])(h0:QE X e (cH i))(ha:QA X es (cA M fs))(ar:Ar fs np)(hdb:(x == ("__debug__":Str))=aD:=by decide)(he:jf (e::es) X.env=(aD,eval e X.env)::jf es X.env:=by rfl)(hpl:(QQ pos (jf es X.env)).any (·.1)=aD:=by rfl):QE X (.Call (.Name x p) (e::es) [] pos) (cE .e M (rz fn i fs)):=⟨have h0:=h0.un;have ha:=ha.un;weak (oQ F hr hg hm hk hb .nil qK (f9 h0 ha he) hdb he hpl) (MQ ar hi)⟩
end
section
variable [TheK]
variable {b:Q3}
theorem ON(hg:Gl X "set")(hm:X.mg "set"=aB):QE X (.Call (.Name "set" p) [] [] pos) (cE .n M x9):=⟨weak (T1 RE hg hm xT) (by
 intro σ H Q h_;refine ba h_ λF O s t s' R hf q=>?_;injection hf with hf;injection hf with h1 h2;subst h1 h2
 exact⟨rfl,λl hl=>q _ _ (.new hl _) (.mkN R R .refl hl λC _=>.set bq)⟩)⟩
theorem OM{i:Nat}{o:Q3}{apos:Pos}(hi:M.contains i=aC)(h:QE X (.Call (.Attribute o "add" apos) [e] [] pos) (nq X.K "set" Bn (cH i) (i8 (cE .e M fe) lN))):QE X (.Call (.Attribute o "add" apos) [e] [] pos) (cE .e M (x8 i fe)):=⟨have h:=h.un;weak h (by
 intro σ H Q h_;refine ba h_ λF O s t s' R hf q=>?_;have hi':i∈M:=by simpa using hi
 obtain⟨t0,h0,hf⟩:=Qb hf;obtain⟨S0,n0,rfl⟩:∃ S0 n0,t0=.set S0 n0:=by cases t0<;>first |exact⟨_,_,rfl⟩ |cases hf
 obtain⟨⟨p1,p2⟩,h1,hf⟩:=Qb hf;obtain⟨t1,h2,hf⟩:=Qb hf;obtain⟨k,rfl⟩:∃ k,p1=.int k:=by cases p1<;>first |exact⟨_,rfl⟩ |cases hf
 obtain⟨S,n,rfl⟩:∃ S n,t1=.set S n:=by cases t1<;>first |exact⟨_,_,rfl⟩ |cases hf
 replace hf:(if n < 1000 then aA (T.non,p2.set i (aA (.set (λj=>S j||aE (j=k)) (if S k then n else n+1)))) else aB)=aA (t,s'):=hf
 by_cases hn:n < 1000
 ·rw[aI hn] at hf;injection hf with hf;injection hf with h3 h4;subst h3 h4;obtain⟨a,e1,L0⟩:=R.own i _ (cQ h0) hi';have r0:H a=aA (.set S0 n0):=by cases L0 with |set r=>exact r
  refine⟨_,e1,.inr (.inr (.inr ⟨rfl,_,_,r0⟩)),F,O,s,_,p2,R,h1,λv H1 S1 p1=>?_⟩;obtain rfl:v=.int k:=BRep.int (.inl p1.2);obtain⟨b,e2,L⟩:=p1.1.own i _ (cQ h2) hi';rw[e1] at e2;injection e2 with e2;injection e2 with e2;injection e2 with e2;subst e2;have r1:H1 a=aA (.set S n):=by cases L with |set r=>exact r
  refine⟨a,S,n,k,rfl,rfl,r1,hn,q _ _ (S1.trans (.write hi' e1 L.ne)) ⟨?_,.non⟩⟩;exact p1.1.write hi' e1 (cQ h2) λHx kx ex=>.set ex
 ·rw[aH hn] at hf; cases hf)⟩
theorem OP(ha:QE X a (cE .e M fa))(hb:QE X b (cE .b M fb))(hm:Qr .NotIn b=aD):QT X (.Compare a [.NotIn] [b] pos) (cT M (dB (d2 qH fa fb))):=⟨have ha:=ha.un;have hb:=hb.un;fK (lB Oe ha hb hm) (fW (dJ Lg))⟩
end
section
variable [TheK]
variable {e1 e2:Q3}{f0:DE}
theorem Rr{fn:List T->Option T}{i:Nat}(hi:M.contains i=aC)(F:FnOk X.prog X.w X.K X.mg X.base dl k f fd ps (bB .e (np+2) fn))(hr:Room k X.A)(hg:Gl X x)(hm:X.mg x=aA (.ref f))(hk:Q6 X.K (.ref f)=aC)(hb:Binds X.K fd ps [])(h0:QE X e1 (cE .e M f0))(h1:QE X e2 (cH i))(ha:QA X es (cA M fs))(ar:Ar fs np)(hdb:(x == ("__debug__":Str))=aD:=by decide)(he:jf (e1::e2::es) X.env=(aD,eval e1 X.env)::jf (e2::es) X.env:=by rfl)(he2:jf (e2::es) X.env=(aD,eval e2 X.env)::jf es X.env:=by rfl)(hpl:(QQ pos (jf (e2::es) X.env)).any (·.1)=aD:=by rfl):QE X (.Call (.Name x p) (e1::e2::es) [] pos) (cE .e M (sG fn i f0 fs)):=⟨have h0:=h0.un;have h1:=h1.un;have ha:=ha.un;weak (oQ F hr hg hm hk hb .nil qK (f9 h0 (f9 h1 ha he2) he) hdb he hpl) (Pm ar hi)⟩
end
section
variable [TheK]
variable {e1 e2:Q3}{f1 f2:DE}{p3 pos2 pos3 pos4:Pos}
theorem Rs(hK:X.K=TheK.K)(hc:X.calm=aC)(hg:Gl X "len")(hm:X.mg "len"=aB)(hg2:Gl X "set")(hm2:X.mg "set"=aB)(h1:QE X e1 (cE .b M f1))(h2:QE X e2 (cE .b M f2))(he1:jf [e1] X.env=(aD,eval e1 X.env)::jf [] X.env:=by rfl)(hpl1:(QQ pos2 (jf [] X.env)).any (·.1)=aD:=by rfl)(he2:jf [e2] X.env=(aD,eval e2 X.env)::jf [] X.env:=by rfl)(hpl2:(QQ pos3 (jf [] X.env)).any (·.1)=aD:=by rfl)(he:jf [.BinOp (.Call (.Name "set" p2) [e1] [] pos2) .BitAnd (.Call (.Name "set" p3) [e2] [] pos3) pos4] X.env=(aD,eval (.BinOp (.Call (.Name "set" p2) [e1] [] pos2) .BitAnd (.Call (.Name "set" p3) [e2] [] pos3) pos4) X.env)::jf [] X.env:=by rfl)(hpl:(QQ pos (jf [] X.env)).any (·.1)=aD:=by rfl):QE X (.Call (.Name "len" p) [.BinOp (.Call (.Name "set" p2) [e1] [] pos2) .BitAnd (.Call (.Name "set" p3) [e2] [] pos3) pos4] [] pos) (cE .e M (d2 uY f1 f2)):=⟨have h1:=h1.un;have h2:=h2.un; weak (sU RB hg hm Jx (f9 (ix Ob (zE (EJ hc) hg2 hm2 xT (f9 h1 ib he1) (by decide) (by decide) he1 hpl1) (zE (EJ hc) hg2 hm2 xT (f9 h2 ib he2) (by decide) (by decide) he2 hpl2)) ib he) (by decide) (by decide) he hpl) (by
 intro σ H Q h_;refine ba h_ λF O s t s' R hf q=>?_;obtain⟨x,s1,y,d1,d2,d3⟩:=uo hf;obtain⟨xs,rfl⟩:∃ xs,x=.lst xs:=by cases x<;>first |exact⟨_,rfl⟩ |cases d3
 obtain⟨ys,rfl⟩:∃ ys,y=.lst ys:=by cases y<;>first |exact⟨_,rfl⟩ |cases d3
 obtain⟨as,h5,d4⟩:=Qb (show ((lP xs).bind λa=>(lP ys).bind λb=>if a.length < 900 then if b.length < 900 then aA (T.int (rO a b)) else aB else aB)=aA t from d3)
 obtain⟨bs,h6,d5⟩:=Qb d4;split at d5
 ·rename_i hl1;split at d5
  ·rename_i hl2;injection d5 with d5;subst d5;refine⟨F,O,s,_,_,R,d1,λv H1 S1 p1=>?_⟩;obtain⟨a,us,rfl,ha,ra⟩:=p1.view.lst;rw[yw ra h5] at ha;refine⟨a,as,rfl,ad.of ha,by lia,λl hn=>?_⟩
   have R1:=p1.1.plus hn (fg X l (Dw.aL as));refine⟨F,O,s1,_,_,R1,d2,λv2 H2 S2 p2=>?_⟩;obtain⟨b,us2,rfl,hb,rb⟩:=p2.view.lst;rw[yw rb h6] at hb;have no:¬ O l:=λz=>p1.1.al l z hn;have hl:H2 l=aA (fg X l (Dw.aL as)):=S2.keep l _ (R1.notOwned no) bq;refine⟨b,bs,rfl,ad.of hb,by lia,λm hm=>?_⟩
   have hlm:l≠m:=λe=>by subst e; rw[hl] at hm; cases hm
   have fl:∀ ss:List Str,(Dw.aL ss).length<=ss.length:=λss=>by
    have:=yo ss [];rw[ZE,QV] at this;exact this
   have f1:=fl as;have f2:=fl bs;refine⟨l,m,_,_,rfl,rfl,hlm,by rw[ac hlm]; exact hl,bq,FD _,FD _,by lia,λc hc'=>?_⟩
   have S12:=(S1.trans (.new hn _)).trans S2;refine⟨c,_,rfl,bq,q _ _ ((S12.trans (.new hm _)).trans (.new hc' _)) ⟨(p2.1.plus hm _).plus hc' _,.int _⟩⟩
  ·cases d5
 ·cases d5)⟩
end
section
variable [TheK]
variable {fa:DA}
theorem MC{elts:List Q3}{x1:Nat}{tp:Pos}{a b:Q3}{p pos:Pos}(hK:X.K=TheK.K)(hg:Gl X "zip")(hm:X.mg "zip"=aB)(ha:QA X [a,b] (cA M fa))(hs:jf [a,b] X.env=(aD,eval a X.env)::jf [b] X.env:=by rfl)(hs2:(QQ pos (jf [b] X.env)).any (·.1)=aD:=by rfl):QI X (.Tuple elts x1 tp) (.Call (.Name "zip" p) [a,b] [] pos) (cI M (tz fa)):=⟨have ha:=ha.un;lQ (O9 hg hm ha hs hs2) (by
 intro σ H R h_;refine lu h_ λF O s its s' Rl hf q=>?_;obtain⟨⟨p1,p2⟩,h1,h2⟩:=Qb hf;refine⟨F,O,s,p1,p2,Rl,h1,λvs H1 S1 R1 rs=>?_⟩;dsimp only at h2;split at h2
 case h_2=>cases h2
 ·rename_i xs ys;injection h2 with h2;injection h2 with h3 h4;subst h3 h4;obtain⟨u,h6,h7⟩:=rs.get (i:=0) rfl;obtain⟨v,h8,h9⟩:=rs.get (i:=1) rfl;have hvl:=rs.1;cases h7 with
  |@lst a1 us _ c r l h=>
   cases h9 with
   |@lst a2 ws _ c2 r2 l2 hw=>
    refine⟨a1,a2,us,ws,?_,hK▸ad.of r,hK▸ad.of r2,q _ H1 S1 R1 ?_⟩
    ·match vs,hvl with
     |[x,y],_=>
      simp at h6 h8;rw[h6,h8]
    intro H2 k i;have k1:=k a1 _ c r;have k2:=k a2 _ c2 r2;have hlen:(o7 xs ys).length=min us.length ws.length:=by unfold o7; rw[j5,List.length_zip,<-l,<-l2]
    refine⟨λt ht=>?_,λhl=>⟨us,ws,ad.of k1,ad.of k2,by rw[hlen] at hl; lia⟩⟩
    have hi:=(j7.mp ht).1;rw[hlen] at hi;have hiu:i < us.length:=by lia
    have hik:i < ws.length:=by lia
    have hix:i < xs.length:=by lia
    have hiy:i < ys.length:=by lia
    have et:t=.tup [xs[i],ys[i]]:=by
     unfold o7 at ht;rw[jg] at ht;obtain⟨pr,hpr,rfl⟩:=Qm ht;rw[List.getElem?_zip_eq_some,j3 hix,j3 hiy] at hpr;obtain⟨g1,g2⟩:=hpr;rw[<-jh g1,<-jh g2]
    subst et;refine⟨⟨us,us[i],ws,ws[i],ad.of k1,j3 hiu,ad.of k2,j3 hik⟩,λx H3 ⟨p',x',y',e1,e2,e3,e4,e5⟩=>⟨.inr ⟨p',_,e2,e3⟩,?_⟩⟩;have f1:=e4 us (ad.of k1);rw[j3 hiu] at f1;obtain rfl:us[i]=x':=jh f1;have f2:=e5 ws (ad.of k2);rw[j3 hik] at f2;obtain rfl:ws[i]=y':=jh f2;subst e1 e3
    exact Pc k e2 (h i _ _ (j3 hiu) (j3 hix)) (hw i _ _ (j3 hik) (j3 hiy)))⟩
end
section
variable [TheK]
theorem DF(hK:X.K=TheK.K)(hc:X.calm=aC)(hg:Gl X "max")(hm:X.mg "max"=aB)(h:QE X e (cE .b M fe))(he:jf [e] X.env=(aD,eval e X.env)::jf [] X.env:=by rfl)(hpl:(QQ pos (jf [] X.env)).any (·.1)=aD:=by rfl):QE X (.Call (.Name "max" p) [e] [] pos) (cE .e M (d1 rS fe)):=⟨have h:=h.un; weak (sU (show CallR X _ _ from hK▸RC hc) hg hm MP (f9 h ib he) (by decide) (by decide) he hpl) (xK Hs)⟩
end
section
variable [TheK]
variable {b:Q3}
theorem OL(ha:QE X a (cE .e M fa))(hb:QE X b (cE .b M fb)):QE X (.BinOp a .Mult b pos) (cE .e M (d2 xE fa fb)):=⟨have ha:=ha.un;have hb:=hb.un;weak (ix Od ha hb) (dJ (tI λi j h=>by
 unfold Bg at h;rw[jL] at h;have h1:=g9 h.1;have h2:=g9 h.2;have e:(10000000000000000000000000000000000000000:Nat) < 2 ^ 200:=by decide
 exact⟨gL h1 e,gL h2 e⟩))⟩
end
section
variable [TheK]
variable {k v:Q3}{fv:DE}
theorem RJ(hk:QE X k (cE .e M fk))(hv:QE X v (cE .e M fv)):QE X (.Dict [aA k] [v] pos) (cE .n M (xU fk fv)):=⟨have hk:=hk.un;have hv:=hv.un;weak (Oh (Pr hk hv OC) rfl rfl (by simp) (show 1<=15 by decide)) (by
 intro σ H Q h_;refine ba h_ λF O s t s' R hf q=>?_;obtain⟨⟨t1,s1⟩,h1,hf⟩:=Qb hf;obtain⟨⟨t2,s2⟩,h2,hf⟩:=Qb hf;obtain⟨ky,hkey,hf⟩:=Qm hf;injection hf with e1 e2;subst e1 e2;intro p hp;have ne0:∀(i:Nat),i∈M->σ[i]?≠aA (aA (.ref p)):=λi hi e=>R.al p (R.ow i p hi e) hp;refine⟨F,_,s,t1,s1,R.new hp (.dK []),h1,λy H1 S1 p1=>?_⟩;have e1:H1 p=aA (.dK []):=S1.keep p _ ne0 bq;refine⟨F,_,s1,t2,s2,p1.1,h2,λz H2 S2 p2=>?_⟩;have e2:H2 p=aA (.dK []):=S2.keep p _ ne0 e1;obtain rfl:=oP (.inl p1.2) hkey;refine⟨e2,[(ky,z)],rfl,show 1<=15 by decide,?_⟩
 refine q _ _ ⟨λb o hb e=>?_,λb e=>?_⟩ ⟨p,rfl,hp,p2.1.wr (.inr rfl) ne0 (R.dom p hp) _,.dct bq ⟨rfl,λi v t e3 e4=>?_⟩⟩
 ·have np:b≠p:=λz=>by rw[z,hp] at e; cases e
  rw[ac np];exact S2.keep b o hb (S1.keep b o hb (by rw[ac np]; exact e))
 ·have np:b≠p:=λz=>by rw[z,bq] at e; cases e
  rw[ac np] at e;have:=S1.dom b (S2.dom b e);rw[ac np] at this;exact this
 ·match i,e3,e4 with
  |0,e3,e4=>
   obtain rfl:=jh e3;obtain rfl:=jh e4;exact p2.2.mono (λ_ c=>c) λb o c e=>by rw[ac (λz=>c.1 (.inr z))]; exact e
  | i+1,e3,e4=>cases e4)⟩
end
theorem QW.pt{X:Cx}{e:Q3}{t:TT}(h:QW X e t):QT X e t:=⟨h.un.pt⟩
def QBody(tk:TheK)(P:jI)(w:Qe)(mg:Str->Option j8)(base:QN)(k:Nat)(x:Str)(st:QR)(N:List Str)(t:TS):Prop:=
 ∀(f:jw) (cdv:j8) (A:Qh) (outer:List Env) (s:jd) (H:Hp) (E:XK),Room k (A.deeper (Zy x (aZ st) s.heap.objs.size f cdv))->QSs (dr dl P w tk.K mg base N x (aZ st) f cdv A outer s H E).nox (dO st) t
theorem QBody.b{tk:TheK}{P:jI}{w:Qe}{mg:Str->Option j8}{base:QN}{k:Nat}{x:Str}{st:QR}{N:List Str}{t:TS}(h:QBody tk P w mg base k x st N t):rE tk P w mg base k x st N t:=λf cdv A outer s H E hr=>(h f cdv A outer s H E hr).un
section
variable [tk:TheK]{d:DS}
theorem Here.qP(h:Here tk.K mg x st ps)(S:FnScope N ps (aZ st))(hb:QBody tk P w mg base k x st N (cS .e [] [] M' Mb d))(hN:ps.length<=N.length:=by decide):dk P w tk.K mg base (k+1) x ps (bB .e ps.length (bM N.length d)):=h.okP S hb.b hN
theorem Here.qN(h:Here tk.K mg x st ps)(S:FnScope N ps (aZ st))(hb:QBody tk P w mg base k x st N (cS .n [] [] M' Mb d))(hN:ps.length<=N.length:=by decide):dk P w tk.K mg base (k+1) x ps (bB .n ps.length (iw N.length d)):=h.okN S hb.b hN
theorem Here.qI(h:Here tk.K mg x st ps)(S:FnScope N ps (aZ st))(hb:QBody tk P w mg base k x st N (cS .e [0] [0] M' Mb d))(hN:ps.length<=N.length:=by decide):dk P w tk.K mg base (k+1) x ps (fB .e ps.length (fN N.length d)):=h.okI S hb.b hN
theorem IK{ps0:Str}{fw:jw}{dw:Z9}(F:Fun tk.K x x st fw dw)(S:FnScope N [ps0] (aZ st))(hb:QBody tk P w mg base k x st N (cS .e [] [] M' Mb d))(hN:1<=N.length)(hd:∀ ns:List Int,ns.length<=63->bM N.length d [.scr ns]=aA (.bl aC)):FnOk P w tk.K mg base dl (k+1) fw dw [ps0] (qO tk.K):=Kv F S hb.b hN hd
end
def CalR(P:jI)(w:Qe)(K:j9)(mg:Str->Option j8)(base:QN)(n:Nat)(x:Str)(ps:List Str)(sp:Sp):Prop:=
 ∃ f fd,FnOk P w K mg base (lw P w) n f fd ps sp/\Binds K fd ps []/\Q6 K (.ref f)=aC/\mg x=aA (.ref f)
section
variable {K:j9}{sp:Sp}
theorem CalR.mono{j:Nat}(h:CalR P w K mg base j x ps sp)(hjk:j<=k):CalR P w K mg base k x ps sp:=by
 obtain⟨f,fd,F,b,kp,m⟩:=h;exact⟨f,fd,F.mono hjk,b,kp,m⟩
theorem Here.okX{CX:fP}(h:Here K mg x st ps)(S:FnScope N ps (aZ st))(len:∀ vs H Q E,sp vs H Q E->vs.length=ps.length)
  (hbody:∀(f:jw) (cdv:j8) (A:Qh) (outer:List Env) (s:jd) (H:Hp) (vs:List V) (Q:VK) (E:XK),Room k (A.deeper (Zy x (aZ st) s.heap.objs.size f cdv))->A.frames=aA outer->sp vs H Q E->
   ∃ t,nC (dr CX P w K mg base N x (aZ st) f cdv A outer s H E) (dO st) t/\t { nx:=λ_ H'=>Q .non H',rt:=Q } (L2.start N vs) H) :
  ∃ f fd,FnOk P w K mg base CX (k+1) f fd ps sp/\Binds K fd ps []/\Q6 K (.ref f)=aC/\mg x=aA (.ref f):=by
 obtain⟨f,fd,F,b,kp,m⟩:=h;obtain⟨oc,od,kV,doc,pm,an,cdv,ct,osl,rfl,lk,hcd⟩:=F.ex;exact⟨f,_,Ke lk hcd S len λA outer s H vs Q E hr hA hs=>hbody f cdv A outer s H vs Q E hr hA hs,b,kp,m⟩
end
variable [tk:TheK]
def tM(n:Nat)(d:DR):List T->Bool:=λts=>d (dL n ts)
theorem Os{C:jw}{np:Nat}{rs:List T->Bool}{vs:List V}{H:Hp}{Q:VK}{E:XK}(h:nt C np rs vs H Q E):vs.length=np:=by
 obtain⟨C,ts,hl,r,_⟩:=h;rw[r.1,hl]
theorem Hm{C:jw}{np:Nat}{N:List Str}{d:DR}(hN:np<=N.length){vs:List V}{H:Hp}{Q:VK}{E:XK}{D:Ends}(h:nt C np (tM N.length d) vs H Q E):cR E C d D (L2.start N vs) H:=by
 obtain⟨C,ts,hl,r,hf,q⟩:=h;obtain⟨l1,l2⟩:=yz (N:=N) r (by lia)
 have w:∀ b,C b->Free ⟨H,C,λ_=>False,λ_=>0⟩ (λ_=>False) b:=λb c=>⟨λz=>z,.inl c⟩;have R:Rel ⟨H,C,λ_=>False,λ_=>0⟩ (λ_=>False) [] (dL N.length ts) (L2.start N vs) H:=by
  refine⟨l1,λi t e _=>?_,λi t e n=>by simp at n,λi a n=>by simp at n,λi j a n=>by simp at n,λb o _ e=>e,λb e=>e,λa z=>z.elim,λa z=>z,λa z=>z.elim⟩
  obtain⟨v,h1,_,_,rv⟩:=l2 i t e;exact⟨v,h1,rv.mono w λ_ _ _ e=>e⟩
 exact⟨_,_,_,R,⟨λi hi=>by simp at hi,λa z=>z.elim⟩,hf,λO' H' k=>q H' (λb o e=>(k.1 b o (λz=>z) e).1) k.2⟩
section
variable {d:DR}{C:jw}
theorem Here.okR(h:Here tk.K mg x st ps)(S:FnScope N ps (aZ st))
  (hb:∀(f:jw) (cdv:j8) (A:Qh) (outer:List Env) (s:jd) (H:Hp) (E:XK),Room k (A.deeper (Zy x (aZ st) s.heap.objs.size f cdv))->A.frames=aA outer->
   bv (dr (lw P w) P w tk.K mg base N x (aZ st) f cdv A outer s H E) (dO st) (cR E C d)) (hN:ps.length<=N.length:=by decide):CalR P w tk.K mg base (k+1) x ps (nt C ps.length (tM N.length d)):=
 h.okX S (λvs H Q E h=>Os h) λf cdv A outer s H vs Q E hr hA hs=>⟨_,(hb f cdv A outer s H E hr hA).zero,Hm hN hs⟩
end
section
variable {E:XK}{N:jw}{da db d1 d2:DR}{dn:DS}{a b sts:List QR}
theorem He(hc:QT X c (cT [] ft))(ha:QSs X a (cR E N da))(hb:QSs X b (cR E N db)):QS X (.If c a b pos) (cR E N (rJ ft da db)):=⟨Gj hc.un ha.un hb.un⟩
theorem Hf:QSs X sts (cR E N o0):=⟨Gk⟩
theorem Cm:QS X st (cR E N o0):=⟨Hi⟩
theorem Cn(h:QS X st (cR E N da)):QSs X [st] (cR E N da):=⟨Hj h.un⟩
theorem Co{rk:Kd}(h1:QS X st (cR E N d1))(hn:QS X st (cS rk [] [] [] [] dn))(h2:QSs X sts (cR E N d2)):QSs X (st::sts) (cR E N (qG d1 dn d2)):=⟨Hk h1.un hn.un h2.un⟩
end
theorem M3{X:Cx}{st:List QR}{t1 t2:TS}(h1:bv X st t1)(h2:bv X st t2):bv X st (λD σ H=>t1 D σ H∨t2 D σ H):=λpc s σ H D I z=>z.elim (h1 pc s σ H D I) (h2 pc s σ H D I)
def CY(tk:TheK)(P:jI)(w:Qe)(mg:Str->Option j8)(base:QN)(k:Nat)(x:Str)(st:QR)(N:List Str)(C:jw)(d:DR):Prop:=
 ∀(f:jw) (cdv:j8) (A:Qh) (outer:List Env) (s:jd) (H:Hp) (E:XK),Room k (A.deeper (Zy x (aZ st) s.heap.objs.size f cdv))->A.frames=aA outer->
  QSs (dr (lw P w) P w tk.K mg base N x (aZ st) f cdv A outer s H E) (dO st) (cR E C d)
theorem Here.qR{P:jI}{w:Qe}{mg:Str->Option j8}{base:QN}{x:Str}{st:QR}{N ps:List Str}{k:Nat}{d:DR}{C:jw}(h:Here tk.K mg x st ps)(S:FnScope N ps (aZ st))(hb:CY tk P w mg base k x st N C d)(hN:ps.length<=N.length:=by decide):CalR P w tk.K mg base (k+1) x ps (nt C ps.length (tM N.length d)):=
 h.okR S (λf cdv A outer s H E hr hA=>(hb f cdv A outer s H E hr hA).un) hN
end L3
namespace L3
open PySem PySem.Spec PyProof.Rows L2
theorem RW{K:j9}{h:QN}{C D N f:jw}{nm q:Str}{bs bm:List j8}{hdct:Bool}{sn:List Str}{sub:List j8}{ab:Bool}{col:Option Bool}{dd:Option jw}{k0 k1 k2 k3 k5:Option j8}{n1 n2:Str}{p1 p2 p3 p4:Pos}
  {name qual:Str} {params:Wg} {scope:gQ} {dV kV doc pm cdv ct:j8} {an od:Option jw} {osl:Array (Option j8)} {cdt:Jq} (X:K.In h)
  (xl:K.lookup C=aA (Yo nm q C N bs bm hdct sn sub ab col dd k0 k1 k2 k3 k5 "ValueError.__new__")) (xi:Qq K N "__init__"=aA (aA (.ref f))) (xn:PySem.W.nsOkIn K N=aC)
  (xt:PySem.W.tailIn K [.type "ValueError",.type "Exception",.type "BaseException",.type "object"] bm=aC)
  (lk:K.lookup f=aA ⟨.type "function",od,.func (Q0 name qual params [.Assign [.Attribute (.Name n1 p1) n2 p2] (.Name n2 p3) p4] scope dV kV doc pm an cdv ct),osl⟩) (hcd:Z2 K cdv qual=aC)
  (S:FnScope [n1,n2] [n1,n2] scope) (l1:scope.names.lookup n1=aA .local) (l2:scope.names.lookup n2=aA .local) (d1:(n1 == ("__debug__":Str))=aD) (d2:(n2 == ("__debug__":Str))=aD)
  (hb:∀ us:List j8,us.length=2->Ye (Q0 name qual params [.Assign [.Attribute (.Name n1 p1) n2 p2] (.Name n2 p3) p4] scope dV kV doc pm an cdv ct) ⟨us,[]⟩=pure ([n1,n2].zip us))
  (c1:PySem.W.clsIn K C=aA cdt) (c2:cdt.mro=[.ref C,.ref D,.type "ValueError",.type "Exception",.type "BaseException",.type "object"]) (c3:cdt.hasDict=aC)
  (c4:YB K (.ref C) "__setattr__"=aA (aA (.builtin "object.__setattr__"))) (c5:YB K (.ref C) n2=aA aB):XClsI K h C D bm:=by
 have G:h.Ns N (h.nsMap N):=.of_isNs (PySem.W.isNs_of_in X xn);have gi:h.nsMap N "__init__"=aA (.ref f):=by
  obtain⟨o,es,ep,ho,hd,_,hf⟩:=G;unfold Qq at xi;split at xi
  ·rename_i c d es' n' sl qq;have:=X _ _ qq;rw[ho] at this;cases this;cases hd;split at xi
   ·rename_i en he;have xi:aA (aA en.val)=aA (aA (Qa f)):=xi;rw[<-hf];unfold nsFind findBy;rw[<-Wc,he];exact jh xi
   ·split at xi<;>cases xi
  ·cases xi
 exact⟨N,nm,q,bs,hdct,sn,sub,ab,col,dd,k0,k1,k2,k3,k5,_,f,X _ _ xl,G,gi,PySem.W.tail_of_in X xt,n1,n2,p1,p2,p3,p4,name,qual,params,scope,dV,kV,doc,pm,cdv,ct,od,an,osl,cdt,lk,hcd,S,l1,l2,d1,d2,.all hb,⟨c1,c2,c3,c4,c5⟩⟩
theorem Rq{X:Cx}{st:QR}{sts:List QR}{t u:TS}(h1:tT X st t)(h2:bv X sts u):nC X (st::sts) (B3 t u):=by
 intro s σ H D I h;refine Y5 (jY (h1 s σ H { D with nx:=u D } I h) (λf s1 q=>?_) λ_ _ z=>z);cases f with
 |next=>
  obtain⟨σ',H',I',q⟩:=q;exact h2 [] s1 σ' H' D I' q
 |ret v=>exact q
 |brk=>exact q
 |cont=>exact q
variable [tk:TheK]
theorem RP{X:Cx}{st:QR}{sts:List QR}{rk:Kd}{io M M' M'' Mb:List Nat}{d d':DS}(h:tT X st (cS rk io M M' Mb d))(h2:bv X sts (cS rk io M' M'' Mb d')):nC X (st::sts) (cS rk io M M'' Mb (aM d d')):=by
 intro s0 σ H D I0 hz;refine Rq h h2 s0 σ H D I0 ?_;obtain⟨F,O,s,r,R,I,hd,q⟩:=hz;obtain⟨r1,h1,h2⟩:=Qb hd;refine⟨F,O,s,r1,R,I,h1,?_⟩;cases r1 with
 |nx s1=>exact λO1 σ1 H1 k1 R1 I1=>⟨F,O1,s1,r,R1,I1,h2,q.more k1⟩
 |bk s1=>injection h2 with h2; subst h2; exact q
 |ct s1=>injection h2 with h2; subst h2; exact q
 |rt t s1=>injection h2 with h2; subst h2; exact q
theorem SH{X:Cx}{st:QR}{sts:List QR}{rk:Kd}{io M M' M'' Mb:List Nat}{d d':DS}(h:tT X st (cS rk io M M' Mb d))(h2:QSs X.nox sts (cS rk io M' M'' Mb d')):nC X (st::sts) (cS rk io M M'' Mb (aM d d')):=RP h h2.un.nox
theorem Rel.up{F:Fr}{O:jw->Prop}{M:List Nat}{s:Sg}{σ:L2.St}{H H':Hp}(R:Rel F O M s σ H)(k:∀ b o,H b=aA o->H' b=aA o)(d:∀ b,H' b=aB->H b=aB):Rel F O M s σ H':=by
 refine⟨R.len,λi t e n=>?_,λi t e n=>?_,R.ow,R.dis,λb o n e=>k b o (R.keep b o n e),λb e=>R.dom b (d b e),R.fresh,R.inD,λa o e=>R.al a o (d a e)⟩
 ·obtain⟨v,h1,h2⟩:=R.val i t e n;exact⟨v,h1,h2.mono (λ_ c=>c) λb o _ e=>k b o e⟩
 ·obtain⟨a,h1,h2⟩:=R.own i t e n;exact⟨a,h1,h2.mono (λ_ c=>c) (λb o _ e=>k b o e) λo e=>k a o e⟩
def oE(io:List Nat)(np:Nat)(rs:List T->Bool)(fa:DA)(dn:DS):DS:=λs=>match dn s with
 |some r=>aA r
 |none=>match fa s with
  |some (ts,s')=>if (aE (ts.length=np)&&rs ts&&hasAll io s')=aC then aA (.rt .non s') else aB
  |none=>aB
def wV(E:XK)(N:jw)(M:List Nat)(np:Nat)(rs:List T->Bool)(fa:DA):TS:=λD σ H=>∃ F O s ts s',Rel F O M s σ H/\fa s=aA (ts,s')/\ts.length=np/\rs ts=aC/\∀ H',Rel F O M s' σ H'->E (.ref N) aB H'
section
variable {X:Cx}{E:XK}{N D:jw}{pos:Pos}{io M M' Mb:List Nat}{np:Nat}{rs:List T->Bool}{fa:DA}{dn:DS}{st:QR}
theorem Hl{CX:fP}{k i:Nat}{f:jw}{fd:Z9}{ps:List Str}{x y:Str}{p cpos pos':Pos}{e:Q3}{es:List Q3}(hN:X.N.Nodup)(hi:X.N[i]?=aA y)(hl:nz X.env.scope y)(F:FnOk X.prog X.w X.K X.mg X.base CX k f fd ps (nt N np rs))(hr:Room k X.A)(hg:Gl X x)(hm:X.mg x=aA (.ref f))(hk:Q6 X.K (.ref f)=aC)(hb:Binds X.K fd ps [])(hx:nL CX X E)
  (ha:PA X (e::es) (cA M fa)) (hf:X.fn y=aC∨X.env.scope.names.lookup y=aA .local) (hs:ZX (.Call (.Name x p) (e::es) [] cpos) (aA (.Name y pos')) pos.line X.env=pure aD:=by rfl) (hdb:(x == ("__debug__":Str))=aD:=by decide) (he:jf (e::es) X.env=(aD,eval e X.env)::jf es X.env:=by rfl) (hpl:(QQ cpos (jf es X.env)).any (·.1)=aD:=by rfl) :
  PS X (.Assign [.Name y pos'] (.Call (.Name x p) (e::es) [] cpos) pos) (wV E N M np rs fa):=eX (Ch hN hi hl (oQ F hr hg hm hk hb .nil hx ha hdb he hpl) hs hf) (by
 intro D σ H hz; obtain⟨F,O,s,ts,s',R,hf,hl,hrs,q⟩:=hz;refine⟨F,O,s,ts,s',R,hf,λvs H1 S1 R1 rr=>?_⟩
 exact⟨Free F O,ts,hl,by rw[Qv]; exact rr,hrs,λH' k1 k2=>q H' (R1.up k1 k2)⟩)
theorem Le{CX:fP}{k i:Nat}{f:jw}{fd:Z9}{ps:List Str}{x y:Str}{p cpos pos':Pos}{e:Q3}{es:List Q3}(hN:X.N.Nodup)(hi:X.N[i]?=aA y)(hl:nz X.env.scope y)(F:FnOk X.prog X.w X.K X.mg X.base CX k f fd ps (nt N np rs))(hr:Room k X.A)(hg:Gl X x)(hm:X.mg x=aA (.ref f))(hk:Q6 X.K (.ref f)=aC)(hb:Binds X.K fd ps [])(hx:nL CX X E)
  (ha:QA X (e::es) (cA M fa)) (hf:X.fn y=aC∨X.env.scope.names.lookup y=aA .local) (hs:ZX (.Call (.Name x p) (e::es) [] cpos) (aA (.Name y pos')) pos.line X.env=pure aD:=by rfl) (hdb:(x == ("__debug__":Str))=aD:=by decide) (he:jf (e::es) X.env=(aD,eval e X.env)::jf es X.env:=by rfl) (hpl:(QQ cpos (jf es X.env)).any (·.1)=aD:=by rfl) :
  QS X (.Assign [.Name y pos'] (.Call (.Name x p) (e::es) [] cpos) pos) (wV E N M np rs fa):=⟨Hl hN hi hl F hr hg hm hk hb hx ha.un hf hs hdb he hpl⟩
theorem Lh{bm bmD:List j8}{d:Str}{p1 p2 p3 hpos:Pos}{j:Nat}(hn:∀ W,QS (X.wish W) st (cS .e io M M' Mb dn))(hc:∀ W E,nL (lw X.prog X.w) (X.wish W) E->QS (X.wish W) st (wV E N M np rs fa))
  (hst:X.stack=X.env::X.outer) (hfr:X.env.frame=aA X.env.locals) (hex:X.ex=[]) (hgd:Gl X d) (hmd:X.mg d=aA (.ref D)) (xd:XObj X.base D bmD) (xn:XObj X.base N bm) (hm:(Qa N::bm).contains (.ref D)=aC)
  (hdb:(d == ("__debug__":Str))=aD:=by decide) :
  tT X (.Try [st] [.ExceptHandler (aA (.Name d p1)) aB [.Return (aA (.Constant .none j p2)) p3] hpos] [] [] pos) (cS .e io M M' Mb (oE io np rs fa dn)):=by
 intro s0 σ H En I0 hz;refine Rp (tb:=λE' D' σ' H'=>cS .e io M M' Mb dn D' σ' H'∨wV E' N M np rs fa D' σ' H') (ts:=B1 (tC .non)) (λW E' hp=>M3 (sO (hn W).un) (sO (hc W E' hp).un)) hst hfr hex hgd hmd xd (λx=>sO (uN Cf)) hdb s0 σ H En I0 ?_;obtain⟨F,O,s,r,R,I,hd,q⟩:=hz;unfold oE at hd;split at hd
 ·rename_i r1 h1;obtain rfl:=jh hd;exact .inl ⟨F,O,s,_,R,I,h1,q⟩
 split at hd
 case h_2=>cases hd
 rename_i ts s' hf;split at hd
 case isFalse=>cases hd
 rename_i hc;obtain rfl:=jh hd;obtain⟨hc,hio⟩:=NV.mp hc;obtain⟨hl,hrs⟩:=NV.mp hc;refine .inr ⟨F,O,s,ts,s',R,hf,of_decide_eq_true hl,hrs,λH' R'=>⟨N,bm,rfl,xn,hm,?_⟩⟩;exact q .non H' (Br R' I (hasAll.get hio) .non)
end
section
variable {P:jI}{w:Qe}{mg:Str->Option j8}{base:QN}{x:Str}{st:QR}{N ps:List Str}{k:Nat}{d:DS}{M' Mb:List Nat}
theorem Here.okI0(h:Here tk.K mg x st ps)(S:FnScope N ps (aZ st))
  (hb:∀(f:jw) (cdv:j8) (A:Qh) (outer:List Env) (s:jd) (H:Hp) (E:XK),Room k (A.deeper (Zy x (aZ st) s.heap.objs.size f cdv))->A.frames=aA outer->
   nC (dr dl P w tk.K mg base N x (aZ st) f cdv A outer s H E) (dO st) (cS .e [0] [0] M' Mb d)) (hN:ps.length<=N.length:=by decide):dk P w tk.K mg base (k+1) x ps (fB .e ps.length (fN N.length d)):=
 h.okX S (λvs H Q E h=>DX h) λf cdv A outer s H vs Q E hr hA hs=>⟨_,hb f cdv A outer s H E hr hA,Bt (.inl rfl) hN hs⟩
end
section
variable {X:Cx}{E:XK}{N D:jw}{pos:Pos}
theorem Rw{k:Nat}{bm:List j8}{x:Str}{np cpos:Pos}{e0:Q3}{fe:DE}(hR:uk X E)(hc:X.calm=aC)(hr:Room (k+1) X.A)(xc:XClsI X.K X.base N D bm)(hg:Gl X x)(hm:X.mg x=aA (.ref N))(he0:QE X e0 (cE .e [] fe))
  (he:jf [e0] X.env=(aD,eval e0 X.env)::jf [] X.env:=by rfl) (hpl:(QQ cpos (jf [] X.env)).any (·.1)=aD:=by rfl) (hd:(x == ("__debug__":Str))=aD:=by decide) :
  QS X (.Raise (aA (.Call (.Name x np) [e0] [] cpos)) aB pos) (cR E N (yL fe)):=⟨RK hR hc hr xc hg hm he0.un he hpl hd⟩
end
end L3
namespace L3
open PySem PySem.Spec PyProof.Rows L2
variable {ps:List Str}{x:Str}{st:QR}{K:j9}{mg:Str->Option j8}
theorem OW{α:Type}(x:α):(aA (aA x):Option (Option α)).join=aA x:=rfl
theorem lg{n:Nat}(h:n<=1000000):n<=jr:=by rw[ZL]; lia
theorem lC{n:Nat}(h:n<=1000000):n < jr:=by rw[ZL]; lia
theorem xI{n:Nat}(h:n<=1000000):n<=zg8:=by rw[show zg8=1000000 by unfold zg8; rfl]; exact h
theorem oS{j:Int}(h0:-2000<=j)(h:j<=2000):dR j=aC:=by
 unfold dR;refine Nat.ble_eq_true_of_le ?_;lia
theorem L4{α:Type}{xs:List α}{i:Nat}{x:α}(h:xs[i]?=aA x):cp xs (i:Int)=aA x:=by
 have h2:i < xs.length:=(j7.mp h).1;unfold cp eS;rw[aI (by lia),aI (by lia),ja,Q8,h]
theorem yQ{g:DG}{db:DS}(I:Nat->Sg->Prop):∀(xs:List T) (i:Nat) (s:Sg),I i s->(∀ j x s,xs[j]?=aA x->I (i+j) s->∃ s1,g x s=aA s1/\∃ s2,(db s1=aA (.nx s2)∨db s1=aA (.ct s2))/\I (i+j+1) s2)->
  ∃ s',eW g db xs s=aA (.nx s')/\I (i+xs.length) s'
 |[],i,s,h0,_=>⟨s,by unfold eW; rfl,h0⟩
 |x::xs,i,s,h0,h=>by
  obtain⟨s1,h1,s2,h2,h3⟩:=h 0 x s rfl h0;obtain⟨s',h4,h5⟩:=yQ I xs (i+1) s2 h3 λj y s e q=>by
   have z:=h (j+1) y s (by simpa using e)
   rw[show i+(j+1)=i+1+j by lia] at z
   exact z q
  refine⟨s',?_,by rw[jk,show i+(xs.length+1)=i+1+xs.length by lia]; exact h5⟩
  unfold eW;rw[h1,ja];rcases h2 with h2 |h2<;>rw[h2,ja]<;>exact h4
theorem EQ(n:Nat)(x y:T):ap (n+1) x y=tN n x y:=by cases x<;>cases y<;>rfl
theorem xY{n:Nat}{x y:T}{b:Bool}(h:br x y=aA b):ap n x y=aA b:=by
 cases n with
 |zero=>unfold ap; exact h
 |succ n=>rw[EQ]; unfold tN; cases x<;>cases y<;>simp[br] at h<;>simpa[br] using h
theorem yN(n:Nat)(i j:Int):ap n (.int i) (.int j)=aA (i == j):=xY rfl
theorem CI(n:Nat)(i j:Bool):ap n (.bl i) (.bl j)=aA (i == j):=xY rfl
theorem yO(n:Nat)(i j:Str):ap n (.str i) (.str j)=aA (i == j):=xY rfl
theorem Dq{α:Type}[DecidableEq α]{f:T->T->Option Bool}{bP:α->T}(h:∀ a b,f (bP a) (bP b)=aA (aE (a=b))):∀(xs ys:List α),xs.length=ys.length->eJ f (xs.map bP) (ys.map bP)=aA (aE (xs=ys))
 |[],[],_=>rfl
 |[],_::_,hl=>by simp at hl
 |_::_,[],hl=>by simp at hl
 |x::xs,y::ys,hl=>by
  rw[jq,jq];unfold eJ;rw[h,ja,Dq h xs ys (by simpa using hl),jR]
  refine congrArg aA ?_
  by_cases h1:x=y<;>by_cases h2:xs=ys<;>simp[h1,h2]
theorem D8{α:Type}[DecidableEq α]{n:Nat}{bP:α->T}(h:∀ a b,ap n (bP a) (bP b)=aA (aE (a=b)))(xs ys:List α):ap (n+1) (.lst (xs.map bP)) (.lst (ys.map bP))=aA (aE (xs=ys)):=by
 rw[EQ];unfold tN;dsimp only;rw[j5,j5]
 by_cases hl:xs.length=ys.length
 ·rw[aI hl,Dq h xs ys hl]
 ·rw[aH hl,av (λz=>hl (by rw[z]))]
theorem E2{n:Nat}(xs ys:List Str):ap (n+1) (.lst (xs.map T.str)) (.lst (ys.map T.str))=aA (aE (xs=ys)):=D8 (λa b=>by rw[yO]; refine congrArg aA ?_; by_cases h:a=b<;>simp[h]) xs ys
theorem zC(xs:List Str):i4 (xs.map T.str)=aA (xs.map V.str):=by
 induction xs with
 |nil=>rfl
 |cons x xs ih=>rw[jq]; unfold i4; rw[ih]; rfl
theorem Db(x:Str)(xs:List Str):lm (.str x) (xs.map V.str)=aE (x∈xs):=by
 unfold lm;rw[J0,Zi,Y7,decide_eq_true_iff];constructor
 ·rintro⟨y,hy,e⟩;have:y=x:=by simpa[eT] using e
  exact this▸hy
 ·intro h;exact⟨x,h,by simp[eT]⟩
theorem TB(x:Str)(xs:List Str):(xs.map V.str).countP (λu=>eT u (.str x))=xs.count x:=by
 rw[List.countP_map,List.count_eq_countP];refine List.countP_congr λy hy=>?_;simp[eT]
theorem Li{f g:DS}{s s':Sg}{r:Option Fl}(h:f s=aA (.nx s'))(k:g s'=r):aM f g s=r:=by
 unfold aM;rw[h,ja];exact k
theorem Cq{f g:DS}{s s':Sg}{t:T}(h:f s=aA (.rt t s')):aM f g s=aA (.rt t s'):=by
 unfold aM;rw[h];rfl
theorem xh{n:Nat}{d:DS}{ts:List T}{t:T}{s:Sg}(h:d (dL n ts)=aA (.rt t s)):bM n d ts=aA t:=by unfold bM; rw[h]
theorem DJ{n:Nat}{d:DS}{ts:List T}{t:T}{s:Sg}(h:d (dL n ts)=aA (.rt t s)):iw n d ts=aA t:=by unfold iw; rw[h]
theorem LP{n:Nat}{d:DS}{ts:List T}{t u:T}{s:Sg}(h:d (dL n ts)=aA (.rt t s))(hs:s[0]?=aA (aA u)):fN n d ts=aA (t,u):=by unfold fN; rw[h]; simp[hs]
theorem uW{fi:DI}{g:DG}{db:DS}{s s1 s2:Sg}{its:List T}(h:fi s=aA (its,s1))(k:eW g db its s1=aA (.nx s2)):cJ fi g db s=aA (.nx s2):=by unfold cJ; rw[h,ja]; exact k
theorem EE{lo:Int}{n j:Nat}{x:T}(h:(dS lo n)[j]?=aA x):j < n/\x=.int (lo+j):=by
 unfold dS at h;rw[jg] at h;obtain⟨i,h1,h2⟩:=Qm h;have hj:j < n:=by simpa using (j7.mp h1).1
 rw[Zh hj] at h1;injection h1 with h1;subst h1;exact⟨hj,h2.symm⟩
theorem EF(lo:Int)(n:Nat):(dS lo n).length=n:=by unfold dS; simp
theorem y9{α:Type}(xs:List α){t:Int}(h0:0<=t)(h:t<=xs.length):d9 xs aB (aA t)=xs.take t.toNat:=by
 unfold d9 HT.sIx;simp only[W1,Nat.sub_zero];split
 ·lia
 ·rw[Yp (by lia)]
theorem yv{α:Type}(xs:List α){t:Int}(h0:0<=t)(h:t<=xs.length):d9 xs (aA t) aB=xs.drop t.toNat:=by
 unfold d9 HT.sIx;dsimp only;split
 ·lia
 ·rw[Yp (by lia),Q1 (by rw[QU]; lia)]
theorem Pq{α:Type}(xs:List α){t u:Int}(h0:0<=t)(h:t<=u)(hu:u<=xs.length):d9 xs (aA t) (aA u)=(xs.drop t.toNat).take (u.toNat - t.toNat):=by
 unfold d9 HT.sIx;dsimp only;split<;>split<;>first |lia |rw[Yp (by lia),Yp (by lia)]
def af(d:DS)(s:Sg)(Q:Fl->Prop):Prop:=∃ r,d s=aA r/\Q r
def rG(P:Sg->Prop):Fl->Prop
 |.nx s=>P s
 |.ct s=>P s
 |_=>False
theorem dA{d:DS}{s:Sg}{Q:Fl->Prop}{r:Fl}(h:d s=aA r)(k:Q r):af d s Q:=⟨r,h,k⟩
theorem sR{f g:DS}{s s':Sg}{Q:Fl->Prop}(h:f s=aA (.nx s'))(k:af g s' Q):af (aM f g) s Q:=by
 obtain⟨r,h1,h2⟩:=k;exact⟨r,Li h h1,h2⟩
theorem uz{f g:DS}{s:Sg}{Q:Fl->Prop}(P:Sg->Prop)(h:af f s λr=>match r with |.nx s'=>P s' |_=>False)(k:∀ s',P s'->af g s' Q):af (aM f g) s Q:=by
 obtain⟨r,h1,h2⟩:=h;cases r with
 |nx s'=>exact sR h1 (k s' h2)
 |_=>exact h2.elim
theorem iK{fi:DI}{g:DG}{db d:DS}{s s1:Sg}{its:List T}{Q:Fl->Prop}(I:Nat->Sg->Prop)(h:fi s=aA (its,s1))(h0:I 0 s1)
  (hs:∀ j x s,its[j]?=aA x->I j s->∃ s1,g x s=aA s1/\af db s1 (rG (I (j+1)))) (k:∀ s',I its.length s'->af d s' Q):af (aM (cJ fi g db) d) s Q:=by
 obtain⟨s',h1,h2⟩:=yQ (g:=g) (db:=db) I its 0 s1 h0 λj x s e q=>by
  rw[QV] at q ⊢;obtain⟨s1,h1,r,h2,h3⟩:=hs j x s e q;refine⟨s1,h1,?_⟩;cases r with
  |nx s2=>exact⟨s2,.inl h2,h3⟩
  |ct s2=>exact⟨s2,.inr h2,h3⟩
  |bk s2=>exact h3.elim
  |rt t s2=>exact h3.elim
 rw[QV] at h2;exact sR (uW h h1) (k s' h2)
theorem FG{fi:DI}{g:DG}{db:DS}{s s1:Sg}{its:List T}{Q:Fl->Prop}(I:Nat->Sg->Prop)(h:fi s=aA (its,s1))(h0:I 0 s1)
  (hs:∀ j x s,its[j]?=aA x->I j s->∃ s1,g x s=aA s1/\af db s1 (rG (I (j+1)))) (k:∀ s',I its.length s'->Q (.nx s')):af (cJ fi g db) s Q:=by
 obtain⟨s',h1,h2⟩:=yQ (g:=g) (db:=db) I its 0 s1 h0 λj x s e q=>by
  rw[QV] at q ⊢;obtain⟨s1,h1,r,h2,h3⟩:=hs j x s e q;refine⟨s1,h1,?_⟩;cases r with
  |nx s2=>exact⟨s2,.inl h2,h3⟩
  |ct s2=>exact⟨s2,.inr h2,h3⟩
  |bk s2=>exact h3.elim
  |rt t s2=>exact h3.elim
 rw[QV] at h2;exact⟨_,uW h h1,k s' h2⟩
theorem ql{ft:DT}{db d:DS}{n:Nat}{s:Sg}{Q:Fl->Prop}(I:Sg->Prop)(μ:Sg->Nat)(hn:μ s < n)(h0:I s)(hs:∀ s,I s->∃ b s1,ft s=aA (b,s1)/\if b=aC then af db s1 (rG λs2=>I s2/\μ s2 < μ s) else True)
  (k:∀ s0 s',I s0->ft s0=aA (aD,s')->af d s' Q):af (aM (eM ft db n) d) s Q:=by
 have key:∀ n s,μ s < n->I s->∃ s0 s',eM ft db n s=aA (.nx s')/\I s0/\ft s0=aA (aD,s'):=by
  intro n
  induction n with
  |zero=>intro s hn; exact absurd hn (Z7 _)
  |succ n ih=>
   intro s hn h0;obtain⟨b,s1,h1,h2⟩:=hs s h0;unfold eM;rw[h1,ja];dsimp only;cases b with
   |true=>
    rw[aI rfl] at h2;obtain⟨r,h3,h4⟩:=h2;rw[aI rfl,h3,ja];cases r with
    |nx s2=>exact ih s2 (by have:=h4.2; lia) h4.1
    |ct s2=>exact ih s2 (by have:=h4.2; lia) h4.1
    |bk s2=>exact h4.elim
    |rt t s2=>exact h4.elim
   |false=>exact⟨s,s1,by rw[aH jK],h0,h1⟩
 obtain⟨s0,s',h1,h2,h3⟩:=key n s hn h0;exact sR h1 (k s0 s' h2 h3)
theorem iJ{n:Nat}{d:DS}{ts:List T}{Q:T->Prop}(h:af d (dL n ts) λr=>∃ t s,r=.rt t s/\Q t):∃ t,bM n d ts=aA t/\Q t:=by
 obtain⟨r,h1,t,s,rfl,h2⟩:=h;exact⟨t,xh h1,h2⟩
theorem uw{n:Nat}{d:DS}{ts:List T}{Q:T->T->Prop}(h:af d (dL n ts) λr=>∃ t u s,r=.rt t (aA u::s)/\Q t u):∃ t u,fN n d ts=aA (t,u)/\Q t u:=by
 obtain⟨r,h1,t,u,s,rfl,h2⟩:=h;exact⟨t,u,LP h1 rfl,h2⟩
structure Ev where
 P:jI
 w:Qe
 mg:Str->Option j8
 base:QN
abbrev Cl[tk:TheK](v:Ev)(k:Nat)(x:Str)(ps:List Str)(sp:Sp):Prop:=dk v.P v.w tk.K v.mg v.base k x ps sp
theorem bf{N P:List Str}{sc:gQ}(h1:sc.kind=.function:=by rfl)(h2:sc.isCoroutine=aD:=by rfl)(h3:sc.isGenerator=aD:=by rfl)(h4:N.Nodup:=by decide +kernel)(h5:N.take P.length=P:=by rfl)
  (h6:∀ x∈P,sc.names.lookup x=aA .local∨sc.names.lookup x=aA .cell:=by decide +kernel) (h7:∀ y∈sc.names,y.2≠.free:=by decide +kernel):FnScope N P sc:=⟨h1,h2,h3,h4,h5,h6,h7⟩
theorem dk.up{P:jI}{w:Qe}{K:j9}{mg:Str->Option j8}{base:QN}{j k:Nat}{x:Str}{ps:List Str}{sp:Sp}(h:dk P w K mg base j x ps sp)(hjk:j<=k:=by decide):dk P w K mg base k x ps sp:=h.mono hjk
section
variable [TheK]{f1 f2 f3 f4 f5 f6:DE}
theorem d7:Ar (aF f1 aJ) 1:=wW L1
theorem cj:Ar (aF f1 (aF f2 aJ)) 2:=wW d7
theorem rC:Ar (aF f1 (aF f2 (aF f3 aJ))) 3:=wW cj
theorem Ve:Ar (aF f1 (aF f2 (aF f3 (aF f4 aJ)))) 4:=wW rC
end
section
variable [TheK]{X:Cx}{M:List Nat}{e e1 e2:Q3}{es:List Q3}{fe f0:DE}{fs:DA}{p pos:Pos}{k np i:Nat}{fn:List T->Option T}{fi:List T->Option (T × T)}
theorem qc(C:dk X.prog X.w X.K X.mg X.base k x ps (bB .e np fn))(hr:Room k X.A)(hg:Gl X x)(ha:QA X (e::es) (cA M fs))(ar:Ar fs np)(hdb:(x == ("__debug__":Str))=aD:=by decide)(he:jf (e::es) X.env=(aD,eval e X.env)::jf es X.env:=by rfl)(hpl:(QQ pos (jf es X.env)).any (·.1)=aD:=by rfl):QE X (.Call (.Name x p) (e::es) [] pos) (cE .e M (ae fn fs)):=by
 obtain⟨f,fd,F,hb,hk,hm⟩:=C;exact OJ F hr hg hm hk hb ha ar hdb he hpl
theorem om(C:dk X.prog X.w X.K X.mg X.base k x ps (bB .n np fn))(hr:Room k X.A)(hg:Gl X x)(ha:QA X (e::es) (cA M fs))(ar:Ar fs np)(hdb:(x == ("__debug__":Str))=aD:=by decide)(he:jf (e::es) X.env=(aD,eval e X.env)::jf es X.env:=by rfl)(hpl:(QQ pos (jf es X.env)).any (·.1)=aD:=by rfl):QE X (.Call (.Name x p) (e::es) [] pos) (cE .n M (ae fn fs)):=by
 obtain⟨f,fd,F,hb,hk,hm⟩:=C;exact R7 F hr hg hm hk hb ha ar hdb he hpl
theorem wS(hi:M.contains i=aC)(C:dk X.prog X.w X.K X.mg X.base k x ps (fB .e (np+1) fi))(hr:Room k X.A)(hg:Gl X x)(h0:QE X e (cH i))(ha:QA X es (cA M fs))(ar:Ar fs np)(hdb:(x == ("__debug__":Str))=aD:=by decide)(he:jf (e::es) X.env=(aD,eval e X.env)::jf es X.env:=by rfl)(hpl:(QQ pos (jf es X.env)).any (·.1)=aD:=by rfl):QE X (.Call (.Name x p) (e::es) [] pos) (cE .e M (lR fi i fs)):=by
 obtain⟨f,fd,F,hb,hk,hm⟩:=C;exact R0 hi F hr hg hm hk hb h0 ha ar hdb he hpl
theorem Ah{rk:Kd}(hrk:rk=.e∨rk=.n)(C:dk X.prog X.w X.K X.mg X.base k x ps (fB rk (np+1) fi))(hr:Room k X.A)(hg:Gl X x)(h0:QE X e (cE .n M fe))(ha:QA X es (cA M fs))(ar:Ar fs np)(hdb:(x == ("__debug__":Str))=aD:=by decide)(he:jf (e::es) X.env=(aD,eval e X.env)::jf es X.env:=by rfl)(hpl:(QQ pos (jf es X.env)).any (·.1)=aD:=by rfl):QE X (.Call (.Name x p) (e::es) [] pos) (cE rk M (oJ fi fe fs)):=by
 obtain⟨f,fd,F,hb,hk,hm⟩:=C;exact R8 hrk F hr hg hm hk hb h0 ha ar hdb he hpl
theorem VX(hi:M.contains i=aC)(C:dk X.prog X.w X.K X.mg X.base k x ps (bB .e (np+1) fn))(hr:Room k X.A)(hg:Gl X x)(h0:QE X e (cH i))(ha:QA X es (cA M fs))(ar:Ar fs np)(hdb:(x == ("__debug__":Str))=aD:=by decide)(he:jf (e::es) X.env=(aD,eval e X.env)::jf es X.env:=by rfl)(hpl:(QQ pos (jf es X.env)).any (·.1)=aD:=by rfl):QE X (.Call (.Name x p) (e::es) [] pos) (cE .e M (rz fn i fs)):=by
 obtain⟨f,fd,F,hb,hk,hm⟩:=C;exact Pz hi F hr hg hm hk hb h0 ha ar hdb he hpl
theorem Gh(hi:M.contains i=aC)(C:dk X.prog X.w X.K X.mg X.base k x ps (bB .e (np+2) fn))(hr:Room k X.A)(hg:Gl X x)(h0:QE X e1 (cE .e M f0))(h1:QE X e2 (cH i))(ha:QA X es (cA M fs))(ar:Ar fs np)(hdb:(x == ("__debug__":Str))=aD:=by decide)(he:jf (e1::e2::es) X.env=(aD,eval e1 X.env)::jf (e2::es) X.env:=by rfl)(he2:jf (e2::es) X.env=(aD,eval e2 X.env)::jf es X.env:=by rfl)(hpl:(QQ pos (jf (e2::es) X.env)).any (·.1)=aD:=by rfl):QE X (.Call (.Name x p) (e1::e2::es) [] pos) (cE .e M (sG fn i f0 fs)):=by
 obtain⟨f,fd,F,hb,hk,hm⟩:=C;exact Rr hi F hr hg hm hk hb h0 h1 ha ar hdb he he2 hpl
end
section
variable [tk:TheK]{v:Ev}{N:List Str}
theorem _root_.L3.Here.vP(k:Nat)(M':List Nat)(d:DS)(h:Here tk.K v.mg x st ps)(S:FnScope N ps (aZ st))(hb:QBody tk v.P v.w v.mg v.base k x st N (cS .e [] [] M' [] d))(hN:ps.length<=N.length:=by decide):Cl v (k+1) x ps (bB .e ps.length (bM N.length d)):=h.qP S hb hN
theorem _root_.L3.Here.vN(k:Nat)(M':List Nat)(d:DS)(h:Here tk.K v.mg x st ps)(S:FnScope N ps (aZ st))(hb:QBody tk v.P v.w v.mg v.base k x st N (cS .n [] [] M' [] d))(hN:ps.length<=N.length:=by decide):Cl v (k+1) x ps (bB .n ps.length (iw N.length d)):=h.qN S hb hN
theorem _root_.L3.Here.vI(k:Nat)(M':List Nat)(d:DS)(h:Here tk.K v.mg x st ps)(S:FnScope N ps (aZ st))(hb:QBody tk v.P v.w v.mg v.base k x st N (cS .e [0] [0] M' [] d))(hN:ps.length<=N.length:=by decide):Cl v (k+1) x ps (fB .e ps.length (fN N.length d)):=h.qI S hb hN
end
def Fd(K:j9)(x:Str)(st:QR):Prop:=∃(f:jw) (oc:j8) (od:Option jw) (sl:Array (Option j8)) (kV dc pm:j8) (an:Option jw) (cd ct:j8),Qq K jT x=aA (aA (.ref f))/\K.lookup f=aA ⟨oc,od,.func (Q0 x x (fU st) (dO st) (aZ st) .none kV dc pm an cd ct),sl⟩/\Z2 K cd x=aC/\Q6 K (.ref f)=aC
section
variable {h:QN}{p1 p2 p3 p4 p5 p6:Str}
theorem Fd.mk{f:jw}{oc:j8}{od:Option jw}{sl:Array (Option j8)}{kV dc pm:j8}{an:Option jw}{cd ct:j8}(a:Qq K jT x=aA (aA (.ref f)))(l:K.lookup f=aA ⟨oc,od,.func (Q0 x x (fU st) (dO st) (aZ st) .none kV dc pm an cd ct),sl⟩)(c:Z2 K cd x=aC)(k:Q6 K (.ref f)=aC):Fd K x st:=⟨f,oc,od,sl,kV,dc,pm,an,cd,ct,a,l,c,k⟩
def Bd(x:Str)(st:QR)(ps:List Str):Prop:=∀(kV doc pm:j8) (an:Option jw) (cdv ct:j8) (us:List j8),us.length=ps.length->Ye (Q0 x x (fU st) (dO st) (aZ st) .none kV doc pm an cdv ct) ⟨us,[]⟩=pure (ps.zip us)
theorem Fd.here{ps:List Str}(X:K.In h)(G:h.Ns jT mg)(a:Fd K x st)(hb:Bd x st ps):Here K mg x st ps:=by
 obtain⟨f,oc,od,sl,kV,dc,pm,an,cd,ct,a,l,c,k⟩:=a;exact OQ X G hb a l c k
theorem iP(h:∀(kV doc pm:j8) (an:Option jw) (cdv ct u1:j8),Ye (Q0 x x (fU st) (dO st) (aZ st) .none kV doc pm an cdv ct) ⟨[u1],[]⟩=pure [(p1,u1)]):Bd x st [p1]:=λa b c d e f us hl=>by
 cases us with
 |nil=>cases hl
 |cons u us=>cases us with
  |nil=>exact h a b c d e f u
  |cons _ _=>cases hl
theorem eU(h:∀(kV doc pm:j8) (an:Option jw) (cdv ct u1 u2:j8),Ye (Q0 x x (fU st) (dO st) (aZ st) .none kV doc pm an cdv ct) ⟨[u1,u2],[]⟩=pure [(p1,u1),(p2,u2)]):Bd x st [p1,p2]:=λa b c d e f us hl=>by
 obtain⟨u1,u2,rfl⟩:∃ u1 u2,us=[u1,u2]:=by
  cases us with
  |nil=>cases hl
  |cons u us=>obtain⟨u2,rfl⟩:=gS.mp (WX hl); exact⟨u,u2,rfl⟩
 exact h a b c d e f u1 u2
theorem BL{us:List j8}(h:us.length=3):∃ u1 u2 u3,us=[u1,u2,u3]:=by
 match us,h with
 |[a,b,c],_=>exact⟨a,b,c,rfl⟩
theorem tQ(h:∀(kV doc pm:j8) (an:Option jw) (cdv ct u1 u2 u3:j8),Ye (Q0 x x (fU st) (dO st) (aZ st) .none kV doc pm an cdv ct) ⟨[u1,u2,u3],[]⟩=pure [(p1,u1),(p2,u2),(p3,u3)]):Bd x st [p1,p2,p3]:=λa b c d e f us hl=>by
 obtain⟨u1,u2,u3,rfl⟩:=BL hl;exact h a b c d e f u1 u2 u3
theorem Vd(h:∀(kV doc pm:j8) (an:Option jw) (cdv ct u1 u2 u3 u4:j8),Ye (Q0 x x (fU st) (dO st) (aZ st) .none kV doc pm an cdv ct) ⟨[u1,u2,u3,u4],[]⟩=pure [(p1,u1),(p2,u2),(p3,u3),(p4,u4)]):Bd x st [p1,p2,p3,p4]:=λa b c d e f us hl=>by
 cases us with
 |nil=>cases hl
 |cons u us=>obtain⟨u1,u2,u3,rfl⟩:=BL (WX hl); exact h a b c d e f u u1 u2 u3
end
theorem K0{l:Yj}{q:jI}{loose:List Str}{XP:(Str->Option j8)->QN->Prop}{YP:Qe->QN->Prop}{d:DefRec}{K:Params->j9}{x:Str}{k:Nat}(hn:l.most=aA 63)(hdf:d.params.defaults=[])(hk:k < 60)
  (hY:∀(w:Qe) (h:QN),YP w h->(K w.params).In h)
  (F:∀(w:Qe) (mg:Str->Option j8) (fa:jw) (h:QN),(K w.params).In h->h.Ns jT mg->mg d.name=aA (.ref fa)->
   ∃ fd:Z9,(∀(s:jd) (u:j8),W3 s fd ⟨[u],[]⟩ [(x,u)])/\∀ base:QN,(K w.params).In base->base.Ns jT mg->FnOk l.prog w (K w.params) mg base dl k fa fd [x] (qO (K w.params))) :
  JN q loose XP YP l.row.toRowW d [] (λf vs=>JI f vs):=
 L2.PF (n:=63) (k:=k) (x:=x) (CX:=λ_=>dl) (sp:=λw=>qO (K w.params)) hn (by decide) hdf (Room.mono (k:=60) ⟨rfl,by decide,by decide⟩ (by lia)) hY F (λ_ _ a ns hl hO hS=>⟨a,ns,rfl,hO,hS,hl,λ_=>rfl⟩) λ_ _ _ _ _ z=>z
structure Ax where
 (C D r1 r2 r3 r4:jw)
section
variable [tk:TheK](v:Ev)
abbrev Fz(k:Nat)(x:Str)(ps:List Str)(sp:Sp):Prop:=CalR v.P v.w tk.K v.mg v.base k x ps sp
abbrev Nd(a:Ax):Prop:=∃ bm,XClsI tk.K v.base a.r2 a.D bm
end
section
variable {P:jI}{w:Qe}{base:QN}{j k:Nat}{sp:Sp}
theorem CalR.up(h:CalR P w K mg base j x ps sp)(hjk:j<=k:=by decide):CalR P w K mg base k x ps sp:=h.mono hjk
end
section
variable [tk:TheK]{v:Ev}{N:List Str}
theorem _root_.L3.Here.vR(k:Nat)(C:jw)(d:DR)(h:Here tk.K v.mg x st ps)(S:FnScope N ps (aZ st))(hb:CY tk v.P v.w v.mg v.base k x st N C d)(hN:ps.length<=N.length:=by decide):Fz v (k+1) x ps (nt C ps.length (tM N.length d)):=h.qR S hb hN
theorem _root_.L3.Here.vI0(k:Nat)(M':List Nat)(d:DS)(h:Here tk.K v.mg x st ps)(S:FnScope N ps (aZ st))
  (hb:∀(f:jw) (cdv:j8) (A:Qh) (outer:List Env) (s:jd) (H:Hp) (E:XK),Room k (A.deeper (Zy x (aZ st) s.heap.objs.size f cdv))->A.frames=aA outer->
   nC (dr dl v.P v.w tk.K v.mg v.base N x (aZ st) f cdv A outer s H E) (dO st) (cS .e [0] [0] M' [] d)) (hN:ps.length<=N.length:=by decide):Cl v (k+1) x ps (fB .e ps.length (fN N.length d)):=h.okI0 S hb hN
end
section
variable {h:QN}
theorem PV{l:Yj}{w:Qe}{fa:jw}{N:List Str}{p:Str}{k:Nat}{d:DS}{M' Mb:List Nat}(X:K.In h)(G:h.Ns jT mg)(hfa:mg "law"=aA (.ref fa))(a:Fd K "law" st)(sc:FnScope N [p] (aZ st))
  (hbt:∀(kV dc pm:j8) (an:Option jw) (cd ct v:j8),Ye (Q0 "law" "law" (fU st) (dO st) (aZ st) .none kV dc pm an cd ct) ⟨[v],[]⟩=pure [(p,v)]) (hN:1<=N.length)
  (hd:∀ ns:List Int,bM N.length d [.scr ns]=aA (.bl aC)) (hb:∀ base:QN,K.In base->base.Ns jT mg->QBody ⟨K⟩ l.prog w mg base k "law" st N (@cS ⟨K⟩ .e [] [] M' Mb d)) :
  ∃ fd:Z9,(∀(s:jd) (v:j8),W3 s fd ⟨[v],[]⟩ [(p,v)])/\∀ base:QN,K.In base->base.Ns jT mg->FnOk l.prog w K mg base dl (k+1) fa fd [p] (qO K):=by
 obtain⟨f,oc,od,sl,kV,dc,pm,an,cd,ct,a,ll,c,kk⟩:=a;have e:=hfa.symm.trans (Wt X G a);cases e;exact⟨Q0 "law" "law" (fU st) (dO st) (aZ st) .none kV dc pm an cd ct,λs v=>.of_eq (hbt kV dc pm an cd ct v),λbase KB GB=>IK (tk:=⟨K⟩) (CK (st:=st) ll c kk) sc (hb base KB GB) hN λns _=>hd ns⟩
end
theorem V9(i:Nat)(s:Sg):dV i s=(s[i]?).join.map λt=>(t,s):=rfl
theorem VA(t:T)(s:Sg):dC t s=aA (t,s):=rfl
theorem VC(g:T->T->Option T)(fa fb:DE)(s:Sg):d2 g fa fb s=(fa s).bind λp=>(fb p.2).bind λq=>(g p.1 q.1).map λt=>(t,q.2):=rfl
theorem GN(g:T->T->Option T)(i:Nat)(fb:DE)(s:Sg):bh g i fb s=(s[i]?).join.bind λ_=>(fb s).bind λq=>(q.2[i]?).join.bind λx=>(g x q.1).map λt=>(t,q.2):=rfl
theorem VB(f:DE)(s:Sg):dB f s=(f s).bind λp=>match p.1 with
 |.bl b=>aA (b,p.2)
 |_=>aB:=rfl
theorem Iv(f:DE)(s:Sg):fJ f s=(f s).bind λp=>(qz p.1).map λb=>(b,p.2):=rfl
theorem KI(f g:DT)(s:Sg):iq f g s=(f s).bind λp=>if p.1 then g p.2 else aA (aD,p.2):=rfl
theorem Gx(f g:DT)(s:Sg):ot f g s=(f s).bind λp=>if p.1 then aA (aC,p.2) else g p.2:=rfl
theorem KP(f:DT)(s:Sg):q5 f s=(f s).map λp=>(!p.1,p.2):=rfl
theorem Mc(f g:DE)(s:Sg):oB f g s=(dB f s).bind λp=>if p.1 then g p.2 else aA (.bl aD,p.2):=rfl
theorem Mg(f:DE)(s:Sg):x6 f s=(dB f s).map λp=>(.bl (!p.1),p.2):=rfl
theorem Gu(c:DT)(f g:DE)(s:Sg):rA c f g s=(c s).bind λp=>if p.1 then f p.2 else g p.2:=rfl
theorem GP(s:Sg):aJ  s=aA ([],s):=rfl
theorem GO(f:DE)(g:DA)(s:Sg):aF f g s=(f s).bind λp=>(g p.2).map λq=>(p.1::q.1,q.2):=rfl
theorem KN(f:DA)(s:Sg):bz f s=(f s).bind λp=>if p.1.length<=jr then aA (.lst p.1,p.2) else aB:=rfl
theorem Iw(f:DA)(s:Sg):du f s=(f s).bind λp=>if p.1.length<=jr then aA (.tup p.1,p.2) else aB:=rfl
theorem Me(s:Sg):oC  s=aA (.dct [],s):=rfl
theorem Gw(s:Sg):fG  s=aA (aB,s):=rfl
theorem Gy(f:DE)(s:Sg):eG f s=(f s).bind λp=>match p.1 with
 |.int i=>aA (aA i,p.2)
 |_=>aB:=rfl
theorem Gz(g:T->Option Int->Option Int->Option T)(f:DE)(l h:DO)(s:Sg):dE g f l h s=(f s).bind λp=>(l p.2).bind λq=>(h q.2).bind λr=>(g p.1 q.1 r.1).map λt=>(t,r.2):=rfl
theorem Iu(g:T->Option Int->Option Int->Option T)(i:Nat)(l h:DO)(s:Sg):tw g i l h s=(s[i]?).join.bind λ_=>(l s).bind λq=>(h q.2).bind λr=>(r.2[i]?).join.bind λx=>(g x q.1 r.1).map λt=>(t,r.2):=rfl
theorem Ir(f g:DS)(s:Sg):aM f g s=(f s).bind λr=>match r with
 |.nx s'=>g s'
 |r=>aA r:=rfl
theorem Mf(s:Sg):bW  s=aA (.nx s):=rfl
theorem C8(i:Nat)(f:DE)(s:Sg):aa i f s=(f s).bind λp=>if i < p.2.length then aA (.nx (p.2.set i (aA p.1))) else aB:=rfl
theorem KK(c:DT)(f g:DS)(s:Sg):bU c f g s=(c s).bind λp=>if p.1 then f p.2 else g p.2:=rfl
theorem GQ(f:DE)(s:Sg):iG f s=(f s).map λp=>.nx p.2:=rfl
theorem Mh(io:List Nat)(f:DE)(s:Sg):ak io f s=(f s).bind λp=>if hasAll io p.2 then aA (.rt p.1 p.2) else aB:=rfl
theorem KO(g:T->List T->Option (T × T))(i:Nat)(fa:DA)(s:Sg):dt g i fa s=(s[i]?).join.bind λt0=>if rW t0 then (fa s).bind λp=>(p.2[i]?).join.bind λt=>(g t p.1).map λq=>(q.2,p.2.set i (aA q.1)) else aB:=rfl
theorem KQ(i:Nat)(fk fv:DE)(s:Sg):iY i fk fv s=(fv s).bind λp=>(p.2[i]?).join.bind λ_=>(fk p.2).bind λq=>(q.2[i]?).join.bind λt=>match t with
 |.dct kvs=>(cq q.1).bind λk=>if kvs.length < jr then aA (.nx (q.2.set i (aA (.dct (cW kvs k p.1))))) else aB
 |_=>aB:=rfl
theorem Ml(i:Nat)(fk fv:DE)(s:Sg):nJ i fk fv s=(fv s).bind λp=>(p.2[i]?).join.bind λ_=>(fk p.2).bind λq=>(q.2[i]?).join.bind λt=>match t,q.1 with
 |.lst xs,.int k=>(eS xs.length k).map λj=>.nx (q.2.set i (aA (.lst (xs.set j p.1))))
 |_,_=>aB:=rfl
theorem HA(is:List Nat)(f:DE)(s:Sg):tO is f s=(f s).bind λp=>(uK p.1).bind λts=>(eZ is ts p.2).map .nx:=rfl
theorem KS(f:DA)(s:Sg):fS f s=(f s).bind λp=>match p.1 with
 |[.int j]=>if dR j=aC then aA (dS 0 j.toNat,p.2) else aB
 |_=>aB:=rfl
theorem Iq(f:DA)(s:Sg):tu f s=(f s).bind λp=>match p.1 with
 |[.int i,.int j]=>if dR i=aC/\dR j=aC then aA (dS i (j - i).toNat,p.2) else aB
 |_=>aB:=rfl
theorem Gp(f:DA)(s:Sg):rB f s=(f s).bind λp=>match p.1 with
 |[.lst xs]=>aA (iU xs,p.2)
 |_=>aB:=rfl
theorem Gq(i:Nat)(t:T)(s:Sg):au i t s=if i < s.length then aA (s.set i (aA t)) else aB:=rfl
theorem Gs(is:List Nat)(t:T)(s:Sg):eg is t s=match t with
 |.tup ts=>eZ is ts s
 |_=>aB:=rfl
theorem Md(fn:List T->Option T)(fa:DA)(s:Sg):ae fn fa s=(fa s).bind λp=>(fn p.1).map λt=>(t,p.2):=rfl
theorem P9(fn:List T->Option (T × T))(i:Nat)(fa:DA)(s:Sg):lR fn i fa s=(s[i]?).join.bind λ_=>(fa s).bind λp=>(p.2[i]?).join.bind λt0=>(fn (t0::p.1)).map λq=>(q.1,p.2.set i (aA q.2)):=rfl
theorem PB(fn:List T->Option (T × T))(f0:DE)(fa:DA)(s:Sg):oJ fn f0 fa s=(f0 s).bind λp=>(fa p.2).bind λq=>(fn (p.1::q.1)).map λr=>(r.1,q.2):=rfl
theorem VD(g:T->Option T)(f:DE)(s:Sg):d1 g f s=(f s).bind λp=>(g p.1).map λt=>(t,p.2):=rfl
theorem GM(g:T->T->Option T)(fa fb:DE)(s:Sg):tP g fa fb s=(fa s).bind λp=>if rW p.1 then (fb p.2).bind λq=>(g p.1 q.1).map λt=>(t,q.2) else aB:=rfl
theorem KM(f:DE)(s:Sg):bJ f s=(f s).bind λp=>match p.1 with
 |.lst xs=>aA (xs,p.2)
 |.scr ns=>aA (ns.map .int,p.2)
 |.tup xs=>aA (xs,p.2)
 |.fd kvs=>aA (kvs.map λkv=>kT kv.1,p.2)
 |.str x=>aA (x.cps.toList.map qM,p.2)
 |_=>aB:=rfl
theorem KR(f:DE)(k:DO)(s:Sg):wm f k s=(f s).bind λp=>(k p.2).bind λq=>if q.1=aA (-1) then (u0 p.1).map λt=>(t,q.2) else aB:=rfl
theorem Gv(f:DA)(s:Sg):An f s=(f s).bind λp=>match p.1 with
 |[.int j]=>if dR j=aC then aA (.lst (dS 0 j.toNat),p.2) else aB
 |_=>aB:=rfl
theorem KJ(i:Nat)(d:DS)(s:Sg):n9 i d s=match (s[i]?).join with
 |some (.dct kvs)=>d (s.set i (aA (.fd kvs)))
 |_=>aB:=rfl
theorem P8(fn:List T->Option T)(i:Nat)(fa:DA)(s:Sg):rz fn i fa s=(s[i]?).join.bind λ_=>(fa s).bind λp=>(p.2[i]?).join.bind λt0=>(fn (t0::p.1)).bind λt=>if lO t=aC then aA (t,p.2) else aB:=rfl
theorem Mk(s:Sg):x9  s=aA (.set (λ_=>aD) 0,s):=rfl
theorem Mj(i:Nat)(fe:DE)(s:Sg):x8 i fe s=(s[i]?).join.bind λt0=>match t0 with
 |.set _ _=>(fe s).bind λp=>(p.2[i]?).join.bind λt1=>match p.1,t1 with
  |.int k,.set S n=>if n < 1000 then aA (.non,p.2.set i (aA (.set (λj=>S j||aE (j=k)) (if S k then n else n+1)))) else aB
  |_,_=>aB
 |_=>aB:=rfl
theorem RT(fn:List T->Option T)(i:Nat)(f0:DE)(fa:DA)(s:Sg):sG fn i f0 fa s=(f0 s).bind λp=>(p.2[i]?).join.bind λ_=>(fa p.2).bind λq=>(q.2[i]?).join.bind λt0=>(fn (p.1::t0::q.1)).bind λt=>if lO t=aC then aA (t,q.2) else aB:=rfl
theorem Iy(f:DA)(s:Sg):tz f s=(f s).bind λp=>match p.1 with
 |[.lst xs,.lst ys]=>aA (o7 xs ys,p.2)
 |_=>aB:=rfl
theorem PD(fk fv:DE)(s:Sg):xU fk fv s=(fk s).bind λq=>(fv q.2).bind λr=>(cq q.1).map λk=>(.dct [(k,r.1)],r.2):=rfl
theorem KL(c:String)(f:DE)(s:Sg):qE c f s=(f s).bind λp=>((fY c p.1).map T.bl).map λt=>(t,p.2):=rfl
theorem Ix(s:Sg):dH s=aA (aC,s):=rfl
def nT(k:Nat):T:=.int (k:Int)
theorem tH(k:Nat):nT k=.int (k:Int):=rfl
theorem MZ(i j:Int):bK (.int i) (.int j)=aA (.int (i+j)):=rfl
theorem xv{a b:List T}(h:a.length+b.length<=1000000):bK (.lst a) (.lst b)=aA (.lst (a++b)):=by
 have q:a.length+b.length<=jr:=lg h;simp only[bK,dP,o3,lJ,q,if_true]
theorem K1{a b:List T}(h:a.length+b.length<=1000000):lJ (.lst a) (.lst b)=aA (.lst (a++b)):=by
 have q:a.length+b.length<=jr:=lg h;simp only[lJ,q,if_true]
theorem Ma{a b:Str}(h:a.length+b.length<=1000000):bK (.str a) (.str b)=aA (.str (a++b)):=by
 have q:a.length+b.length<=jr:=lg h;simp only[bK,dP,o3,q,if_true]
theorem VE(i j:Int):ln (.int i) (.int j)=aA (.int (i - j)):=rfl
theorem GH{i j:Int}(h:-1000000000000<=i/\i<=1000000000000∨-1000000000000<=j/\j<=1000000000000):cv (.int i) (.int j)=aA (.int (i*j)):=by
 have:n4 i j=aC:=by unfold n4; rw[Zg,decide_eq_true_iff,decide_eq_true_iff]; lia
 simp only[cv,gI,this,if_true]
theorem G9{i j:Int}(h:0 < j/\j<=1000000000):dM (.int i) (.int j)=aA (.int (i / j)):=by
 have:tm i j=aC:=am (by lia)
 simp only[dM,gI,this,if_true]
theorem GG{i j:Int}(h:0 < j):bo (.int i) (.int j)=aA (.int (i%j)):=by
 have:tq i j=aC:=am h;simp only[bo,gI,this,if_true]
theorem GL(i:Int):iT (.int i)=aA (.int (-i)):=rfl
theorem VF(i j:Int):r8 (.int i) (.int j)=aA (.bl (aE (i < j))):=rfl
theorem VG(i j:Int):Vc (.int i) (.int j)=aA (.bl (aE (i<=j))):=rfl
theorem VH(i j:Int):fD (.int i) (.int j)=aA (.bl (aE (j < i))):=rfl
theorem VI(i j:Int):Am (.int i) (.int j)=aA (.bl (aE (j<=i))):=rfl
theorem GC(i j:Int):bY (.int i) (.int j)=aA (.bl (aE (i=j))):=by simp only[bY,yN,jR]; rfl
theorem GJ(i j:Int):cc (.int i) (.int j)=aA (.bl (!aE (i=j))):=by simp only[cc,yN,jR]; rfl
theorem GA(i j:Bool):bY (.bl i) (.bl j)=aA (.bl (i == j)):=by simp only[bY,CI,jR]
theorem GI(i j:Bool):cc (.bl i) (.bl j)=aA (.bl (!(i == j))):=by simp only[cc,CI,jR]
theorem GD(i j:Str):bY (.str i) (.str j)=aA (.bl (aE (i=j))):=by
 simp only[bY,yO,jR]
 by_cases h:i=j<;>simp[h]
theorem GK(i j:Str):cc (.str i) (.str j)=aA (.bl (!aE (i=j))):=by
 simp only[cc,yO,jR]
 by_cases h:i=j<;>simp[h]
theorem K2(xs ys:List Str):bY (.lst (xs.map T.str)) (.lst (ys.map T.str))=aA (.bl (aE (xs=ys))):=by simp only[bY,E2,jR]
theorem K8(xs ys:List Str):cc (.lst (xs.map T.str)) (.lst (ys.map T.str))=aA (.bl (!aE (xs=ys))):=by simp only[cc,E2,jR]
theorem E1{n:Nat}(xs ys:List Nat):ap (n+1) (.lst (xs.map nT)) (.lst (ys.map nT))=aA (aE (xs=ys)):=D8 (λa b=>by
 rw[tH,tH,yN]; refine congrArg aA ?_
 by_cases h:a=b
 ·subst h; simp
 ·rw[av h]; simp; lia) xs ys
theorem uH(xs ys:List Nat):bY (.lst (xs.map nT)) (.lst (ys.map nT))=aA (.bl (aE (xs=ys))):=by simp only[bY,E1,jR]
theorem K7(xs ys:List Nat):cc (.lst (xs.map nT)) (.lst (ys.map nT))=aA (.bl (!aE (xs=ys))):=by simp only[cc,E1,jR]
theorem uI(xs:List T):bS (.lst xs)=aA (.int xs.length):=rfl
theorem K6(xs:List T):bS (.tup xs)=aA (.int xs.length):=rfl
theorem K3(xs:List (aK × T)):bS (.dct xs)=aA (.int xs.length):=rfl
theorem K5(xs:List Int):bS (.scr xs)=aA (.int xs.length):=rfl
theorem Dr{α:Type}(xs:List α)(k:Nat):cp xs (k:Int)=xs[k]?:=by
 unfold cp eS;rw[aI (by lia)]
 split
 ·simp
 ·rename_i h;rw[Option.bind_none,eq_comm,YE]; lia
theorem lW(xs:List T)(k:Nat):aP (.lst xs) (.int (k:Int))=xs[k]?:=by
 have:aP (.lst xs) (.int (k:Int))=dP fZ o4 (.lst xs) (.int (k:Int)):=rfl;rw[this]; unfold dP;have e:fZ (.lst xs) (.int (k:Int))=xs[k]?:=by show cp xs (k:Int)=_; exact Dr xs k
 rw[e];cases xs[k]?<;>rfl
theorem MI(xs:List T)(k:Nat):aP (.tup xs) (.int (k:Int))=xs[k]?:=by
 have:aP (.tup xs) (.int (k:Int))=dP fZ o4 (.tup xs) (.int (k:Int)):=rfl;rw[this]; unfold dP;have e:fZ (.tup xs) (.int (k:Int))=xs[k]?:=by show cp xs (k:Int)=_; exact Dr xs k
 rw[e];cases xs[k]?<;>rfl
theorem DZ(kvs:List (aK × T))(x:Str):aP (.dct kvs) (.str x)=bQ kvs (.inr x):=by
 show (match (aB:Option T) with |some t=>aA t |none=>_)=_
 rfl
theorem P3(kvs:List (aK × T))(x:Int):aP (.dct kvs) (.int x)=bQ kvs (.inl x):=rfl
theorem K9(b:Bool):qz (.bl b)=aA b:=rfl
theorem KC(xs:List T):qz (.lst xs)=aA (!xs.isEmpty):=rfl
theorem KA(i:Int):qz (.int i)=aA (i != 0):=rfl
theorem MX(xs:List T):i9 (.lst xs)=aA (.lst xs):=rfl
theorem MY(xs:List T):i9 (.tup xs)=aA (.lst xs):=rfl
theorem C7{xs:List Str}(x:Str)(h:xs.length<=1000000):fT (.lst (xs.map T.str)) [.str x]=aA (.lst ((xs++[x]).map T.str),.non):=by
 have q:(xs.map T.str).length < jr:=lC (by rw[j5]; exact h)
 simp only[fT,q,if_true,jE,jq,Zf]
theorem Ip{xs:List Nat}(x:Nat)(h:xs.length<=1000000):fT (.lst (xs.map nT)) [.int (x:Int)]=aA (.lst ((xs++[x]).map nT),.non):=by
 have q:(xs.map nT).length < jr:=lC (by rw[j5]; exact h)
 simp only[fT,q,if_true,jE,jq,Zf,tH]
theorem rZ{xs:List T}(x:T)(h:xs.length<=1000000):fT (.lst xs) [x]=aA (.lst (xs++[x]),.non):=by
 have q:xs.length < jr:=lC h;simp only[fT,q,if_true]
theorem P7(x:Str)(xs:List Str):dZ (.str x) (.lst (xs.map T.str))=aA (.bl (!aE (x∈xs))):=by
 simp only[dZ,dP,sC,o5,iF,zC,ja,jR,Db]
theorem GF(x:Str)(xs:List Str):iS (.str x) (.lst (xs.map T.str))=aA (.bl (aE (x∈xs))):=by
 simp only[iS,dP,wT,o5,iF,zC,ja,jR,Db]
theorem Eb(xs:List Nat):i4 (xs.map nT)=aA (xs.map fun(k:Nat)=>V.int (k:Int)):=by
 induction xs with
 |nil=>rfl
 |cons x xs ih=>rw[jq]; unfold i4; rw[ih]; rfl
theorem E6(x:Nat)(xs:List Nat):lm (.int (x:Int)) (xs.map fun(k:Nat)=>V.int (k:Int))=aE (x∈xs):=by
 unfold lm;rw[J0,Zi,Y7,decide_eq_true_iff];constructor
 ·rintro⟨y,hy,e⟩;have:(y:Int)=x:=by simpa[eT] using e
  have:y=x:=by lia
  exact this▸hy
 ·intro h;exact⟨x,h,by simp[eT]⟩
theorem B7(x:Nat)(xs:List Nat):iS (.int (x:Int)) (.lst (xs.map nT))=aA (.bl (aE (x∈xs))):=by
 simp only[iS,dP,wT,o5,iF,Eb,ja,jR,E6]
theorem P6(x:Nat)(xs:List Nat):dZ (.int (x:Int)) (.lst (xs.map nT))=aA (.bl (!aE (x∈xs))):=by
 simp only[dZ,dP,sC,o5,iF,Eb,ja,jR,E6]
theorem GE(x:Str)(kvs:List (aK × T)):iS (.str x) (.dct kvs)=aA (.bl (bQ kvs (.inr x)).isSome):=rfl
theorem P5(x:Str)(kvs:List (aK × T)):dZ (.str x) (.dct kvs)=aA (.bl (!(bQ kvs (.inr x)).isSome)):=rfl
theorem P0(x:Str)(xs:List Str):qS (.lst (xs.map T.str)) (.str x)=aA (.int (xs.count x:Nat)):=by
 simp only[qS,zC,iF,ja,jR,TB]
theorem Mp(xs:List T):fY "list" (.lst xs)=aA aC:=by simp[fY]
theorem Mo(i:Int):fY "int" (.int i)=aA aC:=by simp[fY]
theorem Mn(i:Int):fY "bool" (.int i)=aA aD:=by simp[fY]
theorem Mm(b:Bool):fY "bool" (.bl b)=aA aC:=by simp[fY]
theorem Mr(xs:List T):fY "tuple" (.tup xs)=aA aC:=by simp[fY]
theorem Mq(x:Str):fY "str" (.str x)=aA aC:=by simp[fY]
theorem SV(s:Sg):hasAll [] s=aC:=rfl
theorem Ds(bs:List Bool):n5 (bs.map T.bl)=aA bs:=by
 induction bs with
 |nil=>rfl
 |cons b bs ih=>rw[jq]; unfold n5; rw[ih]; rfl
theorem C6(bs:List Bool):qA (.lst (bs.map T.bl))=aA (.bl (bs.all id)):=by simp only[qA,Ds,jR]
theorem Im(bs:List Bool):BG (.lst (bs.map T.bl))=aA (.bl (bs.any id)):=by simp only[BG,Ds,jR]
theorem S4(xs:List T):rW (.lst xs)=aC:=rfl
theorem VT:0<=jr:=QZ _
theorem VS:1<=jr:=lg (by lia)
theorem VR:2<=jr:=lg (by lia)
theorem VQ:3<=jr:=lg (by lia)
theorem VP:4<=jr:=lg (by lia)
theorem wQ{k:Nat}(h:k<=2000):dR (k:Int)=aC:=oS (by lia) (by lia)
theorem nM{α:Type}{M:List Nat}{caps:List (Option Nat)}{fi:DI}{dg:DG}{ft:DT}{fe:DE}{s:Sg}(xs:List α)(bP:α->T)(b:α->Bool)(e:α->T)(hi:fi s=aA (xs.map bP,s))(hl:xs.length<=1000000)
  (h:∀ x∈xs,∃ s1,dg (bP x) (fI caps s)=aA s1/\ft s1=aA (b x,s1)/\(b x=aC->fe s1=aA (e x,s1))/\ca M caps s1 s=s):dF M caps fi dg ft fe s=aA (.lst ((xs.filter b).map e),s):=by
 have key:∀(ys:List α) (acc:List T),(∀ y∈ys,y∈xs)->nB M caps dg ft fe (ys.map bP) acc s=aA (acc++(ys.filter b).map e,s):=by
  intro ys
  induction ys with
  |nil=>intro acc _; unfold nB; simp
  |cons y ys ih=>
   intro acc hy;obtain⟨s1,h1,h2,h3,h4⟩:=h y (hy y jW);rw[jq];unfold nB;rw[h1,ja,h2,ja];have ih':=λacc=>ih acc λz hz=>hy z (jA _ hz);cases hb:b y with
   |true=>rw[aI rfl,h3 hb,ja,h4,ih',Zo,aI hb,jq,Ql]; rfl
   |false=>rw[aH jK,h4,ih',Zo,aH (by rw[hb]; exact jK)]
 unfold dF;rw[hi,ja];have q:(xs.map bP).length<=zg8:=xI (by rw[j5]; exact hl)
 rw[aI q,key xs [] (λ_ h=>h),jR];rfl
theorem iW{α:Type}{M:List Nat}{caps:List (Option Nat)}{fi:DI}{dg:DG}{fe:DE}{s:Sg}(xs:List α)(bP:α->T)(e:α->T)(hi:fi s=aA (xs.map bP,s))(hl:xs.length<=1000000)
  (h:∀ x∈xs,∃ s1,dg (bP x) (fI caps s)=aA s1/\fe s1=aA (e x,s1)/\ca M caps s1 s=s):dF M caps fi dg dH fe s=aA (.lst (xs.map e),s):=by
 have:=nM (M:=M) (caps:=caps) (fi:=fi) (dg:=dg) (ft:=dH) (fe:=fe) (s:=s) xs bP (λ_=>aC) e hi hl λx hx=>by
  obtain⟨s1,h1,h2,h3⟩:=h x hx;exact⟨s1,h1,rfl,λ_=>h2,h3⟩
 rw[this,List.filter_eq_self.mpr (λ_ _=>rfl)]
theorem sP{kvs:List (aK × T)}{k:aK}(t:T)(h:k∉kvs.map (·.1)):cW kvs k t=kvs++[(k,t)]:=by
 unfold cW;rw[aH];intro z;obtain⟨kv,h1,h2⟩:=Y7.mp z;exact h (jx.mpr ⟨kv,h1,of_decide_eq_true h2⟩)
theorem LJ{α:Type}{M:List Nat}{caps:List (Option Nat)}{fi:DI}{dg:DG}{fk fe:DE}{s:Sg}(xs:List α)(bP:α->T)(k:α->T)(kk:α->aK)(e:α->T)(hi:fi s=aA (xs.map bP,s))(hl:xs.length<=1000000)(hn:(xs.map kk).Nodup)
  (h:∀ x∈xs,∃ s1,dg (bP x) (fI caps s)=aA s1/\fk s1=aA (k x,s1)/\cq (k x)=aA (kk x)/\fe s1=aA (e x,s1)/\ca M caps s1 s=s):ls M caps fi dg dH fk fe s=aA (.dct (xs.map λx=>(kk x,e x)),s):=by
 have key:∀(ys:List α) (zs:List α),zs++ys=xs->ir M caps dg dH fk fe (ys.map bP) (zs.map λx=>(kk x,e x)) s=aA (xs.map (λx=>(kk x,e x)),s):=by
  intro ys
  induction ys with
  |nil=>intro zs hz; rw[Qv] at hz; subst hz; unfold ir; rfl
  |cons y ys ih=>
   intro zs hz;obtain⟨s1,h1,h2,h3,h4,h5⟩:=h y (by rw[<-hz]; simp)
   rw[jq];unfold ir;have hk:kk y∉(zs.map λx=>(kk x,e x)).map (·.1):=by
    rw[jU];intro hm;rw[<-hz,jE,jP] at hn;obtain⟨x,hx,hxe⟩:=jx.mp hm;exact hn.2.2 (kk x) (jx.mpr ⟨x,hx,rfl⟩) (kk y) (by simp) hxe
   rw[h1,ja];simp only[dH,ja,if_true,h2,h3,h4,h5,sP _ hk];have:=ih (zs++[y]) (by rw[<-hz]; simp)
   rw[jE] at this;exact this
 unfold ls;rw[hi,ja];have q:(xs.map bP).length<=zg8:=xI (by rw[j5]; exact hl)
 have k0:=key xs [] rfl;rw[Zf] at k0;rw[aI q,k0,jR]
theorem oT{α:Type}(xs:List α)(kk:α->aK)(e:α->T)(k:aK):bQ (xs.map λx=>(kk x,e x)) k=(xs.find? λx=>aE (kk x=k)).map e:=by
 unfold bQ;rw[List.find?_map,Option.map_map];rfl
theorem Dz{α:Type}(xs:List α)(bP:α->T):iU (xs.map bP)=xs.zipIdx.map λp=>T.tup [.int (p.2:Nat),bP p.1]:=by
 unfold iU;refine Ja (by simp) λi h1 h2=>?_
 have hi:i < xs.length:=by simpa using h2
 rw[Nj,ZU,Nj,List.getElem_zipIdx,jv,jg,j3 hi];simp
theorem qi(m:Nat):dS 0 m=(j6 m).map nT:=by
 unfold dS;refine QJ λi _=>?_;rw[Nw]; rfl
theorem aX{f g:DS}{s s':Sg}{Q:Fl->Prop}(h:f s=aA (.nx s'))(k:af g s' Q):af (aM f g) s Q:=sR h k
theorem qZ{f g:DS}{s s':Sg}{t:T}{Q:Fl->Prop}(h:f s=aA (.rt t s'))(k:Q (.rt t s')):af (aM f g) s Q:=⟨_,Cq h,k⟩
theorem eY{n:Nat}{d:DS}{ts:List T}{t:T}(h:af d (dL n ts) λr=>∃ s,r=.rt t s):bM n d ts=aA t:=by
 obtain⟨r,h1,s,rfl⟩:=h;exact xh h1
theorem sJ{n:Nat}{d:DS}{ts:List T}{t:T}(h:af d (dL n ts) λr=>∃ s,r=.rt t s):iw n d ts=aA t:=by
 obtain⟨r,h1,s,rfl⟩:=h;exact DJ h1
theorem fL{d:DS}{s s':Sg}{t t':T}(h:d s=aA (.rt t' s'))(k:t'=t):af d s λr=>∃ s,r=.rt t s:=⟨_,h,s',by rw[k]⟩
theorem KF(s:Sg):fI [] s=[]:=rfl
theorem KG(cs:List (Option Nat))(s:Sg):fI (aB::cs) s=aB::fI cs s:=rfl
theorem KH(j:Nat)(cs:List (Option Nat))(s:Sg):fI (aA j::cs) s=(s[j]?).join::fI cs s:=rfl
theorem sW{f g:DS}{s s':Sg}{t t':T}(h:f s=aA (.rt t' s'))(k:t'=t):af (aM f g) s λr=>∃ s,r=.rt t s:=⟨_,Cq h,s',by rw[k]⟩
theorem cm{d:DS}{s s':Sg}{P:Sg->Prop}(h:d s=aA (.nx s'))(k:P s'):af d s (rG P):=⟨_,h,k⟩
def rN(P:Sg->Prop)(Q:Fl->Prop):Fl->Prop
 |.nx s=>P s
 |.ct s=>P s
 |.rt t s=>Q (.rt t s)
 |.bk _=>False
theorem xj{g:DG}{db:DS}{Q:Fl->Prop}(I:Nat->Sg->Prop):∀(xs:List T) (i:Nat) (s:Sg),I i s->(∀ j x s,xs[j]?=aA x->I (i+j) s->∃ s1,g x s=aA s1/\af db s1 (rN (I (i+j+1)) Q))->
  (∃ s',eW g db xs s=aA (.nx s')/\I (i+xs.length) s')∨∃ t s',eW g db xs s=aA (.rt t s')/\Q (.rt t s')
 |[],i,s,h0,_=>.inl ⟨s,by unfold eW; rfl,h0⟩
 |x::xs,i,s,h0,h=>by
  obtain⟨s1,h1,r,h2,h3⟩:=h 0 x s rfl h0;have next:∀ s2,I (i+0+1) s2->(∃ s',eW g db xs s2=aA (.nx s')/\I (i+(xs.length+1)) s')∨∃ t s',eW g db xs s2=aA (.rt t s')/\Q (.rt t s'):=λs2 q=>by
   have:=xj I xs (i+1) s2 q λj y s e q'=>by
    have z:=h (j+1) y s (by simpa using e)
    rw[show i+(j+1)=i+1+j by lia] at z
    exact z q'
   rw[show i+(xs.length+1)=i+1+xs.length by lia]
   exact this
  rw[jk];cases r with
  |nx s2=>unfold eW; rw[h1,ja,h2,ja]; exact next s2 h3
  |ct s2=>unfold eW; rw[h1,ja,h2,ja]; exact next s2 h3
  |bk s2=>exact h3.elim
  |rt t s2=>exact .inr ⟨t,s2,by unfold eW; rw[h1,ja,h2]; rfl,h3⟩
theorem yi{fi:DI}{g:DG}{db d:DS}{s s1:Sg}{its:List T}{Q:Fl->Prop}(I:Nat->Sg->Prop)(h:fi s=aA (its,s1))(h0:I 0 s1)
  (hs:∀ j x s,its[j]?=aA x->I j s->∃ s1,g x s=aA s1/\af db s1 (rN (I (j+1)) Q)) (k:∀ s',I its.length s'->af d s' Q):af (aM (cJ fi g db) d) s Q:=by
 rcases xj (g:=g) (db:=db) (Q:=Q) I its 0 s1 h0 (λj x s e q=>by rw[QV] at q ⊢; exact hs j x s e q) with ⟨s',h1,h2⟩ |⟨t,s',h1,h2⟩
 ·rw[QV] at h2;exact sR (uW h h1) (k s' h2)
 ·refine⟨.rt t s',?_,h2⟩;unfold aM cJ;rw[h,ja,h1];rfl
theorem FO{fi:DI}{g:DG}{db:DS}{s s1:Sg}{its:List T}{Q:Fl->Prop}(I:Nat->Sg->Prop)(h:fi s=aA (its,s1))(h0:I 0 s1)
  (hs:∀ j x s,its[j]?=aA x->I j s->∃ s1,g x s=aA s1/\af db s1 (rN (I (j+1)) Q)) (k:∀ s',I its.length s'->Q (.nx s')):af (cJ fi g db) s Q:=by
 rcases xj (g:=g) (db:=db) (Q:=Q) I its 0 s1 h0 (λj x s e q=>by rw[QV] at q ⊢; exact hs j x s e q) with ⟨s',h1,h2⟩ |⟨t,s',h1,h2⟩
 ·rw[QV] at h2;exact⟨_,uW h h1,k s' h2⟩
 ·refine⟨.rt t s',?_,h2⟩;unfold cJ;rw[h,ja,h1]
theorem sN{d:DS}{s s':Sg}{P:Sg->Prop}{Q:Fl->Prop}(h:d s=aA (.nx s'))(k:P s'):af d s (rN P Q):=⟨_,h,k⟩
theorem yA{d:DS}{s s':Sg}{P:Sg->Prop}{Q:Fl->Prop}{t:T}(h:d s=aA (.rt t s'))(k:Q (.rt t s')):af d s (rN P Q):=⟨_,h,k⟩
theorem Iz(c:Nat):qM c=.str ⟨#[c]⟩:=rfl
theorem K4(xs:List (aK × T)):bS (.fd xs)=aA (.int xs.length):=rfl
end L3
namespace Dw
open PySem PySem.Spec PyProof.Rows L2 L3
theorem Dh(x:Str):∀(wd acc:List Str),x∈wd.foldl cb acc↔x∈acc∨x∈wd
 |[],acc=>by simp
 |y::wd,acc=>by
  rw[ZG,Dh x wd,jy];unfold cb;split
  ·rename_i h;constructor
   ·rintro(q |q)
    ·exact .inl q
    ·exact .inr (.inr q)
   ·rintro(q |q |q)
    ·exact .inl q
    ·exact .inl (q▸h)
    ·exact .inr q
  ·rw[jt,je];constructor
   ·rintro((q |q) |q)
    ·exact .inl q
    ·exact .inr (.inl q)
    ·exact .inr (.inr q)
   ·rintro(q |q |q)
    ·exact .inl (.inl q)
    ·exact .inl (.inr q)
    ·exact .inr q
theorem mem_firsts{x:Str}{wd:List Str}:x∈aL wd↔x∈wd:=by unfold aL; rw[Dh]; simp
theorem Es:∀(wd acc:List Str),acc.Nodup->(wd.foldl cb acc).Nodup
 |[],acc,h=>h
 |y::wd,acc,h=>by
  rw[ZG];refine Es wd _ ?_;unfold cb;split
  ·exact h
  ·rename_i q;rw[jP];exact⟨h,by simp,λa ha b hb e=>q (by rw[je] at hb; subst hb; subst e; exact ha)⟩
theorem vz(wd:List Str):(aL wd).Nodup:=Es wd [] Zx
theorem yx(wd:List Str):(aL wd).length<=wd.length:=by have:=El wd []; simpa[aL] using this
def lT(i j:Nat)(ps:List Nat):List Nat:=ps.filter λk=>aE (i < k)&&aE (k < j)
theorem vU{wd:List Str}{i j:Nat}(y:Str)(hij:i < j)(hj:j < wd.length):(fj wd i j).count y=(lT i j (bn wd y)).length:=by
 rw[<-A2];unfold bn lT fj;have hl:((wd.drop (i+1)).take (j - (i+1))).length=j - (i+1):=by rw[Qd,QU]; lia
 rw[hl];have e:wd.length=(i+1)+((j - (i+1))+(wd.length - j)):=by lia
 rw[Wu];have er:j6 wd.length=j6 (i+1)++((j6 (j - (i+1))).map (λx=>i+1+x)++(j6 (wd.length - j)).map ((λx=>i+1+x)∘λx=>j - (i+1)+x)):=by
  conv=>lhs; rw[e]
  rw[Jy (n:=i+1),Jy (n:=j - (i+1)),jE,jU]
 rw[er,Zs,Zs];have e1:(j6 (i+1)).filter (λk=>(aE (i < k)&&aE (k < j))&&aE (wd[k]?=aA y))=[]:=by
  refine QX.mpr λk hk=>?_;have:=jc.mp hk;rw[av (by lia:¬ i < k),YA,YA]
  exact jK
 have e3:((j6 (wd.length - j)).map ((λx=>i+1+x)∘λx=>j - (i+1)+x)).filter (λk=>(aE (i < k)&&aE (k < j))&&aE (wd[k]?=aA y))=[]:=by
  refine QX.mpr λk hk=>?_;obtain⟨m,hm,rfl⟩:=jx.mp hk;have:¬ ((λx=>i+1+x)∘λx=>j - (i+1)+x) m < j:=by
   show ¬ i+1+(j - (i+1)+m) < j;lia
  rw[av this,YC,YA];exact jK
 rw[e1,e3,NH,Qv,Ny,j5];refine congrArg Yi (YS λk hk=>?_);have hk':=jc.mp hk;show _=((aE (i < i+1+k)&&aE (i+1+k < j))&&aE (wd[i+1+k]?=aA y));rw[am (by lia:i < i+1+k),am (by lia:i+1+k < j),Wm,aI hk',Wv]
 rfl
theorem TX{i j:Nat}:lT i j [i,j]=[]:=by
 refine QX.mpr λk hk=>?_;rcases jy.mp hk with rfl |hk
 ·simp
 ·rcases jy.mp hk with rfl |hk
  ·simp
  ·cases hk
theorem nY{wd:List Str}{x:Str}{k:Nat}(h:k∈bn wd x):wd[k]?=aA x:=of_decide_eq_true (jQ.mp h).2
theorem TY{i j k l:Nat}(h1:i < j)(h2:k < l)(a:i≠k)(b:i≠l)(c:j≠k)(d:j≠l):aE ((lT i j [k,l]).length=1)=aE ((lT k l [i,j]).length=1):=by
 have f:∀ p q r s:Nat,(lT p q [r,s]).length=(if p < r/\r < q then 1 else 0)+(if p < s/\s < q then 1 else 0):=λp q r s=>by
  unfold lT
  by_cases h:p < r/\r < q<;>by_cases h':p < s/\s < q<;>simp[Zo,h,h']
 rw[f,f,Zi,decide_eq_true_iff,decide_eq_true_iff];split<;>split<;>split<;>split<;>lia
theorem TC{wd:List Str}{x y:Str}{i j k l:Nat}(hx:bn wd x=[i,j])(hy:bn wd y=[k,l]):aE ((fj wd i j).count y=1)=aE ((fj wd k l).count x=1):=by
 obtain⟨a,b⟩:=oh hx;obtain⟨c,d⟩:=oh hy;rw[vU y a b,vU x c d,hx,hy]
 by_cases h:x=y
 ·subst h;rw[hx] at hy;injection hy with e1 e2;injection e2 with e2 _;subst e1 e2;rfl
 ·have mx:∀ p∈[i,j],wd[p]?=aA x:=λp hp=>nY (hx▸hp);have my:∀ p∈[k,l],wd[p]?=aA y:=λp hp=>nY (hy▸hp);have ne:∀ p∈[i,j],∀ q∈[k,l],p≠q:=λp hp q hq e=>h (jh ((mx p hp).symm.trans (e▸my q hq)));exact TY a c (ne i (by simp) k (by simp)) (ne i (by simp) l (by simp)) (ne j (by simp) k (by simp)) (ne j (by simp) l (by simp))
theorem SQ{wd:List Str}{x y:Str}{i j:Nat}(hx:bn wd x=[i,j]):aE ((fj wd i j).count y=1)=(aE (x≠y)&&aE ((lT i j (bn wd y)).length=1)):=by
 obtain⟨a,b⟩:=oh hx;rw[vU y a b]
 by_cases h:x=y
 ·subst h;rw[hx,TX];simp
 ·rw[am h,JU]
theorem Ei{wd:List Str}{x:Str}{i j:Nat}(hx:bn wd x=[i,j]):aE ((fj wd i j).count x=1)=aD:=by
 rw[SQ hx];simp
def bH(wd:List Str)(x y:Str):Bool:=match bn wd x with
 |[i,j]=>aE ((fj wd i j).count y=1)
 |_=>aD
theorem qQ{wd:List Str}{x:Str}{i j:Nat}(h:bn wd x=[i,j])(y:Str):bH wd x y=aE ((fj wd i j).count y=1):=by unfold bH; rw[h]
theorem MV{wd:List Str}(g:GoodWord wd){x y:Str}(hx:x∈wd)(hy:y∈wd):bH wd x y=bH wd y x:=by
 obtain⟨i,j,h1⟩:=g.places hx;obtain⟨k,l,h2⟩:=g.places hy;rw[qQ h1,qQ h2,TC h1 h2]
theorem Pp{wd:List Str}(g:GoodWord wd){x:Str}(hx:x∈wd):bH wd x x=aD:=by
 obtain⟨i,j,h1⟩:=g.places hx;rw[qQ h1,Ei h1]
theorem E4{xs:List Str}{x:Str}(h:x∈xs):(xs.find? λy=>aE ((Zv y:aK)=Zv x))=aA x:=by
 induction xs with
 |nil=>cases h
 |cons y ys ih=>
  rw[Z6]
  by_cases e:y=x
  ·subst e; simp
  ·rw[av (λz=>e (ZV z))];rcases jy.mp h with q |q
   ·exact absurd q.symm e
   ·exact ih q
theorem sM(kvs:List (aK × T))(x:Str):aP (.fd kvs) (.str x)=bQ kvs (.inr x):=rfl
theorem Ea:∀(wd ns:List Str),ns.Nodup->(∀ x∈wd,x∈ns)->wd.length=(ns.map λx=>wd.count x).sum
 |[],ns,_,_=>by
  have:(ns.map λx=>([]:List Str).count x)=ns.map λ_=>0:=QJ λx _=>by simp
  have z:∀ l:List Str,(l.map λ_=>0).sum=0:=λl=>by
   induction l with
   |nil=>rfl
   |cons n l ih=>rw[jq,Na,ih]
  rw[this,z];rfl
 |y::wd,ns,hn,h=>by
  have ih:=Ea wd ns hn λx hx=>h x (jA _ hx);have key:∀(ns:List Str),ns.Nodup->(ns.map λx=>(y::wd).count x).sum=(ns.map λx=>wd.count x).sum+if y∈ns then 1 else 0:=by
   intro ns
   induction ns with
   |nil=>intro _; rfl
   |cons n ns ihn=>
    intro hn;rw[Qf] at hn;rw[jq,Na,jq,Na,ihn hn.2,ZZ]
    by_cases e:y=n
    ·subst e;rw[aI (by simp),aH hn.1,aI (by simp)]; lia
    ·rw[aH (by simpa using e)]
     by_cases e2:y∈ns
     ·rw[aI e2,aI (jA _ e2)]; lia
     ·rw[aH e2,aH (by simp[e,e2])]; lia
  rw[key ns hn,aI (h y jW),<-ih,jk]
theorem lb{wd:List Str}(h:∀ x∈wd,wd.count x=2):wd.length=2*(aL wd).length:=by
 have:=Ea wd (aL wd) (vz wd) λx hx=>mem_firsts.mpr hx;rw[this];have e:(aL wd).map (λx=>wd.count x)=(aL wd).map λ_=>2:=QJ λx hx=>h x (mem_firsts.mp hx);rw[e];generalize aL wd=l
 induction l with
 |nil=>rfl
 |cons a l ih=>rw[jq,Na,ih,jk]; lia
theorem qr{wd:List Str}{x:Str}(h:wd.count x=2):∃ i j,bn wd x=[i,j]:=by
 have hl:=A2 wd x;rw[h] at hl
 match h:bn wd x,hl with
 |[i,j],_=>exact⟨i,j,rfl⟩
end Dw
namespace Dw
theorem sk{α:Type}[DecidableEq α]:∀ {l m:List α},l.Nodup->(∀ x∈l,x∈m)->l.length<=m.length
 |[],m,_,_=>QZ _
 |a::l,m,hd,h=>by
  rw[Qf] at hd;have hm:a∈m:=h a (by simp)
  have ih:=sk (l:=l) (m:=m.erase a) hd.2 λx hx=>(gk (λz:x=a=>hd.1 (z▸hx))).mpr (h x (jA _ hx));rw[ZH hm] at ih;have:=gT hm;rw[jk];lia
def aw(f:Nat->Nat):Nat->Nat->Nat
 |0,x=>x
 |k+1,x=>f (aw f k x)
theorem qe(f:Nat->Nat)(j k x:Nat):aw f (j+k) x=aw f j (aw f k x):=by
 induction j with
 |zero=>rw[QV]; rfl
 |succ j ih=>rw[Nat.succ_add]; show f (aw f (j+k) x)=f (aw f j (aw f k x)); rw[ih]
structure Perm1 (n:Nat) (f:Nat->Nat):Prop where
 lt:∀ x,x < n->f x < n
 inj:∀ x y,x < n->y < n->f x=f y->x=y
theorem Perm1.itr_lt{n:Nat}{f:Nat->Nat}(h:Perm1 n f)(k:Nat){x:Nat}(hx:x < n):aw f k x < n:=by
 induction k with
 |zero=>exact hx
 |succ k ih=>exact h.lt _ ih
theorem Perm1.itr_inj{n:Nat}{f:Nat->Nat}(h:Perm1 n f)(k:Nat){x y:Nat}(hx:x < n)(hy:y < n)(e:aw f k x=aw f k y):x=y:=by
 induction k with
 |zero=>exact e
 |succ k ih=>exact ih (h.inj _ _ (h.itr_lt k hx) (h.itr_lt k hy) e)
theorem Perm1.back{n:Nat}{f:Nat->Nat}(h:Perm1 n f){x:Nat}(hx:x < n):∃ p,0 < p/\aw f p x=x:=by
 by_cases hd:((j6 (n+1)).map λk=>aw f k x).Nodup
 ·have:=sk (m:=j6 n) hd λy hy=>by
   obtain⟨k,_,rfl⟩:=jx.mp hy;exact jc.mpr (h.itr_lt k hx)
  rw[j5,QK,QK] at this;lia
 ·have:∃ i j,i < j/\aw f i x=aw f j x:=by
   apply YF;intro hne;apply hd;rw[NN,ge];exact Uh (λ{i j} hij e=>hne ⟨i,j,hij,e⟩) Zk
  obtain⟨i,j,hij,e⟩:=this;refine⟨j - i,by lia,?_⟩
  have e2:aw f j x=aw f i (aw f (j - i) x):=by rw[<-qe]; congr 1; lia
  rw[e2] at e;exact(h.itr_inj i hx (h.itr_lt _ hx) e).symm
def bV(f:Nat->Nat)(x y:Nat):Prop:=∃ k,aw f k x=y
theorem bV.refl(f:Nat->Nat)(x:Nat):bV f x x:=⟨0,rfl⟩
theorem bV.trans{f:Nat->Nat}{x y z:Nat}(a:bV f x y)(b:bV f y z):bV f x z:=by
 obtain⟨j,rfl⟩:=a;obtain⟨k,rfl⟩:=b;exact⟨k+j,qe f k j x⟩
theorem OV{f:Nat->Nat}{p x:Nat}(h:aw f p x=x)(m:Nat):aw f (m*p) x=x:=by
 induction m with
 |zero=>rw[Nat.zero_mul]; rfl
 |succ m ih=>rw[Nat.succ_mul,qe,h,ih]
theorem bV.symm{n:Nat}{f:Nat->Nat}(h:Perm1 n f){x y:Nat}(hx:x < n)(a:bV f x y):bV f y x:=by
 obtain⟨k,rfl⟩:=a;obtain⟨p,hp,e⟩:=h.back hx;refine⟨k*p - k,?_⟩;rw[<-qe,show k*p - k+k=k*p by have:=Nat.le_mul_of_pos_right k hp; lia]
 exact OV e k
structure Trav (n:Nat) (R:Nat->Nat->Prop) (L:List Nat):Prop where
 lt:∀ x∈L,x < n
 one:L.Pairwise λx y=>¬ R x y
 all:∀ x,x < n->∃ y∈L,R y x
end Dw
namespace Dw
open PySem
abbrev dU:=List (Str × Option Str)
def aY(O:dU):List Str:=O.map (·.1)
inductive Way (O:dU):Str->List Str->Prop
 |root {x:Str} (h:(x,aB)∈O):Way O x [x]
 |step {x p:Str} {w:List Str} (h:(x,aA p)∈O) (k:Way O p w):Way O x (x::w)
section
variable {O O':dU}{x y z m:Str}{w w' a b:List Str}
theorem nU{e:Str × Option Str}(h:e∈O):e.1∈aY O:=jx.mpr ⟨e,h,rfl⟩
theorem OY(h:x∈aY O):∃ o,(x,o)∈O:=by
 obtain⟨⟨y,o⟩,h1,h2⟩:=jx.mp h;exact⟨o,by dsimp only at h2; rw[<-h2]; exact h1⟩
theorem eR:aY (O++O')=aY O++aY O':=by unfold aY; rw[jE]
theorem Way.mono(h:∀ e∈O,e∈O')(k:Way O x w):Way O' x w:=by
 induction k with
 |root q=>exact .root (h _ q)
 |step q _ ih=>exact .step (h _ q) ih
theorem sI:∀ {O:dU},(aY O).Nodup->∀ {x:Str} {o o':Option Str},(x,o)∈O->(x,o')∈O->o=o'
 |[],_,_,_,_,h,_=>by cases h
 |e::O,nd,x,o,o',h,h'=>by
  obtain⟨n1,n2⟩:=Qf.mp (show (e.1::aY O).Nodup from nd);rcases jy.mp h with h1 |h1<;>rcases jy.mp h' with h2 |h2
  ·have:=h1.trans h2.symm;exact congrArg JV this
  ·have q:x∈aY O:=nU h2;have q2:x=e.1:=congrArg Uf h1;exact absurd (q2▸q) n1
  ·have q:x∈aY O:=nU h1;have q2:x=e.1:=congrArg Uf h2;exact absurd (q2▸q) n1
  ·exact sI n2 h1 h2
theorem Way.one(nd:(aY O).Nodup)(k:Way O x w):∀ {w'},Way O x w'->w=w':=by
 induction k with
 |root q=>
  intro w' k';cases k' with
  |root _=>rfl
  |step q' _=>cases sI nd q q'
 |step q _ ih=>
  intro w' k';cases k' with
  |root q'=>cases sI nd q q'
  |step q' k2=>
   have:=sI nd q q';injection this with this;subst this;rw[ih k2]
theorem Way.head(k:Way O x w):∃ t,w=x::t:=by
 cases k with
 |root _=>exact⟨[],rfl⟩
 |step _ _=>exact⟨_,rfl⟩
theorem Way.from(k:Way O x w):∀ {a b},w=a++z::b->Way O z (z::b):=by
 induction k with
 |root q=>
  intro a b h;cases a with
  |nil=>injection h with h1 h2; subst h1 h2; exact .root q
  |cons c a=>injection h with h1 h2; simp at h2
 |step q k ih=>
  intro a b h;cases a with
  |nil=>injection h with h1 h2; subst h1 h2; exact .step q k
  |cons c a=>injection h with h1 h2; exact ih h2
theorem Way.key(k:Way O x w):∀ u∈w,u∈aY O:=by
 induction k with
 |root q=>intro u hu; rw[je] at hu; subst hu; exact nU q
 |step q _ ih=>
  intro u hu;rcases jy.mp hu with hu |hu
  ·subst hu; exact nU q
  ·exact ih u hu
theorem Way.nodup(nd:(aY O).Nodup)(k:Way O x w):w.Nodup:=by
 induction k with
 |root q=>simp
 |@step x p w q k ih=>
  refine Qf.mpr ⟨λhx=>?_,ih⟩;obtain⟨a,b,rfl⟩:=Yy hx;have k1:Way O x (x::(a++x::b)):=.step q k;have k2:=k.from (z:=x) (a:=a) (b:=b) rfl;have:=k1.one nd k2;have:=congrArg Yi this;simp at this;lia
def cV(G:Str->Str->Prop):List Str->Prop
 |a::b::l=>G a b/\cV G (b::l)
 |_=>True
variable {G:Str->Str->Prop}
theorem cV.join:∀ {l:List Str} {m:Str} {r:List Str},cV G (l++[m])->cV G (m::r)->cV G (l++m::r)
 |[],_,_,_,h=>h
 |[c],_,_,h1,h2=>⟨h1.1,h2⟩
 |c::d::l,_,_,h1,h2=>⟨h1.1,cV.join (l:=d::l) h1.2 h2⟩
theorem cV.pre:∀ {l r:List Str},cV G (l++r)->cV G l
 |[],_,_=>trivial
 |[_],_,_=>trivial
 |_::d::l,_,h=>⟨h.1,cV.pre (l:=d::l) h.2⟩
theorem cV.rev(sy:∀ a b,G a b->G b a):∀ {l:List Str},cV G l->cV G l.reverse
 |[],_=>trivial
 |[_],_=>trivial
 |c::d::l,h=>by
  have:=cV.rev sy (l:=d::l) h.2;rw[QY] at this;rw[QY,QY,Ql];exact cV.join this ⟨sy _ _ h.1,trivial⟩
theorem cV.imp{G':Str->Str->Prop}(hi:∀ a b,G a b->G' a b):∀ {l:List Str},cV G l->cV G' l
 |[],_=>trivial
 |[_],_=>trivial
 |_::d::l,h=>⟨hi _ _ h.1,cV.imp hi (l:=d::l) h.2⟩
theorem Way.chn(k:Way O x w):cV (λa b=>(a,aA b)∈O) w:=by
 induction k with
 |root q=>trivial
 |step q k ih=>
  obtain⟨t,rfl⟩:=k.head;exact⟨q,ih⟩
def r9(ev:Str->Str->Bool):List Str->Nat
 |a::b::l=>(if ev a b then 1 else 0)+r9 ev (b::l)
 |_=>0
theorem ES{ev:Str->Str->Bool}{sd:Str->Bool}:∀(l:List Str) (x y:Str),cV (λa b=>ev a b=(sd a != sd b)) (x::l)->(x::l).getLast?=aA y->(r9 ev (x::l)%2=1↔sd x≠sd y)
 |[],x,y,_,h=>by
  simp at h; subst h;simp[r9]
 |z::l,x,y,c,h=>by
  have ih:=ES l z y c.2 (by simpa using h)
  have e:=c.1;show (((if ev x z then 1 else 0)+r9 ev (z::l))%2=1↔_)
  rw[e];cases h1:sd x<;>cases h2:sd z<;>cases h3:sd y<;>rw[h2,h3] at ih<;>simp at ih ⊢<;>lia
theorem Oj{adj ev:Str->Str->Bool}{sd:Str->Bool}{f n c:List Str}(nd:(aY O).Nodup)(hs:∀ a b,(a,aA b)∈O->adj a b=aC/\adj b a=aC/\ev a b=(sd a != sd b)/\ev b a=(sd a != sd b))
  (hx:Way O x (f++m::c)) (hy:Way O y (n++m::c)) (he:f=[]∨n=[]∨f.getLast?≠n.getLast?) (hxx:adj x x=aD) (hyx:adj y x=aC) (hw:ev y x≠(sd y != sd x)) (hwy:ev x y=ev y x) :
  (f++m::n.reverse).Nodup/\(∀ u∈f++m::n.reverse,u∈aY O)/\3<=(f++m::n.reverse).length/\cV (λa b=>adj a b=aC) (f++m::n.reverse)/\(f++m::n.reverse).head?=aA x/\(f++m::n.reverse).getLast?=aA y/\((if ev y x then 1 else 0)+r9 ev (f++m::n.reverse))%2=1:=by
 have ndx:=hx.nodup nd;have ndy:=hy.nodup nd;have sp:∀ {l:List Str},(l++m::c).Nodup->l.Nodup/\m∉l:=λ{l} h=>by
  obtain⟨h1,_,h2⟩:=jP.mp h;exact⟨h1,λhm=>h2 m hm m (.head _) rfl⟩
 obtain⟨nf,mf⟩:=sp ndx;obtain⟨nn,mn⟩:=sp ndy;have dis:∀ z,z∈f->z∈n->False:=λz hf hn=>by
  obtain⟨f1,f2,rfl⟩:=Yy hf;obtain⟨n1,n2,rfl⟩:=Yy hn;have k1:=hx.from (z:=z) (a:=f1) (b:=f2++m::c) (by simp)
  have k2:=hy.from (z:=z) (a:=n1) (b:=n2++m::c) (by simp)
  have e:=k1.one nd k2;injection e with _ e;have e:=List.append_cancel_right e;subst e;rcases he with he |he |he
  ·simp at he
  ·simp at he
  ·refine he ?_;have g:∀ l:List Str,(l++z::f2).getLast?=(z::f2).getLast?:=λl=>by
    rw[Yc];cases h:(z::f2).getLast? with
    |none=>simp at h
    |some q=>rfl
   rw[g,g]
 have hd:∀ {l:List Str} {u:Str},Way O u (l++m::c)->(l++[m]).head?=aA u:=λ{l u} k=>by
  obtain⟨t,e⟩:=k.head;cases l with
  |nil=>injection e with e _; rw[e]; rfl
  |cons a l=>injection e with e _; rw[e]; rfl
 have hhx:=hd hx;have hhy:=hd hy;have sy:∀ a b,(adj a b=aC/\adj b a=aC/\ev a b=(sd a != sd b)/\ev b a=(sd a != sd b))->(adj b a=aC/\adj a b=aC/\ev b a=(sd b != sd a)/\ev a b=(sd b != sd a)):=λa b h=>by
  have:(sd b != sd a)=(sd a != sd b):=by cases sd a<;>cases sd b<;>rfl
  rw[this];exact⟨h.2.1,h.1,h.2.2.2,h.2.2.1⟩
 have cx:cV (λa b=>adj a b=aC/\adj b a=aC/\ev a b=(sd a != sd b)/\ev b a=(sd a != sd b)) (f++[m]):=(cV.pre (l:=f++[m]) (r:=c) (by simpa using hx.chn)).imp hs
 have cy:cV (λa b=>adj a b=aC/\adj b a=aC/\ev a b=(sd a != sd b)/\ev b a=(sd a != sd b)) (n++[m]):=(cV.pre (l:=n++[m]) (r:=c) (by simpa using hy.chn)).imp hs
 have cr:=cV.rev sy cy;rw[List.reverse_append] at cr;have ch:=cV.join cx cr;have last:(f++m::n.reverse).getLast?=aA y:=by
  cases n with
  |nil=>simp at hhy; subst hhy; simp
  |cons a n=>
   simp at hhy;subst hhy;rw[Yc,QY];have:(m::(n.reverse++[a])).getLast?=aA a:=by rw[show m::(n.reverse++[a])=(m::n.reverse)++[a] from rfl,Yc]; rfl
   rw[this]; rfl
 have first:(f++m::n.reverse).head?=aA x:=by
  cases f with
  |nil=>simpa using hhx
  |cons a f=>simpa using hhx
 refine⟨?_,?_,?_,ch.imp λa b h=>h.1,first,last,?_⟩
 ·refine jP.mpr ⟨nf,Qf.mpr ⟨by simpa using mn,by simpa[NN,List.pairwise_reverse,ne_comm] using nn⟩,λa ha b hb e=>?_⟩
  subst e;rcases jy.mp hb with hb |hb
  ·subst hb; exact mf ha
  ·exact dis a ha (by simpa using hb)
 ·intro u hu;rcases jt.mp hu with hu |hu
  ·exact hx.key u (jj _ hu)
  ·rcases jy.mp hu with hu |hu
   ·exact hx.key u (by rw[hu]; simp)
   ·exact hy.key u (jj _ (by simpa using hu))
 ·rw[jn,jk,W5];refine J7 λhlt=>?_;rcases f with _ |⟨u,_ |⟨u2,f⟩⟩
  ·rcases n with _ |⟨u,_ |⟨u2,n⟩⟩
   ·simp at hhx hhy;rw[<-hhx,<-hhy] at hyx;rw[<-hhx] at hxx;rw[hyx] at hxx;cases hxx
   ·simp at hhx hhy;subst hhx hhy;have:=cy.1;exact hw this.2.2.1
   ·simp at hlt; lia
  ·cases n with
   |nil=>
    simp at hhx hhy;subst hhx hhy;have:=(sy _ _ cx.1);exact hw this.2.2.1
   |cons _ _=>simp at hlt; lia
  ·simp at hlt; lia
 ·have ce:cV (λa b=>ev a b=(sd a != sd b)) (f++m::n.reverse):=ch.imp λa b h=>h.2.2.1;obtain⟨l,hl⟩:∃ l,f++m::n.reverse=x::l:=by
   revert first
   cases f++m::n.reverse with
   |nil=>intro h; cases h
   |cons a l=>intro h; injection h with h; exact⟨l,by rw[h]⟩
  rw[hl] at ce last ⊢;have:=ES l x y ce last;cases hE:ev y x<;>rw[hE] at hw<;>cases h1:sd x<;>cases h2:sd y<;>rw[h1,h2] at this hw<;>simp at this hw ⊢<;>lia
end
structure Gr (ns:List Str) (adj:Str->Str->Bool):Prop where
 nd:ns.Nodup
 sym:∀ x∈ns,∀ y∈ns,adj x y=adj y x
 irr:∀ x∈ns,adj x x=aD
 len:ns.length<=30
def bu(ns:List Str)(adj:Str->Str->Bool)(x:Str):List Str:=ns.filter (adj x)
def ol(ns:List Str)(adj:Str->Str->Bool)(x y:Str):Nat:=(ns.filter λz=>adj x z&&adj y z).length
def bG(ns:List Str)(adj:Str->Str->Bool)(x y:Str):Bool:=aE (ol ns adj x y%2=0)
theorem yP(ns:List Str)(adj:Str->Str->Bool)(x y:Str):bG ns adj x y=bG ns adj y x:=by
 unfold bG ol;rw[show (λz=>adj x z&&adj y z)=λz=>adj y z&&adj x z from funext λz=>JW _ _]
structure Fo (ns:List Str) (adj:Str->Str->Bool) (O:dU):Prop where
 nd:(aY O).Nodup
 sub:∀ x∈aY O,x∈ns
 ord:∀(i:Nat) x p,O[i]?=aA (x,aA p)->adj p x=aC/\p∈aY (O.take i)
 clo:∀ x∈aY O,∀ y∈ns,adj x y=aC->y∈aY O
 way:∀ x∈aY O,∃ w,Way O x w
 rt:∀ x∈aY O,∀ y∈aY O,adj x y=aC->∀ w w',Way O x w->Way O y w'->w.getLast?=w'.getLast?
structure Dfs (ns:List Str) (adj:Str->Str->Bool) (b:Str) (O0 O:dU) (wt:List Str):Prop where
 pre:∃ r,O=O0++r
 nd:(aY O).Nodup
 sub:∀ x∈aY O,x∈ns
 ord:∀(i:Nat) x p,O[i]?=aA (x,aA p)->adj p x=aC/\p∈aY (O.take i)
 cur:∀ x∈aY O,x∉aY O0->∃ w,Way O x w/\w.getLast?=aA b
 don:∀ x∈aY O,x∉aY O0->x∈wt∨∀ y∈ns,adj x y=aC->y∈aY O
 ws:∀ x∈wt,x∈aY O/\x∉aY O0
section
variable {ns:List Str}{adj:Str->Str->Bool}{O O0:dU}{b:Str}
theorem Fo.nil:Fo ns adj []:=⟨Zx,λx h=>(Zp h).elim,λi x p h=>by simp at h,λx h=>(Zp h).elim,λx h=>(Zp h).elim,λx h=>(Zp h).elim⟩
theorem Dp{O r:dU}{i:Nat}{x:Str}(h:x∈aY (O.take i)):x∈aY ((O++r).take i):=by
 rw[Jb,eR];exact jj _ h
theorem Dfs.start(F:Fo ns adj O0)(hb:b∈ns)(hn:b∉aY O0):Dfs ns adj b O0 (O0++[(b,aB)]) [b]:=by
 have k:aY (O0++[(b,aB)])=aY O0++[b]:=by rw[eR]; rfl
 have wb:Way (O0++[(b,aB)]) b [b]:=.root (by simp)
 refine⟨⟨_,rfl⟩,?_,?_,?_,?_,?_,?_⟩
 ·rw[k];exact jP.mpr ⟨F.nd,by simp,λa ha c hc e=>by rw[je] at hc; subst hc e; exact hn ha⟩
 ·intro x hx;rw[k] at hx;rcases jt.mp hx with hx |hx
  ·exact F.sub x hx
  ·rw[je] at hx; subst hx; exact hb
 ·intro i x p h
  by_cases hi:i < O0.length
  ·rw[Q7 hi] at h;have:=F.ord i x p h;exact⟨this.1,Dp this.2⟩
  ·rw[Qc (by lia)] at h
   cases hj:i - O0.length with
   |zero=>rw[hj] at h; simp at h
   |succ j=>rw[hj] at h; simp at h
 ·intro x hx hx0;rw[k] at hx;rcases jt.mp hx with hx |hx
  ·exact absurd hx hx0
  ·rw[je] at hx; subst hx; exact⟨_,wb,rfl⟩
 ·intro x hx hx0;rw[k] at hx;rcases jt.mp hx with hx |hx
  ·exact absurd hx hx0
  ·exact .inl hx
 ·intro x hx;rw[je] at hx; subst hx;exact⟨by rw[k]; simp,hn⟩
theorem Dfs.step(G:Gr ns adj){x:Str}{wt:List Str}(D:Dfs ns adj b O0 O (wt++[x])):Dfs ns adj b O0 (O++((bu ns adj x).filter λy=>aE (y∉aY O)).map λy=>(y,aA x)) (wt++(bu ns adj x).filter λy=>aE (y∉aY O)):=by
 obtain⟨hx,hx0⟩:=D.ws x (by simp)
 generalize hf:((bu ns adj x).filter λy=>aE (y∉aY O))=fr;have fm:∀ y,y∈fr↔y∈ns/\adj x y=aC/\y∉aY O:=λy=>by
  rw[<-hf,jQ,bu,jQ,decide_eq_true_iff,and_assoc]
 have fn:fr.Nodup:=by rw[<-hf]; exact(G.nd.filter _).filter _
 have k:aY (O++fr.map λy=>(y,aA x))=aY O++fr:=by
  rw[eR]
  congr 1
  unfold aY;rw[jU];exact List.map_id' _
 have up:∀ e∈O,e∈O++fr.map λy=>(y,aA x):=λe he=>jj _ he;obtain⟨r,hr⟩:=D.pre;obtain⟨wx,hwx,hlx⟩:=D.cur x hx hx0;refine⟨⟨r++fr.map λy=>(y,aA x),by rw[hr,Ql]⟩,?_,?_,?_,?_,?_,?_⟩
 ·rw[k];exact jP.mpr ⟨D.nd,fn,λa ha c hc e=>by subst e; exact((fm a).mp hc).2.2 ha⟩
 ·intro y hy;rw[k] at hy;rcases jt.mp hy with hy |hy
  ·exact D.sub y hy
  ·exact((fm y).mp hy).1
 ·intro i y p h
  by_cases hi:i < O.length
  ·rw[Q7 hi] at h;have:=D.ord i y p h;exact⟨this.1,Dp this.2⟩
  ·rw[Qc (by lia),jg] at h
   obtain⟨z,h1,h2⟩:=Qm h;injection h2 with h2 h3;injection h3 with h3;subst h2 h3;refine⟨((fm z).mp (jF h1)).2.1,?_⟩;rw[Jb,eR,Q1 (by lia)]
   exact jj _ hx
 ·intro y hy hy0;rw[k] at hy;rcases jt.mp hy with hy |hy
  ·obtain⟨w,h1,h2⟩:=D.cur y hy hy0;exact⟨w,h1.mono up,h2⟩
  ·refine⟨y::wx,.step (jB _ (jx.mpr ⟨y,hy,rfl⟩)) (hwx.mono up),?_⟩;obtain⟨t,rfl⟩:=hwx.head;exact hlx
 ·intro y hy hy0;rw[k] at hy ⊢;rcases jt.mp hy with hy |hy
  ·rcases D.don y hy hy0 with h |h
   ·rcases jt.mp h with h |h
    ·exact .inl (jj _ h)
    ·rw[je] at h;subst h;refine .inr λz hz ha=>?_
     by_cases hk:z∈aY O
     ·exact jj _ hk
     ·exact jB _ ((fm z).mpr ⟨hz,ha,hk⟩)
   ·exact .inr λz hz ha=>jj _ (h z hz ha)
  ·exact .inl (jB _ hy)
 ·intro y hy;rw[k];rcases jt.mp hy with hy |hy
  ·have:=D.ws y (jj _ hy);exact⟨jj _ this.1,this.2⟩
  ·have:=(fm y).mp hy;refine⟨jB _ hy,λh0=>this.2.2 ?_⟩;rw[hr,eR];exact jj _ h0
theorem Dfs.fin(G:Gr ns adj)(F:Fo ns adj O0)(D:Dfs ns adj b O0 O []):Fo ns adj O:=by
 obtain⟨r,hr⟩:=D.pre;have up:∀ e∈O0,e∈O:=λe he=>by rw[hr]; exact jj _ he
 have upk:∀ x∈aY O0,x∈aY O:=λx hx=>by rw[hr,eR]; exact jj _ hx
 have clo:∀ x∈aY O,∀ y∈ns,adj x y=aC->y∈aY O:=λx hx y hy ha=>by
  by_cases h0:x∈aY O0
  ·exact upk y (F.clo x h0 y hy ha)
  ·rcases D.don x hx h0 with h |h
   ·cases h
   ·exact h y hy ha
 refine⟨D.nd,D.sub,D.ord,clo,λx hx=>?_,λx hx y hy ha w w' hw hw'=>?_⟩
 ·by_cases h0:x∈aY O0
  ·obtain⟨w,h⟩:=F.way x h0;exact⟨w,h.mono up⟩
  ·obtain⟨w,h,_⟩:=D.cur x hx h0;exact⟨w,h⟩
 ·by_cases h0:x∈aY O0
  ·have hy0:=F.clo x h0 y (D.sub y hy) ha;obtain⟨u,hu⟩:=F.way x h0;obtain⟨u',hu'⟩:=F.way y hy0;rw[hw.one D.nd (hu.mono up),hw'.one D.nd (hu'.mono up)];exact F.rt x h0 y hy0 ha u u' hu hu'
  ·have hy0:y∉aY O0:=λz=>h0 (F.clo y z x (D.sub x hx) (by rw[<-G.sym x (D.sub x hx) y (D.sub y hy)]; exact ha))
   obtain⟨u,hu,h1⟩:=D.cur x hx h0;obtain⟨u',hu',h2⟩:=D.cur y hy hy0;rw[hw.one D.nd hu,hw'.one D.nd hu',h1,h2]
def uS(ev:Str->Str->Bool)(f:Str->Bool)(e:Str × Option Str):Str->Bool:=λz=>if z=e.1 then (match e.2 with |none=>aD |some p=>ev p e.1 != f p) else f z
def cu(ev:Str->Str->Bool)(O:dU):Str->Bool:=O.foldl (uS ev) (λ_=>aD)
theorem EY(ev:Str->Str->Bool)(O:dU)(e:Str × Option Str):cu ev (O++[e])=uS ev (cu ev O) e:=by unfold cu; rw[WM]; rfl
theorem Dn(ev:Str->Str->Bool):∀(r:dU) (O:dU) (z:Str),z∈aY O->(aY (O++r)).Nodup->cu ev (O++r) z=cu ev O z
 |[],O,z,_,_=>by rw[Qv]
 |e::r,O,z,hz,nd=>by
  have e1:O++e::r=(O++[e])++r:=by simp
  rw[e1] at nd ⊢;rw[Dn ev r (O++[e]) z (by rw[eR]; exact jj _ hz) nd,EY]
  unfold uS;rw[aH];intro hze;rw[eR,eR] at nd;have:=(jP.mp (jP.mp nd).1).2.2 z hz e.1 (by simp[aY])
  exact this hze
theorem DV(ev:Str->Str->Bool){i:Nat}{z:Str}(nd:(aY O).Nodup)(hz:z∈aY (O.take i)):cu ev O z=cu ev (O.take i) z:=by
 have:=Dn ev (O.drop i) (O.take i) z hz (by rw[Z8]; exact nd)
 rw[Z8] at this;exact this
theorem Hu(ev:Str->Str->Bool){i:Nat}{e:Str × Option Str}(nd:(aY O).Nodup)(h:O[i]?=aA e):cu ev O e.1=(match e.2 with |none=>aD |some p=>ev p e.1 != cu ev (O.take i) p):=by
 have h1:O.take (i+1)=O.take i++[e]:=by rw[gr,h]; rfl
 rw[DV ev (i:=i+1) nd (by rw[h1,eR]; simp[aY]),h1,EY]
 unfold uS;rw[aI rfl]
theorem Fo.side(F:Fo ns adj O)(ev:Str->Str->Bool){i:Nat}{e:Str × Option Str}(h:O[i]?=aA e):cu ev O e.1=(match e.2 with |none=>aD |some p=>ev p e.1 != cu ev O p):=by
 rw[Hu ev F.nd h];obtain⟨x,o⟩:=e;cases o with
 |none=>rfl
 |some p=>
  dsimp only;rw[DV ev F.nd (F.ord i x p h).2]
theorem Fo.edge(G:Gr ns adj)(F:Fo ns adj O){a p:Str}(h:(a,aA p)∈O):adj a p=aC/\adj p a=aC/\bG ns adj a p=(cu (bG ns adj) O a != cu (bG ns adj) O p)/\bG ns adj p a=(cu (bG ns adj) O a != cu (bG ns adj) O p):=by
 obtain⟨i,hi⟩:=List.mem_iff_getElem?.mp h;obtain⟨h1,h2⟩:=F.ord i a p hi;have hs:=F.side (bG ns adj) hi;dsimp only at hs;have ha:a∈ns:=F.sub a (nU h)
 have hp:p∈ns:=F.sub p (by
  have:O=O.take i++O.drop i:=(Z8 i O).symm
  rw[this,eR]; exact jj _ h2)
 have e1:bG ns adj p a=(cu (bG ns adj) O a != cu (bG ns adj) O p):=by
  rw[hs];cases bG ns adj p a<;>cases cu (bG ns adj) O p<;>rfl
 exact⟨by rw[G.sym a ha p hp]; exact h1,h1,by rw[yP]; exact e1,e1⟩
end
end Dw
namespace Dw
variable {M n:Nat}{nm:Nat->Nat}
section
variable [NeZero M]
def bC(M:Nat)[NeZero M]:Nat->Nat->Fin M
 |t,0=>Fin.ofNat M t
 |t,i+1=>bC M (t / M) i
def bP:Nat->(Nat->Fin M)->Nat
 |0,_=>0
 |k+1,h=>(h 0).val+M*bP k λi=>h (i+1)
theorem xX:∀(k:Nat) (h:Nat->Fin M),bP k h < M ^ k:=λk=>by
 induction k with
 |zero=>intro h; exact Nat.one_pos
 |succ k ih=>
  intro h;show (h 0).val+M*bP k _ < M ^ (k+1);have h1:=ih λi=>h (i+1);have h2:=(h 0).isLt;have h3:M*(bP k (λi=>h (i+1))+1)<=M*M ^ k:=Nat.mul_le_mul_left M h1;rw[Nat.pow_succ,Nat.mul_comm (M ^ k) M];rw[Nat.mul_add,Nat.mul_one] at h3;lia
theorem qd:∀(k:Nat) (h:Nat->Fin M) (i:Nat),i < k->bC M (bP k h) i=h i:=λk=>by
 induction k with
 |zero=>intro h i hi; lia
 |succ k ih=>
  intro h i hi;have h2:=(h 0).isLt;have hM:0 < M:=Ww (NeZero.ne M);cases i with
  |zero=>
   refine Jr ?_;show ((h 0).val+M*bP k _)%M=(h 0).val;rw[Nat.add_mul_mod_self_left,Nat.mod_eq_of_lt h2]
  |succ i=>
   show bC M (((h 0).val+M*bP k _) / M) i=_;rw[Nat.add_mul_div_left _ _ hM,Nat.div_eq_of_lt h2,QV];exact ih _ i (by lia)
theorem uv:∀(k t:Nat),t < M ^ k->bP k (bC M t)=t:=λk=>by
 induction k with
 |zero=>intro t ht; rw[Nat.pow_zero] at ht; show 0=t; lia
 |succ k ih=>
  intro t ht;have hM:0 < M:=Ww (NeZero.ne M);show t%M+M*bP k (bC M (t / M))=t;rw[ih (t / M) ((Nat.div_lt_iff_lt_mul hM).mpr (by rw[<-Nat.pow_succ]; exact ht))]
  exact Nat.mod_add_div t M
theorem EO:∀(k:Nat) (h h':Nat->Fin M),(∀ i,i < k->h i=h' i)->bP k h=bP k h':=λk=>by
 induction k with
 |zero=>intros; rfl
 |succ k ih=>
  intro h h' e;show (h 0).val+M*bP k _=(h' 0).val+M*bP k _;rw[e 0 (by lia),ih _ (λi=>h' (i+1)) λi hi=>e (i+1) (by lia)]
theorem CP{A B:Nat}{F:Nat->Nat}(h1:∀ t,t < A->F t < B)(h2:∀ t t',t < A->t' < A->F t=F t'->t=t'):A<=B/\(A=B->∀ y,y < B->∃ t,t < A/\F t=y):=by
 have nd:((j6 A).map F).Nodup:=by
  rw[NN,ge];refine Zb (λ{x y} hx hy hne e=>?_) (Zk (n:=A));have:=h2 x y (jc.mp hx) (jc.mp hy) e;lia
 have sub:∀ x∈(j6 A).map F,x∈j6 B:=λx hx=>by
  obtain⟨t,ht,rfl⟩:=jx.mp hx;exact jc.mpr (h1 t (jc.mp ht))
 constructor
 ·have:=sk nd sub;simpa using this
 ·intro e y hy;apply YF;intro hne
  have nd2:(y::(j6 A).map F).Nodup:=Qf.mpr ⟨λhm=>hne (by
   obtain⟨t,ht,e⟩:=jx.mp hm
   exact⟨t,jc.mp ht,e⟩),nd⟩
  have:=sk (m:=j6 B) nd2 λx hx=>by
   rcases jy.mp hx with q |q
   ·rw[q]; exact jc.mpr hy
   ·exact sub x q
  simp at this;lia
def sm(l:List Nat)(h:Nat->Fin M):Fin M:=l.foldr (λk s=>h k+s) 0
theorem lV(h:Nat->Fin M):sm [] h=0:=rfl
theorem dj(k:Nat)(l:List Nat)(h:Nat->Fin M):sm (k::l) h=h k+sm l h:=rfl
theorem Cr(l m:List Nat)(h:Nat->Fin M):sm (l++m) h=sm l h+sm m h:=by
 induction l with
 |nil=>rw[NH,lV]; grind
 |cons k l ih=>rw[Jc,dj,dj,ih]; grind
theorem Oq{l m:List Nat}(p:l.Perm m)(h:Nat->Fin M):sm l h=sm m h:=by
 induction p with
 |nil=>rfl
 |cons x _ ih=>rw[dj,dj,ih]
 |swap x y l=>rw[dj,dj,dj,dj]; grind
 |trans _ _ a b=>rw[a,b]
theorem eO{l:List Nat}{h h':Nat->Fin M}(e:∀ k∈l,h k=h' k):sm l h=sm l h':=by
 induction l with
 |nil=>rfl
 |cons k l ih=>rw[dj,dj,e k (by simp),ih λk hk=>e k (jA _ hk)]
theorem nQ(l:List Nat)(h h':Nat->Fin M):sm l (λk=>h k+h' k)=sm l h+sm l h':=by
 induction l with
 |nil=>rw[lV,lV,lV]; grind
 |cons k l ih=>rw[dj,dj,dj,ih]; grind
theorem Lm(l:List Nat)(c:Fin M)(h:Nat->Fin M):sm l (λk=>c*h k)=c*sm l h:=by
 induction l with
 |nil=>rw[lV,lV]; grind
 |cons k l ih=>rw[dj,dj,ih]; grind
theorem yJ(l:List Nat):sm l (λ_=>(0:Fin M))=0:=by
 induction l with
 |nil=>rfl
 |cons k l ih=>rw[dj,ih]; grind
theorem vp(k:Nat)(h:Nat->Fin M):sm (j6 (k+1)) h=sm (j6 k) h+h k:=by
 rw[Js,Cr,dj,lV]; grind
end
structure Cd (n:Nat) (a b nm:Nat->Nat):Prop where
 alt:∀ v,v < n->a v < 2*n
 blt:∀ v,v < n->b v < 2*n
 na:∀ v,v < n->nm (a v)=v
 nb:∀ v,v < n->nm (b v)=v
 ne:∀ v,v < n->a v≠b v
 nlt:∀ p,p < 2*n->nm p < n
 at_:∀ p,p < 2*n->p=a (nm p)∨p=b (nm p)
def bT(n k:Nat):Nat:=if k=0 then 2*n - 1 else k - 1
structure Wf (n:Nat) (a b f:Nat->Nat):Prop where
 c1:∀ v,v < n->f (2*bT n (a v))=2*b v
 c2:∀ v,v < n->f (2*a v+1)=2*bT n (b v)+1
 c3:∀ v,v < n->f (2*bT n (b v))=2*bT n (a v)+1
 c4:∀ v,v < n->f (2*b v+1)=2*a v
section
variable [NeZero M]{a b f:Nat->Nat}
structure Cor (n:Nat) (a b:Nat->Nat) (G:Nat->Fin M):Prop where
 c1:∀ v,v < n->G (2*b v)=G (2*bT n (a v))
 c2:∀ v,v < n->G (2*bT n (b v)+1)=G (2*a v+1)
 c3:∀ v,v < n->G (2*bT n (a v)+1)=G (2*bT n (b v))
 c4:∀ v,v < n->G (2*a v)=G (2*b v+1)
theorem uM{k:Nat}(h:k < 2*n):bT n k < 2*n:=by unfold bT; split<;>lia
theorem CG(C:Cd n a b nm)(W:Wf n a b f){G:Nat->Fin M}(h:∀ w,w < 4*n->G (f w)=G w):Cor n a b G:=by
 refine⟨λv hv=>?_,λv hv=>?_,λv hv=>?_,λv hv=>?_⟩
 ·rw[<-W.c1 v hv]; exact h _ (by have:=uM (C.alt v hv); lia)
 ·rw[<-W.c2 v hv]; exact h _ (by have:=C.alt v hv; lia)
 ·rw[<-W.c3 v hv]; exact h _ (by have:=uM (C.blt v hv); lia)
 ·rw[<-W.c4 v hv]; exact h _ (by have:=C.blt v hv; lia)
theorem CQ(C:Cd n a b nm)(W:Wf n a b f){G:Nat->Fin M}(h:Cor n a b G):∀ w,w < 4*n->G (f w)=G w:=by
 intro w hw;rcases Q2 w with e |e
 ·obtain⟨k,rfl⟩:∃ k,w=2*k:=⟨w / 2,by lia⟩
  obtain⟨p,hp,rfl⟩:∃ p,p < 2*n/\k=bT n p:=by
   by_cases q:k+1=2*n
   ·exact⟨0,by lia,by unfold bT; rw[aI rfl]; lia⟩
   ·exact⟨k+1,by lia,by unfold bT; rw[aH (by lia)]; lia⟩
  have hv:=C.nlt p hp;rcases C.at_ p hp with q |q
  ·rw[q,W.c1 _ hv]; exact h.c1 _ hv
  ·rw[q,W.c3 _ hv]; exact h.c3 _ hv
 ·obtain⟨k,rfl⟩:∃ k,w=2*k+1:=⟨w / 2,by lia⟩
  have hp:k < 2*n:=by lia
  have hv:=C.nlt k hp;rcases C.at_ k hp with q |q
  ·rw[q,W.c2 _ hv]; exact h.c2 _ hv
  ·rw[q,W.c4 _ hv]; exact h.c4 _ hv
theorem sX(C:Cd n a b nm)(h:Nat->Fin M):sm (j6 (2*n)) h=sm (j6 n) λv=>h (a v)+h (b v):=by
 have p:(j6 (2*n)).Perm ((j6 n).map a++(j6 n).map b):=by
  refine(List.perm_ext_iff_of_nodup ZR ?_).mpr λp=>?_
  ·rw[jP];refine⟨?_,?_,λx hx y hy e=>?_⟩
   ·rw[NN,ge];refine Zb (λ{x y} hx hy hne e=>?_) (Zk (n:=n));have h1:=C.na x (jc.mp hx);rw[e,C.na y (jc.mp hy)] at h1;lia
   ·rw[NN,ge];refine Zb (λ{x y} hx hy hne e=>?_) (Zk (n:=n));have h1:=C.nb x (jc.mp hx);rw[e,C.nb y (jc.mp hy)] at h1;lia
   ·obtain⟨u,hu,rfl⟩:=jx.mp hx;obtain⟨v,hv,rfl⟩:=jx.mp hy;have h1:=C.na u (jc.mp hu);rw[e,C.nb v (jc.mp hv)] at h1;subst h1;exact C.ne v (jc.mp hv) e
  ·rw[jt,jx,jx,jc];constructor
   ·intro hp;have hv:=C.nlt p hp;rcases C.at_ p hp with q |q
    ·exact .inl ⟨nm p,jc.mpr hv,q.symm⟩
    ·exact .inr ⟨nm p,jc.mpr hv,q.symm⟩
   ·rintro(⟨v,hv,rfl⟩ |⟨v,hv,rfl⟩)
    ·exact C.alt v (jc.mp hv)
    ·exact C.blt v (jc.mp hv)
 rw[Oq p,Cr,nQ];have sm_map:∀(l:List Nat) (g:Nat->Nat),sm (l.map g) h=sm l λv=>h (g v):=λl g=>by
  induction l with
  |nil=>rfl
  |cons k l ih=>rw[jq,dj,dj,ih]
 rw[sm_map,sm_map]
def Dd(b nm:Nat->Nat)(d0:Fin M)(x:Nat->Fin M):Nat->Fin M
 |0=>d0
 |k+1=>Dd b nm d0 x k+(if k=b (nm k) then - x (nm k) else x (nm k))
def Cc(a b nm:Nat->Nat)(d0:Fin M)(x:Nat->Fin M)(p:Nat):Fin M:=if p=b (nm p) then Dd b nm d0 x (a (nm p)) else - Dd b nm d0 x (b (nm p)+1)
def La(a b nm:Nat->Nat)(l0 d0:Fin M)(x:Nat->Fin M):Nat->Fin M
 |0=>l0
 |k+1=>La a b nm l0 d0 x k+Cc a b nm d0 x k
theorem tX(C:Cd n a b nm)(d0:Fin M)(x:Nat->Fin M){v:Nat}(hv:v < n):Dd b nm d0 x (a v+1)=Dd b nm d0 x (a v)+x v:=by
 show Dd b nm d0 x (a v)+(if a v=b (nm (a v)) then _ else _)=_
 rw[C.na v hv,aH (C.ne v hv)]
theorem B8(C:Cd n a b nm)(d0:Fin M)(x:Nat->Fin M){v:Nat}(hv:v < n):Dd b nm d0 x (b v+1)=Dd b nm d0 x (b v) - x v:=by
 show Dd b nm d0 x (b v)+(if b v=b (nm (b v)) then _ else _)=_
 rw[C.nb v hv,aI rfl]; grind
theorem BA(C:Cd n a b nm)(l0 d0:Fin M)(x:Nat->Fin M){v:Nat}(hv:v < n):La a b nm l0 d0 x (a v+1)=La a b nm l0 d0 x (a v) - Dd b nm d0 x (b v+1):=by
 show _+Cc a b nm d0 x (a v)=_;unfold Cc;rw[C.na v hv,aH (C.ne v hv)]; grind
theorem BB(C:Cd n a b nm)(l0 d0:Fin M)(x:Nat->Fin M){v:Nat}(hv:v < n):La a b nm l0 d0 x (b v+1)=La a b nm l0 d0 x (b v)+Dd b nm d0 x (a v):=by
 show _+Cc a b nm d0 x (b v)=_;unfold Cc;rw[C.nb v hv,aI rfl]
theorem wy(d0:Fin M)(x:Nat->Fin M)(k:Nat):Dd b nm d0 x k=d0+sm (j6 k) λk=>if k=b (nm k) then - x (nm k) else x (nm k):=by
 induction k with
 |zero=>show d0=_; rw[NI,lV]; grind
 |succ k ih=>rw[vp]; show Dd b nm d0 x k+_=_; rw[ih]; grind
theorem yc(C:Cd n a b nm)(d0:Fin M)(x:Nat->Fin M):Dd b nm d0 x (2*n)=d0:=by
 rw[wy,sX C];have:(sm (j6 n) λv=>(if a v=b (nm (a v)) then - x (nm (a v)) else x (nm (a v)))+(if b v=b (nm (b v)) then - x (nm (b v)) else x (nm (b v))))=sm (j6 n) λ_=>(0:Fin M):=eO λv hv=>by
  have hv:=jc.mp hv;rw[C.na v hv,C.nb v hv,aH (C.ne v hv),aI rfl]; grind
 rw[this,yJ]; grind
theorem uU(C:Cd n a b nm)(d0:Fin M)(x:Nat->Fin M){k:Nat}(hk:k < 2*n):Dd b nm d0 x (bT n k+1)=Dd b nm d0 x k:=by
 unfold bT;split
 ·rename_i h; subst h;rw[show 2*n - 1+1=2*n by lia,yc C]; rfl
 ·rw[show k - 1+1=k by lia]
def lI(n:Nat)(a b nm:Nat->Nat)(l0 d0:Fin M)(x:Nat->Fin M):Prop:=La a b nm l0 d0 x (2*n)=l0/\∀ v,v < n->La a b nm l0 d0 x (a v)=La a b nm l0 d0 x (b v+1)
def Gg(a b nm:Nat->Nat)(l0 d0:Fin M)(x:Nat->Fin M)(w:Nat):Fin M:=if w%2=0 then La a b nm l0 d0 x (w / 2+1) else La a b nm l0 d0 x (w / 2+1) - Dd b nm d0 x (w / 2+1)
theorem wz(l0 d0:Fin M)(x:Nat->Fin M)(k:Nat):Gg a b nm l0 d0 x (2*k)=La a b nm l0 d0 x (k+1):=by
 unfold Gg; rw[aI (by lia),show 2*k / 2=k by lia]
theorem x3(l0 d0:Fin M)(x:Nat->Fin M)(k:Nat):Gg a b nm l0 d0 x (2*k+1)=La a b nm l0 d0 x (k+1) - Dd b nm d0 x (k+1):=by
 unfold Gg; rw[aH (by lia),show (2*k+1) / 2=k by lia]
theorem CF(C:Cd n a b nm){l0 d0:Fin M}{x:Nat->Fin M}(h:lI n a b nm l0 d0 x):Cor n a b (Gg a b nm l0 d0 x):=by
  have lp:∀ k,k < 2*n->La a b nm l0 d0 x (bT n k+1)=La a b nm l0 d0 x k:=λk hk=>by
    unfold bT;split
    · rename_i q; subst q
      rw[show 2*n - 1+1=2*n by lia,h.1]; rfl
    · rw[show k - 1+1=k by lia]
  have h2:=h.2;refine⟨λv hv=>?_,λv hv=>?_,λv hv=>?_,λv hv=>?_⟩ <;>
  (have e1:=h2 v hv
   have e2:=lp _ (C.alt v hv);have e3:=lp _ (C.blt v hv);have e4:=uU C d0 x (C.alt v hv);have e5:=uU C d0 x (C.blt v hv);have e6:=tX C d0 x hv;have e7:=B8 C d0 x hv;have e8:=BA C l0 d0 x hv;have e9:=BB C l0 d0 x hv;simp only[wz,x3,e2,e3,e4,e5,e8,e6,e7];rw[e7] at *
   grind)
end
section
variable [NeZero M]{a b f:Nat->Nat}
def lH(n:Nat)(G:Nat->Fin M):Fin M:=G (2*bT n 0)
def dG(G:Nat->Fin M)(k:Nat):Fin M:=G (2*k) - G (2*k+1)
def xG(n:Nat)(a:Nat->Nat)(G:Nat->Fin M)(v:Nat):Fin M:=dG G (a v) - dG G (bT n (a v))
theorem wc(C:Cd n a b nm){G:Nat->Fin M}(h:Cor n a b G):∀ k,k<=2*n->Dd b nm (dG G (bT n 0)) (xG n a G) k=dG G (bT n k):=λk=>by
 induction k with
 |zero=>intro _; rfl
 |succ k ih=>
  intro hk;have ih:=ih (by lia)
  have hp:bT n (k+1)=k:=by unfold bT; rw[aH (by lia)]; lia
  have hv:=C.nlt k (by lia)
  rw[hp];rcases C.at_ k (by lia) with q |q
  ·generalize nm k=v at hv q;subst q;rw[tX C _ _ hv,ih];unfold xG
   grind
  ·generalize nm k=v at hv q;subst q;rw[B8 C _ _ hv,ih];have c1:=h.c1 v hv;have c2:=h.c2 v hv;have c3:=h.c3 v hv;have c4:=h.c4 v hv;unfold xG dG
   grind
theorem tY(C:Cd n a b nm){G:Nat->Fin M}(h:Cor n a b G):∀ k,k<=2*n->La a b nm (lH n G) (dG G (bT n 0)) (xG n a G) k=G (2*bT n k):=λk=>by
 induction k with
 |zero=>intro _; rfl
 |succ k ih=>
  intro hk;have ih:=ih (by lia)
  have hp:bT n (k+1)=k:=by unfold bT; rw[aH (by lia)]; lia
  have hv:=C.nlt k (by lia)
  rw[hp];rcases C.at_ k (by lia) with q |q
  ·generalize nm k=v at hv q;subst q;rw[BA C _ _ _ hv,ih,wc C h _ (by have:=C.blt v hv; lia)]
   have c1:=h.c1 v hv;have c4:=h.c4 v hv;have hp:bT n (b v+1)=b v:=by unfold bT; rw[aH (by lia)]; lia
   rw[hp];unfold dG
   grind
  ·generalize nm k=v at hv q;subst q;rw[BB C _ _ _ hv,ih,wc C h _ (by have:=C.alt v hv; lia)]
   have c1:=h.c1 v hv;have c3:=h.c3 v hv;unfold dG
   grind
theorem LF(C:Cd n a b nm)(hn:0 < n){G:Nat->Fin M}(h:Cor n a b G):lI n a b nm (lH n G) (dG G (bT n 0)) (xG n a G):=by
 refine⟨?_,λv hv=>?_⟩
 ·rw[tY C h _ (ji _)];unfold lH
  congr 2
  unfold bT;rw[aH (by lia),aI rfl]
 ·rw[tY C h _ (by have:=C.alt v hv; lia),tY C h _ (by have:=C.blt v hv; lia),<-h.c1 v hv]
  congr 2
theorem we(C:Cd n a b nm){G:Nat->Fin M}(h:Cor n a b G):∀ w,w < 4*n->G w=Gg a b nm (lH n G) (dG G (bT n 0)) (xG n a G) w:=by
 intro w hw;have hp:bT n (w / 2+1)=w / 2:=by unfold bT; rw[aH (by lia)]; lia
 unfold Gg;rw[tY C h _ (by lia),wc C h _ (by lia),hp]
 split
 ·congr 1; lia
 ·unfold dG;rw[show 2*(w / 2)+1=w by lia]
  grind
def par(n:Nat)(a:Nat->Nat)(G:Nat->Fin M):Nat->Fin M
 |0=>lH n G
 |1=>dG G (bT n 0)
 |v+2=>xG n a G v
theorem xw(C:Cd n a b nm){d0:Fin M}{x x':Nat->Fin M}(e:∀ v,v < n->x v=x' v):∀ k,k<=2*n->Dd b nm d0 x k=Dd b nm d0 x' k:=λk=>by
 induction k with
 |zero=>intro _; rfl
 |succ k ih=>
  intro hk;show Dd b nm d0 x k+_=Dd b nm d0 x' k+_;rw[ih (by lia),e _ (C.nlt k (by lia))]
theorem uh(C:Cd n a b nm){l0 d0:Fin M}{x x':Nat->Fin M}(e:∀ v,v < n->x v=x' v):∀ k,k<=2*n->La a b nm l0 d0 x k=La a b nm l0 d0 x' k:=λk=>by
 induction k with
 |zero=>intro _; rfl
 |succ k ih=>
  intro hk;show La a b nm l0 d0 x k+Cc a b nm d0 x k=La a b nm l0 d0 x' k+Cc a b nm d0 x' k;have hv:=C.nlt k (by lia)
  unfold Cc;rw[ih (by lia),xw C e _ (by have:=C.alt _ hv; lia),xw C e _ (by have:=C.blt _ hv; lia)]
theorem Pg(C:Cd n a b nm){l0 d0:Fin M}{x x':Nat->Fin M}(e:∀ v,v < n->x v=x' v)(h:lI n a b nm l0 d0 x):lI n a b nm l0 d0 x':=by
 refine⟨?_,λv hv=>?_⟩
 ·rw[<-uh C e _ (ji _)]; exact h.1
 ·rw[<-uh C e _ (by have:=C.alt v hv; lia),<-uh C e _ (by have:=C.blt v hv; lia)]; exact h.2 v hv
theorem Cz(C:Cd n a b nm){l0 d0:Fin M}{x x':Nat->Fin M}(e:∀ v,v < n->x v=x' v){w:Nat}(hw:w < 4*n):Gg a b nm l0 d0 x w=Gg a b nm l0 d0 x' w:=by
 unfold Gg;rw[uh C e _ (by lia),xw C e _ (by lia)]
structure Cls (m:Nat) (f r:Nat->Nat) (F:Nat):Prop where
 lt:∀ w,w < m->r w < F
 stay:∀ w,w < m->r (f w)=r w
 all:∀ i,i < F->∃ w,w < m/\r w=i
 one:∀ w w',w < m->w' < m->r w=r w'->bV f w w'
theorem CD{m:Nat}{f:Nat->Nat}(hf:Perm1 m f){L:List Nat}(h:Trav m (bV f) L):∃ r,Cls m f r L.length:=by
 have ex:∀ w,w < m->∃ i,∃ hi:i < L.length,bV f L[i] w:=λw hw=>by
  obtain⟨y,hy,o⟩:=h.all w hw;obtain⟨i,hi,e⟩:=QF hy;exact⟨i,hi,by rw[e]; exact o⟩
 have un:∀ i j (hi:i < L.length) (hj:j < L.length),bV f L[i] L[j]->i=j:=λi j hi hj o=>by
  have lt:∀ i j (hi:i < L.length) (hj:j < L.length),i < j->¬ bV f L[i] L[j]:=λi j hi hj hij=>gx.mp h.one i j hi hj hij;rcases gf i j with q |q |q
  ·exact absurd o (lt i j hi hj q)
  ·exact q
  ·exact absurd (bV.symm hf (h.lt _ (jX hi)) o) (lt j i hj hi q)
 let r:Nat->Nat:=λw=>open Classical in if h:∃ i,∃ hi:i < L.length,bV f L[i] w then QC h else 0
 have hr:∀ w,w < m->∃ hi:r w < L.length,bV f L[r w] w:=λw hw=>by
  have e:r w=QC (ex w hw):=dif_pos (ex w hw);rw[show (∃ hi:r w < L.length,bV f L[r w] w)=(∃ hi:QC (ex w hw) < L.length,bV f L[QC (ex w hw)] w) by simp only[e]]
  exact Zu (ex w hw)
 have ru:∀ w i (hi:i < L.length),w < m->bV f L[i] w->r w=i:=λw i hi hw o=>by
  obtain⟨h1,h2⟩:=hr w hw;exact un _ _ h1 hi (h2.trans (bV.symm hf (h.lt _ (jX hi)) o))
 refine⟨r,λw hw=>(hr w hw).1,λw hw=>?_,λi hi=>⟨L[i],h.lt _ (jX hi),ru _ i hi (h.lt _ (jX hi)) (bV.refl _ _)⟩,λw w' hw hw' e=>?_⟩
 ·obtain⟨h1,h2⟩:=hr w hw;exact ru _ _ h1 (hf.lt w hw) (h2.trans ⟨1,rfl⟩)
 ·obtain⟨h1,h2⟩:=hr w hw;obtain⟨h3,h4⟩:=hr w' hw';have h5:=bV.symm hf (h.lt _ (jX h1)) h2;have:L[r w]=L[r w']:=by congr 1
  rw[this] at h5;exact h5.trans h4
theorem uc{m:Nat}{f:Nat->Nat}(hf:Perm1 m f){G:Nat->Fin M}(h:∀ w,w < m->G (f w)=G w){w w':Nat}(hw:w < m)(o:bV f w w'):G w'=G w:=by
 obtain⟨k,rfl⟩:=o
 induction k with
 |zero=>rfl
 |succ k ih=>show G (f (aw f k w))=G w; rw[h _ (hf.itr_lt k hw),ih]
theorem EG(C:Cd n a b nm)(W:Wf n a b f)(hn:0 < n){r:Nat->Nat}{F:Nat}(h:Cls (4*n) f r F):M ^ F<=M ^ (n+2)/\(M ^ F=M ^ (n+2)->∀(l0 d0:Fin M) (x:Nat->Fin M),lI n a b nm l0 d0 x):=by
 have cor:∀ t,Cor n a b (λw=>bC M t (r w)):=λt=>CG C W λw hw=>by rw[h.stay w hw]
 have key:=CP (A:=M ^ F) (B:=M ^ (n+2)) (F:=λt=>bP (n+2) (par n a λw=>bC M t (r w))) (λt ht=>xX _ _) (λt t' ht ht' e=>by
  have e:bP (n+2) (par n a λw=>bC M t (r w))=bP (n+2) (par n a λw=>bC M t' (r w)):=e;have hp:∀ i,i < n+2->par n a (λw=>bC M t (r w)) i=par n a (λw=>bC M t' (r w)) i:=λi hi=>by
   rw[<-qd (n+2) (par n a λw=>bC M t (r w)) i hi,e,qd _ _ i hi]
  have hG:∀ w,w < 4*n->bC M t (r w)=bC M t' (r w):=λw hw=>by
   have e1:=we C (cor t) w hw;have e2:=we C (cor t') w hw;rw[show bC M t (r w)=_ from e1,show bC M t' (r w)=_ from e2];rw[show lH n (λw=>bC M t (r w))=lH n (λw=>bC M t' (r w)) from hp 0 (by lia),show dG (λw=>bC M t (r w)) (bT n 0)=dG (λw=>bC M t' (r w)) (bT n 0) from hp 1 (by lia)]
   exact Cz C (λv hv=>hp (v+2) (by lia)) hw
  rw[<-uv F t ht,<-uv F t' ht'];exact EO _ _ _ λi hi=>by
   obtain⟨w,hw,rfl⟩:=h.all i hi
   exact hG w hw)
 refine⟨key.1,λe l0 d0 x=>?_⟩
 let p:Nat->Fin M:=λi=>match i with
  |0=>l0
  |1=>d0
  |v+2=>x v
 obtain⟨t,ht,et⟩:=key.2 e (bP (n+2) p) (xX _ _);have hp:∀ i,i < n+2->par n a (λw=>bC M t (r w)) i=p i:=λi hi=>by
  rw[<-qd (n+2) (par n a λw=>bC M t (r w)) i hi,<-qd (n+2) p i hi]
  congr 1
 have:=LF C hn (cor t);rw[show lH n (λw=>bC M t (r w))=l0 from hp 0 (by lia),show dG (λw=>bC M t (r w)) (bT n 0)=d0 from hp 1 (by lia)] at this
 exact Pg C (λv hv=>hp (v+2) (by lia)) this
theorem SK(C:Cd n a b nm)(W:Wf n a b f)(hf:Perm1 (4*n) f)(hn:0 < n){r:Nat->Nat}{F:Nat}(h:Cls (4*n) f r F)(hc:∀(l0 d0:Fin M) (x:Nat->Fin M),lI n a b nm l0 d0 x):M ^ (n+2)<=M ^ F:=by
 let rep:Nat->Nat:=λi=>open Classical in if h:∃ w,w < 4*n/\r w=i then QC h else 0
 have hrep:∀ i,i < F->rep i < 4*n/\r (rep i)=i:=λi hi=>by
  have e:rep i=QC (h.all i hi):=dif_pos (h.all i hi);rw[e];exact Zu (h.all i hi)
 let G:Nat->Nat->Fin M:=λt=>Gg a b nm (bC M t 0) (bC M t 1) (λv=>bC M t (v+2))
 have inv:∀ t w,w < 4*n->G t (f w)=G t w:=λt=>CQ C W (CF C (hc _ _ _));refine(CP (A:=M ^ (n+2)) (B:=M ^ F) (F:=λt=>bP F λi=>G t (rep i)) (λt ht=>xX _ _) (λt t' ht ht' e=>?_)).1;have hG0:∀ i,i < F->G t (rep i)=G t' (rep i):=λi hi=>by
  rw[<-qd F (λi=>G t (rep i)) i hi,show (bP F λi=>G t (rep i))=bP F λi=>G t' (rep i) from e,qd F _ i hi]
 have hG:∀ w,w < 4*n->G t w=G t' w:=λw hw=>by
  obtain⟨q1,q2⟩:=hrep _ (h.lt w hw);have o:=h.one _ _ q1 hw q2;rw[uc hf (inv t) q1 o,uc hf (inv t') q1 o];exact hG0 _ (h.lt w hw)
 have hL:∀ k,k < 2*n->La a b nm (bC M t 0) (bC M t 1) (λv=>bC M t (v+2)) (k+1)=La a b nm (bC M t' 0) (bC M t' 1) (λv=>bC M t' (v+2)) (k+1):=λk hk=>by
  rw[<-wz,<-wz]; exact hG _ (by lia)
 have hD:∀ k,k < 2*n->Dd b nm (bC M t 1) (λv=>bC M t (v+2)) (k+1)=Dd b nm (bC M t' 1) (λv=>bC M t' (v+2)) (k+1):=λk hk=>by
  have e1:=hG (2*k+1) (by lia)
  have e2:=hL k hk;have e3:Gg a b nm (bC M t 0) (bC M t 1) (λv=>bC M t (v+2)) (2*k+1)=Gg a b nm (bC M t' 0) (bC M t' 1) (λv=>bC M t' (v+2)) (2*k+1):=e1;rw[x3,x3] at e3
  grind
 have g0:bC M t 0=bC M t' 0:=by
  have e1:=hL (2*n - 1) (by lia)
  rw[show 2*n - 1+1=2*n by lia,(hc _ _ _).1,(hc _ _ _).1] at e1
  exact e1
 have g1:bC M t 1=bC M t' 1:=by
  have e1:=hD (2*n - 1) (by lia)
  rw[show 2*n - 1+1=2*n by lia,yc C,yc C] at e1
  exact e1
 have hD2:∀ k,k < 2*n->Dd b nm (bC M t 1) (λv=>bC M t (v+2)) k=Dd b nm (bC M t' 1) (λv=>bC M t' (v+2)) k:=λk hk=>by
  rw[<-uU C _ _ hk,<-uU C _ _ hk];exact hD _ (uM hk)
 have g2:∀ v,v < n->bC M t (v+2)=bC M t' (v+2):=λv hv=>by
  have e1:=hD (a v) (C.alt v hv);have e2:=hD2 (a v) (C.alt v hv);rw[tX C _ _ hv,tX C _ _ hv] at e1
  grind
 rw[<-uv (n+2) t ht,<-uv (n+2) t' ht'];exact EO _ _ _ λi hi=>by
  match i with
  |0=>exact g0
  |1=>exact g1
  |v+2=>exact g2 v (by lia)
end
abbrev F2:=Fin 2
theorem CJ(x:F2):-x=x:=by revert x; decide
theorem sB(x:F2):x+x=0:=by revert x; decide
theorem D9(x y:F2):x+y=y+x:=by revert x y; decide
theorem Bj(x:F2):x*x=x:=by revert x; decide
def dQ(u v:Nat):F2:=if u=v then 1 else 0
theorem v8(u:Nat):dQ u u=1:=aI rfl
theorem oK{u v:Nat}(h:u≠v):dQ u v=0:=aH h
theorem PH(u v:Nat):dQ u v=dQ v u:=by
 by_cases h:u=v
 ·rw[h]
 ·rw[oK h,oK (ZA h)]
theorem nV{l:List Nat}{h:Nat->F2}(e:∀ k∈l,h k=0):sm l h=0:=by
 rw[eO e,yJ]
theorem Ll{l:List Nat}(nd:l.Nodup){v:Nat}(hv:v∈l)(h:Nat->F2):sm l (λu=>h u*dQ u v)=h v:=by
 induction l with
 |nil=>cases hv
 |cons k l ih=>
  rw[Qf] at nd;rw[dj]
  by_cases q:k=v
  ·subst q;rw[nV λu hu=>by rw[oK (λz:u=k=>nd.1 (z▸hu))]; exact ZJ _,v8]; grind
  ·rw[ih nd.2 ((jy.mp hv).resolve_left (ZA q)),oK q]; grind
structure Ij (n:Nat) (i j nm:Nat->Nat):Prop where
 lt:∀ v,v < n->i v < j v
 jlt:∀ v,v < n->j v < 2*n
 ni:∀ v,v < n->nm (i v)=v
 nj:∀ v,v < n->nm (j v)=v
 nlt:∀ p,p < 2*n->nm p < n
 at_:∀ p,p < 2*n->p=i (nm p)∨p=j (nm p)
def aO(i j:Nat->Nat)(hd:Nat->Bool)(v:Nat):Nat:=bif hd v then i v else j v
def bO(i j:Nat->Nat)(hd:Nat->Bool)(v:Nat):Nat:=bif hd v then j v else i v
section
variable {i j:Nat->Nat}{hd:Nat->Bool}
theorem Fn{v:Nat}(h:hd v=aC):aO i j hd v=i v/\bO i j hd v=j v:=by unfold aO bO; rw[h]; exact⟨rfl,rfl⟩
theorem Fp{v:Nat}(h:hd v=aD):aO i j hd v=j v/\bO i j hd v=i v:=by unfold aO bO; rw[h]; exact⟨rfl,rfl⟩
theorem iQ(i j:Nat->Nat)(hd:Nat->Bool)(v:Nat):(aO i j hd v=i v/\bO i j hd v=j v/\hd v=aC)∨(aO i j hd v=j v/\bO i j hd v=i v/\hd v=aD):=by
 cases h:hd v
 ·exact .inr ⟨(Fp h).1,(Fp h).2,rfl⟩
 ·exact .inl ⟨(Fn h).1,(Fn h).2,rfl⟩
theorem Ij.cd(I:Ij n i j nm)(hd:Nat->Bool):Cd n (aO i j hd) (bO i j hd) nm:=by
 refine⟨λv hv=>?_,λv hv=>?_,λv hv=>?_,λv hv=>?_,λv hv=>?_,I.nlt,λp hp=>?_⟩
 ·rcases iQ i j hd v with ⟨a,b,_⟩ |⟨a,b,_⟩<;>rw[a]
  ·exact WW (I.lt v hv) (I.jlt v hv)
  ·exact I.jlt v hv
 ·rcases iQ i j hd v with ⟨a,b,_⟩ |⟨a,b,_⟩<;>rw[b]
  ·exact I.jlt v hv
  ·exact WW (I.lt v hv) (I.jlt v hv)
 ·rcases iQ i j hd v with ⟨a,b,_⟩ |⟨a,b,_⟩<;>rw[a]
  ·exact I.ni v hv
  ·exact I.nj v hv
 ·rcases iQ i j hd v with ⟨a,b,_⟩ |⟨a,b,_⟩<;>rw[b]
  ·exact I.nj v hv
  ·exact I.ni v hv
 ·rcases iQ i j hd v with ⟨a,b,_⟩ |⟨a,b,_⟩<;>rw[a,b]
  ·exact jG (I.lt v hv)
  ·exact gD (I.lt v hv)
 ·rcases iQ i j hd (nm p) with ⟨a,b,_⟩ |⟨a,b,_⟩<;>rw[a,b]
  ·exact I.at_ p hp
  ·exact(I.at_ p hp).symm
def d6(i j:Nat->Nat)(u p:Nat):F2:=if i u < p/\p < j u then 1 else 0
def io(i j:Nat->Nat)(u k:Nat):F2:=if i u < k/\k<=j u then 1 else 0
def cr(i j:Nat->Nat)(u v:Nat):F2:=d6 i j u (i v)+d6 i j u (j v)
def fE(hd:Nat->Bool)(v:Nat):F2:=bif hd v then 0 else 1
theorem CO{p q:Prop}[Decidable p][Decidable q](h:p↔q):(if p then (1:F2) else 0)=if q then 1 else 0:=by
 by_cases hp:p
 ·rw[aI hp,aI (h.mp hp)]
 ·rw[aH hp,aH λz=>hp (h.mpr z)]
theorem DM{u x:Nat}(h:x≠i u):io i j u (x+1)=d6 i j u x:=CO (by lia)
theorem DL{u x:Nat}(h:x≠j u):io i j u x=d6 i j u x:=CO (by lia)
theorem xF(u:Nat):d6 i j u (i u)=0:=aH λh=>Q4 _ h.1
theorem xH(u:Nat):d6 i j u (j u)=0:=aH λh=>Q4 _ h.2
theorem BJ(u:Nat):io i j u (i u)=0:=aH λh=>Q4 _ h.1
theorem Bb{u:Nat}(h:i u < j u):io i j u (i u+1)=1:=aI ⟨Zn _,h⟩
theorem BK{u:Nat}(h:i u < j u):io i j u (j u)=1:=aI ⟨h,ji _⟩
theorem Bc(u:Nat):io i j u (j u+1)=0:=aH λh=>Q4 _ h.2
theorem MU(u:Nat):cr i j u u=0:=by unfold cr; rw[xF,xH]; rfl
theorem Ij.ne(I:Ij n i j nm){u p:Nat}(hp:p < 2*n)(hu:u < n)(h:u≠nm p):p≠i u/\p≠j u:=⟨λe=>h (by rw[e,I.ni u hu]),λe=>h (by rw[e,I.nj u hu])⟩
theorem qb{v:Nat}(hv:v < n)(h:Nat->F2):sm (j6 n) (λu=>h u*dQ u v)=h v:=Ll ZR (jc.mpr hv) h
theorem HF(I:Ij n i j nm)(d0:F2)(x:Nat->F2):∀ k,k<=2*n->Dd (bO i j hd) nm d0 x k=d0+sm (j6 n) λu=>x u*io i j u k:=λk=>by
 induction k with
 |zero=>
  intro _;rw[nV λu _=>by rw[show io i j u 0=0 from aH λh=>Z7 _ h.1]; exact ZJ _]
  exact(J1 d0).symm
 |succ k ih=>
  intro hk;have hk':k < 2*n:=hk;have hv:=I.nlt k hk';have e1:Dd (bO i j hd) nm d0 x (k+1)=Dd (bO i j hd) nm d0 x k+x (nm k):=by
   show _+(if k=bO i j hd (nm k) then - x (nm k) else x (nm k))=_
   rw[CJ,ite_self]
  rw[e1,ih (Z4 hk')];have e2:(sm (j6 n) λu=>x u*io i j u (k+1))=sm (j6 n) λu=>x u*io i j u k+x u*dQ u (nm k):=eO λu hu=>by
   have hu:=jc.mp hu;have e3:io i j u (k+1)=io i j u k+dQ u (nm k):=by
    by_cases q:u=nm k
    ·have ha:=I.at_ k hk';have hl:=I.lt u hu;rw[<-q] at ha ⊢;rw[v8];rcases ha with e |e
     ·rw[e,Bb hl,BJ]; rfl
     ·rw[e,Bc,BK hl]; rfl
    ·have hp:=I.ne hk' hu q;rw[oK q,DM hp.1,DL hp.2]; exact(J1 _).symm
   rw[e3]; grind
  rw[e2,nQ,qb hv]; grind
def fX(a b nm:Nat->Nat)(p:Nat):Nat:=if p=b (nm p) then a (nm p) else b (nm p)+1
def Tt(i j nm:Nat->Nat)(hd:Nat->Bool)(u k:Nat):F2:=sm (j6 k) λp=>io i j u (fX (aO i j hd) (bO i j hd) nm p)
theorem ME{a b:Nat->Nat}(C:Cd n a b nm){p:Nat}(h:p < 2*n):fX a b nm p<=2*n:=by
 have hv:=C.nlt p h;unfold fX;split
 ·exact Z4 (C.alt _ hv)
 ·exact C.blt _ hv
def iO(k:Nat)(d:F2):F2:=if k%2=0 then 0 else d
theorem PN(k:Nat)(d:F2):iO (k+1) d=iO k d+d:=by
 unfold iO;rcases Q2 k with q |q
 ·rw[aI q,aH (by lia)]; exact(Fin.zero_add d).symm
 ·rw[aI (c:=(k+1)%2=0) (by lia),aH (by lia)]; exact(sB d).symm
theorem nG(I:Ij n i j nm)(l0 d0:F2)(x:Nat->F2):∀ k,k<=2*n->La (aO i j hd) (bO i j hd) nm l0 d0 x k=l0+iO k d0+sm (j6 n) λu=>x u*Tt i j nm hd u k:=λk=>by
 induction k with
 |zero=>
  intro _;rw[nV λu _=>by exact ZJ (x u)]
  show l0=l0+0+0
  grind
 |succ k ih=>
  intro hk;show La (aO i j hd) (bO i j hd) nm l0 d0 x k+Cc (aO i j hd) (bO i j hd) nm d0 x k=_;have e1:Cc (aO i j hd) (bO i j hd) nm d0 x k=Dd (bO i j hd) nm d0 x (fX (aO i j hd) (bO i j hd) nm k):=by
   unfold Cc fX;split
   ·rfl
   ·rw[CJ]
  rw[e1,ih (Z4 hk),HF I d0 x _ (ME (I.cd hd) hk),PN];have e2:(sm (j6 n) λu=>x u*Tt i j nm hd u (k+1))=sm (j6 n) λu=>x u*Tt i j nm hd u k+x u*io i j u (fX (aO i j hd) (bO i j hd) nm k):=eO λu hu=>by
   unfold Tt;rw[vp]; grind
  rw[e2,nQ]; grind
theorem MT(I:Ij n i j nm):(∀(l0 d0:F2) (x:Nat->F2),lI n (aO i j hd) (bO i j hd) nm l0 d0 x)↔(∀ w,w < n->(i w+j w)%2=1)/\(∀ u,u < n->Tt i j nm hd u (2*n)=0)/\∀ u w,u < n->w < n->Tt i j nm hd u (bO i j hd w+1)+Tt i j nm hd u (aO i j hd w)=0:=by
 have C:=I.cd hd;have par:∀ w,(i w+j w)%2=1↔∀ d,iO (aO i j hd w) d=iO (bO i j hd w+1) d:=λw=>by
  have key:∀ a b:Nat,(a+b)%2=1↔∀ d,iO a d=iO (b+1) d:=λa b=>by
   unfold iO;constructor
   ·intro h d;rcases Q2 a with q |q
    ·rw[aI q,aI (by lia)]
    ·rw[aH (by lia),aH (by lia)]
   ·intro h;have h:=h 1;rcases Q2 a with q |q<;>rcases Q2 (b+1) with q' |q'
    ·lia
    ·rw[aI q,aH (by lia)] at h; cases h
    ·rw[aH (by lia),aI q'] at h; cases h
    ·lia
  rcases iQ i j hd w with ⟨a,b,_⟩ |⟨a,b,_⟩<;>rw[a,b]
  ·exact key _ _
  ·rw[Nat.add_comm]; exact key _ _
 constructor
 ·intro h;refine⟨λw hw=>(par w).mpr λd=>?_,λu hu=>?_,λu w hu hw=>?_⟩
  ·have e:=(h 0 d λ_=>0).2 w hw;rw[nG I _ _ _ _ (Z4 (C.alt w hw)),nG I _ _ _ _ (C.blt w hw),nV λu _=>by exact Y3 _,nV λu _=>by exact Y3 _] at e
   grind
  ·have e:=(h 0 0 λv=>dQ v u).1;rw[nG I _ _ _ _ (ji _)] at e;have:(sm (j6 n) λv=>dQ v u*Tt i j nm hd v (2*n))=Tt i j nm hd u (2*n):=by
    rw[<-qb hu λv=>Tt i j nm hd v (2*n)];exact eO λv _=>J2 _ _
   rw[this,show iO (2*n) (0:F2)=0 from ite_self _] at e; grind
  ·have e:=(h 0 0 λv=>dQ v u).2 w hw;have z:∀ k,(sm (j6 n) λv=>dQ v u*Tt i j nm hd v k)=Tt i j nm hd u k:=λk=>by
    rw[<-qb hu λv=>Tt i j nm hd v k];exact eO λv _=>J2 _ _
   rw[nG I _ _ _ _ (Z4 (C.alt w hw)),nG I _ _ _ _ (C.blt w hw),z,z,show ∀ k,iO k (0:F2)=0 from λ_=>ite_self _,show ∀ k,iO k (0:F2)=0 from λ_=>ite_self _] at e;have:=sB (Tt i j nm hd u (aO i j hd w))
   grind
 ·rintro⟨hE,hC,hV⟩ l0 d0 x;refine⟨?_,λw hw=>?_⟩
  ·rw[nG I _ _ _ _ (ji _),show iO (2*n) d0=0 from aI (Nat.mul_mod_right 2 n),nV λu hu=>by rw[hC u (jc.mp hu)]; exact ZJ _]
   grind
  ·rw[nG I _ _ _ _ (Z4 (C.alt w hw)),nG I _ _ _ _ (C.blt w hw),(par w).mp (hE w hw) d0];have e1:(sm (j6 n) λu=>x u*Tt i j nm hd u (aO i j hd w))=sm (j6 n) λu=>x u*Tt i j nm hd u (bO i j hd w+1):=eO λu hu=>by
    have:=hV u w (jc.mp hu) hw;have:=sB (Tt i j nm hd u (aO i j hd w))
    grind
   rw[e1]
theorem Ae(I:Ij n i j nm){u v:Nat}(hu:u < n)(hv:v < n):io i j u (fX (aO i j hd) (bO i j hd) nm (aO i j hd v))=d6 i j u (bO i j hd v)+fE hd u*dQ u v:=by
 have C:=I.cd hd;unfold fX;rw[C.na v hv,aH (C.ne v hv)]
 by_cases q:u=v
 ·subst q;rw[v8];unfold fE;rcases iQ i j hd u with ⟨_,b,h⟩ |⟨_,b,h⟩<;>rw[b,h]
  ·rw[Bc,xH]; rfl
  ·rw[Bb (I.lt u hu),xF]; rfl
 ·rw[oK q,DM (I.ne (C.blt v hv) hu (by rw[C.nb v hv]; exact q)).1]; grind
theorem Ad(I:Ij n i j nm){u v:Nat}(hu:u < n)(hv:v < n):io i j u (fX (aO i j hd) (bO i j hd) nm (bO i j hd v))=d6 i j u (aO i j hd v)+fE hd u*dQ u v:=by
 have C:=I.cd hd;unfold fX;rw[C.nb v hv,aI rfl]
 by_cases q:u=v
 ·subst q;rw[v8];unfold fE;rcases iQ i j hd u with ⟨a,_,h⟩ |⟨a,_,h⟩<;>rw[a,h]
  ·rw[BJ,xF]; rfl
  ·rw[BK (I.lt u hu),xH]; rfl
 ·rw[oK q,DL (I.ne (C.alt v hv) hu (by rw[C.na v hv]; exact q)).2]; grind
def iu(n:Nat)(i j:Nat->Nat)(u:Nat):F2:=sm (j6 n) λv=>cr i j u v
def lM(n:Nat)(i j:Nat->Nat)(u w:Nat):F2:=sm (j6 n) λv=>cr i j u v*cr i j w v
theorem uF(i j:Nat->Nat)(hd:Nat->Bool)(u v:Nat):cr i j u v=d6 i j u (aO i j hd v)+d6 i j u (bO i j hd v):=by
 unfold cr;rcases iQ i j hd v with ⟨a,b,_⟩ |⟨a,b,_⟩<;>rw[a,b]
 exact D9 _ _
theorem C2(I:Ij n i j nm)(h:Nat->F2):sm (j6 (2*n)) h=sm (j6 n) λv=>h (i v)+h (j v):=by
 rw[sX (I.cd λ_=>aC)]; rfl
theorem HJ(I:Ij n i j nm){u:Nat}(hu:u < n):Tt i j nm hd u (2*n)=iu n i j u:=by
 unfold Tt iu;rw[sX (I.cd hd)];refine eO λv hv=>?_;have hv:=jc.mp hv;rw[Ae I hu hv,Ad I hu hv,uF i j hd];have:=sB (fE hd u*dQ u v)
 grind
theorem Cs(h:Nat->F2):∀(N k:Nat),k<=N->sm (j6 k) h=sm (j6 N) λp=>h p*if p < k then 1 else 0:=λN=>by
 induction N with
 |zero=>intro k hk; rw[Nat.le_zero.mp hk]; rfl
 |succ N ih=>
  intro k hk
  by_cases q:k=N+1
  ·subst q;refine eO λp hp=>?_;rw[aI (jc.mp hp)]; exact(Fin.mul_one _).symm
  ·rw[vp,ih k (by lia),aH (by lia)]; grind
theorem Lo{p x y:Nat}(h:x < y):(if p < y+1 then (1:F2) else 0)+(if p < x then 1 else 0)=(if x < p/\p < y then 1 else 0)+(dQ p x+dQ p y):=by
 unfold dQ;rcases gf p x with q |q |q
 ·rw[aI (by lia),aI q,aH (by lia),aH (by lia),aH (by lia)]; rfl
 ·rw[aI (by lia),aH (by lia),aH (by lia),aI q,aH (by lia)]; rfl
 ·rcases gf p y with q' |q' |q'
  ·rw[aI (by lia),aH (by lia),aI ⟨q,q'⟩,aH (by lia),aH (by lia)]; rfl
  ·rw[aI (by lia),aH (by lia),aH (by lia),aH (by lia),aI q']; rfl
  ·rw[aH (by lia),aH (by lia),aH (by lia),aH (by lia),aH (by lia)]; rfl
theorem Ln{p x y:Nat}(h:x < y):(if p < x+1 then (1:F2) else 0)+(if p < y then 1 else 0)=if x < p/\p < y then 1 else 0:=by
 by_cases q:p < x+1
 ·rw[aI q,aI (by lia),aH (by lia)]; rfl
 ·by_cases q':p < y
  ·rw[aH q,aI q',aI (by lia)]; rfl
  ·rw[aH q,aH q',aH (by lia)]; rfl
theorem Ka(I:Ij n i j nm){u w:Nat}(hu:u < n)(hw:w < n):Tt i j nm hd u (bO i j hd w+1)+Tt i j nm hd u (aO i j hd w)=(sm (j6 (2*n)) λp=>d6 i j w p*io i j u (fX (aO i j hd) (bO i j hd) nm p))+(1+fE hd w)*cr i j u w:=by
 have C:=I.cd hd;have e0:cr i j u w=io i j u (fX (aO i j hd) (bO i j hd) nm (aO i j hd w))+io i j u (fX (aO i j hd) (bO i j hd) nm (bO i j hd w)):=by
  rw[Ae I hu hw,Ad I hu hw,uF i j hd];have:=sB (fE hd u*dQ u w)
  grind
 rw[e0];unfold Tt;obtain⟨h,hh⟩:∃ h:Nat->F2,∀ p,io i j u (fX (aO i j hd) (bO i j hd) nm p)=h p:=⟨_,λ_=>rfl⟩;simp only[hh];have ea:=qb (n:=2*n) (C.alt w hw) h;have eb:=qb (n:=2*n) (C.blt w hw) h;rw[Cs h (2*n) _ (C.blt w hw),Cs h (2*n) _ (Z4 (C.alt w hw)),<-nQ,<-ea,<-eb,<-nQ,<-Lm,<-nQ];refine eO λp hp=>?_;have hk:(if p < bO i j hd w+1 then (1:F2) else 0)+(if p < aO i j hd w then 1 else 0)=d6 i j w p+(1+fE hd w)*(dQ p (aO i j hd w)+dQ p (bO i j hd w)):=by
  unfold fE d6;rcases iQ i j hd w with ⟨a,b,z⟩ |⟨a,b,z⟩<;>rw[a,b,z]
  ·rw[Lo (I.lt w hw)]; show _=_+(1+0)*_; grind
  ·rw[Ln (I.lt w hw)]; show _=_+(1+1)*_; grind
 generalize h p=y;generalize (if p < bO i j hd w+1 then (1:F2) else 0)=c1 at hk
 generalize (if p < aO i j hd w then (1:F2) else 0)=c2 at hk
 generalize d6 i j w p=c3 at *;generalize fE hd w=c4 at *;generalize dQ p (aO i j hd w)=c5 at *;generalize dQ p (bO i j hd w)=c6 at *
 clear hh ea eb e0 hp C
 revert y c1 c2 c3 c4 c5 c6
 decide
def Kk(n:Nat)(i j:Nat->Nat)(u w:Nat):F2:=sm (j6 (2*n)) λp=>d6 i j u p*d6 i j w p
theorem BZ(I:Ij n i j nm){u w:Nat}(hu:u < n)(hw:w < n):Tt i j nm hd u (bO i j hd w+1)+Tt i j nm hd u (aO i j hd w)=lM n i j u w+Kk n i j u w+fE hd u*cr i j w u+(1+fE hd w)*cr i j u w:=by
 have C:=I.cd hd;rw[Ka I hu hw];have e:(sm (j6 (2*n)) λp=>d6 i j w p*io i j u (fX (aO i j hd) (bO i j hd) nm p))=lM n i j u w+Kk n i j u w+fE hd u*cr i j w u:=by
  unfold lM Kk;rw[sX C,sX C (λp=>d6 i j u p*d6 i j w p)];rw[<-qb hu λv=>fE hd u*cr i j w v,<-nQ,<-nQ];refine eO λv hv=>?_;have hv:=jc.mp hv;rw[Ae I hu hv,Ad I hu hv,PH u v,uF i j hd u v,uF i j hd w v];generalize d6 i j u (aO i j hd v)=p1;generalize d6 i j u (bO i j hd v)=p2;generalize d6 i j w (aO i j hd v)=p3;generalize d6 i j w (bO i j hd v)=p4;generalize fE hd u=p5;generalize dQ v u=p6
  revert p1 p2 p3 p4 p5 p6
  decide
 rw[e]
def n2(k:Nat):F2:=Fin.ofNat 2 k
theorem qT{j k:Nat}(h:j%2=k%2):n2 j=n2 k:=Jr h
theorem xm(j k:Nat):n2 (j+k)=n2 j+n2 k:=Jr (Nat.add_mod j k 2)
theorem n2_zero{k:Nat}:n2 k=0↔k%2=0:=⟨λh=>congrArg Fin.val h,λh=>qT (k:=0) h⟩
theorem xQ(x y:Nat):∀ N,y<=N->sm (j6 N) (λp=>if x < p/\p < y then (1:F2) else 0)=n2 (y - (x+1)):=λN h=>by
 have key:∀ N,sm (j6 N) (λp=>if x < p/\p < y then (1:F2) else 0)=n2 (min N y - (x+1)):=λN=>by
  induction N with
  |zero=>rw[NI,lV,Nat.zero_min,Nat.zero_sub]; rfl
  |succ N ih=>
   rw[vp,ih]
   by_cases q:x < N/\N < y
   ·rw[aI q,show min (N+1) y - (x+1)=min N y - (x+1)+1 by lia,xm]; rfl
   ·rw[aH q,show min (N+1) y - (x+1)=min N y - (x+1) by lia]; exact J1 _
 rw[key,Jd h]
theorem Mt(I:Ij n i j nm){u:Nat}(hu:u < n):iu n i j u=n2 (j u - (i u+1)):=by
 have:iu n i j u=sm (j6 (2*n)) λp=>d6 i j u p:=by
  rw[C2 I]; rfl
 rw[this];exact xQ _ _ _ (Z4 (I.jlt u hu))
theorem ord(I:Ij n i j nm){u w:Nat}(hu:u < n)(hw:w < n)(h:i u < i w)(hE:∀ w,w < n->(i w+j w)%2=1):(cr i j u w=0/\cr i j w u=0/\Kk n i j u w=0)∨(cr i j u w=1/\cr i j w u=1/\Kk n i j u w=n2 (i u)+n2 (i w)):=by
 have hne:w≠u:=λe=>by rw[e] at h; exact Q4 _ h
 have h1:=I.lt u hu;have h2:=I.lt w hw;have h3:=I.jlt u hu;have h4:=I.jlt w hw;have d1:=(I.ne (u:=w) h3 hw (by rw[I.nj u hu]; exact hne))
 have e1:=hE u hu;have e2:=hE w hw;unfold cr Kk d6;generalize 2*n=N at h3 h4;generalize i u=x at *;generalize j u=y at *;generalize i w=k at *;generalize j w=l at *
 clear hE hne hu hw I
 rw[aH (c:=k < x/\x < l) (by lia)]
 rcases NF y k with q |q
 ·refine .inl ⟨?_,?_,nV λp _=>?_⟩
  ·rw[aH (by lia),aH (by lia)]; rfl
  ·rw[aH (by lia)]; rfl
  ·by_cases z:x < p/\p < y
   ·rw[aH (c:=k < p/\p < l) (by lia)]; exact ZJ _
   ·rw[aH z]; exact Y3 _
 ·rcases NF y l with q' |q'
  ·refine .inr ⟨?_,?_,?_⟩
   ·rw[aI (by lia),aH (by lia)]; rfl
   ·rw[aI (by lia)]; rfl
   ·rw[eO (h':=λp=>if k < p/\p < y then (1:F2) else 0) λp _=>?_,xQ k y N (by lia),<-xm]
    ·exact qT (by lia)
    ·by_cases z:k < p/\p < y
     ·rw[aI z,aI (by lia),aI (by lia)]; rfl
     ·rw[aH z]
      by_cases z':x < p/\p < y
      ·rw[aH (c:=k < p/\p < l) (by lia)]; exact ZJ _
      ·rw[aH z']; exact Y3 _
  ·refine .inl ⟨?_,?_,?_⟩
   ·rw[aI (by lia),aI (by lia)]; rfl
   ·rw[aH (by lia)]; rfl
   ·rw[eO (h':=λp=>if k < p/\p < l then (1:F2) else 0) λp _=>?_,xQ k l N (by lia)]
    ·exact n2_zero.mpr (by lia)
    ·by_cases z:k < p/\p < l
     ·rw[aI z,aI (by lia)]; rfl
     ·rw[aH z]; exact ZJ _
theorem Gf(I:Ij n i j nm){u w:Nat}(hu:u < n)(hw:w < n)(h:u≠w)(hE:∀ w,w < n->(i w+j w)%2=1):cr i j w u=cr i j u w/\Kk n i j u w=cr i j u w*(n2 (i u)+n2 (i w)):=by
 have hK:Kk n i j w u=Kk n i j u w:=eO λp _=>J2 _ _;rcases gf (i u) (i w) with q |q |q
 ·rcases ord I hu hw q hE with ⟨a,b,c⟩ |⟨a,b,c⟩<;>rw[a,b,c]
  ·exact⟨rfl,(Y3 _).symm⟩
  ·exact⟨rfl,(Fin.one_mul _).symm⟩
 ·exact absurd (by rw[<-I.ni u hu,q,I.ni w hw]) h
 ·rcases ord I hw hu q hE with ⟨a,b,c⟩ |⟨a,b,c⟩<;>rw[<-hK,a,b,c]
  ·exact⟨rfl,(Y3 _).symm⟩
  ·exact⟨rfl,by rw[Fin.one_mul]; exact D9 _ _⟩
def li(i:Nat->Nat)(hd:Nat->Bool)(u:Nat):F2:=n2 (i u)+fE hd u
theorem RF(I:Ij n i j nm):(∀(l0 d0:F2) (x:Nat->F2),lI n (aO i j hd) (bO i j hd) nm l0 d0 x)↔(∀ u,u < n->iu n i j u=0)/\∀ u w,u < n->w < n->u≠w->lM n i j u w+cr i j u w*(li i hd u+li i hd w+1)=0:=by
 rw[MT I];have hEd:(∀ w,w < n->(i w+j w)%2=1)↔∀ u,u < n->iu n i j u=0:=by
  refine forall_congr' λu=>forall_congr' λhu=>?_;rw[Mt I hu,n2_zero];have:=I.lt u hu;lia
 have key:∀ u w,u < n->w < n->u≠w->(∀ w,w < n->(i w+j w)%2=1)->Tt i j nm hd u (bO i j hd w+1)+Tt i j nm hd u (aO i j hd w)=lM n i j u w+cr i j u w*(li i hd u+li i hd w+1):=λu w hu hw h hE=>by
  obtain⟨o1,o2⟩:=Gf I hu hw h hE;rw[BZ I hu hw,o2,o1];unfold li
  grind
 constructor
 ·rintro⟨hE,_,hV⟩;refine⟨hEd.mp hE,λu w hu hw h=>?_⟩;rw[<-key u w hu hw h hE];exact hV u w hu hw
 ·rintro⟨hd',hs⟩;have hE:=hEd.mpr hd';refine⟨hE,λu hu=>by rw[HJ I hu]; exact hd' u hu,λu w hu hw=>?_⟩
  by_cases h:u=w
  ·subst h
   rw[BZ I hu hw,MU,show lM n i j u u=iu n i j u from eO λv _=>Bj _,hd' u hu,show Kk n i j u u=iu n i j u by
    have e1:Kk n i j u u=sm (j6 (2*n)) λp=>d6 i j u p:=eO λv _=>Bj _
    rw[e1,C2 I]; rfl,hd' u hu,ZJ,ZJ]
   rfl
  ·rw[key u w hu hw h hE]; exact hs u w hu hw h
end
end Dw
set_option maxHeartbeats 4000000
namespace L3
open PySem PySem.Spec PyProof.Rows L2
section
variable [TheK]{X:Cx}{M:List Nat}
theorem qV(i:Nat){x:Str}{pos:Pos}(hN:X.N[i]?=aA x:=by rfl)(hv:tR X.env.scope x:=by first |exact jD rfl |exact ZP (jD rfl) |exact ZP (ZP rfl))(hd:(x == ("__debug__":Str))=aD:=by decide)(hcd:(x == ("__classdict__":Str))=aD:=by decide)(hi:M.contains i=aD:=by rfl):QE X (.Name x pos) (cE .e M (dV i)):=VW hi (aj i hN hv hd hcd)
theorem aT{i:Int}{j:Nat}{pos:Pos}:QE X (.Constant (.int i) j pos) (cE .b M (dC (.int i))):=aN aW
end
end L3
namespace Dw
open PySem PySem.Spec PyProof.Rows L2 L3
def bd(i:Nat):QR:=Np.main.body.getD i (.Pass ⟨0,0,0,0⟩)
variable {v:Ev}
abbrev zG:QR:=bd 38
theorem Eu:FnScope ["_law_cell_here","_law_many","_law_letters","_law_size","_law_rest","_law_stem","_law_k","_law_spot","_law_made","_law_letter","_law_name"] ["_law_cell_here","_law_many"] (aZ zG):=bf
def vL:DS:=(aM (aa 2 (dC (.str "abcdefghijklmnopqrstuvwxyz")))
  (aM (aa 3 (d2 bK (dC (.int 1)) (d2 bo (dV 0) (dC (.int 8)))))
  (aM (aa 4 (d2 bo (d2 dM (dV 0) (dC (.int 8))) (d2 qB (dC (.int 10)) (dC (.int 18)))))
  (aM (aa 5 (dC (.str "")))
  (aM (cJ (fS (aF (dV 3) aJ)) (au 6)
  (aM (aa 5 (d2 bK (dV 5) (d2 aP (dV 2) (d2 bo (dV 4) (dC (.int 26))))))
  (aa 4 (d2 bK (d2 dM (dV 4) (dC (.int 26))) (d2 cv (dC (.int 5)) (dV 6))))))
  (aM (aa 7 (d2 bo (d2 dM (dV 0) (dC (.int 3))) (dV 3)))
  (aM (aa 8 (bz aJ))
  (aM (bU (dB (d2 bY (d2 bo (d2 dM (dV 0) (dC (.int 5))) (dC (.int 3))) (dC (.int 1)))) (aa 8 (dE iM (dF [8] [aB,aA 5] (tu (aF (dC (.int 1)) (aF (d2 bK (dV 3) (dC (.int 1))) aJ))) (au 0) dH (dE cP (dV 1) fG (eG (dV 0)))) fG (eG (dV 1)))) bW)
  (aM (bU (ot (dB (d2 bY (d2 bo (d2 dM (dV 0) (dC (.int 5))) (dC (.int 3))) (dC (.int 2)))) (dB (d2 fD (dV 1) (dC (.int 24))))) (aa 8 (dF [8] [aB,aA 2,aA 5,aA 4] (fS (aF (dV 1) aJ)) (au 0) dH (d2 bK (d2 bK (dE cP (dV 2) fG (eG (dC (.int 6)))) (d2 aP (dV 1) (d2 dM (dV 0) (dC (.int 5))))) (d2 aP (dV 1) (d2 bo (d2 bK (dV 0) (dV 3)) (dC (.int 26))))))) bW)
  (aM (cJ (bJ (dV 2)) (au 9)
  (aM (aa 10 (d2 bK (d2 bK (dE cP (dV 5) fG (eG (dV 7))) (dV 9)) (dE cP (dV 5) (eG (d2 bK (dV 7) (dC (.int 1)))) fG)))
  (bU (iq (dB (d2 r8 (d1 bS (dV 8)) (dV 1))) (dB (d2 dZ (dV 10) (dV 8)))) (iG (dt fT 8 (aF (dV 10) aJ))) bW)))
  (ak [] (dV 8))))))))))))
def zU:List T->Option T:=bM 11 vL
abbrev yq[TheK](v:Ev)(k:Nat):Prop:=Cl v k "_law_names" ["_law_cell_here","_law_many"] (bB .e 2 zU)
theorem Sf[tk:TheK](h:Here tk.K v.mg "_law_names" zG ["_law_cell_here","_law_many"])(m_range:v.mg "range"=aB)(m_len:v.mg "len"=aB):yq v 1:=by
 refine(h.vP 0 [] vL Eu λf cdv A outer s H E hr=>?_ :);have sc:=Eu;have hu:=cz hr;have hu8:=dv hr
 exact(aS (M':=[]) (bA (M':=[]) (ai (i:=2) sc.nd rfl (ZP rfl) l7))
  (aS (M':=[]) (bA (M':=[]) (ai (i:=3) sc.nd rfl (jD rfl) (cL aW (aN (dD (qV 0) aT)))))
  (aS (M':=[]) (bA (M':=[]) (ai (i:=4) sc.nd rfl (ZP rfl) (dD (f7 (qV 0) aT) (aN (xg aW aT)))))
  (aS (M':=[]) (bA (M':=[]) (ai (i:=5) sc.nd rfl (ZP rfl) l7))
  (aS (M':=[]) (eB (eF jH rfl (oX rfl m_range (aG (qV 3) aQ)) (iC (ao (i:=6) sc.nd rfl (jD rfl)))
  (aS (M':=[]) (bA (M':=[]) (ai (i:=5) sc.nd rfl (ZP rfl) (cL (qV 5) (aN (bL rfl hu (qV 2) (aN (dD (qV 4) aT)) (λ_ _=>rfl))))))
  (aU (bA (M':=[]) (ai (i:=4) sc.nd rfl (ZP rfl) (cL (f7 (qV 4) aT) (aN (dy aW (aN (qV 6)))))))))))
  (aS (M':=[]) (bA (M':=[]) (ai (i:=7) sc.nd rfl (jD rfl) (dD (f7 (qV 0) aT) (aN (qV 3)))))
  (aS (M':=[8]) (di (M':=[8]) (ai (i:=8) sc.nd rfl (jD rfl) (cX aQ)))
  (aS (M':=[8]) (cB (M':=[8]) (i7 hu8 (dD (f7 (qV 0) aT) aT) aT) (aU (di (M':=[8]) (ai (i:=8) sc.nd rfl (jD rfl) (Hd rfl (bi (i6 (Mi:=[]) rfl (fA (i:=0)) iB (iA (N:=["_law_k","_law_stem"]) (caps:=[aB,aA 5]) rfl (Ru rfl m_range (aG aW (aG (cL (qV 3) aT) aQ))) (λ_ _ _ _ _=>(ao (i:=0) (show (["_law_k","_law_stem"]:List Str).Nodup by decide +kernel) rfl (jD rfl))) eQ (λ_ _ _ _ _=>iE) (λ_ _ _ _ _=>(l6 rfl (qV 1) ig (iD (qV 0))))))) ig (iD (qV 1)))))) cM)
  (aS (M':=[8]) (cB (M':=[8]) (QW.pt (uG (i7 hu8 (dD (f7 (qV 0) aT) aT) aT) (uR (o9 (qV 1) aT)))) (aU (di (M':=[8]) (rY (Mi:=[]) rfl (fA (i:=0)) iB (sq (i:=8) sc.nd rfl rfl (N:=["_law_k","_law_letters","_law_stem","_law_rest"]) (caps:=[aB,aA 2,aA 5,aA 4]) rfl (oX rfl m_range (aG (qV 1) aQ)) (λ_ _ _ _ _=>(ao (i:=0) (show (["_law_k","_law_letters","_law_stem","_law_rest"]:List Str).Nodup by decide +kernel) rfl (jD rfl))) eQ (λ_ _ _ _ _=>iE) (λ_ _ _ _ _=>(cL (cL (l6 rfl (qV 2) ig (iD aW)) (aN (bL rfl hu (qV 1) (aN (f7 (qV 0) aT)) (λ_ _=>rfl)))) (aN (bL rfl hu (qV 1) (aN (dD (cL (qV 0) (aN (qV 3))) aT)) (λ_ _=>rfl))))))))) cM)
  (aS (M':=[8]) (eB (eF jH rfl (cY rfl (qV 2)) (iC (ao (i:=9) sc.nd rfl (jD rfl)))
  (aS (M':=[8]) (bA (M':=[8]) (ai (i:=10) sc.nd rfl (jD rfl) (cL (cL (l6 rfl (qV 5) ig (iD (qV 7))) (aN (qV 9))) (aN (l6 rfl (qV 5) (iD (cL (qV 7) aT)) ig)))))
  (aU (cB (M':=[8]) (QW.pt (rm (Bm (dW rfl rfl m_len (f8 rfl (aj 8))) (aN (qV 1))) (ug (oY hu (qV 10) (f8 rfl (aj 8)) (by with_unfolding_all rfl))))) (aU (iZ (.inl rfl) (qk rfl (l9 jS QL QM oW (aj 8) (aG (qV 10) aQ))))) cM)))))
  (aU (rj (M':=[]) (az (qV 8))))))))))))))
abbrev yk:QR:=bd 37
theorem EH:FnScope ["_law_bag_here","_law_many","_law_found"] ["_law_bag_here","_law_many"] (aZ yk):=bf
def v6:DS:=(aM (bU (dB (d2 fD (bh aP 0 (dC (.int 0))) (dC (.int 0)))) (aM (aa 2 (d2 bo (bh aP 0 (dC (.int 0))) (dV 1)))
  (aM (nJ 0 (dC (.int 0)) (d2 dM (bh aP 0 (dC (.int 0))) (dV 1)))
  (ak [0] (dV 2)))) bW)
  (aM (nJ 0 (dC (.int 1)) (d2 bo (d2 bK (d2 cv (bh aP 0 (dC (.int 1))) (dC (.int 48271))) (dC (.int 4099))) (dC (.int 2147483647))))
  (ak [0] (d2 bo (d2 dM (d2 bo (d2 cv (bh aP 0 (dC (.int 1))) (d2 bK (d2 dM (bh aP 0 (dC (.int 1))) (dC (.int 65536))) (dC (.int 7)))) (dC (.int 2147483629))) (dC (.int 32))) (dV 1)))))
def lh:List T->Option (T × T):=fN 3 v6
abbrev sS[TheK](v:Ev)(k:Nat):Prop:=Cl v k "_law_draw" ["_law_bag_here","_law_many"] (fB .e 2 lh)
theorem Rf[tk:TheK](h:Here tk.K v.mg "_law_draw" yk ["_law_bag_here","_law_many"]):sS v 1:=by
 refine(h.vI 0 [] v6 EH λf cdv A outer s H E hr=>?_ :);have sc:=EH;have hu:=cz hr
 exact(aS (M':=[0]) (cB (M':=[0]) (o9 (fV rfl rfl hu (aj 0) aT (λ_ _=>rfl)) aT) (aS (M':=[0]) (bA (M':=[0]) (ai (i:=2) sc.nd rfl (jD rfl) (dD (fV rfl rfl hu (aj 0) aT (λ_ _=>rfl)) (aN (qV 1)))))
  (aS (M':=[0]) (uf rfl (oR (f7 (fV rfl rfl hu (aj 0) aT (λ_ _=>rfl)) (aN (qV 1))) (ue (aj 0) aW vD)))
  (aU (az (qV 2))))) cM)
  (aS (M':=[0]) (uf rfl (oR (dD (cL (dy (fV rfl rfl hu (aj 0) aT (λ_ _=>rfl)) aT) aT) aT) (ue (aj 0) aW vD)))
  (aU (az (dD (f7 (dD (dy (fV rfl rfl hu (aj 0) aT (λ_ _=>rfl)) (aN (cL (f7 (fV rfl rfl hu (aj 0) aT (λ_ _=>rfl)) aT) aT))) aT) aT) (aN (qV 1)))))))
abbrev AK:QR:=bd 40
theorem FX:FnScope ["_law_bag_here","_law_names_here","_law_forms","_law_made","_law_left","_law_form_of","_law_at"] ["_law_bag_here","_law_names_here"] (aZ AK):=bf
def wE:DS:=(aM (aa 2 (bz (aF (bz (aF (dC (.int 0)) (aF (dC (.int 0)) aJ))) (aF (bz (aF (dC (.int 0)) (aF (dC (.int 1)) (aF (dC (.int 2)) (aF (dC (.int 0)) (aF (dC (.int 1)) (aF (dC (.int 2)) aJ))))))) (aF (bz (aF (dC (.int 0)) (aF (dC (.int 1)) (aF (dC (.int 2)) (aF (dC (.int 0)) (aF (dC (.int 3)) (aF (dC (.int 2)) (aF (dC (.int 1)) (aF (dC (.int 3)) aJ))))))))) (aF (bz (aF (dC (.int 0)) (aF (dC (.int 1)) (aF (dC (.int 2)) (aF (dC (.int 3)) (aF (dC (.int 4)) (aF (dC (.int 0)) (aF (dC (.int 1)) (aF (dC (.int 2)) (aF (dC (.int 3)) (aF (dC (.int 4)) aJ))))))))))) (aF (bz (aF (dC (.int 0)) (aF (dC (.int 1)) (aF (dC (.int 1)) (aF (dC (.int 0)) aJ))))) aJ)))))))
  (aM (aa 2 (d2 bK (dV 2) (bz (aF (bz (aF (dC (.int 0)) (aF (dC (.int 1)) (aF (dC (.int 2)) (aF (dC (.int 3)) (aF (dC (.int 4)) (aF (dC (.int 2)) (aF (dC (.int 1)) (aF (dC (.int 0)) (aF (dC (.int 3)) (aF (dC (.int 4)) aJ))))))))))) (aF (bz (aF (dC (.int 0)) (aF (dC (.int 1)) (aF (dC (.int 2)) (aF (dC (.int 3)) (aF (dC (.int 1)) (aF (dC (.int 0)) (aF (dC (.int 3)) (aF (dC (.int 2)) aJ))))))))) aJ)))))
  (aM (aa 3 (bz aJ))
  (aM (aa 4 (d1 i9 (dV 1)))
  (aM (eM (dB (d2 fD (d1 bS (dV 4)) (dC (.int 0))))
  (aM (aa 5 (d2 aP (dV 2) (lR lh 0 (aF (dC (.int 7)) aJ))))
  (aM (bU (dB (d2 Am (d1 rS (dV 5)) (d1 bS (dV 4)))) (aa 5 (d2 aP (dV 2) (dC (.int 0)))) bW)
  (aM (aa 6 (lR lh 0 (aF (d2 bK (d1 bS (dV 3)) (dC (.int 1))) aJ)))
  (aM (aa 3 (d2 bK (d2 bK (dE cP (dV 3) fG (eG (dV 6))) (dF [0] [aB,aA 4] (bJ (dV 5)) (au 0) dH (d2 aP (dV 1) (dV 0)))) (dE cP (dV 3) (eG (dV 6)) fG)))
  (aa 4 (dE cP (dV 4) (eG (d2 bK (d1 rS (dV 5)) (dC (.int 1)))) fG)))))) 100)
  (ak [0] (dV 3)))))))
def AB:List T->Option (T × T):=fN 7 wE
abbrev A8[TheK](v:Ev)(k:Nat):Prop:=Cl v k "_law_built_word" ["_law_bag_here","_law_names_here"] (fB .e 2 AB)
theorem Ur[tk:TheK](h:Here tk.K v.mg "_law_built_word" AK ["_law_bag_here","_law_names_here"])(pd:sS v 1)(m_list:v.mg "list"=aB)(m_len:v.mg "len"=aB)(m_max:v.mg "max"=aB):A8 v 2:=by
 refine(h.vI 1 [] wE FX λf cdv A outer s H E hr=>?_ :);have sc:=FX;have hu:=cz hr
 exact(aS (M':=[0]) (bA (M':=[0]) (ai (i:=2) sc.nd rfl (jD rfl) (bi (cX (aG (bi (cX (aG aW (aG aW aQ)))) (aG (bi (cX (aG aW (aG aW (aG aW (aG aW (aG aW (aG aW aQ)))))))) (aG (bi (cX (aG aW (aG aW (aG aW (aG aW (aG aW (aG aW (aG aW (aG aW aQ)))))))))) (aG (bi (cX (aG aW (aG aW (aG aW (aG aW (aG aW (aG aW (aG aW (aG aW (aG aW (aG aW aQ)))))))))))) (aG (bi (cX (aG aW (aG aW (aG aW (aG aW aQ)))))) aQ)))))))))
  (aS (M':=[0]) (bA (M':=[0]) (ai (i:=2) sc.nd rfl (jD rfl) (cL (qV 2) (lj (cX (aG (bi (cX (aG aW (aG aW (aG aW (aG aW (aG aW (aG aW (aG aW (aG aW (aG aW (aG aW aQ)))))))))))) (aG (bi (cX (aG aW (aG aW (aG aW (aG aW (aG aW (aG aW (aG aW (aG aW aQ)))))))))) aQ)))))))
  (aS (M':=[0]) (bA (M':=[0]) (ai (i:=3) sc.nd rfl (jD rfl) (bi (cX aQ))))
  (aS (M':=[0]) (bA (M':=[0]) (ai (i:=4) sc.nd rfl (ZP rfl) (bi (qh rfl rfl rfl m_list (aN (qV 1))))))
  (aS (M':=[0]) (oV 100 jH (o9 (dW rfl rfl m_len (aN (qV 4))) aT)
  (aS (M':=[0]) (bA (M':=[0]) (ai (i:=5) sc.nd rfl (jD rfl) (bL rfl hu (qV 2) (aN (wS rfl pd hr rfl (aj 0) (aG aW aQ) d7)) (λ_ _=>rfl))))
  (aS (M':=[0]) (cB (M':=[0]) (Hh (DF rfl rfl rfl m_max (aN (qV 5))) (aN (dW rfl rfl m_len (aN (qV 4))))) (aU (bA (M':=[0]) (ai (i:=5) sc.nd rfl (jD rfl) (bL rfl hu (qV 2) aT (λ_ _=>rfl))))) cM)
  (aS (M':=[0]) (bA (M':=[0]) (ai (i:=6) sc.nd rfl (jD rfl) (wS rfl pd hr rfl (aj 0) (aG (cL (dW rfl rfl m_len (aN (qV 3))) aT) aQ) d7)))
  (aS (M':=[0]) (bA (M':=[0]) (ai (i:=3) sc.nd rfl (jD rfl) (cL (cL (l6 rfl (qV 3) ig (iD (qV 6))) (lj (i6 (Mi:=[]) rfl (fA (i:=0)) iB (iA (N:=["_law_k","_law_left"]) (caps:=[aB,aA 4]) rfl (cY rfl (qV 5)) (λ_ _ _ _ _=>(ao (i:=0) (show (["_law_k","_law_left"]:List Str).Nodup by decide +kernel) rfl (jD rfl))) eQ (λ_ _ _ _ _=>iE) (λ_ _ _ _ _=>(bL rfl hu (qV 1) (aN (qV 0)) (λ_ _=>rfl))))))) (aN (l6 rfl (qV 3) (iD (qV 6)) ig)))))
  (aU (bA (M':=[0]) (ai (i:=4) sc.nd rfl (ZP rfl) (l6 rfl (qV 4) (iD (cL (DF rfl rfl rfl m_max (aN (qV 5))) aT)) ig)))))))))
  (aU (az (qV 3))))))))
abbrev A3:QR:=bd 39
theorem FS:FnScope ["_law_bag_here","_law_names_here","_law_free","_law_made","_law_name","_law_at"] ["_law_bag_here","_law_names_here"] (aZ A3):=bf
def vq:DS:=(aM (aa 2 (An (aF (d2 cv (dC (.int 2)) (d1 bS (dV 1))) aJ)))
  (aM (aa 3 (dF [0] [aB] (bJ (dV 2)) (au 0) dH (dC (.str ""))))
  (aM (cJ (bJ (dV 1)) (au 4)
  (aM (nJ 3 (d2 aP (dV 2) (dC (.int 0))) (dV 4))
  (aM (aa 5 (d2 aP (dV 2) (d2 bK (dC (.int 1)) (lR lh 0 (aF (d2 ln (d1 bS (dV 2)) (dC (.int 1))) aJ)))))
  (aM (nJ 3 (dV 5) (dV 4))
  (aa 2 (dF [0,3] [aB,aA 5] (bJ (dE cP (dV 2) (eG (dC (.int 1))) fG)) (au 0) (dB (d2 cc (dV 0) (dV 1))) (dV 0)))))))
  (ak [0] (dV 3)))))
def zv:List T->Option (T × T):=fN 6 vq
abbrev zm[TheK](v:Ev)(k:Nat):Prop:=Cl v k "_law_any_word" ["_law_bag_here","_law_names_here"] (fB .e 2 zv)
theorem UH[tk:TheK](h:Here tk.K v.mg "_law_any_word" A3 ["_law_bag_here","_law_names_here"])(pd:sS v 1)(m_list:v.mg "list"=aB)(m_range:v.mg "range"=aB)(m_len:v.mg "len"=aB):zm v 2:=by
 refine(h.vI 1 [] vq FS λf cdv A outer s H E hr=>?_ :);have sc:=FS;have hu:=cz hr;have hu8:=dv hr
 exact(aS (M':=[0]) (bA (M':=[0]) (ai (i:=2) sc.nd rfl (jD rfl) (bi (Tq rfl rfl m_list rfl m_range (aG (dy aW (aN (dW rfl rfl m_len (aN (qV 1))))) aQ)))))
  (aS (M':=[0,3]) (di (M':=[0,3]) (rY (Mi:=[]) rfl (fA (i:=0)) iB (sq (i:=3) sc.nd rfl rfl (N:=["_law_at"]) (caps:=[aB]) rfl (cY rfl (qV 2)) (λ_ _ _ _ _=>(ao (i:=0) (show (["_law_at"]:List Str).Nodup by decide +kernel) rfl (jD rfl))) eQ (λ_ _ _ _ _=>iE) (λ_ _ _ _ _=>l7))))
  (aS (M':=[0,3]) (eB (eF jH rfl (cY rfl (qV 1)) (iC (ao (i:=4) sc.nd rfl (jD rfl)))
  (aS (M':=[0,3]) (uf rfl (oR (qV 4) (ue (aj 3) (bL rfl hu (qV 2) aT (λ_ _=>rfl)) vD)))
  (aS (M':=[0,3]) (bA (M':=[0,3]) (ai (i:=5) sc.nd rfl (ZP rfl) (bL rfl hu (qV 2) (aN (cL aW (aN (wS rfl pd hr rfl (aj 0) (aG (qX (dW rfl rfl m_len (aN (qV 2))) aT) aQ) d7)))) (λ_ _=>rfl))))
  (aS (M':=[0,3]) (uf rfl (oR (qV 4) (ue (aj 3) (qV 5) vD)))
  (aU (bA (M':=[0,3]) (xD (rY (Mi:=[]) rfl (fA (i:=0)) (λ_ _ _ h=>h) (sq (i:=2) sc.nd rfl rfl (N:=["_law_spot","_law_at"]) (caps:=[aB,aA 5]) rfl (cY rfl (l6 rfl (qV 2) (iD aW) ig)) (λ_ _ _ _ _=>(ao (i:=0) (show (["_law_spot","_law_at"]:List Str).Nodup by decide +kernel) rfl (jD rfl))) eQ (λ_ _ _ _ _=>(oU (nI hu8 (qV 0) (aN (qV 1))))) (λ_ _ _ _ _=>(qV 0))))))))))))
  (aU (rj (M':=[0]) (az (qV 3)))))))
abbrev yI:QR:=bd 36
theorem RN:FnScope ["_law_cell_here"] ["_law_cell_here"] (aZ yI):=bf
def ut:DS:=(ak [] (bz (aF (d2 cv (d2 bo (d2 dM (dV 0) (dC (.int 2))) (d2 xE (d2 qB (dC (.int 10)) (dC (.int 40))) (d2 qB (dC (.int 10)) (dC (.int 40))))) (d2 bo (dV 0) (dC (.int 2)))) (aF (d2 bo (d2 dM (dV 0) (dC (.int 2))) (dC (.int 2147483647))) aJ))))
def qf:List T->Option T:=iw 1 ut
abbrev ul[TheK](v:Ev)(k:Nat):Prop:=Cl v k "_law_bag" ["_law_cell_here"] (bB .n 1 qf)
theorem Pa[tk:TheK](h:Here tk.K v.mg "_law_bag" yI ["_law_cell_here"]):ul v 1:=by
 refine(h.vN 0 [] ut RN λf cdv A outer s H E hr=>?_ :);exact(aU (DQ (cX (aG (dy (dD (f7 (qV 0) aT) (aN (OL (xg aW aT) (aN (xg aW aT))))) (aN (dD (qV 0) aT))) (aG (dD (f7 (qV 0) aT) aT) aQ)))))
abbrev ym:QR:=bd 41
theorem Sl:FnScope ["_law_cell_here","_law_names_here"] ["_law_cell_here","_law_names_here"] (aZ ym):=bf
def v7:DS:=(aM (bU (dB (d2 bY (d2 bo (dV 0) (dC (.int 2))) (dC (.int 1)))) (ak [] (oJ zv (ae qf (aF (dV 0) aJ)) (aF (dE cP (dV 1) fG (eG (dC (.int 8)))) aJ))) bW)
  (ak [] (oJ AB (ae qf (aF (d2 dM (dV 0) (dC (.int 2))) aJ)) (aF (dV 1) aJ))))
def yy:List T->Option T:=bM 2 v7
abbrev ye[TheK](v:Ev)(k:Nat):Prop:=Cl v k "_law_word" ["_law_cell_here","_law_names_here"] (bB .e 2 yy)
theorem Rg[tk:TheK](h:Here tk.K v.mg "_law_word" ym ["_law_cell_here","_law_names_here"])(mC:zm v 2)(px:ul v 2)(kh:A8 v 2):ye v 3:=by
 refine(h.vP 2 [] v7 Sl λf cdv A outer s H E hr=>?_ :);have hu8:=dv hr
 exact(aS (M':=[]) (cB (M':=[]) (i7 hu8 (dD (qV 0) aT) aT) (aU (az (Ah (.inl rfl) mC hr rfl (om px hr rfl (aG (qV 0) aQ) d7) (aG (l6 rfl (qV 1) ig (iD aW)) aQ) d7))) cM)
  (aU (az (Ah (.inl rfl) kh hr rfl (om px hr rfl (aG (f7 (qV 0) aT) aQ) d7) (aG (qV 1) aQ) d7))))
abbrev yj:QR:=bd 35
theorem Sk:FnScope ["_law_script","_law_k"] ["_law_script","_law_k"] (aZ yj):=bf
def yg:DS:=(aM (bU (dB (d2 r8 (dV 1) (d1 bS (dV 0)))) (ak [] (d2 aP (dV 0) (dV 1))) bW)
  (ak [] (dC (.int 0))))
def iL:List T->Option T:=bM 2 yg
abbrev yd[TheK](v:Ev)(k:Nat):Prop:=Cl v k "_law_cell" ["_law_script","_law_k"] (bB .e 2 iL)
theorem Re[tk:TheK](h:Here tk.K v.mg "_law_cell" yj ["_law_script","_law_k"])(m_len:v.mg "len"=aB):yd v 1:=by
 refine(h.vP 0 [] yg Sk λf cdv A outer s H E hr=>?_ :);have hu:=cz hr
 exact(aS (M':=[]) (cB (M':=[]) (Bm (qV 1) (aN (dW rfl rfl m_len (aN (qV 0))))) (aU (az (bL rfl hu (qV 0) (aN (qV 1)) (λ_ _=>rfl)))) cM)
  (aU (az aW)))
abbrev A4:QR:=bd 4
theorem UT:FnScope ["word"] ["word"] (aZ A4):=bf
def vt:DS:=(ak [] (d1 i9 (ls [] [aB] (bJ (dV 0)) (au 0) dH (dV 0) (dC (.bl aC)))))
def lE:List T->Option T:=bM 1 vt
abbrev qu[TheK](v:Ev)(k:Nat):Prop:=Cl v k "names_of" ["word"] (bB .e 1 lE)
theorem UI[tk:TheK](h:Here tk.K v.mg "names_of" A4 ["word"])(m_list:v.mg "list"=aB):qu v 1:=by
 refine(h.vP 0 [] vt UT λf cdv A outer s H E hr=>?_ :);exact(aU (az (bi (qh rfl rfl rfl m_list (lj (Ha (Mi:=[]) rfl (fA (i:=0)) iB (Ld (N:=["name"]) (caps:=[aB]) rfl (cY rfl (qV 0)) (λ_ _ _ _ _=>(ao (i:=0) (show (["name"]:List Str).Nodup by decide +kernel) rfl (jD rfl))) eQ (λ_ _ _ _ _=>iE) (λ_ _ _ _ _=>(qV 0)) (λ_ _ _ _ _=>rR))))))))
abbrev A5:QR:=bd 10
theorem FT:FnScope ["mates","name"] ["mates"] (aZ A5):=bf
def t9:DS:=(aM (cJ (bJ (dV 0)) (au 1)
  (bU (dB (d2 bY (d2 bo (d1 bS (d2 aP (dV 0) (dV 1))) (dC (.int 2))) (dC (.int 1)))) (ak [] (dV 1)) bW))
  (ak [] (dC .non)))
def zw:List T->Option T:=bM 2 t9
abbrev zp[TheK](v:Ev)(k:Nat):Prop:=Cl v k "odd_name" ["mates"] (bB .e 1 zw)
theorem UJ[tk:TheK](h:Here tk.K v.mg "odd_name" A5 ["mates"])(m_len:v.mg "len"=aB):zp v 1:=by
 refine(h.vP 0 [] t9 FT λf cdv A outer s H E hr=>?_ :);have sc:=FT;have hu:=cz hr;have hu8:=dv hr
 exact(aS (M':=[]) (eB (eF jH rfl (cY rfl (qV 0)) (iC (ao (i:=1) sc.nd rfl (jD rfl)))
  (aU (cB (M':=[]) (i7 hu8 (dD (dW rfl rfl m_len (aN (bL rfl hu (qV 0) (aN (qV 1)) (λ_ _=>rfl)))) aT) aT) (aU (az (qV 1))) cM))))
  (aU (az l5)))
abbrev AZ:QR:=bd 11
theorem V8:FnScope ["mates","one","other"] ["mates","one","other"] (aZ AZ):=bf
def wK:DS:=(ak [] (d2 bY (d2 bo (d2 uY (d2 aP (dV 0) (dV 1)) (d2 aP (dV 0) (dV 2))) (dC (.int 2))) (dC (.int 0))))
def wM:List T->Option T:=bM 3 wK
abbrev wJ[TheK](v:Ev)(k:Nat):Prop:=Cl v k "evenly_shared" ["mates","one","other"] (bB .e 3 wM)
theorem V5[tk:TheK](h:Here tk.K v.mg "evenly_shared" AZ ["mates","one","other"])(m_len:v.mg "len"=aB)(m_set:v.mg "set"=aB):wJ v 1:=by
 refine(h.vP 0 [] wK V8 λf cdv A outer s H E hr=>?_ :);have hu:=cz hr;have hu8:=dv hr;exact(aU (az (qL hu8 (dD (Rs rfl rfl rfl m_len rfl m_set (aN (bL rfl hu (qV 0) (aN (qV 1)) (λ_ _=>rfl))) (aN (bL rfl hu (qV 0) (aN (qV 2)) (λ_ _=>rfl)))) aT) aT)))
abbrev A6:QR:=bd 12
theorem FU:FnScope ["mates","one","other","apart"] ["mates"] (aZ A6):=bf
def tD:DS:=(aM (cJ (bJ (dV 0)) (au 1)
  (cJ (bJ (dV 0)) (au 2)
  (aM (aa 3 (oB (d2 cc (dV 2) (dV 1)) (d2 dZ (dV 2) (d2 aP (dV 0) (dV 1)))))
  (bU (iq (fJ (dV 3)) (q5 (fJ (ae wM (aF (dV 0) (aF (dV 1) (aF (dV 2) aJ))))))) (ak [] (du (aF (dV 1) (aF (dV 2) aJ)))) bW))))
  (ak [] (dC .non)))
def zx:List T->Option T:=bM 4 tD
abbrev zq[TheK](v:Ev)(k:Nat):Prop:=Cl v k "odd_pair" ["mates"] (bB .e 1 zx)
theorem UK[tk:TheK](h:Here tk.K v.mg "odd_pair" A6 ["mates"])(pC:wJ v 1):zq v 2:=by
 refine(h.vP 1 [] tD FU λf cdv A outer s H E hr=>?_ :);have sc:=FU;have hu:=cz hr;have hu8:=dv hr
 exact(aS (M':=[]) (eB (eF jH rfl (cY rfl (qV 0)) (iC (ao (i:=1) sc.nd rfl (jD rfl)))
  (aU (eB (eF jH rfl (cY rfl (qV 0)) (iC (ao (i:=2) sc.nd rfl (jD rfl)))
  (aS (M':=[]) (bA (M':=[]) (ai (i:=3) sc.nd rfl (jD rfl) (rh (Hb hu8 (qV 2) (aN (qV 1))) (uO (Rt hu (qV 2) (aN (bL rfl hu (qV 0) (aN (qV 1)) (λ_ _=>rfl))) (by with_unfolding_all rfl))))))
  (aU (cB (M':=[]) (QW.pt (rm (lA (aN (qV 3))) (ug (uQ (lA (aN (qc pC hr rfl (aG (qV 0) (aG (qV 1) (aG (qV 2) aQ))) rC))))))) (aU (az (iI (aG (qV 1) (aG (qV 2) aQ))))) cM))))))))
  (aU (az l5)))
abbrev AM:QR:=bd 14
theorem FZ:FnScope ["mates","origins","beginning","waiting","name","fresh","mate"] ["mates"] (aZ AM):=bf
def t6:DS:=(aM (aa 1 oC)
  (aM (cJ (bJ (dV 0)) (au 2)
  (bU (dB (d2 dZ (dV 2) (dV 1))) (aM (iY 1 (dV 2) (dC .non))
  (aM (aa 3 (bz (aF (dV 2) aJ)))
  (eM (fJ (dV 3))
  (aM (aa 4 (dt ip 3 aJ))
  (aM (aa 5 (dF [1,3] [aB,aA 1] (bJ (d2 aP (dV 0) (dV 4))) (au 0) (dB (d2 dZ (dV 0) (dV 1))) (dV 0)))
  (aM (cJ (bJ (dV 5)) (au 6)
  (iY 1 (dV 6) (dV 4)))
  (iG (dt nE 3 (aF (dV 5) aJ)))))) 100))) bW))
  (n9 1 (ak [] (dV 1)))))
def AD:List T->Option T:=bM 7 t6
abbrev AI[TheK](v:Ev)(k:Nat):Prop:=Cl v k "found_from" ["mates"] (bB .e 1 AD)
theorem Ut[tk:TheK](h:Here tk.K v.mg "found_from" AM ["mates"]):AI v 1:=by
 refine(h.vP 0 [] t6 FZ λf cdv A outer s H E hr=>?_ :);have sc:=FZ;have hu:=cz hr
 exact(aS (M':=[1]) (di (M':=[1]) (ai (i:=1) sc.nd rfl (ZP rfl) sQ))
  (aS (M':=[1]) (eB (eF jH rfl (cY rfl (qV 0)) (iC (ao (i:=2) sc.nd rfl (jD rfl)))
  (aU (cB (M':=[1]) (oY hu (qV 2) (f8 rfl (aj 1)) (by with_unfolding_all rfl)) (yZ (M':=[1,3]) (aS (M':=[1]) (nP rfl (nX hu (aj 1) (qV 2) l5 rfl))
  (aS (M':=[1,3]) (di (M':=[1,3]) (ai (i:=3) sc.nd rfl (jD rfl) (cX (aG (qV 2) aQ))))
  (aU (oV 100 jH (lA (f8 rfl (aj 3)))
  (aS (M':=[1,3]) (bA (M':=[1,3]) (ai (i:=4) sc.nd rfl (jD rfl) (uP rfl (ud jS gb gc uL (aj 3)))))
  (aS (M':=[1,3]) (bA (M':=[1,3]) (xD (rY (Mi:=[1]) rfl (fA (i:=0)) (λ_ _ _ h=>h) (sq (i:=5) sc.nd rfl rfl (N:=["mate","origins"]) (caps:=[aB,aA 1]) rfl (cY rfl (bL rfl hu (qV 0) (aN (qV 4)) (λ_ _=>rfl))) (λ_ _ _ _ _=>(ao (i:=0) (show (["mate","origins"]:List Str).Nodup by decide +kernel) rfl (jD rfl))) eQ (λ_ _ _ _ _=>(oU (oY hu (qV 0) (f8 rfl (aj 1)) (by with_unfolding_all rfl)))) (λ_ _ _ _ _=>(qV 0))))))
  (aS (M':=[1,3]) (eB (eF jH rfl (cY rfl (qV 5)) (iC (ao (i:=6) sc.nd rfl (jD rfl)))
  (aU (nP rfl (nX hu (aj 1) (qV 6) (qV 4) rfl)))))
  (aU (iZ (.inl rfl) (ED rfl (l9 jS YT YU EB (aj 3) (aG (qV 5) aQ))))))))))))) cM))))
  (aU (rX (i:=1) (M':=[]) (az (qV 1))))))
abbrev AF:QR:=bd 15
theorem Uy:FnScope ["mates","sides","name","mate"] ["mates","sides","name","mate"] (aZ AF):=bf
def wH:DS:=(ak [] (rA (fJ (ae wM (aF (dV 0) (aF (dV 2) (aF (dV 3) aJ))))) (d2 ln (dC (.int 1)) (d2 aP (dV 1) (dV 2))) (d2 aP (dV 1) (dV 2))))
def wD:List T->Option T:=bM 4 wH
abbrev wG[TheK](v:Ev)(k:Nat):Prop:=Cl v k "side_beside" ["mates","sides","name","mate"] (bB .e 4 wD)
theorem Uw[tk:TheK](h:Here tk.K v.mg "side_beside" AF ["mates","sides","name","mate"])(pC:wJ v 1):wG v 2:=by
 refine(h.vP 1 [] wH Uy λf cdv A outer s H E hr=>?_ :);have hu:=cz hr;exact(aU (az (xB (lA (aN (qc pC hr rfl (aG (qV 0) (aG (qV 2) (aG (qV 3) aQ))) rC))) (qX aW (aN (bL rfl hu (qV 1) (aN (qV 2)) (λ_ _=>rfl)))) (bL rfl hu (qV 1) (aN (qV 2)) (λ_ _=>rfl)))))
abbrev AG:QR:=bd 16
theorem Fc:FnScope ["mates","origins","sides","name","origin"] ["mates","origins"] (aZ AG):=bf
def wI:DS:=(aM (aa 2 oC)
  (aM (cJ (bJ (dV 1)) (au 3)
  (aM (aa 4 (d2 aP (dV 1) (dV 3)))
  (iY 2 (dV 3) (rA (dB (d2 oo (dV 4) (dC .non))) (dC (.int 0)) (sG wD 2 (dV 0) (aF (dV 4) (aF (dV 3) aJ)))))))
  (n9 2 (ak [] (dV 2)))))
def AR:List T->Option T:=bM 5 wI
abbrev A9[TheK](v:Ev)(k:Nat):Prop:=Cl v k "sides_along" ["mates","origins"] (bB .e 2 AR)
theorem Ux[tk:TheK](h:Here tk.K v.mg "sides_along" AG ["mates","origins"])(pB:wG v 2):A9 v 3:=by
 refine(h.vP 2 [] wI Fc λf cdv A outer s H E hr=>?_ :);have sc:=Fc;have hu:=cz hr
 exact(aS (M':=[2]) (di (M':=[2]) (ai (i:=2) sc.nd rfl (jD rfl) sQ))
  (aS (M':=[2]) (eB (eF jH rfl (cY rfl (qV 1)) (iC (ao (i:=3) sc.nd rfl (jD rfl)))
  (aS (M':=[2]) (bA (M':=[2]) (ai (i:=4) sc.nd rfl (jD rfl) (bL rfl hu (qV 1) (aN (qV 3)) (λ_ _=>rfl))))
  (aU (nP rfl (nX hu (aj 2) (qV 3) (xB (Bl (qV 4) (aN l5)) aW (Gh rfl pB hr rfl (qV 0) (aj 2) (aG (qV 4) (aG (qV 3) aQ)) cj)) rfl))))))
  (aU (rX (i:=2) (M':=[]) (az (qV 2))))))
abbrev AN:QR:=bd 17
theorem Fa:FnScope ["mates","sides","name","mate"] ["mates","sides"] (aZ AN):=bf
def t7:DS:=(aM (cJ (bJ (dV 0)) (au 2)
  (cJ (bJ (d2 aP (dV 0) (dV 2))) (au 3)
  (bU (dB (d2 cc (ae wD (aF (dV 0) (aF (dV 1) (aF (dV 2) (aF (dV 3) aJ))))) (d2 aP (dV 1) (dV 3)))) (ak [] (du (aF (dV 2) (aF (dV 3) aJ)))) bW)))
  (ak [] (dC .non)))
def AE:List T->Option T:=bM 4 t7
abbrev AJ[TheK](v:Ev)(k:Nat):Prop:=Cl v k "wrong_step" ["mates","sides"] (bB .e 2 AE)
theorem Uu[tk:TheK](h:Here tk.K v.mg "wrong_step" AN ["mates","sides"])(pB:wG v 2):AJ v 3:=by
 refine(h.vP 2 [] t7 Fa λf cdv A outer s H E hr=>?_ :);have sc:=Fa;have hu:=cz hr;have hu8:=dv hr
 exact(aS (M':=[]) (eB (eF jH rfl (cY rfl (qV 0)) (iC (ao (i:=2) sc.nd rfl (jD rfl)))
  (aU (eB (eF jH rfl (cY rfl (bL rfl hu (qV 0) (aN (qV 2)) (λ_ _=>rfl))) (iC (ao (i:=3) sc.nd rfl (jD rfl)))
  (aU (cB (M':=[]) (nI hu8 (qc pB hr rfl (aG (qV 0) (aG (qV 1) (aG (qV 2) (aG (qV 3) aQ)))) Ve) (aN (bL rfl hu (qV 1) (aN (qV 3)) (λ_ _=>rfl)))) (aU (az (iI (aG (qV 2) (aG (qV 3) aQ))))) cM)))))))
  (aU (az l5)))
abbrev A7:QR:=bd 18
theorem FV:FnScope ["origins","name","way"] ["origins","name"] (aZ A7):=bf
def vw:DS:=(aM (aa 2 (bz (aF (dV 1) aJ)))
  (aM (eM (dB (d2 eN (d2 aP (dV 0) (bh aP 2 (d1 iT (dC (.int 1))))) (dC .non)))
  (iG (dt fT 2 (aF (d2 aP (dV 0) (bh aP 2 (d1 iT (dC (.int 1))))) aJ))) 100)
  (ak [] (dV 2))))
def vo:List T->Option T:=iw 3 vw
abbrev zr[TheK](v:Ev)(k:Nat):Prop:=Cl v k "way_back" ["origins","name"] (bB .n 2 vo)
theorem UL[tk:TheK](h:Here tk.K v.mg "way_back" A7 ["origins","name"]):zr v 1:=by
 refine(h.vN 0 [] vw FV λf cdv A outer s H E hr=>?_ :);have sc:=FV;have hu:=cz hr
 exact(aS (M':=[2]) (di (M':=[2]) (ai (i:=2) sc.nd rfl (jD rfl) (cX (aG (qV 1) aQ))))
  (aS (M':=[2]) (oV 100 jH (vB (bL rfl hu (qV 0) (aN (fV rfl rfl hu (aj 2) (aN (qW aT)) (λ_ _=>rfl))) (λ_ _=>rfl)) (aN l5))
  (aU (iZ (.inl rfl) (qk rfl (l9 jS QL QM oW (aj 2) (aG (bL rfl hu (qV 0) (aN (fV rfl rfl hu (aj 2) (aN (qW aT)) (λ_ _=>rfl))) (λ_ _=>rfl)) aQ))))))
  (aU (OO rfl rfl (aj 2)))))
abbrev AU:QR:=bd 19
theorem Fg:FnScope ["origins","one","other","far","near"] ["origins","one","other"] (aZ AU):=bf
def tE:DS:=(aM (aa 3 (ae vo (aF (dV 0) (aF (dV 1) aJ))))
  (aM (aa 4 (ae vo (aF (dV 0) (aF (dV 2) aJ))))
  (aM (eM (iq (dB (d2 fD (d1 bS (dV 3)) (dC (.int 1)))) (iq (dB (d2 fD (d1 bS (dV 4)) (dC (.int 1)))) (dB (d2 bY (bh aP 3 (d1 iT (dC (.int 2)))) (bh aP 4 (d1 iT (dC (.int 2))))))))
  (aM (iG (dt ip 3 aJ))
  (iG (dt ip 4 aJ))) 100)
  (ak [] (bh lJ 3 (wm (tw iM 4 fG (eG (d1 iT (dC (.int 1))))) (eG (d1 iT (dC (.int 1))))))))))
def AY:List T->Option T:=bM 5 tE
abbrev AQ[TheK](v:Ev)(k:Nat):Prop:=Cl v k "ring_through" ["origins","one","other"] (bB .e 3 AY)
theorem V3[tk:TheK](h:Here tk.K v.mg "ring_through" AU ["origins","one","other"])(pO:zr v 1)(m_len:v.mg "len"=aB):AQ v 2:=by
 refine(h.vP 1 [] tE Fg λf cdv A outer s H E hr=>?_ :);have sc:=Fg;have hu:=cz hr;have hu8:=dv hr
 exact(aS (M':=[3]) (di (M':=[3]) (ai (i:=3) sc.nd rfl (jD rfl) (om pO hr rfl (aG (qV 0) (aG (qV 1) aQ)) cj)))
  (aS (M':=[3,4]) (di (M':=[3,4]) (ai (i:=4) sc.nd rfl (jD rfl) (om pO hr rfl (aG (qV 0) (aG (qV 2) aQ)) cj)))
  (aS (M':=[3,4]) (oV 100 jH (QW.pt (rm (o9 (dW rfl rfl m_len (f8 rfl (aj 3))) aT) (rm (o9 (dW rfl rfl m_len (f8 rfl (aj 4))) aT) (ug (i7 hu8 (fV rfl rfl hu (aj 3) (aN (qW aT)) (λ_ _=>rfl)) (aN (fV rfl rfl hu (aj 4) (aN (qW aT)) (λ_ _=>rfl))))))))
  (aS (M':=[3,4]) (iZ (.inl rfl) (uP rfl (ud jS gb gc uL (aj 3))))
  (aU (iZ (.inl rfl) (uP rfl (ud jS gb gc uL (aj 4)))))))
  (aU (az (bi (OK rfl (aj 3) (lj (MA rfl (bi (MB rfl rfl (aj 4) ig (iD (qW aT)))) (iD (qW aT)))))))))))
abbrev Ab:QR:=bd 13
theorem Fj:FnScope ["mates","origins","sides","step"] ["mates"] (aZ Ab):=bf
def tG:DS:=(aM (aa 1 (ae AD (aF (dV 0) aJ)))
  (aM (aa 2 (ae AR (aF (dV 0) (aF (dV 1) aJ))))
  (aM (aa 3 (ae AE (aF (dV 0) (aF (dV 2) aJ))))
  (aM (bU (dB (d2 eN (dV 3) (dC .non))) (ak [] (du (aF (dC (.str "ring")) (aF (ae AY (aF (dV 1) (aF (d2 aP (dV 3) (dC (.int 0))) (aF (d2 aP (dV 3) (dC (.int 1))) aJ)))) aJ)))) bW)
  (ak [] (du (aF (dC (.str "sides")) (aF (dF [] [aB,aA 2] (bJ (dV 0)) (au 0) dH (d2 aP (dV 1) (dV 0))) aJ))))))))
def Ac:List T->Option T:=bM 4 tG
abbrev AX[TheK](v:Ev)(k:Nat):Prop:=Cl v k "sides_or_ring" ["mates"] (bB .e 1 Ac)
theorem V7[tk:TheK](h:Here tk.K v.mg "sides_or_ring" Ab ["mates"])(de:AI v 3)(mI:A9 v 3)(kj:AJ v 3)(pX:AQ v 3):AX v 4:=by
 refine(h.vP 3 [] tG Fj λf cdv A outer s H E hr=>?_ :);have sc:=Fj;have hu:=cz hr
 exact(aS (M':=[]) (bA (M':=[]) (ai (i:=1) sc.nd rfl (jD rfl) (qc de hr rfl (aG (qV 0) aQ) d7)))
  (aS (M':=[]) (bA (M':=[]) (ai (i:=2) sc.nd rfl (ZP rfl) (qc mI hr rfl (aG (qV 0) (aG (qV 1) aQ)) cj)))
  (aS (M':=[]) (bA (M':=[]) (ai (i:=3) sc.nd rfl (jD rfl) (qc kj hr rfl (aG (qV 0) (aG (qV 2) aQ)) cj)))
  (aS (M':=[]) (cB (M':=[]) (vB (qV 3) (aN l5)) (aU (az (iI (aG l7 (aG (qc pX hr rfl (aG (qV 1) (aG (bL rfl hu (qV 3) aT (λ_ _=>rfl)) (aG (bL rfl hu (qV 3) aT (λ_ _=>rfl)) aQ))) rC) aQ))))) cM)
  (aU (az (iI (aG l7 (aG (bi (i6 (Mi:=[]) rfl (fA (i:=0)) iB (iA (N:=["name","sides"]) (caps:=[aB,aA 2]) rfl (cY rfl (qV 0)) (λ_ _ _ _ _=>(ao (i:=0) (show (["name","sides"]:List Str).Nodup by decide +kernel) rfl (jD rfl))) eQ (λ_ _ _ _ _=>iE) (λ_ _ _ _ _=>(bL rfl hu (qV 1) (aN (qV 0)) (λ_ _=>rfl)))))) aQ)))))))))
abbrev zy:QR:=bd 5
theorem Ui:FnScope ["word","name"] ["word","name"] (aZ zy):=bf
def vm:DS:=(ak [] (dF [] [aB,aB,aA 1] (rB (aF (dV 0) aJ)) (eg [0,1]) (dB (d2 bY (dV 1) (dV 2))) (dV 0)))
def t8:List T->Option T:=bM 2 vm
abbrev vi[TheK](v:Ev)(k:Nat):Prop:=Cl v k "standings" ["word","name"] (bB .e 2 t8)
theorem UX[tk:TheK](h:Here tk.K v.mg "standings" zy ["word","name"])(m_enumerate:v.mg "enumerate"=aB):vi v 1:=by
 refine(h.vP 0 [] vm Ui λf cdv A outer s H E hr=>?_ :);have hu8:=dv hr;exact(aU (az (bi (i6 (Mi:=[]) rfl (uT (K:=tk.K) (is:=[0,1]) (n:=2)) (λ_ _ _ h=>h) (iA (N:=["at","other","name"]) (caps:=[aB,aB,aA 1]) (g:=fq tk.K 2 (iX [0,1])) rfl (yC rfl m_enumerate (aG (qV 0) aQ)) (λ_ _ _ _ _=>(vA (K:=tk.K) rfl rfl (cC (ao (i:=0) (show (["at","other","name"]:List Str).Nodup by decide +kernel) rfl (jD rfl)) (cC (ao (i:=1) (show (["at","other","name"]:List Str).Nodup by decide +kernel) rfl (jD rfl)) fM)))) ub (λ_ _ _ _ _=>(oU (i7 hu8 (qV 1) (aN (qV 2))))) (λ_ _ _ _ _=>(qV 0)))))))
abbrev zY:QR:=bd 6
theorem FI:FnScope ["word","name","low","high"] ["word","name"] (aZ zY):=bf
def va:DS:=(aM (tO [2,3] (ae t8 (aF (dV 0) (aF (dV 1) aJ))))
  (ak [] (dE cP (dV 0) (eG (d2 bK (dV 2) (dC (.int 1)))) (eG (dV 3)))))
def A1:List T->Option T:=bM 4 va
abbrev ze[TheK](v:Ev)(k:Nat):Prop:=Cl v k "between" ["word","name"] (bB .e 2 A1)
theorem Ti[tk:TheK](h:Here tk.K v.mg "between" zY ["word","name"])(pK:vi v 1):ze v 2:=by
 refine(h.vP 1 [] va FI λf cdv A outer s H E hr=>?_ :);have sc:=FI
 exact(aS (M':=[]) (xo (is:=[2,3]) (n:=2) (K:=tk.K) (oR (qc pK hr rfl (aG (qV 0) (aG (qV 1) aQ)) cj) (xC (yD rfl (cC (ao (i:=2) sc.nd rfl (jD rfl)) (cC (ao (i:=3) sc.nd rfl (jD rfl)) fM))) (lZ rfl (cC (ao (i:=2) sc.nd rfl (jD rfl)) (cC (ao (i:=3) sc.nd rfl (jD rfl)) fM))))) rfl rfl rfl)
  (aU (az (l6 rfl (qV 0) (iD (cL (qV 2) aT)) (iD (qV 3))))))
abbrev AS:QR:=bd 7
theorem Fe:FnScope ["word","name","inside"] ["word","name"] (aZ AS):=bf
def wB:DS:=(aM (aa 2 (ae A1 (aF (dV 0) (aF (dV 1) aJ))))
  (ak [] (dF [] [aB,aA 2] (bJ (ae lE (aF (dV 0) aJ))) (au 0) (dB (d2 bY (tP qS (dV 1) (dV 0)) (dC (.int 1)))) (dV 0))))
def qy:List T->Option T:=bM 3 wB
abbrev wA[TheK](v:Ev)(k:Nat):Prop:=Cl v k "crossed_with" ["word","name"] (bB .e 2 qy)
theorem V1[tk:TheK](h:Here tk.K v.mg "crossed_with" AS ["word","name"])(ki:ze v 2)(pe:qu v 2):wA v 3:=by
 refine(h.vP 2 [] wB Fe λf cdv A outer s H E hr=>?_ :);have sc:=Fe;have hu8:=dv hr
 exact(aS (M':=[]) (bA (M':=[]) (ai (i:=2) sc.nd rfl (ZP rfl) (qc ki hr rfl (aG (qV 0) (aG (qV 1) aQ)) cj)))
  (aU (az (bi (i6 (Mi:=[]) rfl (fA (i:=0)) (λ_ _ _ h=>h) (iA (N:=["other","inside"]) (caps:=[aB,aA 2]) rfl (cY rfl (qc pe hr rfl (aG (qV 0) aQ) d7)) (λ_ _ _ _ _=>(ao (i:=0) (show (["other","inside"]:List Str).Nodup by decide +kernel) rfl (jD rfl))) eQ (λ_ _ _ _ _=>(oU (i7 hu8 (RI (l9 jS PySem.F.slot_list_count PySem.F.type_list_count SC (qV 1) (Dk (aN (qV 0)) DH))) aT))) (λ_ _ _ _ _=>(qV 0))))))))
abbrev zM:QR:=bd 9
theorem FC:FnScope ["word","mates","odd","pair"] ["word"] (aZ zM):=bf
def sv:DS:=(aM (aa 1 (ls [] [aB,aA 0] (bJ (ae lE (aF (dV 0) aJ))) (au 0) dH (dV 0) (ae qy (aF (dV 1) (aF (dV 0) aJ)))))
  (aM (n9 1 (aa 2 (ae zw (aF (dV 1) aJ))))
  (aM (bU (dB (d2 eN (dV 2) (dC .non))) (ak [] (du (aF (dC (.str "odd")) (aF (dV 2) aJ)))) bW)
  (aM (aa 3 (ae zx (aF (dV 1) aJ)))
  (aM (bU (dB (d2 eN (dV 3) (dC .non))) (ak [] (du (aF (dC (.str "pair")) (aF (d2 aP (dV 3) (dC (.int 0))) (aF (d2 aP (dV 3) (dC (.int 1))) aJ))))) bW)
  (ak [] (ae Ac (aF (dV 1) aJ))))))))
def oZ:List T->Option T:=bM 4 sv
abbrev vS[TheK](v:Ev)(k:Nat):Prop:=Cl v k "looked" ["word"] (bB .e 1 oZ)
theorem TL[tk:TheK](h:Here tk.K v.mg "looked" zM ["word"])(pe:qu v 4)(pE:wA v 4)(k9:zp v 4)(mj:zq v 4)(kz:AX v 4):vS v 5:=by
 refine(h.vP 4 [] sv FC λf cdv A outer s H E hr=>?_ :);have sc:=FC;have hu:=cz hr
 exact(aS (M':=[1]) (di (M':=[1]) (Hg (Mi:=[]) rfl (fA (i:=0)) iB (Rv (i:=1) sc.nd rfl rfl (N:=["name","word"]) (caps:=[aB,aA 0]) rfl (cY rfl (qc pe hr rfl (aG (qV 0) aQ) d7)) (λ_ _ _ _ _=>(ao (i:=0) (show (["name","word"]:List Str).Nodup by decide +kernel) rfl (jD rfl))) eQ (λ_ _ _ _ _=>iE) (λ_ _ _ _ _=>(qV 0)) (λ_ _ _ _ _=>(qc pE hr rfl (aG (qV 1) (aG (qV 0) aQ)) cj)))))
  (aS (M':=[]) (rX (i:=1) (M':=[]) (bA (M':=[]) (ai (i:=2) sc.nd rfl (jD rfl) (qc k9 hr rfl (aG (qV 1) aQ) d7))))
  (aS (M':=[]) (cB (M':=[]) (vB (qV 2) (aN l5)) (aU (az (iI (aG l7 (aG (qV 2) aQ))))) cM)
  (aS (M':=[]) (bA (M':=[]) (ai (i:=3) sc.nd rfl (jD rfl) (qc mj hr rfl (aG (qV 1) aQ) d7)))
  (aS (M':=[]) (cB (M':=[]) (vB (qV 3) (aN l5)) (aU (az (iI (aG l7 (aG (bL rfl hu (qV 3) aT (λ_ _=>rfl)) (aG (bL rfl hu (qV 3) aT (λ_ _=>rfl)) aQ)))))) cM)
  (aU (az (qc kz hr rfl (aG (qV 1) aQ) d7))))))))
abbrev AT:QR:=bd 24
theorem Ff:FnScope ["word","name","side","first","second"] ["word","name","side"] (aZ AT):=bf
def wC:DS:=(aM (tO [3,4] (ae t8 (aF (dV 0) (aF (dV 1) aJ))))
  (aM (bU (dB (d2 bY (d2 bo (d2 bK (dV 2) (dV 3)) (dC (.int 2))) (dC (.int 0)))) (ak [] (bz (aF (d2 cv (dC (.int 2)) (dV 3)) (aF (d2 cv (dC (.int 2)) (dV 4)) (aF (d2 bK (d2 cv (dC (.int 2)) (dV 3)) (dC (.int 1))) (aF (d2 bK (d2 cv (dC (.int 2)) (dV 4)) (dC (.int 1))) aJ)))))) bW)
  (ak [] (bz (aF (d2 cv (dC (.int 2)) (dV 3)) (aF (d2 bK (d2 cv (dC (.int 2)) (dV 4)) (dC (.int 1))) (aF (d2 bK (d2 cv (dC (.int 2)) (dV 3)) (dC (.int 1))) (aF (d2 cv (dC (.int 2)) (dV 4)) aJ))))))))
def wL:List T->Option T:=bM 5 wC
abbrev AO[TheK](v:Ev)(k:Nat):Prop:=Cl v k "ends_by_side" ["word","name","side"] (bB .e 3 wL)
theorem V2[tk:TheK](h:Here tk.K v.mg "ends_by_side" AT ["word","name","side"])(pK:vi v 1):AO v 2:=by
 refine(h.vP 1 [] wC Ff λf cdv A outer s H E hr=>?_ :);have sc:=Ff;have hu8:=dv hr
 exact(aS (M':=[]) (xo (is:=[3,4]) (n:=2) (K:=tk.K) (oR (qc pK hr rfl (aG (qV 0) (aG (qV 1) aQ)) cj) (xC (yD rfl (cC (ao (i:=3) sc.nd rfl (jD rfl)) (cC (ao (i:=4) sc.nd rfl (jD rfl)) fM))) (lZ rfl (cC (ao (i:=3) sc.nd rfl (jD rfl)) (cC (ao (i:=4) sc.nd rfl (jD rfl)) fM))))) rfl rfl rfl)
  (aS (M':=[]) (cB (M':=[]) (i7 hu8 (dD (cL (qV 2) (aN (qV 3))) aT) aT) (aU (az (bi (cX (aG (dy aW (aN (qV 3))) (aG (dy aW (aN (qV 4))) (aG (cL (dy aW (aN (qV 3))) aT) (aG (cL (dy aW (aN (qV 4))) aT) aQ)))))))) cM)
  (aU (az (bi (cX (aG (dy aW (aN (qV 3))) (aG (cL (dy aW (aN (qV 4))) aT) (aG (cL (dy aW (aN (qV 3))) aT) (aG (dy aW (aN (qV 4))) aQ))))))))))
abbrev vh:QR:=bd 23
theorem w8:FnScope ["word","told"] ["word"] (aZ vh):=bf
def ng:DS:=(aM (aa 1 (ae oZ (aF (dV 0) aJ)))
  (aM (bU (dB (d2 cc (d2 aP (dV 1) (dC (.int 0))) (dC (.str "sides")))) xV bW)
  (ak [] (dF [] [aB,aB,aA 0] (tz (aF (ae lE (aF (dV 0) aJ)) (aF (d2 aP (dV 1) (dC (.int 1))) aJ))) (eg [0,1]) dH (du (aF (dV 0) (aF (ae wL (aF (dV 2) (aF (dV 0) (aF (dV 1) aJ)))) aJ)))))))
def lD:List T->Option T:=bM 2 ng
abbrev zg[TheK](v:Ev)(k:Nat):Prop:=Cl v k "drawing" ["word"] (bB .e 1 lD)
theorem Tl[tk:TheK](h:Here tk.K v.mg "drawing" vh ["word"])(pH:vS v 5)(pe:qu v 5)(mH:AO v 5)(m_zip:v.mg "zip"=aB):zg v 6:=by
 refine(h.vP 5 [] ng w8 λf cdv A outer s H E hr=>?_ :);have sc:=w8;have hu:=cz hr;have hu8:=dv hr
 exact(aS (M':=[]) (bA (M':=[]) (ai (i:=1) sc.nd rfl (jD rfl) (qc pH hr rfl (aG (qV 0) aQ) d7)))
  (aS (M':=[]) (cB (M':=[]) (nI hu8 (bL rfl hu (qV 1) aT (λ_ _=>rfl)) (aN l7)) (aU Dl) cM)
  (aU (az (bi (i6 (Mi:=[]) rfl (uT (K:=tk.K) (is:=[0,1]) (n:=2)) iB (iA (N:=["name","side","word"]) (caps:=[aB,aB,aA 0]) (g:=fq tk.K 2 (iX [0,1])) rfl (MC rfl rfl m_zip (aG (qc pe hr rfl (aG (qV 0) aQ) d7) (aG (bL rfl hu (qV 1) aT (λ_ _=>rfl)) aQ))) (λ_ _ _ _ _=>(vA (K:=tk.K) rfl rfl (cC (ao (i:=0) (show (["name","side","word"]:List Str).Nodup by decide +kernel) rfl (jD rfl)) (cC (ao (i:=1) (show (["name","side","word"]:List Str).Nodup by decide +kernel) rfl (jD rfl)) fM)))) ub (λ_ _ _ _ _=>iE) (λ_ _ _ _ _=>(iI (aG (qV 0) (aG (qc mH hr rfl (aG (qV 2) (aG (qV 0) (aG (qV 1) aQ))) rC) aQ)))))))))))
def vy:DR:=(qG o0 (aa 1 (ae oZ (aF (dV 0) aJ)))
  (qG (rJ (dB (d2 cc (d2 aP (dV 1) (dC (.int 0))) (dC (.str "sides")))) (yL (dV 1)) o0) (bU (dB (d2 cc (d2 aP (dV 1) (dC (.int 0))) (dC (.str "sides")))) xV bW)
  o0))
def qx:List T->Bool:=tM 2 vy
abbrev zi[TheK](v:Ev)(a:Ax)(k:Nat):Prop:=Fz v k "drawing" ["word"] (nt a.r2 1 qx)
theorem UG[tk:TheK]{a:Ax}(h:Here tk.K v.mg "drawing" vh ["word"])(pH:vS v 5)(m2:v.mg "NotDrawn"=aA (.ref a.r2))(nd:Nd v a):zi v a 6:=by
 obtain⟨bm,xc⟩:=nd;refine(h.vR 5 _ vy w8 λf cdv A outer s H E hr hA=>?_ :);have sc:=w8;have hu:=cz hr;have hu8:=dv hr
 exact(Co (rk:=.e) Cm (bA (M':=[]) (ai (i:=1) sc.nd rfl (jD rfl) (qc pH hr rfl (aG (qV 0) aQ) d7)))
  (Co (rk:=.e) (He (nI hu8 (bL rfl hu (qV 1) aT (λ_ _=>rfl)) (aN l7)) (Cn (Rw (k:=4) (T2 hA) rfl hr xc rfl m2 (qV 1))) Hf) (cB (M':=[]) (nI hu8 (bL rfl hu (qV 1) aT (λ_ _=>rfl)) (aN l7)) (aU Dl) cM)
  (Cn Cm)))
abbrev zX:QR:=bd 42
theorem FH:FnScope ["_law_bag_here","_law_word_here","_law_told","_law_turned","_law_name","_law_side","_law_todo","_law_here","_law_made","_law_ends"] ["_law_bag_here","_law_word_here"] (aZ zX):=bf
def nc:DS:=(aM (oE [0] 1 qx (aF (dV 1) aJ) (aa 2 (ae lD (aF (dV 1) aJ))))
  (aM (aa 3 oC)
  (aM (cJ (bJ (ae lE (aF (dV 1) aJ))) (au 4)
  (bU (dB (d2 dZ (dV 4) (dV 3))) (aM (aa 5 (lR lh 0 (aF (dC (.int 2)) aJ)))
  (aM (aa 6 (bz (aF (dV 4) aJ)))
  (eM (dB (d2 fD (d1 bS (dV 6)) (dC (.int 0))))
  (aM (aa 7 (dt ip 6 aJ))
  (bU (dB (d2 dZ (dV 7) (dV 3))) (aM (iY 3 (dV 7) (dV 5))
  (iG (dt nE 6 (aF (ae qy (aF (dV 1) (aF (dV 7) aJ))) aJ)))) bW)) 1000))) bW))
  (aM (aa 8 (bz aJ))
  (aM (cJ (bJ (dV 2)) (eg [4,9])
  (aM (bU (dB (d2 bY (bh aP 3 (dV 4)) (dC (.int 1)))) (aa 9 (bz (aF (d2 aP (dV 9) (dC (.int 0))) (aF (d2 aP (dV 9) (dC (.int 3))) (aF (d2 aP (dV 9) (dC (.int 2))) (aF (d2 aP (dV 9) (dC (.int 1))) aJ)))))) bW)
  (iG (dt fT 8 (aF (du (aF (dV 4) (aF (d1 i9 (dV 9)) aJ))) aJ)))))
  (ak [0] (dV 8)))))))
def w4:List T->Option (T × T):=fN 10 nc
abbrev zd[TheK](v:Ev)(k:Nat):Prop:=Cl v k "_law_drawing" ["_law_bag_here","_law_word_here"] (fB .e 2 w4)
theorem Th[tk:TheK]{a:Ax}(h:Here tk.K v.mg "_law_drawing" zX ["_law_bag_here","_law_word_here"])(kd:zg v 6)(pe:qu v 6)(pd:sS v 6)(pE:wA v 6)(pJ:zi v a 6)(m_len:v.mg "len"=aB)(m_list:v.mg "list"=aB)(m2:v.mg "NotDrawn"=aA (.ref a.r2))(nd:Nd v a):zd v 7:=by
 obtain⟨dh,df,pJ,kL,kq,hZ⟩:=pJ;obtain⟨bm,xd⟩:=nd;have hmm:(Qa a.r2::bm).contains (.ref a.r2)=aC:=by rw[Yx,beq_self_eq_true,U0]
 refine(h.vI0 6 [] nc FH λf cdv A outer s H E hr hA=>?_ :);have sc:=FH;have hu:=cz hr;have hu8:=dv hr
 exact(SH (Lh (M':=[0]) (λW=>(bA (M':=[0]) (ai (i:=2) sc.nd rfl (jD rfl) (qc kd hr rfl (aG (qV 1) aQ) d7))))
  (λW E' hp=>Le (i:=2) sc.nd rfl (jD rfl) pJ hr rfl hZ kq kL hp (aG (qV 1) aQ) (.inr rfl)) rfl rfl rfl rfl m2 xd.o xd.o hmm)
  (aS (M':=[0,3]) (di (M':=[0,3]) (ai (i:=3) sc.nd rfl (jD rfl) sQ))
  (aS (M':=[0,3]) (eB (eF jH rfl (cY rfl (qc pe hr rfl (aG (qV 1) aQ) d7)) (iC (ao (i:=4) sc.nd rfl (jD rfl)))
  (aU (cB (M':=[0,3]) (oY hu (qV 4) (f8 rfl (aj 3)) (by with_unfolding_all rfl)) (yZ (M':=[0,3,6]) (aS (M':=[0,3]) (bA (M':=[0,3]) (ai (i:=5) sc.nd rfl (jD rfl) (wS rfl pd hr rfl (aj 0) (aG aW aQ) d7)))
  (aS (M':=[0,3,6]) (di (M':=[0,3,6]) (ai (i:=6) sc.nd rfl (jD rfl) (cX (aG (qV 4) aQ))))
  (aU (oV 1000 jH (o9 (dW rfl rfl m_len (f8 rfl (aj 6))) aT)
  (aS (M':=[0,3,6]) (bA (M':=[0,3,6]) (ai (i:=7) sc.nd rfl (jD rfl) (uP rfl (ud jS gb gc uL (aj 6)))))
  (aU (cB (M':=[0,3,6]) (oY hu (qV 7) (f8 rfl (aj 3)) (by with_unfolding_all rfl)) (aS (M':=[0,3,6]) (nP rfl (nX hu (aj 3) (qV 7) (qV 5) rfl))
  (aU (iZ (.inl rfl) (ED rfl (l9 jS YT YU EB (aj 6) (aG (qc pE hr rfl (aG (qV 1) (aG (qV 7) aQ)) cj) aQ)))))) cM)))))))) cM))))
  (aS (M':=[0,3,8]) (di (M':=[0,3,8]) (ai (i:=8) sc.nd rfl (jD rfl) (cX aQ)))
  (aS (M':=[0,3,8]) (eB (eF jH rfl (cY rfl (qV 2)) (qY (K:=tk.K) (is:=[4,9]) (n:=2) (lZ rfl (cC (ao (i:=4) sc.nd rfl (jD rfl)) (cC (ao (i:=9) sc.nd rfl (jD rfl)) fM))))
  (aS (M':=[0,3,8]) (cB (M':=[0,3,8]) (i7 hu8 (fV rfl rfl hu (aj 3) (aN (qV 4)) (λ_ _=>rfl)) aT) (aU (bA (M':=[0,3,8]) (ai (i:=9) sc.nd rfl (jD rfl) (bi (cX (aG (bL rfl hu (qV 9) aT (λ_ _=>rfl)) (aG (bL rfl hu (qV 9) aT (λ_ _=>rfl)) (aG (bL rfl hu (qV 9) aT (λ_ _=>rfl)) (aG (bL rfl hu (qV 9) aT (λ_ _=>rfl)) aQ))))))))) cM)
  (aU (iZ (.inl rfl) (qk rfl (l9 jS QL QM oW (aj 8) (aG (iI (aG (qV 4) (aG (bi (qh rfl rfl rfl m_list (aN (qV 9)))) aQ))) aQ))))))))
  (aU (rj (M':=[0,3]) (az (qV 8)))))))))
abbrev zK:QR:=bd 43
theorem FA:FnScope ["_law_script","_law_many","_law_names_here","_law_word_here"] ["_law_script"] (aZ zK):=bf
def sZ:DS:=(aM (aa 1 (d2 bo (ae iL (aF (dV 0) (aF (dC (.int 1)) aJ))) (dC (.int 13))))
  (aM (bU (dB (d2 bY (d2 bo (d2 dM (ae iL (aF (dV 0) (aF (dC (.int 1)) aJ))) (dC (.int 13))) (dC (.int 8))) (dC (.int 5)))) (aa 1 (d2 bK (dC (.int 13)) (d2 bo (d2 dM (ae iL (aF (dV 0) (aF (dC (.int 1)) aJ))) (dC (.int 104))) (dC (.int 18))))) bW)
  (aM (aa 2 (ae zU (aF (ae iL (aF (dV 0) (aF (dC (.int 0)) aJ))) (aF (dV 1) aJ))))
  (aM (aa 3 (ae yy (aF (ae iL (aF (dV 0) (aF (dC (.int 2)) aJ))) (aF (dV 2) aJ))))
  (ak [] (du (aF (dV 3) (aF (oJ w4 (ae qf (aF (ae iL (aF (dV 0) (aF (dC (.int 3)) aJ))) aJ)) (aF (dV 3) aJ)) aJ))))))))
def zj:List T->Option T:=bM 4 sZ
abbrev zO[TheK](v:Ev)(k:Nat):Prop:=Cl v k "_law_set_up" ["_law_script"] (bB .e 1 zj)
theorem TJ[tk:TheK](h:Here tk.K v.mg "_law_set_up" zK ["_law_script"])(pf:yd v 7)(mw:yq v 7)(kS:ye v 7)(kB:zd v 7)(px:ul v 7):zO v 8:=by
 refine(h.vP 7 [] sZ FA λf cdv A outer s H E hr=>?_ :);have sc:=FA;have hu8:=dv hr
 exact(aS (M':=[]) (bA (M':=[]) (ai (i:=1) sc.nd rfl (jD rfl) (dD (qc pf hr rfl (aG (qV 0) (aG aW aQ)) cj) aT)))
  (aS (M':=[]) (cB (M':=[]) (i7 hu8 (dD (f7 (qc pf hr rfl (aG (qV 0) (aG aW aQ)) cj) aT) aT) aT) (aU (bA (M':=[]) (ai (i:=1) sc.nd rfl (jD rfl) (cL aW (aN (dD (f7 (qc pf hr rfl (aG (qV 0) (aG aW aQ)) cj) aT) aT)))))) cM)
  (aS (M':=[]) (bA (M':=[]) (ai (i:=2) sc.nd rfl (jD rfl) (qc mw hr rfl (aG (qc pf hr rfl (aG (qV 0) (aG aW aQ)) cj) (aG (qV 1) aQ)) cj)))
  (aS (M':=[]) (bA (M':=[]) (ai (i:=3) sc.nd rfl (jD rfl) (qc kS hr rfl (aG (qc pf hr rfl (aG (qV 0) (aG aW aQ)) cj) (aG (qV 2) aQ)) cj)))
  (aU (az (iI (aG (qV 3) (aG (Ah (.inl rfl) kB hr rfl (om px hr rfl (aG (qc pf hr rfl (aG (qV 0) (aG aW aQ)) cj) aQ) d7) (aG (qV 3) aQ) d7) aQ)))))))))
abbrev Aa:QR:=bd 33
theorem Fi:FnScope ["hands","found","waiting","left","right"] ["hands"] (aZ Aa):=bf
def tF:DS:=(aM (aa 1 (xU (d2 aP (d2 aP (dV 0) (dC (.int 0))) (dC (.int 0))) (dC (.int 0))))
  (aM (aa 2 (dV 0))
  (aM (eM (fJ (dV 2))
  (aM (cJ (bJ (dV 2)) (eg [3,4])
  (bU (dB (d2 iS (dV 3) (dV 1))) (iY 1 (dV 4) (d2 ln (bh aP 1 (dV 3)) (dC (.int 1)))) (bU (dB (d2 iS (dV 4) (dV 1))) (iY 1 (dV 3) (d2 bK (bh aP 1 (dV 4)) (dC (.int 1)))) bW)))
  (aa 2 (dF [1] [aB,aB,aA 1] (bJ (dV 2)) (eg [0,1]) (ot (dB (d2 dZ (dV 0) (dV 2))) (dB (d2 dZ (dV 1) (dV 2)))) (du (aF (dV 0) (aF (dV 1) aJ)))))) 100)
  (n9 1 (ak [] (dV 1))))))
def wN:List T->Option T:=bM 5 tF
abbrev AW[TheK](v:Ev)(k:Nat):Prop:=Cl v k "heights_along" ["hands"] (bB .e 1 wN)
theorem V6[tk:TheK](h:Here tk.K v.mg "heights_along" Aa ["hands"]):AW v 1:=by
 refine(h.vP 0 [] tF Fi λf cdv A outer s H E hr=>?_ :);have sc:=Fi;have hu:=cz hr
 exact(aS (M':=[1]) (di (M':=[1]) (ai (i:=1) sc.nd rfl (ZP rfl) (RJ (bL rfl hu (bL rfl hu (qV 0) aT (λ_ _=>rfl)) aT (λ_ _=>rfl)) aW)))
  (aS (M':=[1]) (bA (M':=[1]) (ai (i:=2) sc.nd rfl (jD rfl) (qV 0)))
  (aS (M':=[1]) (oV 100 jH (lA (aN (qV 2)))
  (aS (M':=[1]) (eB (eF jH rfl (cY rfl (qV 2)) (qY (K:=tk.K) (is:=[3,4]) (n:=2) (lZ rfl (cC (ao (i:=3) sc.nd rfl (jD rfl)) (cC (ao (i:=4) sc.nd rfl (jD rfl)) fM))))
  (aU (cB (M':=[1]) (xp hu (qV 3) (f8 rfl (aj 1)) (by with_unfolding_all rfl)) (aU (nP rfl (nX hu (aj 1) (qV 4) (qX (fV rfl rfl hu (aj 1) (aN (qV 3)) (λ_ _=>rfl)) aT) rfl))) (aU (cB (M':=[1]) (xp hu (qV 4) (f8 rfl (aj 1)) (by with_unfolding_all rfl)) (aU (nP rfl (nX hu (aj 1) (qV 3) (cL (fV rfl rfl hu (aj 1) (aN (qV 4)) (λ_ _=>rfl)) aT) rfl))) cM))))))
  (aU (bA (M':=[1]) (xD (rY (Mi:=[2]) rfl (uT (K:=tk.K) (is:=[0,1]) (n:=2)) (λ_ _ _ h=>h) (sq (i:=2) sc.nd rfl rfl (N:=["left","right","found"]) (caps:=[aB,aB,aA 1]) (g:=fq tk.K 2 (iX [0,1])) rfl (cY rfl (qV 2)) (λ_ _ _ _ _=>(vA (K:=tk.K) rfl rfl (cC (ao (i:=0) (show (["left","right","found"]:List Str).Nodup by decide +kernel) rfl (jD rfl)) (cC (ao (i:=1) (show (["left","right","found"]:List Str).Nodup by decide +kernel) rfl (jD rfl)) fM)))) ub (λ_ _ _ _ _=>(oU (QW.pt (uG (oY hu (qV 0) (f8 rfl (aj 2)) (by with_unfolding_all rfl)) (uR (oY hu (qV 1) (f8 rfl (aj 2)) (by with_unfolding_all rfl))))))) (λ_ _ _ _ _=>(iI (aG (qV 0) (aG (qV 1) aQ)))))))))))
  (aU (rX (i:=1) (M':=[]) (az (qV 1)))))))
abbrev AL:QR:=bd 26
theorem FY:FnScope ["crossings","ahead","name","ends","at","end"] ["crossings"] (aZ AL):=bf
def t5:DS:=(aM (aa 1 oC)
  (aM (cJ (bJ (dV 0)) (eg [2,3])
  (cJ (rB (aF (dV 3) aJ)) (eg [4,5])
  (iY 1 (dV 5) (d2 aP (dV 3) (d2 ln (dV 4) (dC (.int 1)))))))
  (n9 1 (ak [] (dV 1)))))
def AC:List T->Option T:=bM 6 t5
abbrev AH[TheK](v:Ev)(k:Nat):Prop:=Cl v k "ends_ahead" ["crossings"] (bB .e 1 AC)
theorem Us[tk:TheK](h:Here tk.K v.mg "ends_ahead" AL ["crossings"])(m_enumerate:v.mg "enumerate"=aB):AH v 1:=by
 refine(h.vP 0 [] t5 FY λf cdv A outer s H E hr=>?_ :);have sc:=FY;have hu:=cz hr
 exact(aS (M':=[1]) (di (M':=[1]) (ai (i:=1) sc.nd rfl (jD rfl) sQ))
  (aS (M':=[1]) (eB (eF jH rfl (cY rfl (qV 0)) (qY (K:=tk.K) (is:=[2,3]) (n:=2) (lZ rfl (cC (ao (i:=2) sc.nd rfl (jD rfl)) (cC (ao (i:=3) sc.nd rfl (jD rfl)) fM))))
  (aU (eB (eF jH rfl (yC rfl m_enumerate (aG (qV 3) aQ)) (qY (K:=tk.K) (is:=[4,5]) (n:=2) (lZ rfl (cC (ao (i:=4) sc.nd rfl (jD rfl)) (cC (ao (i:=5) sc.nd rfl (jD rfl)) fM))))
  (aU (nP rfl (nX hu (aj 1) (qV 5) (bL rfl hu (qV 3) (aN (qX (qV 4) aT)) (λ_ _=>rfl)) rfl))))))))
  (aU (rX (i:=1) (M':=[]) (az (qV 1))))))
abbrev zN:QR:=bd 21
theorem F4:FnScope ["after","told","walked","start","walk","at"] ["after"] (aZ zN):=bf
def vW:DS:=(aM (aa 1 (bz aJ))
  (aM (aa 2 x9)
  (aM (cJ (fS (aF (d1 bS (dV 0)) aJ)) (au 3)
  (aM (aa 4 (bz aJ))
  (aM (aa 5 (dV 3))
  (aM (eM (dB (d2 qH (dV 5) (dV 2)))
  (aM (iG (x8 2 (dV 5)))
  (aM (iG (dt fT 4 (aF (dV 5) aJ)))
  (aa 5 (d2 aP (dV 0) (dV 5))))) 300)
  (bU (fJ (dV 4)) (iG (dt fT 1 (aF (dV 4) aJ))) bW)))))
  (ak [] (dV 1)))))
def zk:List T->Option T:=bM 6 vW
abbrev zQ[TheK](v:Ev)(k:Nat):Prop:=Cl v k "rounds" ["after"] (bB .e 1 zk)
theorem TM[tk:TheK](h:Here tk.K v.mg "rounds" zN ["after"])(m_set:v.mg "set"=aB)(m_range:v.mg "range"=aB)(m_len:v.mg "len"=aB):zQ v 1:=by
 refine(h.vP 0 [] vW F4 λf cdv A outer s H E hr=>?_ :);have sc:=F4;have hu:=cz hr
 exact(aS (M':=[1]) (di (M':=[1]) (ai (i:=1) sc.nd rfl (jD rfl) (cX aQ)))
  (aS (M':=[1,2]) (di (M':=[1,2]) (ai (i:=2) sc.nd rfl (jD rfl) (ON rfl m_set)))
  (aS (M':=[1,2]) (eB (eF jH rfl (oX rfl m_range (aG (dW rfl rfl m_len (aN (qV 0))) aQ)) (iC (ao (i:=3) sc.nd rfl (jD rfl)))
  (aS (M':=[1,2,4]) (di (M':=[1,2,4]) (ai (i:=4) sc.nd rfl (jD rfl) (cX aQ)))
  (aS (M':=[1,2,4]) (bA (M':=[1,2,4]) (ai (i:=5) sc.nd rfl (jD rfl) (qV 3)))
  (aS (M':=[1,2,4]) (oV 300 jH (OP (qV 5) (f8 rfl (aj 2)) (by with_unfolding_all rfl))
  (aS (M':=[1,2,4]) (iZ (.inl rfl) (OM rfl (l9 PySem.F.plainAttrs_set PySem.F.slot_set_add PySem.F.type_set_add OZ (aj 2) (Dk (qV 5) DH))))
  (aS (M':=[1,2,4]) (iZ (.inl rfl) (qk rfl (l9 jS QL QM oW (aj 4) (aG (qV 5) aQ))))
  (aU (bA (M':=[1,2,4]) (ai (i:=5) sc.nd rfl (jD rfl) (bL rfl hu (qV 0) (aN (qV 5)) (λ_ _=>rfl))))))))
  (aU (cB (M':=[1,2]) (lA (f8 rfl (aj 4))) (aU (rj (M':=[1,2]) (iZ (.inl rfl) (qk rfl (l9 jS QL QM oW (aj 1) (aG (qV 4) aQ)))))) (yZ (M':=[1,2,4]) cM))))))))
  (aU (rj (M':=[2]) (az (qV 1)))))))
abbrev A0:QR:=bd 28
theorem FP:FnScope ["size","end","standing"] ["size","end"] (aZ A0):=bf
def vn:DS:=(aM (aa 2 (d2 dM (dV 1) (dC (.int 2))))
  (aM (bU (dB (d2 bY (d2 bo (dV 1) (dC (.int 2))) (dC (.int 0)))) (ak [] (d2 cv (dC (.int 2)) (dV 2))) bW)
  (ak [] (d2 bK (d2 cv (dC (.int 2)) (d2 bo (d2 ln (dV 2) (dC (.int 1))) (dV 0))) (dC (.int 1))))))
def wF:List T->Option T:=bM 3 vn
abbrev zt[TheK](v:Ev)(k:Nat):Prop:=Cl v k "walker_by" ["size","end"] (bB .e 2 wF)
theorem UY[tk:TheK](h:Here tk.K v.mg "walker_by" A0 ["size","end"]):zt v 1:=by
 refine(h.vP 0 [] vn FP λf cdv A outer s H E hr=>?_ :);have sc:=FP;have hu8:=dv hr
 exact(aS (M':=[]) (bA (M':=[]) (ai (i:=2) sc.nd rfl (jD rfl) (f7 (qV 1) aT)))
  (aS (M':=[]) (cB (M':=[]) (i7 hu8 (dD (qV 1) aT) aT) (aU (az (dy aW (aN (qV 2))))) cM)
  (aU (az (cL (dy aW (aN (dD (qX (qV 2) aT) (aN (qV 0))))) aT)))))
abbrev zL:QR:=bd 27
theorem FB:FnScope ["size","walker","stretch"] ["size","walker"] (aZ zL):=bf
def vV:DS:=(aM (aa 2 (d2 dM (dV 1) (dC (.int 2))))
  (aM (bU (dB (d2 bY (d2 bo (dV 1) (dC (.int 2))) (dC (.int 1)))) (ak [] (d2 cv (dC (.int 2)) (dV 2))) bW)
  (ak [] (d2 bK (d2 cv (dC (.int 2)) (d2 bo (d2 bK (dV 2) (dC (.int 1))) (dV 0))) (dC (.int 1))))))
def ve:List T->Option T:=bM 3 vV
abbrev zP[TheK](v:Ev)(k:Nat):Prop:=Cl v k "end_of" ["size","walker"] (bB .e 2 ve)
theorem TK[tk:TheK](h:Here tk.K v.mg "end_of" zL ["size","walker"]):zP v 1:=by
 refine(h.vP 0 [] vV FB λf cdv A outer s H E hr=>?_ :);have sc:=FB;have hu8:=dv hr
 exact(aS (M':=[]) (bA (M':=[]) (ai (i:=2) sc.nd rfl (jD rfl) (f7 (qV 1) aT)))
  (aS (M':=[]) (cB (M':=[]) (i7 hu8 (dD (qV 1) aT) aT) (aU (az (dy aW (aN (qV 2))))) cM)
  (aU (az (cL (dy aW (aN (dD (cL (qV 2) aT) (aN (qV 0))))) aT)))))
abbrev zc:QR:=bd 25
theorem FM:FnScope ["word","crossings","ahead","size"] ["word","crossings"] (aZ zc):=bf
def sw:DS:=(aM (bU (q5 (fJ (dV 0))) (ak [] (bz (aF (bz aJ) (aF (bz aJ) aJ)))) bW)
  (aM (aa 2 (ae AC (aF (dV 1) aJ)))
  (aM (aa 3 (d1 bS (dV 0)))
  (ak [] (ae zk (aF (dF [] [aB,aA 3,aA 2] (fS (aF (d2 cv (dC (.int 2)) (dV 3)) aJ)) (au 0) dH (ae wF (aF (dV 1) (aF (d2 aP (dV 2) (ae ve (aF (dV 1) (aF (dV 0) aJ)))) aJ)))) aJ))))))
def qw:List T->Option T:=bM 4 sw
abbrev vZ[TheK](v:Ev)(k:Nat):Prop:=Cl v k "patches" ["word","crossings"] (bB .e 2 qw)
theorem To[tk:TheK](h:Here tk.K v.mg "patches" zc ["word","crossings"])(kI:AH v 1)(mU:zQ v 1)(mZ:zt v 1)(mG:zP v 1)(m_len:v.mg "len"=aB)(m_range:v.mg "range"=aB):vZ v 2:=by
 refine(h.vP 1 [] sw FM λf cdv A outer s H E hr=>?_ :);have sc:=FM;have hu:=cz hr
 exact(aS (M':=[]) (cB (M':=[]) (uQ (lA (aN (qV 0)))) (aU (az (bi (cX (aG (bi (cX aQ)) (aG (bi (cX aQ)) aQ)))))) cM)
  (aS (M':=[]) (bA (M':=[]) (ai (i:=2) sc.nd rfl (ZP rfl) (qc kI hr rfl (aG (qV 1) aQ) d7)))
  (aS (M':=[]) (bA (M':=[]) (ai (i:=3) sc.nd rfl (ZP rfl) (dW rfl rfl m_len (aN (qV 0)))))
  (aU (az (qc mU hr rfl (aG (bi (i6 (Mi:=[]) rfl (fA (i:=0)) iB (iA (N:=["walker","size","ahead"]) (caps:=[aB,aA 3,aA 2]) rfl (oX rfl m_range (aG (dy aW (aN (qV 3))) aQ)) (λ_ _ _ _ _=>(ao (i:=0) (show (["walker","size","ahead"]:List Str).Nodup by decide +kernel) rfl (jD rfl))) eQ (λ_ _ _ _ _=>iE) (λ_ _ _ _ _=>(qc mZ hr rfl (aG (qV 1) (aG (bL rfl hu (qV 2) (aN (qc mG hr rfl (aG (qV 1) (aG (qV 0) aQ)) cj)) (λ_ _=>rfl)) aQ)) cj))))) aQ) d7))))))
abbrev zZ:QR:=bd 30
theorem FJ:FnScope ["word","crossings","places","number","walk","walker"] ["word","crossings"] (aZ zZ):=bf
def vb:DS:=(aM (aa 2 oC)
  (aM (cJ (rB (aF (ae qw (aF (dV 0) (aF (dV 1) aJ))) aJ)) (eg [3,4])
  (cJ (bJ (dV 4)) (au 5)
  (iY 2 (dV 5) (dV 3))))
  (ak [] (dF [2] [aB,aA 2] (fS (aF (d1 bS (dV 0)) aJ)) (au 0) dH (du (aF (bh aP 1 (d2 cv (dC (.int 2)) (dV 0))) (aF (bh aP 1 (d2 bK (d2 cv (dC (.int 2)) (dV 0)) (dC (.int 1)))) aJ)))))))
def og:List T->Option T:=bM 6 vb
abbrev vY[TheK](v:Ev)(k:Nat):Prop:=Cl v k "borders" ["word","crossings"] (bB .e 2 og)
theorem Tj[tk:TheK](h:Here tk.K v.mg "borders" zZ ["word","crossings"])(pz:vZ v 2)(m_enumerate:v.mg "enumerate"=aB)(m_range:v.mg "range"=aB)(m_len:v.mg "len"=aB):vY v 3:=by
 refine(h.vP 2 [] vb FJ λf cdv A outer s H E hr=>?_ :);have sc:=FJ;have hu:=cz hr
 exact(aS (M':=[2]) (di (M':=[2]) (ai (i:=2) sc.nd rfl (ZP rfl) sQ))
  (aS (M':=[2]) (eB (eF jH rfl (yC rfl m_enumerate (aG (qc pz hr rfl (aG (qV 0) (aG (qV 1) aQ)) cj) aQ)) (qY (K:=tk.K) (is:=[3,4]) (n:=2) (lZ rfl (cC (ao (i:=3) sc.nd rfl (jD rfl)) (cC (ao (i:=4) sc.nd rfl (jD rfl)) fM))))
  (aU (eB (eF jH rfl (cY rfl (qV 4)) (iC (ao (i:=5) sc.nd rfl (jD rfl)))
  (aU (nP rfl (nX hu (aj 2) (qV 5) (qV 3) rfl))))))))
  (aU (az (bi (i6 (Mi:=[1]) rfl (fA (i:=0)) iB (iA (N:=["stretch","places"]) (caps:=[aB,aA 2]) rfl (oX rfl m_range (aG (dW rfl rfl m_len (aN (qV 0))) aQ)) (λ_ _ _ _ _=>(ao (i:=0) (show (["stretch","places"]:List Str).Nodup by decide +kernel) rfl (jD rfl))) eQ (λ_ _ _ _ _=>iE) (λ_ _ _ _ _=>(iI (aG (fV rfl rfl hu (aj 1) (aN (dy aW (aN (qV 0)))) (λ_ _=>rfl)) (aG (fV rfl rfl hu (aj 1) (aN (cL (dy aW (aN (qV 0))) aT)) (λ_ _=>rfl)) aQ)))))))))))
abbrev zb:QR:=bd 32
theorem FL:FnScope ["word","crossings","outside","hands","found"] ["word","crossings","outside"] (aZ zb):=bf
def vd:DS:=(aM (aa 3 (rA (fJ (dV 0)) (ae og (aF (dV 0) (aF (dV 1) aJ))) (bz (aF (du (aF (dC (.int 0)) (aF (dC (.int 1)) aJ))) aJ))))
  (aM (aa 4 (ae wN (aF (dV 3) aJ)))
  (ak [] (dF [] [aB,aA 4,aA 2] (fS (aF (d1 bS (dV 4)) aJ)) (au 0) dH (d2 ln (d2 aP (dV 1) (dV 0)) (d2 aP (dV 1) (dV 2)))))))
def qv:List T->Option T:=bM 5 vd
abbrev zh[TheK](v:Ev)(k:Nat):Prop:=Cl v k "heights" ["word","crossings","outside"] (bB .e 3 qv)
theorem Tm[tk:TheK](h:Here tk.K v.mg "heights" zb ["word","crossings","outside"])(pA:vY v 3)(ko:AW v 3)(m_range:v.mg "range"=aB)(m_len:v.mg "len"=aB):zh v 4:=by
 refine(h.vP 3 [] vd FL λf cdv A outer s H E hr=>?_ :);have sc:=FL;have hu:=cz hr
 exact(aS (M':=[]) (bA (M':=[]) (ai (i:=3) sc.nd rfl (jD rfl) (xB (lA (aN (qV 0))) (qc pA hr rfl (aG (qV 0) (aG (qV 1) aQ)) cj) (bi (cX (aG (iI (aG aW (aG aW aQ))) aQ))))))
  (aS (M':=[]) (bA (M':=[]) (ai (i:=4) sc.nd rfl (ZP rfl) (qc ko hr rfl (aG (qV 3) aQ) d7)))
  (aU (az (bi (i6 (Mi:=[]) rfl (fA (i:=0)) iB (iA (N:=["patch","found","outside"]) (caps:=[aB,aA 4,aA 2]) rfl (oX rfl m_range (aG (dW rfl rfl m_len (aN (qV 4))) aQ)) (λ_ _ _ _ _=>(ao (i:=0) (show (["patch","found","outside"]:List Str).Nodup by decide +kernel) rfl (jD rfl))) eQ (λ_ _ _ _ _=>iE) (λ_ _ _ _ _=>(qX (bL rfl hu (qV 1) (aN (qV 0)) (λ_ _=>rfl)) (aN (bL rfl hu (qV 1) (aN (qV 2)) (λ_ _=>rfl))))))))))))
abbrev za:QR:=bd 31
theorem Tu:FnScope ["word","crossings"] ["word","crossings"] (aZ za):=bf
def vc:DS:=(ak [] (dF [] [aB] (bJ (ae qv (aF (dV 0) (aF (dV 1) (aF (dC (.int 0)) aJ))))) (au 0) dH (d2 bo (dV 0) (dC (.int 2)))))
def w6:List T->Option T:=iw 2 vc
abbrev zf[TheK](v:Ev)(k:Nat):Prop:=Cl v k "colours" ["word","crossings"] (bB .n 2 w6)
theorem Tk[tk:TheK](h:Here tk.K v.mg "colours" za ["word","crossings"])(pF:zh v 4):zf v 5:=by
 refine(h.vN 4 [] vc Tu λf cdv A outer s H E hr=>?_ :);exact(aU (DQ (i6 (Mi:=[]) rfl (fA (i:=0)) iB (iA (N:=["height"]) (caps:=[aB]) rfl (cY rfl (qc pF hr rfl (aG (qV 0) (aG (qV 1) (aG aW aQ))) rC)) (λ_ _ _ _ _=>(ao (i:=0) (show (["height"]:List Str).Nodup by decide +kernel) rfl (jD rfl))) eQ (λ_ _ _ _ _=>iE) (λ_ _ _ _ _=>(dD (qV 0) aT))))))
abbrev zI:QR:=bd 44
theorem T5:FnScope ["_law_found"] ["_law_found"] (aZ zI):=bf
def EM:DS:=(ak [] (oB (qE "int" (dV 0)) (x6 (qE "bool" (dV 0)))))
def vX:List T->Option T:=bM 1 EM
abbrev yt[TheK](v:Ev)(k:Nat):Prop:=Cl v k "_law_whole" ["_law_found"] (bB .e 1 vX)
theorem Sj[tk:TheK](h:Here tk.K v.mg "_law_whole" zI ["_law_found"])(m_isinstance:v.mg "isinstance"=aB)(m_bool:v.mg "bool"=aB)(m_int:v.mg "int"=aB):yt v 1:=by
 refine(h.vP 0 [] EM T5 λf cdv A outer s H E hr=>?_ :);exact(aU (az (rh (xf (cn:="int") rfl rfl m_isinstance (aN (qV 0)) (yY (v:=.ty "int") rfl m_int L7 rfl)) (uO (M9 (xf (cn:="bool") rfl rfl m_isinstance (aN (qV 0)) (yY (v:=.ty "bool") rfl m_bool MO rfl)))))))
abbrev zF:QR:=bd 45
theorem T4:FnScope ["_law_found","_law_many"] ["_law_found","_law_many"] (aZ zF):=bf
def vK:DS:=(ak [] (oB (qE "list" (dV 0)) (oB (d2 bY (d1 bS (dV 0)) (dV 1)) (d1 qA (dF [] [aB] (bJ (dV 0)) (au 0) dH (ae vX (aF (dV 0) aJ)))))))
def zT:List T->Option T:=bM 2 vK
abbrev yp[TheK](v:Ev)(k:Nat):Prop:=Cl v k "_law_lists" ["_law_found","_law_many"] (bB .e 2 zT)
theorem Se[tk:TheK](h:Here tk.K v.mg "_law_lists" zF ["_law_found","_law_many"])(pZ:yt v 1)(m_all:v.mg "all"=aB)(m_len:v.mg "len"=aB)(m_isinstance:v.mg "isinstance"=aB)(m_list:v.mg "list"=aB):yp v 2:=by
 refine(h.vP 1 [] vK T4 λf cdv A outer s H E hr=>?_ :);have hu8:=dv hr;exact(aU (az (rh (xf (cn:="list") rfl rfl m_isinstance (aN (qV 0)) (yY (v:=.ty "list") rfl m_list D6 rfl)) (rh (qL hu8 (dW rfl rfl m_len (aN (qV 0))) (aN (qV 1))) (uO (M8 rfl rfl rfl m_all (lj (i6 (Mi:=[]) rfl (fA (i:=0)) iB (iA (N:=["_law_number"]) (caps:=[aB]) rfl (cY rfl (qV 0)) (λ_ _ _ _ _=>(ao (i:=0) (show (["_law_number"]:List Str).Nodup by decide +kernel) rfl (jD rfl))) eQ (λ_ _ _ _ _=>iE) (λ_ _ _ _ _=>(qc pZ hr rfl (aG (qV 0) aQ) d7)))))))))))
abbrev zH:QR:=bd 46
theorem Ex:FnScope ["_law_found","_law_word_here","_law_lines","_law_left","_law_right_here","_law_some"] ["_law_found","_law_word_here","_law_lines"] (aZ zH):=bf
def vM:DS:=(aM (bU (ot (q5 (fJ (ae zT (aF (dV 0) (aF (d2 bK (d2 dM (d1 bS (dV 1)) (dC (.int 2))) (dC (.int 2))) aJ))))) (dB (d2 fD (d1 bS (dF [] [aB] (bJ (dV 0)) (au 0) (iq (dB (d2 cc (dV 0) (dC (.int 0)))) (dB (d2 cc (dV 0) (dC (.int 1))))) (dV 0))) (dC (.int 0))))) (ak [] (dC (.bl aD))) bW)
  (aM (bU (dB (d2 bY (d1 bS (dV 1)) (dC (.int 0)))) (ak [] (d2 bY (dV 0) (bz (aF (dC (.int 0)) (aF (dC (.int 1)) aJ))))) bW)
  (aM (cJ (bJ (ae og (aF (dV 1) (aF (dV 2) aJ)))) (eg [3,4])
  (bU (dB (d2 bY (d2 aP (dV 0) (dV 3)) (d2 aP (dV 0) (dV 4)))) (ak [] (dC (.bl aD))) bW))
  (aM (aa 5 (ae qw (aF (dV 1) (aF (dV 2) aJ))))
  (ak [] (oB (d2 bY (d1 bS (dV 5)) (d1 bS (dV 0))) (d2 bY (dF [] [aB,aA 0,aA 5] (fS (aF (d1 bS (dV 5)) aJ)) (au 0) (dB (d2 iS (dC (.int 0)) (d2 aP (dV 2) (dV 0)))) (d2 aP (dV 1) (dV 0))) (bz (aF (dC (.int 0)) aJ)))))))))
def zV:List T->Option T:=bM 6 vM
abbrev yr[TheK](v:Ev)(k:Nat):Prop:=Cl v k "_law_right" ["_law_found","_law_word_here","_law_lines"] (bB .e 3 zV)
theorem Sh[tk:TheK](h:Here tk.K v.mg "_law_right" zH ["_law_found","_law_word_here","_law_lines"])(mL:yp v 3)(pA:vY v 3)(pz:vZ v 3)(m_len:v.mg "len"=aB)(m_range:v.mg "range"=aB):yr v 4:=by
 refine(h.vP 3 [] vM Ex λf cdv A outer s H E hr=>?_ :);have sc:=Ex;have hu:=cz hr;have hu8:=dv hr
 exact(aS (M':=[]) (cB (M':=[]) (QW.pt (uG (uQ (lA (aN (qc mL hr rfl (aG (qV 0) (aG (cL (f7 (dW rfl rfl m_len (aN (qV 1))) aT) aT) aQ)) cj)))) (uR (o9 (dW rfl rfl m_len (lj (i6 (Mi:=[]) rfl (fA (i:=0)) (λ_ _ _ h=>h) (iA (N:=["_law_one"]) (caps:=[aB]) rfl (cY rfl (qV 0)) (λ_ _ _ _ _=>(ao (i:=0) (show (["_law_one"]:List Str).Nodup by decide +kernel) rfl (jD rfl))) eQ (λ_ _ _ _ _=>(oU (QW.pt (rm (nI hu8 (qV 0) aT) (ug (nI hu8 (qV 0) aT)))))) (λ_ _ _ _ _=>(qV 0)))))) aT)))) (aU (az rR)) cM)
  (aS (M':=[]) (cB (M':=[]) (i7 hu8 (dW rfl rfl m_len (aN (qV 1))) aT) (aU (az (qL hu8 (qV 0) (lj (cX (aG aW (aG aW aQ))))))) cM)
  (aS (M':=[]) (eB (eF jH rfl (cY rfl (qc pA hr rfl (aG (qV 1) (aG (qV 2) aQ)) cj)) (qY (K:=tk.K) (is:=[3,4]) (n:=2) (lZ rfl (cC (ao (i:=3) sc.nd rfl (jD rfl)) (cC (ao (i:=4) sc.nd rfl (jD rfl)) fM))))
  (aU (cB (M':=[]) (i7 hu8 (bL rfl hu (qV 0) (aN (qV 3)) (λ_ _=>rfl)) (aN (bL rfl hu (qV 0) (aN (qV 4)) (λ_ _=>rfl)))) (aU (az rR)) cM))))
  (aS (M':=[]) (bA (M':=[]) (ai (i:=5) sc.nd rfl (ZP rfl) (qc pz hr rfl (aG (qV 1) (aG (qV 2) aQ)) cj)))
  (aU (az (rh (qL hu8 (dW rfl rfl m_len (aN (qV 5))) (aN (dW rfl rfl m_len (aN (qV 0))))) (uO (qL hu8 (bi (i6 (Mi:=[]) rfl (fA (i:=0)) (λ_ _ _ h=>h) (iA (N:=["_law_k","_law_found","_law_some"]) (caps:=[aB,aA 0,aA 5]) rfl (oX rfl m_range (aG (dW rfl rfl m_len (aN (qV 5))) aQ)) (λ_ _ _ _ _=>(ao (i:=0) (show (["_law_k","_law_found","_law_some"]:List Str).Nodup by decide +kernel) rfl (jD rfl))) eQ (λ_ _ _ _ _=>(oU (xp hu aW (aN (bL rfl hu (qV 2) (aN (qV 0)) (λ_ _=>rfl))) (by with_unfolding_all rfl)))) (λ_ _ _ _ _=>(bL rfl hu (qV 1) (aN (qV 0)) (λ_ _=>rfl)))))) (lj (cX (aG aW aQ))))))))))))
abbrev xP:QR:=bd 47
theorem Cp:FnScope ["_law_script","_law_word_here","_law_lines","_law_lent","_law_found","_law_kept"] ["_law_script"] (aZ xP):=bf
def uA:DS:=(aM (tO [1,2] (ae zj (aF (dV 0) aJ)))
  (aM (bU (dB (d2 oo (dV 2) (dC .non))) (ak [] (dC (.bl aC))) bW)
  (aM (aa 3 (bz (aF (d1 i9 (dV 1)) (aF (dF [] [aB,aB] (bJ (dV 2)) (eg [0,1]) dH (du (aF (dV 0) (aF (d1 i9 (dV 1)) aJ)))) aJ))))
  (aM (aa 4 (ae w6 (aF (d2 aP (dV 3) (dC (.int 0))) (aF (d2 aP (dV 3) (dC (.int 1))) aJ))))
  (aM (bU (ot (dB (d2 cc (dV 3) (bz (aF (dV 1) (aF (dV 2) aJ))))) (q5 (fJ (rz zV 4 (aF (dV 1) (aF (dV 2) aJ)))))) (ak [] (dC (.bl aD))) bW)
  (aM (aa 5 (d1 i9 (dV 4)))
  (aM (iG (dt fT 4 (aF (dC (.int 1)) aJ)))
  (ak [] (d2 bY (ae w6 (aF (d2 aP (dV 3) (dC (.int 0))) (aF (d2 aP (dV 3) (dC (.int 1))) aJ))) (dV 5))))))))))
def Kc:List T->Option T:=bM 6 uA
theorem HK[tk:TheK](m9:zO v 8)(pL:zf v 8)(p9:yr v 8)(m_list:v.mg "list"=aB)  :QBody tk v.P v.w v.mg v.base 8 "law" xP ["_law_script","_law_word_here","_law_lines","_law_lent","_law_found","_law_kept"] (cS .e [] [] [] [] uA):=by
 intro f cdv A outer s H E hr;have sc:=Cp;have hu:=cz hr;have hu8:=dv hr
 exact(aS (M':=[]) (xo (is:=[1,2]) (n:=2) (K:=tk.K) (oR (qc m9 hr rfl (aG (qV 0) aQ) d7) (xC (yD rfl (cC (ao (i:=1) sc.nd rfl (jD rfl)) (cC (ao (i:=2) sc.nd rfl (jD rfl)) fM))) (lZ rfl (cC (ao (i:=1) sc.nd rfl (jD rfl)) (cC (ao (i:=2) sc.nd rfl (jD rfl)) fM))))) rfl rfl rfl)
  (aS (M':=[]) (cB (M':=[]) (Bl (qV 2) (aN l5)) (aU (az rR)) cM)
  (aS (M':=[]) (bA (M':=[]) (ai (i:=3) sc.nd rfl (jD rfl) (bi (cX (aG (bi (qh rfl rfl rfl m_list (aN (qV 1)))) (aG (bi (i6 (Mi:=[]) rfl (uT (K:=tk.K) (is:=[0,1]) (n:=2)) iB (iA (N:=["_law_name","_law_ends"]) (caps:=[aB,aB]) (g:=fq tk.K 2 (iX [0,1])) rfl (cY rfl (qV 2)) (λ_ _ _ _ _=>(vA (K:=tk.K) rfl rfl (cC (ao (i:=0) (show (["_law_name","_law_ends"]:List Str).Nodup by decide +kernel) rfl (jD rfl)) (cC (ao (i:=1) (show (["_law_name","_law_ends"]:List Str).Nodup by decide +kernel) rfl (jD rfl)) fM)))) ub (λ_ _ _ _ _=>iE) (λ_ _ _ _ _=>(iI (aG (qV 0) (aG (bi (qh rfl rfl rfl m_list (aN (qV 1)))) aQ))))))) aQ))))))
  (aS (M':=[4]) (di (M':=[4]) (ai (i:=4) sc.nd rfl (jD rfl) (om pL hr rfl (aG (bL rfl hu (qV 3) aT (λ_ _=>rfl)) (aG (bL rfl hu (qV 3) aT (λ_ _=>rfl)) aQ)) cj)))
  (aS (M':=[4]) (cB (M':=[4]) (QW.pt (uG (nI hu8 (qV 3) (lj (cX (aG (qV 1) (aG (qV 2) aQ))))) (uR (uQ (lA (aN (VX rfl p9 hr rfl (aj 4) (aG (qV 1) (aG (qV 2) aQ)) cj))))))) (aU (az rR)) cM)
  (aS (M':=[4]) (bA (M':=[4]) (ai (i:=5) sc.nd rfl (jD rfl) (bi (qh rfl rfl rfl m_list (f8 rfl (aj 4))))))
  (aS (M':=[4]) (iZ (.inl rfl) (qk rfl (l9 jS QL QM oW (aj 4) (aG aW aQ))))
  (aU (az (qL hu8 (bi (om pL hr rfl (aG (bL rfl hu (qV 3) aT (λ_ _=>rfl)) (aG (bL rfl hu (qV 3) aT (λ_ _=>rfl)) aQ)) cj)) (aN (qV 5))))))))))))
end Dw
set_option maxHeartbeats 1000000
local macro_rules | `(tactic| simp_all? [$args,*]) => `(tactic| simp (disch := (first | lia | (simp only [List.length_map, List.length_append, List.length_cons, List.length_nil, List.length_reverse, List.length_range, List.length_set, List.length_take, List.length_drop, List.length_zipIdx]; lia))) only [L3.V9, L3.VA, L3.VC, L3.GN, L3.VB, L3.Iv, L3.KI, L3.Gx, L3.KP, L3.Mc, L3.Mg, L3.Gu, L3.GP, L3.GO, L3.KN, L3.Iw, L3.Me, L3.Gw, L3.Gy, L3.Gz, L3.Iu, L3.Ir, L3.Mf, L3.C8, L3.KK, L3.GQ, L3.Mh, L3.KO, L3.KQ, L3.Ml, L3.HA, L3.KS, L3.Iq, L3.Gp, L3.Gq, L3.Gs, L3.Md, L3.P9, L3.PB, L3.VD, L3.GM, L3.KM, L3.KR, L3.Gv, L3.KJ, L3.P8, L3.Mk, L3.Mj, L3.RT, L3.Iy, L3.PD, L3.KL, L3.Ix, L3.tH, L3.MZ, L3.xv, L3.K1, L3.VE, L3.GH, L3.G9, L3.GG, L3.GL, L3.VF, L3.VG, L3.VH, L3.VI, L3.GC, L3.GJ, L3.GA, L3.GI, L3.GD, L3.GK, L3.K2, L3.K8, L3.uH, L3.K7, L3.uI, L3.K6, L3.K3, L3.K5, L3.lW, L3.MI, L3.DZ, L3.P3, L3.K9, L3.KC, L3.KA, L3.MX, L3.MY, L3.C7, L3.Ip, L3.P7, L3.GF, L3.B7, L3.P6, L3.GE, L3.P5, L3.P0, L3.Mp, L3.Mo, L3.Mn, L3.Mm, L3.Mr, L3.Mq, L3.SV, L3.KF, L3.KG, L3.KH, L3.C6, L3.Im, L3.S4, L3.Iz, L3.VT, L3.VS, L3.VR, L3.VQ, L3.VP, List.getElem?_cons_zero, List.getElem?_cons_succ, L3.OW, Option.bind_some, Option.map_some, List.set_cons_succ, List.set_cons_zero, List.length_cons, List.length_nil, List.length_map, if_true, if_false, Bool.not_true, Bool.not_false, decide_true, decide_false, Bool.false_eq_true, L3.eZ, L3.uK, Nat.reduceAdd, Nat.reduceLT, Int.zero_add, $args,*])
namespace Dw
open PySem L2 L3
theorem um(ns:List Int)(k:Nat):iL [.scr ns,.int k]=aA (.int (ns.getD k 0)):=by
 unfold iL bM yg
 by_cases h:k < ns.length
 ·have e:cp ns (k:Int)=aA ns[k]:=L4 (j3 h);simp[aM,bW,bU,ak,dV,dC,d2,d1,dB,r8,rH,bS,aP,dP,fZ,dL,hasAll,h,e]
 ·simp[aM,bW,bU,ak,dV,dC,d2,d1,dB,r8,rH,bS,aP,dP,fZ,dL,hasAll,h]
structure Bag2 where
 (a b:Int)
def Bag2.t(x:Bag2):T:=.lst [.int x.a,.int x.b]
structure Bag2.Ok (x:Bag2):Prop where
 b0:0<=x.b
 b1:x.b < 2147483647
theorem MN:qB (.int 10) (.int 40)=aA (.int 10000000000000000000000000000000000000000):=by rfl
theorem MM:xE (.int 10000000000000000000000000000000000000000) (.int 10000000000000000000000000000000000000000)=aA (.int 100000000000000000000000000000000000000000000000000000000000000000000000000000000):=by rfl
theorem y0(n:Int):∃ x:Bag2,qf [.int n]=aA x.t/\x.Ok:=by
 refine⟨⟨n / 2%100000000000000000000000000000000000000000000000000000000000000000000000000000000*(n%2),n / 2%2147483647⟩,?_,⟨ZI _ (by lia),Zc _ (by lia)⟩⟩
 unfold qf;refine sJ ?_;show af ut [aA (.int n)] _;exact fL (s':=[aA (.int n)]) (by unfold ut; simp_all?[MN,MM]<;>rfl) rfl
theorem uu{x:Bag2}(h:x.Ok)(n:Int)(hn:0 < n)(hn2:n < 1073741824):∃(z:Int) (y:Bag2),lh [x.t,.int n]=aA (.int z,y.t)/\y.Ok/\0<=z/\z < n:=by
 have h0:=h.b0;have h1:=h.b1;have m1:n4 x.b 48271=aC:=by unfold n4; rw[Zg,decide_eq_true_iff]; left; lia
 have m2:n4 ((x.b*48271+4099)%2147483647) ((x.b*48271+4099)%2147483647 / 65536+7)=aC:=by unfold n4; rw[Zg,decide_eq_true_iff]; left; lia
 by_cases hp:0 < x.a
 ·refine⟨x.a%n,⟨x.a / n,x.b⟩,?_,⟨h0,h1⟩,ZI _ (by lia),Zc _ hn⟩
  unfold lh fN v6 Bag2.t;simp[aM,bW,bU,aa,nJ,ak,dV,dC,d2,bh,d1,dB,fD,oq,aP,dP,fZ,bo,dM,gI,tq,tm,dL,hasAll,cp,eS,hp,hn,hn2]
 ·refine⟨(x.b*48271+4099)%2147483647*((x.b*48271+4099)%2147483647 / 65536+7)%2147483629 / 32%n,⟨x.a,(x.b*48271+4099)%2147483647⟩,?_,⟨ZI _ (by lia),Zc _ (by lia)⟩,ZI _ (by lia),Zc _ hn⟩
  unfold lh fN v6 Bag2.t;simp[aM,bW,bU,aa,nJ,ak,dV,dC,d2,bh,d1,dB,fD,oq,aP,dP,fZ,bo,dM,cv,bK,o3,gI,tq,tm,dL,hasAll,cp,eS,hp,m1,m2,hn,hn2]
theorem lY{α β:Type}(f:α->β)(xs:List α)(lo hi:Option Int):d9 (xs.map f) lo hi=(d9 xs lo hi).map f:=by
 unfold d9;rw[j5,Wo,Wn]
theorem CU{n j:Nat}(h:j < n):eS n (j:Int)=aA j:=by simp[eS,h]
def nu(names:List Str):Option Nat->Str
 |none=>NE ""
 |some k=>names.getD k jC
theorem Kz{x:Bag2}(hx:x.Ok){names:List Str}(hn:names.length<=30)(hd:names.Nodup)(hN:∀ x∈names,ia x):∃(wd:List Str) (y:Bag2),zv [x.t,.lst (names.map T.str)]=aA (.lst (wd.map T.str),y.t)/\GoodWord wd/\∀ x∈wd,x∈names:=by
 have hr:dR (2*((names.length:Nat):Int))=aC:=oS (by lia) (by lia)
 have e2:(2*((names.length:Nat):Int)).toNat=2*names.length:=by lia
 obtain⟨t,u,e,wd,y,rfl,rfl,gw⟩:=uw (n:=6) (d:=vq) (ts:=[x.t,.lst (names.map T.str)]) (Q:=λt u=>∃(wd:List Str) (y:Bag2),t=.lst (wd.map T.str)/\u=y.t/\GoodWord wd/\∀ x∈wd,x∈names) (by
  unfold vq;show af _ [aA x.t,aA (.lst (names.map T.str)),aB,aB,aB,aB] _;refine aX (s':=[aA x.t,aA (.lst (names.map T.str)),aA (.lst ((j6 (2*names.length)).map nT)),aB,aB,aB]) (by simp_all?[hr,e2,qi]) ?_
  have l1:=iW (M:=[0]) (caps:=[aB]) (fi:=bJ (dV 2)) (dg:=au 0) (fe:=dC (.str "")) (s:=[aA x.t,aA (.lst (names.map T.str)),aA (.lst ((j6 (2*names.length)).map nT)),aB,aB,aB]) (j6 (2*names.length)) nT (λ_=>.str "") (by simp_all?[]) (by simp; lia) (λz _=>⟨[aA (nT z)],rfl,rfl,rfl⟩)
  have l2:(j6 (2*names.length)).map (λ_=>T.str "")=((gY (2*names.length) aB).map (nu names)).map T.str:=by
   rw[Wx,Wx];refine(List.eq_replicate_iff (a:=T.str (NE ""))).mpr ⟨by simp,λb hb=>?_⟩
   obtain⟨_,_,h⟩:=jx.mp hb;exact h.symm
  rw[l2] at l1;refine aX (by simp_all?[l1]<;>rfl) ?_
  refine iK (its:=names.map T.str) (λi s=>∃(y:Bag2) (fr:List Nat) (pl:List (Option Nat)) (a b:Option T),s=[aA y.t,aA (.lst (names.map T.str)),aA (.lst (fr.map nT)),aA (.lst ((pl.map (nu names)).map T.str)),a,b]/\y.Ok/\fr.length+2*i=2*names.length/\fr.Nodup/\(∀ k∈fr,pl[k]?=aA aB)/\Half pl names.length i)
   (by simp_all?[]<;>rfl) ⟨x,_,_,_,_,rfl,hx,by simp,ZR,λk hk=>by rw[gJ,aI (jc.mp hk)],Half.start _⟩ ?_ ?_
  ·rintro i z s hz ⟨y,fr,pl,a,b,rfl,oy,hl,hnd,hlt,hh⟩;rw[jg] at hz;obtain⟨x,hx,rfl⟩:=Qm hz;have hi:i < names.length:=(j7.mp hx).1;refine⟨_,by simp_all?[]<;>rfl,?_⟩
   match fr,hl,hnd,hlt with
   |[],hl,_,_=>exact absurd hl (by simp; lia)
   |k0::fr,hl,hnd,hlt=>
   rw[jk] at hl;rw[Qf] at hnd;have hk0:=hlt k0 (jW ..);obtain⟨u,y',eu,o',a',b'⟩:=uu oy (fr.length:Int) (by lia) (by lia)
   have hu:u.toNat < fr.length:=by lia
   have hk1:=hlt fr[u.toNat] (jA _ (jX hu));have hne:k0≠fr[u.toNat]:=λz=>hnd.1 (z▸jX hu);have hlen:=hh.len;have q0:k0 < pl.length:=(j7.mp hk0).1;have q1:fr[u.toNat] < pl.length:=(j7.mp hk1).1;have hxn:x=nu names (aA i):=by
    show x=names.getD i jC;rw[oN hi];exact(jh ((j3 hi).symm.trans hx)).symm
   have i0:=CU (n:=pl.length) q0;have i1:=CU (n:=pl.length) q1;have g0:aP (.lst ((k0::fr).map nT)) (.int 0)=aA (nT k0):=lW ((k0::fr).map nT) 0;have lf:bS (.lst ((k0::fr).map nT))=aA (.int ((fr.length:Int)+1)):=by rw[uI,j5,jk]; rfl
   have gu:aP (.lst ((k0::fr).map nT)) (.int (1+u))=aA (nT fr[u.toNat]):=by
    have:(1+u:Int)=((u.toNat+1:Nat):Int):=by lia
    rw[this,lW,jq,gP,jg,j3 hu];rfl
   have sl:cP (.lst ((k0::fr).map nT)) (aA 1) aB=aA (.lst (fr.map nT)):=by
    show aA (T.lst (d9 ((k0::fr).map nT) (aA 1) aB))=_;rw[lY,yv (k0::fr) (by lia) (by rw[jk]; lia)]; rfl
   generalize hFR:T.lst ((k0::fr).map nT)=FR at g0 lf gu sl;refine aX (s':=[aA y.t,aA (.lst (names.map T.str)),aA FR,aA (.lst (((pl.set k0 (aA i)).map (nu names)).map T.str)),aA (.str x),b]) (by simp_all?[g0,i0]; rw[NJ,NJ,<-hxn]) ?_
   refine aX (s':=[aA y'.t,aA (.lst (names.map T.str)),aA FR,aA (.lst (((pl.set k0 (aA i)).map (nu names)).map T.str)),aA (.str x),aA (.int ((fr[u.toNat]:Nat):Int))]) (by simp_all?[lf,Int.add_sub_cancel,eu,gu]) ?_
   refine aX (s':=[aA y'.t,aA (.lst (names.map T.str)),aA FR,aA (.lst ((((pl.set k0 (aA i)).set fr[u.toNat] (aA i)).map (nu names)).map T.str)),aA (.str x),aA (.int ((fr[u.toNat]:Nat):Int))]) (by simp_all?[Qg,i1]; rw[NJ (l:=pl.set k0 (aA i)),NJ (l:=(pl.set k0 (aA i)).map (nu names)),<-hxn]) ?_
   have l1:=nM (M:=[0,3]) (caps:=[aB,aA 5]) (fi:=bJ (dE cP (dV 2) (eG (dC (.int 1))) fG)) (dg:=au 0) (ft:=dB (d2 cc (dV 0) (dV 1))) (fe:=dV 0) (s:=[aA y'.t,aA (.lst (names.map T.str)),aA FR,aA (.lst ((((pl.set k0 (aA i)).set fr[u.toNat] (aA i)).map (nu names)).map T.str)),aA (.str x),aA (.int ((fr[u.toNat]:Nat):Int))]) fr nT (fun(k:Nat)=>!aE ((k:Int)=((fr[u.toNat]:Nat):Int))) nT (by simp_all?[sl]) (by lia) (λk _=>⟨[aA (nT k),aA (.int ((fr[u.toNat]:Nat):Int))],rfl,by simp_all?[],λ_=>rfl,rfl⟩)
   have fe:(fr.filter fun(k:Nat)=>!aE ((k:Int)=((fr[u.toNat]:Nat):Int)))=fr.erase fr[u.toNat]:=by
    rw[hnd.2.erase_eq_filter];refine YS λk _=>?_
    by_cases h:k=fr[u.toNat]
    ·simp[h]
    ·have:¬ ((k:Int)=((fr[u.toNat]:Nat):Int)):=by lia
     simp[h,this]
   rw[fe] at l1;refine cm (by simp_all?[l1]<;>rfl) ⟨y',fr.erase fr[u.toNat],(pl.set k0 (aA i)).set fr[u.toNat] (aA i),_,_,rfl,o',?_,hnd.2.sublist (List.erase_sublist),λk hk=>?_,?_⟩
   ·rw[ZH (jX hu)]; lia
   ·have hk':k∈fr:=List.mem_of_mem_erase hk;have n0:k0≠k:=λz=>hnd.1 (z▸hk');have n1:fr[u.toNat]≠k:=λz=>by
     rw[<-z] at hk;exact hnd.2.not_mem_erase hk
    rw[jm n1,jm n0];exact hlt k (jA _ hk')
   ·exact hh.next hi hk1 hk0 (ZA hne)
  ·rintro s ⟨y,fr,pl,a,b,rfl,oy,hl,hnd,hlt,hh⟩;rw[j5] at hh;obtain⟨ps,hp,rfl⟩:=hh.done;have hg:=Ez hn rfl hd hN hp;refine⟨_,by simp_all?[]<;>rfl,_,_,_,rfl,_,_,rfl,rfl,?_,λx hx=>?_⟩
   ·rw[jU]; exact hg
   ·rw[jU] at hx;obtain⟨k,hk,rfl⟩:=jx.mp hx;have hk':=hp.lt k hk;show names.getD k jC∈names;rw[oN hk']
    exact jX hk')
 exact⟨wd,y,e,gw⟩
end Dw
set_option maxHeartbeats 2000000
namespace Dw
open PySem L2 L3
theorem zl{z:Int}(h0:0<=z)(h:z < 26):aP (.str letters) (.int z)=aA (.str (Sx [97+z.toNat])):=by
 simp only[aP,dP,fZ,Ta,if_true,Sa h0 h,jR];rfl
theorem sV(l m:List Nat)(h:l.length+m.length<=1000):bK (.str (Sx l)) (.str (Sx m))=aA (.str (Sx (l++m))):=by
 rw[Ma (by rw[oI,oI]; lia),KZ]
def rF(l:List Nat):Prop:=∀ c∈l,97<=c/\c<=122
theorem yT{l:List Nat}(h:rF l)(h1:1<=l.length)(h8:l.length<=8):ia (Sx l):=by
 unfold ia;rw[oI,re];exact⟨h1,h8,h⟩
theorem EL{α:Type}(xs:List α){t:Int}(h:(xs.length:Int)<=t):d9 xs aB (aA t)=xs:=by
 unfold d9 HT.sIx;simp only[W1,Nat.sub_zero];rw[aH (by lia),Jd (by lia),Q1 (ji _)]
structure NmOk (mk:List Str) (m:Nat):Prop where
 nd:mk.Nodup
 nm:∀ x∈mk,ia x
 len:mk.length<=m
theorem HY:qB (.int 10) (.int 18)=aA (.int 1000000000000000000):=by rfl
def iR(l:List Nat)(r:Int)(k:Nat):List Nat:=l.take 6++[97+k / 5,97+(((k:Int)+r)%26).toNat]
theorem PP{l:List Nat}{r:Int}{j k:Nat}(h:iR l r j=iR l r k)(hj:j < 31)(hk:k < 31):j=k:=by
 unfold iR at h;have h2:=List.append_cancel_left h;simp only[List.cons.injEq] at h2;lia
theorem My{l:List Nat}{r:Int}{k:Nat}(hl:rF l)(hk:k < 31):ia (Sx (iR l r k)):=by
 refine yT (λc hc=>?_) (by unfold iR; simp) (by unfold iR; rw[jn,Qd]; simp; lia)
 unfold iR at hc;rcases jt.mp hc with q |q
 ·exact hl c (Zz q)
 ·simp only[jy,Zp,or_false] at q;lia
theorem Tb:rF letters.cps.toList:=by unfold rF; decide +kernel
theorem SD(c:Int){m:Nat}(hm:m<=30):∃ names:List Str,zU [.int c,.int m]=aA (.lst (names.map T.str))/\names.length<=m/\names.Nodup/\∀ x∈names,ia x:=by
 obtain⟨sz,hsz⟩:∃ sz:Nat,1+c%8=(sz:Int):=⟨(1+c%8).toNat,by lia⟩
 obtain⟨sp,hsp⟩:∃ sp:Nat,c / 3%(sz:Int)=(sp:Int):=⟨(c / 3%(sz:Int)).toNat,by rw[Yq (ZI _ (by lia))]⟩
 have hspl:sp < sz:=by have:=Zc (c / 3) (show (0:Int) < sz by lia); lia
 obtain⟨t,e,wd,rfl,gw⟩:=iJ (n:=11) (d:=vL) (ts:=[.int c,.int m]) (Q:=λt=>∃ wd:List Str,t=.lst (wd.map T.str)/\NmOk wd m) (by
  unfold vL;show af _ [aA (.int c),aA (.int m),aB,aB,aB,aB,aB,aB,aB,aB,aB] _;refine aX (s':=[aA (.int c),aA (.int m),aA (.str letters),aB,aB,aB,aB,aB,aB,aB,aB]) rfl ?_;refine aX (s':=[aA (.int c),aA (.int m),aA (.str letters),aA (.int sz),aB,aB,aB,aB,aB,aB,aB]) (by simp_all?[hsz]) ?_
  refine aX (s':=[aA (.int c),aA (.int m),aA (.str letters),aA (.int sz),aA (.int (c / 8%1000000000000000000)),aB,aB,aB,aB,aB,aB]) (by simp_all?[HY]) ?_
  refine aX (s':=[aA (.int c),aA (.int m),aA (.str letters),aA (.int sz),aA (.int (c / 8%1000000000000000000)),aA (.str (Sx [])),aB,aB,aB,aB,aB]) rfl ?_;refine iK (its:=dS 0 sz) (λi s=>∃(l:List Nat) (r:Int) (a:Option T),s=[aA (.int c),aA (.int m),aA (.str letters),aA (.int sz),aA (.int r),aA (.str (Sx l)),a,aB,aB,aB,aB]/\l.length=i/\rF l)
   (by simp_all?[oS (j:=(sz:Int)) (by lia) (by lia),Q8]<;>rfl) ⟨[],_,aB,rfl,rfl,λc hc=>by cases hc⟩ ?_ ?_
  ·rintro i z s hz ⟨l,r,a,rfl,hl,hlo⟩;obtain⟨hi,rfl⟩:=EE hz;have b1:0<=r%26:=ZI _ (by decide)
   have b2:r%26 < 26:=Zc _ (by decide)
   refine⟨_,by simp_all?[]<;>rfl,?_⟩
   refine aX (by simp_all?[zl b1 b2,sV l [97+(r%26).toNat] (by simp; lia)]<;>rfl) ?_
   refine cm (by simp_all?[]<;>rfl) ⟨_,_,_,rfl,by simp[hl],λc hc=>?_⟩
   rcases jt.mp hc with q |q
   ·exact hlo c q
   ·have:c=97+(r%26).toNat:=by simpa using q
    lia
  rintro s ⟨l,r,a,rfl,hl,hlo⟩;rw[EF] at hl;have lS:l.length<=jr:=lg (by lia)
  have sl:∀ k:Nat,k<=l.length->cP (.str (Sx l)) aB (aA (k:Int))=aA (.str (Sx (l.take k))):=λk hk=>by
   have:=HI l (j:=(k:Int)) (by lia) (by lia)
   simp only[cP,nA,oI,lS,if_true,this,Q8]
  have sf:∀ k:Nat,k<=l.length->cP (.str (Sx l)) (aA (k:Int)) aB=aA (.str (Sx (l.drop k))):=λk hk=>by
   have:=MJ l (j:=(k:Int)) (by lia) (by lia)
   simp only[cP,nA,oI,lS,if_true,this,Q8]
  have s6:cP (.str (Sx l)) aB (aA 6)=aA (.str (Sx (l.take 6))):=by
   by_cases h6:6<=l.length
   ·exact sl 6 h6
   ·have h7:YM (Sx l) aB (aA 6)=Sx (l.take 6):=by
     have k:∀ n:Nat,n < 6->(Builtin.Str.strSliceIndices aB (aA 6) 1 n).length=n:=by decide +kernel
     have k:=k l.length (by lia)
     unfold YM;rw[oI,k,Q1 (by lia),aI (by simp)]
    simp only[cP,nA,oI,lS,if_true,h7]
  refine aX (s':=[aA (.int c),aA (.int m),aA (.str letters),aA (.int sz),aA (.int r),aA (.str (Sx l)),a,aA (.int sp),aB,aB,aB]) (by simp_all?[hsp]) ?_
  refine aX (s':=[aA (.int c),aA (.int m),aA (.str letters),aA (.int sz),aA (.int r),aA (.str (Sx l)),a,aA (.int sp),aA (.lst (([]:List Str).map T.str)),aB,aB]) (by simp_all?[]<;>rfl) ?_
  refine uz (λs=>∃ mk,NmOk mk m/\s=[aA (.int c),aA (.int m),aA (.str letters),aA (.int sz),aA (.int r),aA (.str (Sx l)),a,aA (.int sp),aA (.lst (mk.map T.str)),aB,aB]) ?_ ?_
  ·by_cases h1:c / 5%3=1
   ·have r12:dR 1=aC/\dR ((sz:Int)+1)=aC:=⟨oS (by decide) (by decide),oS (by lia) (by lia)⟩
    have e3:((sz:Int)+1 - 1).toNat=sz:=by lia
    have er:dS 1 sz=(j6 sz).map λk=>nT (k+1):=by
     unfold dS;refine QJ λk _=>?_;rw[tH]; congr 1; lia
    have l1:=iW (M:=[8]) (caps:=[aB,aA 5]) (fi:=tu (aF (dC (.int 1)) (aF (d2 bK (dV 3) (dC (.int 1))) aJ))) (dg:=au 0) (fe:=dE cP (dV 1) fG (eG (dV 0))) (s:=[aA (.int c),aA (.int m),aA (.str letters),aA (.int sz),aA (.int r),aA (.str (Sx l)),a,aA (.int sp),aA (.lst (([]:List Str).map T.str)),aB,aB]) (j6 sz) (λk=>nT (k+1)) (λk=>.str (Sx (l.take (k+1)))) (by simp_all?[r12,and_self,e3,er]) (by simp; lia) (by
     intro k hk;have hk':=jc.mp hk;refine⟨_,by simp_all?[]<;>rfl,?_,rfl⟩
     simp_all?[sl (k+1) (by lia)])
    have l2:(j6 sz).map (λk=>T.str (Sx (l.take (k+1))))=((j6 sz).map λk=>Sx (l.take (k+1))).map T.str:=by rw[jU]; rfl
    rw[l2] at l1;have hmx:∀ mk:List Str,iM (.lst (mk.map T.str)) aB (aA (m:Int))=aA (.lst ((mk.take m).map T.str)):=λmk=>by
     show aA (T.lst (d9 (mk.map T.str) aB (aA (m:Int))))=_;rw[lY]
     by_cases hq:m<=mk.length
     ·rw[y9 mk (by lia) (by lia),Q8]
     ·rw[EL mk (by lia),Q1 (by lia)]
    refine dA (r:=.nx _) (by simp_all?[am h1,l1,hmx]<;>rfl) ⟨_,⟨?_,λx hx=>?_,?_⟩,rfl⟩
    ·refine Nz (YJ _ _) (WT _ (R:=λa b=>a≠b/\a < sz/\b < sz) (λa b ⟨n,ha,hb⟩ z=>n ?_) (Zb (R:=λa b=>a≠b) (λ{a b} ha hb n=>⟨n,jc.mp ha,jc.mp hb⟩) ZR));have:=congrArg Yi (CC z);rw[Qd,Qd] at this;lia
    ·obtain⟨k,hk,rfl⟩:=jx.mp (Zz hx);have hk':=jc.mp hk;exact yT (λc hc=>hlo c (Zz hc)) (by rw[Qd]; lia) (by rw[Qd]; lia)
    ·rw[Qd]; lia
   ·exact dA (r:=.nx _) (by simp_all?[av h1]<;>rfl) ⟨[],⟨Zx,(λx hx=>by cases hx),by simp⟩,rfl⟩
  rintro s ⟨mk,hmk,rfl⟩;refine uz (λs=>∃ mk,NmOk mk m/\s=[aA (.int c),aA (.int m),aA (.str letters),aA (.int sz),aA (.int r),aA (.str (Sx l)),a,aA (.int sp),aA (.lst (mk.map T.str)),aB,aB]) ?_ ?_
  ·have far:∀ s:Sg,s=[aA (.int c),aA (.int m),aA (.str letters),aA (.int sz),aA (.int r),aA (.str (Sx l)),a,aA (.int sp),aA (.lst (mk.map T.str)),aB,aB]->dF [8] [aB,aA 2,aA 5,aA 4] (fS (aF (dV 1) aJ)) (au 0) dH (d2 bK (d2 bK (dE cP (dV 2) fG (eG (dC (.int 6)))) (d2 aP (dV 1) (d2 dM (dV 0) (dC (.int 5))))) (d2 aP (dV 1) (d2 bo (d2 bK (dV 0) (dV 3)) (dC (.int 26))))) s=aA (.lst (((j6 m).map λk=>Sx (iR l r k)).map T.str),s):=by
    rintro s rfl
    have l1:=iW (M:=[8]) (caps:=[aB,aA 2,aA 5,aA 4]) (fi:=fS (aF (dV 1) aJ)) (dg:=au 0) (fe:=d2 bK (d2 bK (dE cP (dV 2) fG (eG (dC (.int 6)))) (d2 aP (dV 1) (d2 dM (dV 0) (dC (.int 5))))) (d2 aP (dV 1) (d2 bo (d2 bK (dV 0) (dV 3)) (dC (.int 26))))) (s:=[aA (.int c),aA (.int m),aA (.str letters),aA (.int sz),aA (.int r),aA (.str (Sx l)),a,aA (.int sp),aA (.lst (mk.map T.str)),aB,aB]) (j6 m) nT (λk=>.str (Sx (iR l r k))) (by simp_all?[wQ (k:=m) (by lia),Q8,qi]) (by simp; lia) (by
     intro k hk;have hk':=jc.mp hk;have x1:=zl (z:=(k:Int) / 5) (by lia) (by lia)
     have x2:=zl (z:=((k:Int)+r)%26) (ZI _ (by decide)) (Zc _ (by decide))
     have n1:((k:Int) / 5).toNat=k / 5:=by lia
     rw[n1] at x1;have p1:=sV (l.take 6) [97+k / 5] (by simp; lia)
     have p2:=sV (l.take 6++[97+k / 5]) [97+(((k:Int)+r)%26).toNat] (by simp; lia)
     rw[Ql] at p2;refine⟨[aA (nT k),aA (.str letters),aA (.str (Sx l)),aA (.int r)],rfl,?_,rfl⟩
     simp_all?[s6,x1,p1,x2,p2]<;>rfl)
    rw[show (j6 m).map (λk=>T.str (Sx (iR l r k)))=((j6 m).map λk=>Sx (iR l r k)).map T.str by rw[jU]; rfl] at l1
    exact l1
   have far:=far _ rfl
   by_cases h2:c / 5%3=2∨(24:Int) < m
   ·have ok:NmOk ((j6 m).map λk=>Sx (iR l r k)) m:=by
     refine⟨WT _ (R:=λa b=>a≠b/\a < 31/\b < 31) (λa b ⟨n,ha,hb⟩ z=>n (PP (CC z) ha hb)) (Zb (R:=λa b=>a≠b) (λ{a b} ha hb n=>⟨n,by have:=jc.mp ha; lia,by have:=jc.mp hb; lia⟩) ZR),λx hx=>?_,by simp⟩
     obtain⟨k,hk,rfl⟩:=jx.mp hx;exact My hlo (by have:=jc.mp hk; lia)
    refine dA (r:=.nx _) ?_ ⟨_,ok,rfl⟩
    by_cases h3:c / 5%3=2
    ·simp_all?[am h3,far]
    ·simp_all?[av h3,am (show (24:Int) < m by lia),far]
   ·exact dA (r:=.nx _) (by simp_all?[av (show ¬ c / 5%3=2 by lia),av (show ¬ (24:Int) < m by lia)]<;>rfl) ⟨mk,hmk,rfl⟩
  rintro s ⟨mk,hmk,rfl⟩;refine iK (its:=letters.cps.toList.map qM) (λi s=>∃(mk:List Str) (a g h:Option T),s=[aA (.int c),aA (.int m),aA (.str letters),aA (.int sz),aA (.int r),aA (.str (Sx l)),a,aA (.int sp),aA (.lst (mk.map T.str)),g,h]/\NmOk mk m)
   (by simp_all?[]<;>rfl) ⟨mk,a,aB,aB,rfl,hmk⟩ ?_ ?_
  ·rintro i z s hz ⟨mk,a,g,h,rfl,hmk⟩;rw[jg] at hz;obtain⟨ch,hch,rfl⟩:=Qm hz;have lch:=Tb ch (jF hch);have es:qM ch=.str (Sx [ch]):=rfl;rw[es];refine⟨_,rfl,?_⟩;have p1:=sV (l.take sp) [ch] (by simp; lia)
   have p2:=sV (l.take sp++[ch]) (l.drop (sp+1)) (by simp; lia)
   refine aX (s':=[aA (.int c),aA (.int m),aA (.str letters),aA (.int sz),aA (.int r),aA (.str (Sx l)),a,aA (.int sp),aA (.lst (mk.map T.str)),aA (.str (Sx [ch])),aA (.str (Sx (l.take sp++[ch]++l.drop (sp+1))))]) (by
    have sf1:cP (.str (Sx l)) (aA ((sp:Int)+1)) aB=aA (.str (Sx (l.drop (sp+1)))):=sf (sp+1) (by lia)
    simp_all?[sl sp (by lia),p1,sf1,p2]) ?_
   have nmx:ia (Sx (l.take sp++[ch]++l.drop (sp+1))):=by
    have hlen:(l.take sp++[ch]++l.drop (sp+1)).length=sz:=by
     simp only[jn,Qd,QU,jk,ZE];lia
    refine yT (λc hc=>?_) (by lia) (by lia)
    simp only[jt,jy,Zp,or_false] at hc;rcases hc with (q |q) |q
    ·exact hlo c (Zz q)
    ·rw[q]; exact lch
    ·exact hlo c (List.mem_of_mem_drop q)
   generalize Sx (l.take sp++[ch]++l.drop (sp+1))=nx at nmx;have hml:=hmk.len
   by_cases hlt:(mk.length:Int) < m
   ·by_cases hin:nx∈mk
    ·exact cm (by simp_all?[am hlt,am hin]<;>rfl) ⟨mk,_,_,_,rfl,hmk⟩
    ·refine cm (by simp_all?[am hlt,av hin]<;>rfl) ⟨mk++[nx],_,_,_,rfl,⟨?_,λx hx=>?_,by rw[jn,Zq]; lia⟩⟩
     ·rw[jP];exact⟨hmk.nd,by simp,λa ha b hb e=>hin (by rw[je] at hb; subst hb; subst e; exact ha)⟩
     ·rcases jt.mp hx with q |q
      ·exact hmk.nm x q
      ·rw[je.mp q]; exact nmx
   ·exact cm (by simp_all?[av hlt]<;>rfl) ⟨mk,_,_,_,rfl,hmk⟩
  rintro s ⟨mk,a,g,h,rfl,hmk⟩
  exact⟨_,by simp_all?[]<;>rfl,_,_,rfl,mk,rfl,hmk⟩)
 exact⟨wd,e,gw.len,gw.nd,gw.nm⟩
end Dw
set_option maxHeartbeats 1000000
namespace Dw
open PySem L2 L3
def Ag:List (List Nat):=[[0,0],[0,1,2,0,1,2],[0,1,2,0,3,2,1,3],[0,1,2,3,4,0,1,2,3,4],[0,1,1,0],[0,1,2,3,4,2,1,0,3,4],[0,1,2,3,1,0,3,2]]
def tL(l:List Nat):T:=.lst (l.map nT)
def eL:T:=.lst (Ag.map tL)
theorem Lj:∀ k,k < 7->∃ sh m,Ag[k]?=aA sh/\Pairing sh m/\1<=m/\m<=5/\rS (tL sh)=aA (.int ((m:Int) - 1))
 |0,_=>⟨_,1,rfl,.of_dec rfl rfl rfl,by lia,by lia,rfl⟩
 |1,_=>⟨_,3,rfl,.of_dec rfl rfl rfl,by lia,by lia,rfl⟩
 |2,_=>⟨_,4,rfl,.of_dec rfl rfl rfl,by lia,by lia,rfl⟩
 |3,_=>⟨_,5,rfl,.of_dec rfl rfl rfl,by lia,by lia,rfl⟩
 |4,_=>⟨_,2,rfl,.of_dec rfl rfl rfl,by lia,by lia,rfl⟩
 |5,_=>⟨_,5,rfl,.of_dec rfl rfl rfl,by lia,by lia,rfl⟩
 |6,_=>⟨_,4,rfl,.of_dec rfl rfl rfl,by lia,by lia,rfl⟩
 |k+7,h=>absurd h (by lia)
def IM:T->Nat
 |.lst xs=>xs.length
 |_=>0
def IL(s:Sg):Nat:=IM ((s[4]?).join.getD .non)
theorem Pl{x:Bag2}(hx:x.Ok){names:List Str}(hn:names.length<=30)(hd:names.Nodup)(hN:∀ x∈names,ia x):∃(wd:List Str) (y:Bag2),AB [x.t,.lst (names.map T.str)]=aA (.lst (wd.map T.str),y.t)/\GoodWord wd/\∀ x∈wd,x∈names:=by
 obtain⟨t,u,e,wd,y,rfl,rfl,gw⟩:=uw (n:=7) (d:=wE) (ts:=[x.t,.lst (names.map T.str)]) (Q:=λt u=>∃(wd:List Str) (y:Bag2),t=.lst (wd.map T.str)/\u=y.t/\GoodWord wd/\∀ x∈wd,x∈names) (by
  unfold wE;show af _ [aA x.t,aA (.lst (names.map T.str)),aB,aB,aB,aB,aB] _;refine aX (s':=[aA x.t,aA (.lst (names.map T.str)),aA (.lst ((Ag.take 5).map tL)),aB,aB,aB,aB]) (by rfl) ?_
  refine aX (s':=[aA x.t,aA (.lst (names.map T.str)),aA eL,aB,aB,aB,aB]) (by rfl) ?_
  refine aX (s':=[aA x.t,aA (.lst (names.map T.str)),aA eL,aA (.lst ((([]:List Nat).map λk=>names.getD k jC).map T.str)),aB,aB,aB]) (by simp_all?[]<;>rfl) ?_
  refine aX (s':=[aA x.t,aA (.lst (names.map T.str)),aA eL,aA (.lst ((([]:List Nat).map λk=>names.getD k jC).map T.str)),aA (.lst ((names.drop 0).map T.str)),aB,aB]) (by simp_all?[]<;>rfl) ?_
  refine ql (λs=>∃(y:Bag2) (ps:List Nat) (c:Nat) (a b:Option T),s=[aA y.t,aA (.lst (names.map T.str)),aA eL,aA (.lst ((ps.map λk=>names.getD k jC).map T.str)),aA (.lst ((names.drop c).map T.str)),a,b]/\y.Ok/\Pairing ps c/\c<=names.length)
   IL (by show ((names.drop 0).map T.str).length < 100; simp; lia) ⟨x,[],0,_,_,rfl,hx,.nil,by lia⟩ ?_ ?_
  ·rintro s ⟨y,ps,c,a,b,rfl,oy,hp,hc⟩;refine⟨aE (c < names.length),[aA y.t,aA (.lst (names.map T.str)),aA eL,aA (.lst ((ps.map λk=>names.getD k jC).map T.str)),aA (.lst ((names.drop c).map T.str)),a,b],?_,?_⟩
   ·simp_all?[]
    congr 3
    simp;lia
   rcases NF c names.length with hlt |hlt
   case inr=>rw[aH (by simpa using hlt)]; trivial
   rw[aI (by simpa using hlt)]
   obtain⟨z,y1,e1,o1,a1,b1⟩:=uu oy 7 (by decide) (by decide)
   obtain⟨k,rfl⟩:∃ k:Nat,z=(k:Int):=⟨z.toNat,by lia⟩
   obtain⟨sh0,m0,at0,hp0,hm0,hm0',gm0⟩:=Lj k (by lia)
   have i0:aP eL (.int (k:Int))=aA (tL sh0):=by
    unfold eL;rw[lW,jg,at0]; rfl
   have i00:aP eL (.int 0)=aA (tL [0,0]):=rfl;have hpl:=hp.len;have hl4:bS (.lst ((names.drop c).map T.str))=aA (.int ((names.length - c:Nat):Int)):=by rw[uI,j5,QU]
   refine aX (s':=[aA y1.t,aA (.lst (names.map T.str)),aA eL,aA (.lst ((ps.map λk=>names.getD k jC).map T.str)),aA (.lst ((names.drop c).map T.str)),aA (tL sh0),b]) (by simp_all?[e1,i0]) ?_
   refine uz (λs=>∃ sh m,s=[aA y1.t,aA (.lst (names.map T.str)),aA eL,aA (.lst ((ps.map λk=>names.getD k jC).map T.str)),aA (.lst ((names.drop c).map T.str)),aA (tL sh),b]/\Pairing sh m/\1<=m/\m<=5/\c+m<=names.length/\rS (tL sh)=aA (.int ((m:Int) - 1))) ?_ ?_
   ·by_cases hg:c+m0<=names.length
    ·exact dA (r:=.nx _) (by simp_all?[gm0,hl4,av (show ¬ ((names.length - c:Nat):Int)<=(m0:Int) - 1 by lia)]<;>rfl) ⟨sh0,m0,rfl,hp0,hm0,hm0',hg,gm0⟩
    ·exact dA (r:=.nx _) (by simp_all?[gm0,hl4,i00,am (show ((names.length - c:Nat):Int)<=(m0:Int) - 1 by lia)]<;>rfl) ⟨[0,0],1,rfl,.of_dec rfl rfl rfl,by lia,by lia,by lia,rfl⟩
   rintro s ⟨sh,m,rfl,hps,hm1,hm2,hcm,gm⟩;have hsl:=hps.len;obtain⟨z2,y2,e2,o2,a2,b2⟩:=uu o1 ((ps.length:Int)+1) (by lia) (by lia)
   obtain⟨p,rfl⟩:∃ p:Nat,z2=(p:Int):=⟨z2.toNat,by lia⟩
   refine aX (s':=[aA y2.t,aA (.lst (names.map T.str)),aA eL,aA (.lst ((ps.map λk=>names.getD k jC).map T.str)),aA (.lst ((names.drop c).map T.str)),aA (tL sh),aA (.int (p:Int))]) (by simp_all?[e2]) ?_
   have l1:=iW (M:=[0]) (caps:=[aB,aA 4]) (fi:=bJ (dV 5)) (dg:=au 0) (fe:=d2 aP (dV 1) (dV 0)) (s:=[aA y2.t,aA (.lst (names.map T.str)),aA eL,aA (.lst ((ps.map λk=>names.getD k jC).map T.str)),aA (.lst ((names.drop c).map T.str)),aA (tL sh),aA (.int (p:Int))]) sh nT (λk=>T.str (names.getD (c+k) jC)) (by unfold tL; simp_all?[]) (by lia) (by
    intro k hk;have hk':=hps.lt k hk;refine⟨[aA (nT k),aA (.lst ((names.drop c).map T.str))],rfl,?_,rfl⟩;have:aP (.lst ((names.drop c).map T.str)) (.int (k:Int))=aA (.str (names.getD (c+k) jC)):=by
     rw[lW,jg,Wv,j3 (by lia),oN (by lia)]; rfl
    simp_all?[this])
   have l2:sh.map (λk=>T.str (names.getD (c+k) jC))=((sh.map λk=>c+k).map λk=>names.getD k jC).map T.str:=by rw[jU,jU]; rfl
   rw[l2] at l1;have c1:cP (.lst ((ps.map λk=>names.getD k jC).map T.str)) aB (aA (p:Int))=aA (.lst (((ps.take p).map λk=>names.getD k jC).map T.str)):=by
    show aA (T.lst (d9 _ aB (aA (p:Int))))=_;rw[lY,lY,y9 ps (by lia) (by lia),Q8]
   have c2:cP (.lst ((ps.map λk=>names.getD k jC).map T.str)) (aA (p:Int)) aB=aA (.lst (((ps.drop p).map λk=>names.getD k jC).map T.str)):=by
    show aA (T.lst (d9 _ (aA (p:Int)) aB))=_;rw[lY,lY,yv ps (by lia) (by lia),Q8]
   have c3:cP (.lst ((names.drop c).map T.str)) (aA (m:Int)) aB=aA (.lst ((names.drop (c+m)).map T.str)):=by
    show aA (T.lst (d9 _ (aA (m:Int)) aB))=_;rw[lY,yv (names.drop c) (by lia) (by rw[QU]; lia),Q8,List.drop_drop]
   have c4:(m:Int) - 1+1=m:=by lia
   have p1:bK (.lst (((ps.take p).map λk=>names.getD k jC).map T.str)) (.lst (((sh.map λk=>c+k).map λk=>names.getD k jC).map T.str))=aA (.lst (((ps.take p++sh.map λk=>c+k).map λk=>names.getD k jC).map T.str)):=by
    rw[xv (by simp; lia),<-jE,<-jE]
   have p2:bK (.lst (((ps.take p++sh.map λk=>c+k).map λk=>names.getD k jC).map T.str)) (.lst (((ps.drop p).map λk=>names.getD k jC).map T.str))=aA (.lst (((ps.take p++(sh.map λk=>c+k)++ps.drop p).map λk=>names.getD k jC).map T.str)):=by
    rw[xv (by simp; lia),<-jE,<-jE]
   refine aX (s':=[aA y2.t,aA (.lst (names.map T.str)),aA eL,aA (.lst (((ps.take p++(sh.map λk=>c+k)++ps.drop p).map λk=>names.getD k jC).map T.str)),aA (.lst ((names.drop c).map T.str)),aA (tL sh),aA (.int (p:Int))]) (by simp_all?[c1,l1,p1,c2,p2]) ?_
   refine cm (s':=[aA y2.t,aA (.lst (names.map T.str)),aA eL,aA (.lst (((ps.take p++(sh.map λk=>c+k)++ps.drop p).map λk=>names.getD k jC).map T.str)),aA (.lst ((names.drop (c+m)).map T.str)),aA (tL sh),aA (.int (p:Int))]) (by simp_all?[gm,c4,c3]) ⟨⟨y2,_,c+m,_,_,rfl,o2,hp.put hps,hcm⟩,?_⟩
   show ((names.drop (c+m)).map T.str).length < ((names.drop c).map T.str).length;rw[j5,j5,QU,QU];lia
  ·rintro s0 s' ⟨y,ps,c,a,b,rfl,oy,hp,hc⟩ hf;have hcc:c=names.length:=by
    have e:(dB (d2 fD (d1 bS (dV 4)) (dC (.int 0)))) [aA y.t,aA (.lst (names.map T.str)),aA eL,aA (.lst ((ps.map λk=>names.getD k jC).map T.str)),aA (.lst ((names.drop c).map T.str)),a,b]=aA (aE (0 < ((names.drop c).map T.str).length),[aA y.t,aA (.lst (names.map T.str)),aA eL,aA (.lst ((ps.map λk=>names.getD k jC).map T.str)),aA (.lst ((names.drop c).map T.str)),a,b]):=by
     simp_all?[]
     congr 3
     simp
    rw[e] at hf;have:=congrArg Uf (jh hf);have:=of_decide_eq_false this;simp at this;lia
   subst hcc;have hs':s'=[aA y.t,aA (.lst (names.map T.str)),aA eL,aA (.lst ((ps.map λk=>names.getD k jC).map T.str)),aA (.lst ((names.drop names.length).map T.str)),a,b]:=by
    have e:(dB (d2 fD (d1 bS (dV 4)) (dC (.int 0)))) [aA y.t,aA (.lst (names.map T.str)),aA eL,aA (.lst ((ps.map λk=>names.getD k jC).map T.str)),aA (.lst ((names.drop names.length).map T.str)),a,b]=aA (aE (((0:Int) < ((names.drop names.length).map T.str).length)),[aA y.t,aA (.lst (names.map T.str)),aA eL,aA (.lst ((ps.map λk=>names.getD k jC).map T.str)),aA (.lst ((names.drop names.length).map T.str)),a,b]):=by simp_all?[]
    rw[e] at hf;exact(congrArg JV (jh hf)).symm
   subst hs';have hg:=Ez hn rfl hd hN hp;refine⟨_,by simp_all?[]<;>rfl,_,_,_,rfl,_,_,rfl,rfl,hg,λx hx=>?_⟩
   obtain⟨k,hk,rfl⟩:=jx.mp hx;have hk':=hp.lt k hk;rw[oN hk']
   exact jX hk')
 exact⟨wd,y,e,gw⟩
theorem RV(c:Int){names:List Str}(hn:names.length<=30)(hd:names.Nodup)(hN:∀ x∈names,ia x):∃ wd:List Str,yy [.int c,.lst (names.map T.str)]=aA (.lst (wd.map T.str))/\GoodWord wd/\∀ x∈wd,x∈names:=by
 have c8:∃ n8:List Str,cP (.lst (names.map T.str)) aB (aA 8)=aA (.lst (n8.map T.str))/\n8.length<=30/\n8.Nodup/\(∀ x∈n8,x∈names):=by
  by_cases h8:8<=names.length
  ·refine⟨names.take 8,?_,by rw[Qd]; lia,hd.sublist (YJ _ _),λx hx=>Zz hx⟩
   show aA (T.lst (d9 _ aB (aA 8)))=_;rw[lY,y9 names (by lia) (by lia)]; rfl
  ·refine⟨names,?_,hn,hd,λx hx=>hx⟩;show aA (T.lst (d9 _ aB (aA 8)))=_;rw[lY,EL names (by lia)]
 obtain⟨n8,e8,l8,d8,s8⟩:=c8;obtain⟨B,eb,ob⟩:=y0 c;obtain⟨B2,eb2,ob2⟩:=y0 (c / 2);obtain⟨w1,y1,e1,g1,s1⟩:=Kz ob l8 d8 (λx hx=>hN x (s8 x hx));obtain⟨w2,y2,e2,g2,s2⟩:=Pl ob2 hn hd hN
 by_cases h:c%2=1
 ·refine⟨w1,?_,g1,λx hx=>s8 x (s1 x hx)⟩;refine eY ?_;show af v7 [aA (.int c),aA (.lst (names.map T.str))] _;exact sW (s':=[aA (.int c),aA (.lst (names.map T.str))]) (by simp_all?[am h,eb,e8,e1]) rfl
 ·refine⟨w2,?_,g2,s2⟩;refine eY ?_;show af v7 [aA (.int c),aA (.lst (names.map T.str))] _;refine aX (s':=[aA (.int c),aA (.lst (names.map T.str))]) (by simp_all?[av h]) ?_
  exact fL (s':=[aA (.int c),aA (.lst (names.map T.str))]) (by simp_all?[eb2,e2]) rfl
def fo(l:List Str):List (aK × T):=l.map λx=>(.inr x,.bl aC)
theorem dN(l:List Str)(x:Str):cW (fo l) (.inr x) (.bl aC)=fo (cb l x):=by
 have ha:((fo l).any λkv=>aE (kv.1=Zv x))=aE (x∈l):=by
  unfold fo;rw[J0]
  induction l with
  |nil=>rfl
  |cons y l ih=>
   rw[Ze,ih]
   by_cases h:y=x
   ·subst h; simp
   ·have:¬ x=y:=λq=>h q.symm;simp[h,this]
 unfold cW cb;rw[ha]
 by_cases h:x∈l
 ·rw[aI (by simpa using h),aI h]
  unfold fo;rw[jU];refine QJ λy _=>?_;show (if (Zv y:aK)=Zv x then _ else _)=_
  split<;>rfl
 ·rw[aH (by simpa using h),aH h]
  unfold fo;rw[jE]; rfl
theorem Dy(s:Sg):∀(wd acc:List Str),ir [] [aB] (au 0) dH (dV 0) (dC (.bl aC)) (wd.map T.str) (fo acc) s=aA (fo (wd.foldl cb acc),s)
 |[],acc=>rfl
 |x::wd,acc=>by
  show ir [] [aB] (au 0) dH (dV 0) (dC (.bl aC)) (wd.map T.str) (cW (fo acc) (.inr x) (.bl aC)) s=_;rw[dN,Dy s wd,ZG]
theorem Er{wd:List Str}(h:wd.length<=1000):vt [aA (.lst (wd.map T.str))]=aA (.rt (.lst ((aL wd).map T.str)) [aA (.lst (wd.map T.str))]):=by
 have h1:=Dy [aA (.lst (wd.map T.str))] wd [];have hlc:wd.length<=zg8:=xI (by lia)
 have e0:fo []=[]:=rfl;rw[e0] at h1;have l1:i9 (.dct (fo (aL wd)))=aA (.lst ((aL wd).map T.str)):=by
  show aA (T.lst ((fo (aL wd)).map λkv=>kT kv.1))=_;unfold fo;rw[jU]; rfl
 have h2:ls [] [aB] (bJ (dV 0)) (au 0) dH (dV 0) (dC (.bl aC)) [aA (.lst (wd.map T.str))]=aA (.dct (fo (aL wd)),[aA (.lst (wd.map T.str))]):=by
  unfold ls
  simp_all?[hlc,h1]
  rfl
 unfold vt
 simp_all?[h2,l1]
theorem vf{wd:List Str}(h:wd.length<=1000):lE [.lst (wd.map T.str)]=aA (.lst ((aL wd).map T.str)):=by
 first
  |exact xh (Er h)
  |exact DJ (Er h)
theorem FN{wd:List Str}(h:wd.length<=1000)(x:Str):t8 [.lst (wd.map T.str),.str x]=aA (.lst ((bn wd x).map nT)):=by
 have e:=nM (M:=[]) (caps:=[aB,aB,aA 1]) (fi:=rB (aF (dV 0) aJ)) (dg:=eg [0,1]) (ft:=dB (d2 bY (dV 1) (dV 2))) (fe:=dV 0) (s:=[aA (.lst (wd.map T.str)),aA (.str x)]) wd.zipIdx (λp=>T.tup [.int (p.2:Nat),.str p.1]) (λp=>aE (p.1=x)) (λp=>nT p.2) (by simp_all?[Dz]) (by simp; lia) (by
  intro p hp
  refine⟨_,by simp_all?[]<;>rfl,by simp_all?[],λ_=>by simp_all?[],rfl⟩)
 have e2:(wd.zipIdx.filter λp=>aE (p.1=x)).map (λp=>nT p.2)=(bn wd x).map nT:=by
  rw[show (fun(p:Str × Nat)=>nT p.2)=nT∘JV from rfl,<-jU]
  congr 1
  unfold bn;refine(?_:_=(j6 wd.length).filter _);have q:∀(l:List Str) (n:Nat) (g:Nat->Bool),(∀ j (hj:j < l.length),g (n+j)=aE (l[j]=x))->((l.zipIdx n).filter λp=>aE (p.1=x)).map JV=((j6 l.length).map (n+·)).filter g:=by
   intro l
   induction l with
   |nil=>intro n g _; rfl
   |cons y l ih=>
    intro n g hg;have h0:=hg 0 (by simp)
    rw[Ni,Zo,jk,ZT,jq,Zo];have hr:=ih (n+1) g (λj hj=>by have:=hg (j+1) (by simp; lia); rw[show n+1+j=n+(j+1) by lia]; simpa using this)
    have hm:(List.map (λx=>n+x) (List.map Nat.succ (j6 l.length)))=(j6 l.length).map (λx=>n+1+x):=by
     rw[jU]; refine QJ λj _=>?_;show n+(j+1)=n+1+j; lia
    rw[hm];have h0':g (n+0)=aE (y=x):=by simpa using h0
    simp only[Nat.add_zero] at h0' ⊢;rw[h0']
    by_cases hy:y=x
    ·simp only[hy,decide_true,if_true,jq,hr]
    ·simp only[hy,decide_false,Za,if_false,hr]
  have:=q wd 0 (λj=>aE (wd[j]?=aA x)) (λj hj=>by rw[QV,j3 hj]; simp)
  rw[this]
  congr 1
  simp
 rw[e2] at e;refine eY ?_;show af vm [aA (.lst (wd.map T.str)),aA (.str x)] _;unfold vm;exact fL (by simp_all?[e]<;>rfl) rfl
theorem SL{wd:List Str}(h:wd.length<=1000){x:Str}{i j:Nat}(hp:bn wd x=[i,j]):A1 [.lst (wd.map T.str),.str x]=aA (.lst ((fj wd i j).map T.str)):=by
 have st:=FN h x;rw[hp] at st;obtain⟨h1,h2⟩:=oh hp;refine eY ?_;show af va [aA (.lst (wd.map T.str)),aA (.str x),aB,aB] _;unfold va;refine aX (by simp_all?[st,jq,Zf]<;>rfl) ?_
 have c:=Pq (wd.map T.str) (t:=(i:Int)+1) (u:=(j:Int)) (by lia) (by lia) (by simp; lia)
 have e1:((i:Int)+1).toNat=i+1:=by lia
 rw[e1,Q8] at c;refine fL (by simp_all?[cP,iM,c]<;>rfl) ?_
 unfold fj;rw[Wo,Wn]
theorem FW{wd:List Str}(h:wd.length<=1000){x:Str}{i j:Nat}(hp:bn wd x=[i,j]):qy [.lst (wd.map T.str),.str x]=aA (.lst (((aL wd).filter (bH wd x)).map T.str)):=by
 have hb:=SL h hp;have hn:=vf h;have hf:=yx wd
 have e:=nM (M:=[]) (caps:=[aB,aA 2]) (fi:=bJ (ae lE (aF (dV 0) aJ))) (dg:=au 0) (ft:=dB (d2 bY (tP qS (dV 1) (dV 0)) (dC (.int 1)))) (fe:=dV 0) (s:=[aA (.lst (wd.map T.str)),aA (.str x),aA (.lst ((fj wd i j).map T.str))]) (aL wd) T.str (bH wd x) T.str (by simp_all?[hn]) (by lia) (by
  intro y hy;refine⟨_,by simp_all?[]<;>rfl,?_,λ_=>by simp_all?[],rfl⟩
  have e1:aE (((((fj wd i j).count y:Nat):Int))=1)=aE ((fj wd i j).count y=1):=by
   by_cases q:(fj wd i j).count y=1
   ·rw[q]; rfl
   ·rw[av q,av (by lia)]
  simp_all?[e1,qQ hp])
 have key:af wB [aA (.lst (wd.map T.str)),aA (.str x),aB] λr=>∃ s,r=.rt (.lst (((aL wd).filter (bH wd x)).map T.str)) s:=by
  unfold wB;refine aX (by simp_all?[hb]<;>rfl) ?_
  exact fL (by simp_all?[e]<;>rfl) rfl
 first
  |exact sJ key
  |exact eY key
def bR(ns:List Str)(adj:Str->Str->Bool):T:=.fd (ns.map λx=>(Zv x,.lst ((bu ns adj x).map T.str)))
theorem nW{ns:List Str}{adj:Str->Str->Bool}{x:Str}(h:x∈ns):aP (bR ns adj) (.str x)=aA (.lst ((bu ns adj x).map T.str)):=by
 unfold bR;rw[sM,oT,E4 h];rfl
theorem qm(ns:List Str)(adj:Str->Str->Bool)(s s':Sg)(f:DE)(h:f s=aA (bR ns adj,s')):bJ f s=aA (ns.map T.str,s'):=by
 unfold bJ;rw[h];unfold bR;simp only[ja,jU];rfl
theorem xk{ns:List Str}{adj:Str->Str->Bool}(g:Gr ns adj)(x:Str):(bu ns adj x).length<=30:=Q9 (Zr _ _) g.len
theorem nR{ns:List Str}{j:Nat}{z:T}(h:(ns.map T.str)[j]?=aA z):∃ x,ns[j]?=aA x/\z=.str x:=by
 rw[jg] at h;obtain⟨x,h1,h2⟩:=Qm h;exact⟨x,h1,h2.symm⟩
theorem ij{ns:List Str}{P:Str->Prop}{j:Nat}{x:Str}(h:∀ y∈ns.take j,P y)(hx:ns[j]?=aA x)(p:P x):∀ y∈ns.take (j+1),P y:=by
 intro y hy;rw[gr,hx] at hy;rcases jt.mp hy with hy |hy
 ·exact h y hy
 ·have:y=x:=by simpa using hy
  rw[this]; exact p
def eV:Option Str->T
 |none=>.non
 |some x=>.str x
theorem TF{ns:List Str}{adj:Str->Str->Bool}(g:Gr ns adj):∃ r:Option Str,zw [bR ns adj]=aA (eV r)/\(∀ x,r=aA x->x∈ns/\(bu ns adj x).length%2=1)/\(r=aB->∀ x∈ns,(bu ns adj x).length%2=0):=by
 obtain⟨t,h,r,rfl,h1,h2⟩:=iJ (n:=2) (d:=t9) (ts:=[bR ns adj]) (Q:=λt=>∃ r:Option Str,t=eV r/\(∀ x,r=aA x->x∈ns/\(bu ns adj x).length%2=1)/\(r=aB->∀ x∈ns,(bu ns adj x).length%2=0)) (by
  show af t9 [aA (bR ns adj),aB] _;unfold t9;refine yi (its:=ns.map T.str) (λj s=>(∀ y∈ns.take j,(bu ns adj y).length%2=0)/\∃ a,s=[aA (bR ns adj),a]) (qm ns adj _ _ _ rfl) ⟨λy hy=>by simp at hy,_,rfl⟩ ?_ ?_
  ·rintro j z s hz ⟨hj,a,rfl⟩;obtain⟨x,hx,rfl⟩:=nR hz;have hxn:=jF hx;refine⟨_,by simp_all?[]<;>rfl,?_⟩
   by_cases hp:(bu ns adj x).length%2=1
   ·have e1:aE ((((bu ns adj x).length:Nat):Int)%2=1)=aC:=am (by lia)
    exact yA (by simp_all?[nW hxn,e1]<;>rfl) ⟨_,_,rfl,aA x,rfl,λy e=>by injection e with e; subst e; exact⟨hxn,hp⟩,λe=>by cases e⟩
   ·have e1:aE ((((bu ns adj x).length:Nat):Int)%2=1)=aD:=av (by lia)
    exact sN (by simp_all?[nW hxn,e1]<;>rfl) ⟨ij hj hx (by lia),_,rfl⟩
  ·rintro s ⟨hj,a,rfl⟩;refine dA (by simp_all?[]<;>rfl) ⟨_,_,rfl,aB,rfl,λx e=>(by cases e),λ_ x hx=>hj x ?_⟩
   rw[j5,Qy]; exact hx)
 exact⟨r,h,h1,h2⟩
theorem ET:∀(l acc:List Str),(acc++l).Nodup->l.foldl cb acc=acc++l
 |[],acc,_=>by simp
 |x::l,acc,h=>by
  rw[ZG];have hx:x∉acc:=λz=>(jP.mp h).2.2 x z x (.head _) rfl;have e:cb acc x=acc++[x]:=by unfold cb; rw[aH hx]
  rw[e,ET l (acc++[x]) (by simpa using h)]
  simp
theorem Ey{l:List Str}(h:l.Nodup):aL l=l:=by
 have:=ET l [] (by simpa using h)
 rw[NH] at this;exact this
theorem Pk{ns:List Str}{adj:Str->Str->Bool}(g:Gr ns adj)(x y:Str):rO (bu ns adj x) (bu ns adj y)=ol ns adj x y:=by
 unfold rO ol bu;rw[Ey (g.nd.filter _),Ey (g.nd.filter _)];rw[Wu]
 congr 1
 refine YS λz hz=>?_;rw[JW]
 congr 1
 simp[jQ,hz]
theorem Eh:∀(l:List Str),lP (l.map T.str)=aA l
 |[]=>rfl
 |k::l=>by show (lP (l.map T.str)).map (k::·)=_; rw[Eh l]; rfl
theorem P4{a b:List Str}(ha:a.length < 900)(hb:b.length < 900):uY (.lst (a.map T.str)) (.lst (b.map T.str))=aA (.int (rO a b:Nat)):=by
 simp only[uY,Eh,ja];rw[aI ha,aI hb]
theorem ER{ns:List Str}{adj:Str->Str->Bool}(g:Gr ns adj){x y:Str}(hx:x∈ns)(hy:y∈ns):wM [bR ns adj,.str x,.str y]=aA (.bl (bG ns adj x y)):=by
 have h1:=xk g x;have h2:=xk g y;refine eY ?_;show af wK [aA (bR ns adj),aA (.str x),aA (.str y)] _;unfold wK;refine fL (by simp_all?[nW hx,nW hy,P4 (a:=bu ns adj x) (b:=bu ns adj y) (by lia) (by lia),Pk g]<;>rfl) ?_
 unfold bG
 congr 1
 rw[decide_eq_decide];lia
theorem mem_mts{ns:List Str}{adj:Str->Str->Bool}{x y:Str}:y∈bu ns adj x↔y∈ns/\adj x y=aC:=by unfold bu; rw[jQ]
def lX(ns:List Str)(adj:Str->Str->Bool)(x y:Str):Prop:=x≠y/\adj x y=aD/\bG ns adj x y=aD
theorem TH{ns:List Str}{adj:Str->Str->Bool}(g:Gr ns adj):∃ r:Option (Str × Str),zx [bR ns adj]=aA (match r with |none=>.non |some (x,y)=>.tup [.str x,.str y])/\(∀ x y,r=aA (x,y)->x∈ns/\y∈ns/\lX ns adj x y)/\(r=aB->∀ x∈ns,∀ y∈ns,¬ lX ns adj x y):=by
 obtain⟨t,h,r,rfl,h1,h2⟩:=iJ (n:=4) (d:=tD) (ts:=[bR ns adj]) (Q:=λt=>∃ r:Option (Str × Str),t=(match r with | none=>.non | some (x,y)=>.tup [.str x,.str y])/\(∀ x y,r=aA (x,y)->x∈ns/\y∈ns/\lX ns adj x y)/\(r=aB->∀ x∈ns,∀ y∈ns,¬ lX ns adj x y)) (by
  show af tD [aA (bR ns adj),aB,aB,aB] _;unfold tD;refine yi (its:=ns.map T.str) (λj s=>(∀ x∈ns.take j,∀ y∈ns,¬ lX ns adj x y)/\∃ a b c,s=[aA (bR ns adj),a,b,c]) (qm ns adj _ _ _ rfl) ⟨λy hy=>by simp at hy,_,_,_,rfl⟩ ?_ ?_
  ·rintro j z s hz ⟨hj,a,b,c,rfl⟩;obtain⟨x,hx,rfl⟩:=nR hz;have hxn:=jF hx;refine⟨_,by simp_all?[]<;>rfl,?_⟩
   refine FO (its:=ns.map T.str) (λj s=>(∀ y∈ns.take j,¬ lX ns adj x y)/\∃ b c,s=[aA (bR ns adj),aA (.str x),b,c]) (qm ns adj _ _ _ rfl) ⟨λy hy=>by simp at hy,_,_,rfl⟩ ?_ ?_
   ·rintro i z s hz ⟨hi,b,c,rfl⟩;obtain⟨y,hy,rfl⟩:=nR hz;have hyn:=jF hy;refine⟨_,by simp_all?[]<;>rfl,?_⟩
    have ev:=ER g hxn hyn;have e1:(aE (y∈bu ns adj x))=adj x y:=by
     rw[Zi,decide_eq_true_iff,mem_mts];exact⟨λh=>h.2,λh=>⟨hyn,h⟩⟩
    by_cases hxy:y=x
    ·subst hxy;refine aX (by simp_all?[]<;>rfl) ?_
     exact sN (by simp_all?[]<;>rfl) ⟨ij hi hy (λq=>q.1 rfl),_,_,rfl⟩
    ·have hxy':¬ x=y:=λe=>hxy e.symm;cases ha:adj x y with
     |true=>
      rw[ha] at e1;refine aX (by simp_all?[nW hxn,hxy,e1]<;>rfl) ?_
      refine sN (by simp_all?[]<;>rfl) ⟨ij hi hy (λq=>?_),_,_,rfl⟩
      rw[q.2.1] at ha; cases ha
     |false=>
      rw[ha] at e1;refine aX (by simp_all?[nW hxn,hxy,e1]<;>rfl) ?_
      cases hE:bG ns adj x y with
      |true=>
       rw[hE] at ev;refine sN (by simp_all?[ev]<;>rfl) ⟨ij hi hy (λq=>?_),_,_,rfl⟩
       rw[q.2.2] at hE; cases hE
      |false=>
       rw[hE] at ev;exact yA (by simp_all?[ev]<;>rfl) ⟨_,_,rfl,aA (x,y),rfl,λu v e=>by injection e with e; injection e with e1 e2; subst e1 e2; exact⟨hxn,hyn,hxy',ha,hE⟩,λe=>by cases e⟩
   ·rintro s ⟨hi,b,c,rfl⟩;rw[j5,Qy] at hi;exact⟨ij hj hx hi,_,_,_,rfl⟩
  ·rintro s ⟨hj,a,b,c,rfl⟩;rw[j5,Qy] at hj
   exact dA (by simp_all?[]<;>rfl) ⟨_,_,rfl,aB,rfl,λx y e=>(by cases e),λ_=>hj⟩)
 exact⟨r,h,h1,h2⟩
theorem Et{ft:DT}{db:DS}{n:Nat}{s:Sg}{Q:Fl->Prop}(I:Sg->Prop)(μ:Sg->Nat)(hn:μ s < n)(h0:I s)(hs:∀ s,I s->∃ b s1,ft s=aA (b,s1)/\if b=aC then af db s1 (rG λs2=>I s2/\μ s2 < μ s) else True)
  (k:∀ s0 s',I s0->ft s0=aA (aD,s')->Q (.nx s')):af (eM ft db n) s Q:=by
 obtain⟨r,h1,h2⟩:=ql (d:=bW) (Q:=λr=>∃ s',r=.nx s'/\∃ s0,I s0/\ft s0=aA (aD,s')) I μ hn h0 hs λs0 s' a b=>⟨_,rfl,s',rfl,s0,a,b⟩;obtain⟨s',rfl,s0,a,b⟩:=h2;refine⟨.nx s',?_,k s0 s' a b⟩;unfold aM at h1;obtain⟨r,h3,h4⟩:=Qb h1;cases r with
 |nx s2=>
  have h4:bW s2=aA (.nx s'):=h4;injection h4 with h4;injection h4 with h4;rw[h3,h4]
 |rt t s2=>cases h4
 |bk s2=>cases h4
 |ct s2=>cases h4
theorem qp:∀(l m:List Str),l.Nodup->(∀ x∈l,x∈m)->l.length<=m.length
 |[],m,_,_=>QZ _
 |x::l,m,nd,h=>by
  obtain⟨n1,n2⟩:=Qf.mp nd;have hx:=h x (.head _);have ih:=qp l (m.erase x) n2 λy hy=>(gk (λe:y=x=>n1 (by rw[<-e]; exact hy))).mpr (h y (.tail _ hy))
  have:=ZH hx;have hp:0 < m.length:=gT hx;rw[jk];lia
theorem yH{c:DT}{f g:DS}{s s':Sg}{Q:Fl->Prop}(h:c s=aA (aC,s'))(k:af f s' Q):af (bU c f g) s Q:=by
 obtain⟨r,h1,h2⟩:=k;refine⟨r,?_,h2⟩;unfold bU;rw[h,ja];exact h1
def bD(O:dU):List (aK × T):=O.map λe=>(Zv e.1,eV e.2)
theorem Pb{O:dU}:∀(x:Str),((O.find? λe=>aE ((Zv e.1:aK)=Zv x)).map λe=>eV e.2).isSome=aE (x∈aY O):=λx=>by
 rw[gd,Zi,YV,decide_eq_true_iff];constructor
 ·rintro⟨e,he,h⟩;have:=ZV (of_decide_eq_true h);rw[<-this]; exact nU he
 ·intro h;obtain⟨o,ho⟩:=OY h;exact⟨_,ho,am rfl⟩
theorem yV(O:dU)(x:Str):(bQ (bD O) (.inr x)).isSome=aE (x∈aY O):=by
 unfold bD;rw[oT,Pb]
theorem xb{O:dU}(nd:(aY O).Nodup){x:Str}{o:Option Str}(h:(x,o)∈O):aP (.fd (bD O)) (.str x)=aA (eV o):=by
 rw[sM];unfold bD;rw[oT];cases hf:O.find? λe=>aE ((Zv e.1:aK)=Zv x) with
 |none=>exact absurd (am rfl) (Wy.mp hf _ h)
 |some e=>
  have h1:=List.mem_of_find?_eq_some hf;have h2:e.1=x:=by have:=Jt hf; simpa using this
  obtain⟨x',o'⟩:=e;dsimp only at h2;subst h2;rw[sI nd h h1];rfl
theorem DB{O:dU}{x:Str}{o:Option Str}(h:x∉aY O):cW (bD O) (.inr x) (eV o)=bD (O++[(x,o)]):=by
 rw[sP]
 ·unfold bD; rw[jE]; rfl
 ·unfold bD;rw[jU];intro hm;obtain⟨e,he,h2⟩:=jx.mp hm;exact h (ZV h2▸nU he)
theorem u9(w:List Str)(x:Str):ip (.lst ((w++[x]).map T.str)) []=aA (.lst (w.map T.str),.str x):=by
 simp[ip]
theorem B6{a b:List Str}(h:a.length+b.length<=1000000):nE (.lst (a.map T.str)) [.lst (b.map T.str)]=aA (.lst ((a++b).map T.str),.non):=by
 have q:(a.map T.str).length+(b.map T.str).length<=jr:=lg (by simpa using h)
 simp only[nE,q,if_true,jE]
def Vb:Sg->Nat
 |[_,aA (.dct kvs),_,aA (.lst w),_,_,_]=>2*(31 - kvs.length)+w.length
 |_=>0
theorem UE{ns:List Str}{adj:Str->Str->Bool}(g:Gr ns adj):∃ O:dU,AD [bR ns adj]=aA (.fd (bD O))/\Fo ns adj O/\∀ x∈ns,x∈aY O:=by
 obtain⟨t,h,O,rfl,h1,h2⟩:=iJ (n:=7) (d:=t6) (ts:=[bR ns adj]) (Q:=λt=>∃ O:dU,t=.fd (bD O)/\Fo ns adj O/\∀ x∈ns,x∈aY O) (by
  show af t6 [aA (bR ns adj),aB,aB,aB,aB,aB,aB] _;unfold t6;refine aX (by simp_all?[]<;>rfl) ?_
  refine iK (its:=ns.map T.str) (λj s=>∃ O a b c d e,Fo ns adj O/\(∀ y∈ns.take j,y∈aY O)/\s=[aA (bR ns adj),aA (.dct (bD O)),a,b,c,d,e]) (qm ns adj _ _ _ rfl) ⟨[],_,_,_,_,_,Fo.nil,λy hy=>by simp at hy,rfl⟩ ?_ ?_
  ·rintro j z s hz ⟨O0,a,b,c,d,e,F0,hj,rfl⟩;obtain⟨x,hx,rfl⟩:=nR hz;have hxn:=jF hx;have bnd:∀ {O:dU},(aY O).Nodup->(∀ x∈aY O,x∈ns)->O.length<=30:=λ{O} h1 h2=>by
    have:=qp _ _ h1 h2;have:=g.len;unfold aY at *;simp at *;lia
   refine⟨_,by simp_all?[]<;>rfl,?_⟩
   by_cases hk:x∈aY O0
   ·have e1:aE (x∈aY O0)=aC:=am hk;exact cm (by simp_all?[yV,e1]<;>rfl) ⟨O0,_,_,_,_,_,F0,ij hj hx hk,rfl⟩
   ·have e1:aE (x∈aY O0)=aD:=av hk;have b0:=bnd F0.nd F0.sub;have l0:(bD O0).length < jr:=lC (by unfold bD; rw[j5]; lia)
    have D0:=Dfs.start F0 hxn hk;have hp:cW (bD O0) (.inr x) .non=bD (O0++[(x,aB)]):=DB (o:=aB) hk;refine yH (by simp_all?[yV,e1]<;>rfl) ?_
    refine aX (by simp_all?[l0,cq,hp]<;>rfl) (aX (by simp_all?[]<;>rfl) ?_)
    refine Et (λs=>∃ O wt c d e,Dfs ns adj x O0 O wt/\wt.length<=O.length/\x∈aY O/\s=[aA (bR ns adj),aA (.dct (bD O)),aA (.str x),aA (.lst (wt.map T.str)),c,d,e]) Vb ?_ ⟨_,[x],_,_,_,D0,by simp,by rw[eR]; simp[aY],rfl⟩ ?_ ?_
    ·show 2*(31 - (bD (O0++[(x,aB)])).length)+1 < 100;lia
    ·rintro s ⟨O,wt,c,d,e,D,hw,hxO,rfl⟩;have bO:=bnd D.nd D.sub
     by_cases hwt:wt=[]
     ·subst hwt;exact⟨aD,_,by simp_all?[]<;>rfl,trivial⟩
     ·obtain⟨w',y,rfl⟩:∃ w' y,wt=w'++[y]:=⟨wt.dropLast,wt.getLast hwt,(Q5 hwt).symm⟩;obtain⟨hyk,hy0⟩:=D.ws y (by simp)
      have hyn:=D.sub y hyk
      refine⟨aC,[aA (bR ns adj),aA (.dct (bD O)),aA (.str x),aA (.lst ((w'++[y]).map T.str)),c,d,e],by
       simp_all?[]
       simp,?_⟩
      have D1:=D.step g;have ml:=xk g y;generalize hfr:((bu ns adj y).filter λz=>aE (z∉aY O))=fr at D1;have frl:fr.length<=30:=by rw[<-hfr]; exact Q9 (Zr _ _) ml
      have b1:=bnd D1.nd D1.sub;rw[jn,j5] at b1;rw[jn] at hw;rw[aI rfl]
      have elc:=nM (M:=[1,3]) (caps:=[aB,aA 1]) (fi:=bJ (d2 aP (dV 0) (dV 4))) (dg:=au 0) (ft:=dB (d2 dZ (dV 0) (dV 1))) (fe:=dV 0) (s:=[aA (bR ns adj),aA (.dct (bD O)),aA (.str x),aA (.lst (w'.map T.str)),aA (.str y),d,e]) (bu ns adj y) T.str (λz=>aE (z∉aY O)) T.str (by simp_all?[nW hyn]) (by lia) (by
       intro z hz
       exact⟨_,by simp_all?[]<;>rfl,by simp_all?[yV,decide_not],λ_=>by simp_all?[],rfl⟩)
      rw[hfr] at elc;refine aX (s':=[aA (bR ns adj),aA (.dct (bD O)),aA (.str x),aA (.lst (w'.map T.str)),aA (.str y),d,e]) (by simp_all?[u9]<;>rfl) (aX (by simp_all?[elc]<;>rfl) ?_)
      have frn:fr.Nodup:=by rw[<-hfr]; exact(g.nd.filter _).filter _
      have frk:∀ z∈fr,z∉aY O:=λz hz=>by rw[<-hfr] at hz; exact of_decide_eq_true (jQ.mp hz).2
      refine iK (its:=fr.map T.str) (λi s=>∃ e,s=[aA (bR ns adj),aA (.dct (bD (O++(fr.take i).map λz=>(z,aA y)))),aA (.str x),aA (.lst (w'.map T.str)),aA (.str y),aA (.lst (fr.map T.str)),e]) (by simp_all?[]<;>rfl) ⟨e,by simp⟩ ?_ ?_
      ·rintro i z s hz ⟨e,rfl⟩;obtain⟨u,hu,rfl⟩:=nR hz;refine⟨_,by simp_all?[]<;>rfl,?_⟩
       have hun:u∉aY (O++(fr.take i).map λz=>(z,aA y)):=by
        rw[eR];intro hm;rcases jt.mp hm with hm |hm
        ·exact frk u (jF hu) hm
        ·have hm:u∈fr.take i:=by
          unfold aY at hm;rw[jU] at hm;obtain⟨v,hv,rfl⟩:=jx.mp hm;exact hv
         obtain⟨k,hk1,hk2⟩:=QF hm;rw[List.getElem_take] at hk2;rw[Qd] at hk1;have hiu:=(j7.mp hu);obtain⟨hi1,hi2⟩:=hiu;have:=(Y4 frn).mp (hk2.trans hi2.symm);lia
       have ll:(bD (O++(fr.take i).map λz=>(z,aA y))).length < jr:=lC (by unfold bD; simp; lia)
       have hp:cW (bD (O++(fr.take i).map λz=>(z,aA y))) (.inr u) (.str y)=_:=DB (o:=aA y) hun;refine cm (by simp_all?[ll,cq,hp]<;>rfl) ⟨aA (.str u),?_⟩
       rw[gr,hu];simp
      ·rintro s ⟨e,rfl⟩;rw[j5,Qy];refine cm (by simp_all?[B6 (a:=w') (b:=fr) (by lia)]<;>rfl) ⟨⟨_,_,_,_,_,D1,?_,by rw[eR]; exact jj _ hxO,rfl⟩,?_⟩
       ·rw[jn,jn,j5];simp at hw;lia
       ·show 2*(31 - (bD (O++fr.map λz=>(z,aA y))).length)+((w'++fr).map T.str).length < 2*(31 - (bD O).length)+((w'++[y]).map T.str).length;unfold bD;simp;lia
    ·rintro s0 s' ⟨O,wt,c,d,e,D,hw,hxO,rfl⟩ hf
     by_cases hwt:wt=[]
     ·subst hwt;have hf:aA (aD,[aA (bR ns adj),aA (T.dct (bD O)),aA (T.str x),aA (T.lst (([]:List Str).map T.str)),c,d,e])=aA (aD,s'):=hf;injection hf with hf;injection hf with _ hf;subst hf;have F1:=D.fin g F0;refine⟨O,_,_,_,_,_,F1,ij (λy hy=>?_) hx ?_,rfl⟩
      ·obtain⟨r,hr⟩:=D.pre;rw[hr,eR]; exact jj _ (hj y hy)
      ·exact hxO
     ·exfalso
      have h2:fJ (dV 3) [aA (bR ns adj),aA (.dct (bD O)),aA (.str x),aA (.lst (wt.map T.str)),c,d,e]=aA (aC,[aA (bR ns adj),aA (.dct (bD O)),aA (.str x),aA (.lst (wt.map T.str)),c,d,e]):=by
       simp_all?[]
       simp[hwt]
      rw[h2] at hf;cases hf
  ·rintro s ⟨O,a,b,c,d,e,F,hj,rfl⟩;rw[j5,Qy] at hj
   exact dA (by simp_all?[]<;>rfl) ⟨_,_,rfl,O,rfl,F,hj⟩)
 exact⟨O,h,h1,h2⟩
def bI(b:Bool):Int:=if b then 1 else 0
theorem FQ{ns:List Str}{adj:Str->Str->Bool}(g:Gr ns adj){x y:Str}(hx:x∈ns)(hy:y∈ns){S:T}{b:Bool}(hS:aP S (.str x)=aA (.int (bI b))):wD [bR ns adj,S,.str x,.str y]=aA (.int (bI (bG ns adj x y != b))):=by
 have ev:=ER g hx hy;refine eY ?_;show af wH [aA (bR ns adj),aA S,aA (.str x),aA (.str y)] _;unfold wH;cases hE:bG ns adj x y with
 |true=>
  rw[hE] at ev;refine fL (by simp_all?[ev,hS]<;>rfl) ?_
  cases b<;>rfl
 |false=>
  rw[hE] at ev;refine fL (by simp_all?[ev,hS]<;>rfl) ?_
  cases b<;>rfl
def eD(sd:Str->Bool)(l:List Str):List (aK × T):=l.map λz=>(Zv z,.int (bI (sd z)))
theorem vE{sd:Str->Bool}{l:List Str}{x:Str}(h:x∈l):bQ (eD sd l) (.inr x)=aA (.int (bI (sd x))):=by
 unfold eD;rw[oT,E4 h];rfl
theorem Uj{ns:List Str}{adj:Str->Str->Bool}(g:Gr ns adj){O:dU}(F:Fo ns adj O):AR [bR ns adj,.fd (bD O)]=aA (.fd (eD (cu (bG ns adj) O) (aY O))):=by
 have bO:O.length<=30:=by
  have:=qp _ _ F.nd F.sub;have:=g.len;unfold aY at *;simp at *;lia
 refine eY ?_;show af wI [aA (bR ns adj),aA (.fd (bD O)),aB,aB,aB] _;unfold wI;refine aX (by simp_all?[]<;>rfl) ?_
 have it:bJ (dV 1) [aA (bR ns adj),aA (.fd (bD O)),aA (T.dct []),aB,aB]=aA (O.map λe=>T.str e.1,[aA (bR ns adj),aA (.fd (bD O)),aA (T.dct []),aB,aB]):=by
  unfold bJ bD
  simp_all?[]
  simp only[jU];rfl
 refine iK (its:=O.map λe=>T.str e.1) (λj s=>∃ a b,s=[aA (bR ns adj),aA (.fd (bD O)),aA (.dct (eD (cu (bG ns adj) O) (aY (O.take j)))),a,b]) it ⟨aB,aB,rfl⟩ ?_ ?_
 ·rintro j z s hz ⟨a,b,rfl⟩;rw[jg] at hz;obtain⟨⟨x,o⟩,hx,rfl⟩:=Qm hz;have hm:(x,o)∈O:=jF hx;have hxn:=F.sub x (nU hm);have at1:=xb F.nd hm;have sd1:=F.side (bG ns adj) hx;have tk:O.take (j+1)=O.take j++[(x,o)]:=by rw[gr,hx]; rfl
  have hnk:x∉aY (O.take j):=by
   have nd:=F.nd;rw[<-Z8 (j+1) O,tk,eR,eR] at nd;intro h;exact(jP.mp (jP.mp nd).1).2.2 x h x (by simp[aY]) rfl
  have ll:(eD (cu (bG ns adj) O) (aY (O.take j))).length < jr:=lC (by unfold eD aY; simp; lia)
  have hp:cW (eD (cu (bG ns adj) O) (aY (O.take j))) (.inr x) (.int (bI (cu (bG ns adj) O x)))=eD (cu (bG ns adj) O) (aY (O.take (j+1))):=by
   rw[sP]
   ·rw[tk,eR]; unfold eD; rw[jE]; rfl
   ·unfold eD;rw[jU];intro hm;obtain⟨e,he,h2⟩:=jx.mp hm;exact hnk (ZV h2▸he)
  refine⟨_,by simp_all?[]<;>rfl,?_⟩
  cases o with
  |none=>
   dsimp only at sd1;rw[sd1] at hp;refine aX (by simp_all?[at1,eV]<;>rfl) ?_
   exact cm (by simp_all?[eV,oo,fC,cq,ll]; rw[show (T.int 0)=T.int (bI aD) from rfl,hp]) ⟨_,_,rfl⟩
  |some p=>
   dsimp only at sd1;obtain⟨_,hpk⟩:=F.ord j x p hx;have hpn:p∈ns:=F.sub p (by rw[<-Z8 j O,eR]; exact jj _ hpk)
   have sb:=FQ g hpn hxn (S:=.dct (eD (cu (bG ns adj) O) (aY (O.take j)))) (b:=cu (bG ns adj) O p) (by rw[DZ]; exact vE hpk)
   rw[<-sd1] at sb;refine aX (by simp_all?[at1,eV]<;>rfl) ?_
   exact cm (by simp_all?[eV,oo,fC,sb,lO,cq,ll,hp]<;>rfl) ⟨_,_,rfl⟩
 ·rintro s ⟨a,b,rfl⟩;rw[j5,Qy];exact fL (by simp_all?[]<;>rfl) rfl
theorem Um{ns:List Str}{adj:Str->Str->Bool}(g:Gr ns adj){sd:Str->Bool}{l:List Str}(hl:∀ x∈ns,x∈l):∃ r:Option (Str × Str),AE [bR ns adj,.fd (eD sd l)]=aA (match r with |none=>.non |some (x,y)=>.tup [.str x,.str y])/\(∀ x y,r=aA (x,y)->x∈ns/\y∈ns/\adj x y=aC/\bG ns adj x y≠(sd x != sd y))/\(r=aB->∀ x∈ns,∀ y∈ns,adj x y=aC->bG ns adj x y=(sd x != sd y)):=by
 obtain⟨t,h,r,rfl,h1,h2⟩:=iJ (n:=4) (d:=t7) (ts:=[bR ns adj,.fd (eD sd l)]) (Q:=λt=>∃ r:Option (Str × Str),t=(match r with | none=>.non | some (x,y)=>.tup [.str x,.str y])/\(∀ x y,r=aA (x,y)->x∈ns/\y∈ns/\adj x y=aC/\bG ns adj x y≠(sd x != sd y))/\(r=aB->∀ x∈ns,∀ y∈ns,adj x y=aC->bG ns adj x y=(sd x != sd y))) (by
  show af t7 [aA (bR ns adj),aA (.fd (eD sd l)),aB,aB] _;unfold t7;refine yi (its:=ns.map T.str) (λj s=>(∀ x∈ns.take j,∀ y∈ns,adj x y=aC->bG ns adj x y=(sd x != sd y))/\∃ a b,s=[aA (bR ns adj),aA (.fd (eD sd l)),a,b]) (qm ns adj _ _ _ rfl) ⟨λy hy=>by simp at hy,_,_,rfl⟩ ?_ ?_
  ·rintro j z s hz ⟨hj,a,b,rfl⟩;obtain⟨x,hx,rfl⟩:=nR hz;have hxn:=jF hx;refine⟨_,by simp_all?[]<;>rfl,?_⟩
   refine FO (its:=(bu ns adj x).map T.str) (λj s=>(∀ y∈(bu ns adj x).take j,bG ns adj x y=(sd x != sd y))/\∃ b,s=[aA (bR ns adj),aA (.fd (eD sd l)),aA (.str x),b]) (by simp_all?[nW hxn]<;>rfl) ⟨λy hy=>by simp at hy,_,rfl⟩ ?_ ?_
   ·rintro i z s hz ⟨hi,b,rfl⟩;obtain⟨y,hy,rfl⟩:=nR hz;obtain⟨hyn,hyx⟩:=mem_mts.mp (jF hy);refine⟨_,by simp_all?[]<;>rfl,?_⟩
    have sb:=FQ g hxn hyn (S:=.fd (eD sd l)) (b:=sd x) (by rw[sM]; exact vE (hl x hxn))
    have sy:aP (.fd (eD sd l)) (.str y)=aA (.int (bI (sd y))):=by rw[sM]; exact vE (hl y hyn)
    have key:aE (bI (bG ns adj x y != sd x)=bI (sd y))=aE (bG ns adj x y=(sd x != sd y)):=by cases bG ns adj x y<;>cases sd x<;>cases sd y<;>rfl
    by_cases hE:bG ns adj x y=(sd x != sd y)
    ·rw[am hE] at key;exact sN (by simp_all?[sb,sy,key]<;>rfl) ⟨ij hi hy hE,_,rfl⟩
    ·rw[av hE] at key;exact yA (by simp_all?[sb,sy,key]<;>rfl) ⟨_,_,rfl,aA (x,y),rfl,λu v e=>by injection e with e; injection e with e1 e2; subst e1 e2; exact⟨hxn,hyn,hyx,hE⟩,λe=>by cases e⟩
   ·rintro s ⟨hi,b,rfl⟩;rw[j5,Qy] at hi;exact⟨ij hj hx λy hyn ha=>hi y (mem_mts.mpr ⟨hyn,ha⟩),_,_,rfl⟩
  ·rintro s ⟨hj,a,b,rfl⟩;rw[j5,Qy] at hj
   exact dA (by simp_all?[]<;>rfl) ⟨_,_,rfl,aB,rfl,λx y e=>(by cases e),λ_=>hj⟩)
 exact⟨r,h,h1,h2⟩
theorem Pj{α:Type}{a b:List α}{z:α}{k:Int}(hk:k=-((b.length:Int)+1)):cp (a++z::b) k=aA z:=by
 unfold cp eS;have hl:(a++z::b).length=a.length+b.length+1:=by simp; lia
 rw[aH (by lia),aI (by rw[hl]; lia),ja]
 have:(k+((a++z::b).length:Int)).toNat=a.length:=by rw[hl]; lia
 rw[this];simp
theorem Ed{a b:List Str}{z:Str}{k:Int}(hk:k=-((b.length:Int)+1)):aP (.lst ((a++z::b).map T.str)) (.int k)=aA (.str z):=by
 have e:fZ (.lst ((a++z::b).map T.str)) (.int k)=aA (.str z):=by
  show cp ((a++z::b).map T.str) k=_;rw[jE,jq];exact Pj (by simpa using hk)
 unfold aP dP;rw[e]
theorem sj(a:List Str)(z:Str):aP (.lst ((a++[z]).map T.str)) (.int (-1))=aA (.str z):=Ed (b:=[]) (by simp)
theorem SZ(a:List Str)(z m:Str):aP (.lst (((a++[z])++[m]).map T.str)) (.int (-2))=aA (.str z):=by
 have:=Ed (a:=a) (b:=[m]) (z:=z) (k:=-2) (by simp)
 rw[Ql];exact this
def VY:Sg->Nat
 |[_,_,aA (.lst w)]=>40 - w.length
 |_=>0
theorem F6{ns:List Str}{adj:Str->Str->Bool}(g:Gr ns adj){O:dU}(F:Fo ns adj O){x:Str}{w:List Str}(hw:Way O x w):vo [.fd (bD O),.str x]=aA (.lst (w.map T.str)):=by
 have wl:w.length<=30:=by
  have:=qp _ _ (hw.nodup F.nd) (λy hy=>F.sub y (hw.key y hy));have:=g.len;lia
 have key:af vw [aA (.fd (bD O)),aA (.str x),aB] λr=>∃ s,r=.rt (.lst (w.map T.str)) s:=by
  unfold vw;refine aX (by simp_all?[]<;>rfl) ?_
  obtain⟨w0,rfl⟩:=hw.head;have at_:∀ {a:List Str} {z:Str} {c:List Str},x::w0=a++z::c->∃ o,aP (.fd (bD O)) (.str z)=aA (eV o)/\(match o with |none=>c=[] |some p=>∃ c',c=p::c'):=λ{a z c} e=>by
   have k:=hw.from e;cases k with
   |root h=>exact⟨aB,xb F.nd h,rfl⟩
   |step h k2=>
    obtain⟨t,ht⟩:=k2.head;exact⟨_,xb F.nd h,t,ht⟩
  refine ql (λs=>∃ a z c,x::w0=a++z::c/\s=[aA (.fd (bD O)),aA (.str x),aA (.lst ((a++[z]).map T.str))]) VY ?_ ⟨[],x,w0,rfl,rfl⟩ ?_ ?_
  ·show 40 - 1 < 100;lia
  ·rintro s ⟨a,z,c,e,rfl⟩;obtain⟨o,h1,h2⟩:=at_ e;have hl:(x::w0).length=a.length+c.length+1:=by rw[e]; simp; lia
   cases o with
   |none=>exact⟨aD,_,by simp_all?[sj,h1,eV,eN,fC]<;>rfl,trivial⟩
   |some p=>
    obtain⟨c',rfl⟩:=h2;refine⟨aC,_,by simp_all?[sj,h1,eV,eN,fC]<;>rfl,?_⟩
    rw[aI rfl];refine cm (s':=[aA (.fd (bD O)),aA (.str x),aA (.lst (((a++[z])++[p]).map T.str))]) (by simp_all?[sj,h1,eV,C7 (xs:=a++[z]) p (by simp; lia)]) ⟨⟨a++[z],p,c',by rw[e]; simp,rfl⟩,?_⟩
    show 40 - (((a++[z])++[p]).map T.str).length < 40 - ((a++[z]).map T.str).length;have hl3:a.length+(p::c').length+1<=30:=by rw[<-hl]; exact wl
    rw[jk] at hl3;have e9:(((a++[z])++[p]).map T.str).length=a.length+2:=by simp
    have e8:((a++[z]).map T.str).length=a.length+1:=by simp
    rw[e9,e8];lia
  ·rintro s0 s' ⟨a,z,c,e,rfl⟩ hf;obtain⟨o,h1,h2⟩:=at_ e;cases o with
   |none=>
    have h2:c=[]:=h2;subst h2;have h3:dB (d2 eN (d2 aP (dV 0) (bh aP 2 (d1 iT (dC (.int 1))))) (dC .non)) [aA (.fd (bD O)),aA (.str x),aA (.lst ((a++[z]).map T.str))]=aA (aD,[aA (.fd (bD O)),aA (.str x),aA (.lst ((a++[z]).map T.str))]):=by simp_all?[sj,h1,eV,eN,fC]<;>rfl
    rw[h3] at hf;injection hf with hf;injection hf with _ hf;subst hf;exact fL (by simp_all?[]<;>rfl) (by rw[e])
   |some p=>
    have h3:dB (d2 eN (d2 aP (dV 0) (bh aP 2 (d1 iT (dC (.int 1))))) (dC .non)) [aA (.fd (bD O)),aA (.str x),aA (.lst ((a++[z]).map T.str))]=aA (aC,[aA (.fd (bD O)),aA (.str x),aA (.lst ((a++[z]).map T.str))]):=by simp_all?[sj,h1,eV,eN,fC]<;>rfl
    rw[h3] at hf;cases hf
 first
  |exact sJ key
  |exact eY key
theorem Op(n:List Str)(m:Str):iM (.lst ((n++[m]).map T.str)) aB (aA (-1))=aA (.lst (n.map T.str)):=by
 show aA (T.lst (d9 ((n++[m]).map T.str) aB (aA (-1))))=_;refine congrArg aA (congrArg T.lst ?_);unfold d9 HT.sIx;simp;have:(-1+((n.length:Int)+1)).toNat=n.length:=by lia
 rw[this];simp
theorem Ry(n:List Str):u0 (.lst (n.map T.str))=aA (.lst (n.reverse.map T.str)):=by
 show aA (T.lst (n.map T.str).reverse)=_;rw[List.map_reverse]
theorem Al(a:List Str)(m:Str):aE ((1:Int) < (((a++[m]).length:Nat):Int))=!a.isEmpty:=by
 cases a with
 |nil=>rfl
 |cons c a=>rw[am (by simp; lia)]; rfl
def Va:Sg->Nat
 |[_,_,_,aA (.lst w),_]=>w.length
 |_=>0
def BY(f n:List Str):Prop:=f=[]∨n=[]∨f.getLast?≠n.getLast?
theorem Uv{ns:List Str}{adj:Str->Str->Bool}(g:Gr ns adj){O:dU}(F:Fo ns adj O){x y:Str}{w w':List Str}(hw:Way O x w)(hw':Way O y w')(hl:w.getLast?=w'.getLast?) :
  ∃ f n c m,w=f++m::c/\w'=n++m::c/\BY f n/\AY [.fd (bD O),.str x,.str y]=aA (.lst ((f++m::n.reverse).map T.str)):=by
 have w1:=F6 g F hw;have w2:=F6 g F hw';have wl:∀ {z:Str} {u:List Str},Way O z u->u.length<=30:=λ{z u} h=>by
  have:=qp _ _ (h.nodup F.nd) (λy hy=>F.sub y (h.key y hy));have:=g.len;lia
 have l1:=wl hw;have l2:=wl hw'
 obtain⟨t,h,f,n,c,m,h1,h2,h3,rfl⟩:=iJ (n:=5) (d:=tE) (ts:=[.fd (bD O),.str x,.str y]) (Q:=λt=>∃ f n c m,w=f++m::c/\w'=n++m::c/\BY f n/\t=.lst ((f++m::n.reverse).map T.str)) (by
  show af tE [aA (.fd (bD O)),aA (.str x),aA (.str y),aB,aB] _;unfold tE;refine aX (by simp_all?[w1]<;>rfl) (aX (by simp_all?[w2]<;>rfl) ?_)
  have fW:∀(f n:List Str) (m:Str),f.length+n.length<=100->(iq (dB (d2 fD (d1 bS (dV 3)) (dC (.int 1)))) (iq (dB (d2 fD (d1 bS (dV 4)) (dC (.int 1)))) (dB (d2 bY (bh aP 3 (d1 iT (dC (.int 2)))) (bh aP 4 (d1 iT (dC (.int 2)))))))) [aA (.fd (bD O)),aA (.str x),aA (.str y),aA (.lst ((f++[m]).map T.str)),aA (.lst ((n++[m]).map T.str))]=aA (!f.isEmpty&&(!n.isEmpty&&aE (f.getLast?=n.getLast?)),[aA (.fd (bD O)),aA (.str x),aA (.str y),aA (.lst ((f++[m]).map T.str)),aA (.lst ((n++[m]).map T.str))]):=by
   intro f n m hfn
   by_cases hf:f=[]
   ·subst hf
    simp_all?[Al]
    rfl
   ·obtain⟨f',u,rfl⟩:∃ f' u,f=f'++[u]:=⟨f.dropLast,f.getLast hf,(Q5 hf).symm⟩;have e1:(f'++[u]).isEmpty=aD:=by simp
    by_cases hn:n=[]
    ·subst hn
     simp_all?[Al,e1]
     rfl
    ·obtain⟨n',v,rfl⟩:∃ n' v,n=n'++[v]:=⟨n.dropLast,n.getLast hn,(Q5 hn).symm⟩;have e2:(n'++[v]).isEmpty=aD:=by simp
     have e3:aE ((f'++[u]).getLast?=(n'++[v]).getLast?)=aE (u=v):=by simp
     simp_all?[Al,e1,e2,e3,SZ,JU]
  refine ql (λs=>∃ f n c m,w=f++m::c/\w'=n++m::c/\s=[aA (.fd (bD O)),aA (.str x),aA (.str y),aA (.lst ((f++[m]).map T.str)),aA (.lst ((n++[m]).map T.str))]) Va ?_ ?_ ?_ ?_
  ·show (w.map T.str).length < 100;rw[j5]; lia
  ·obtain⟨t,rfl⟩:=hw.head;obtain⟨t',rfl⟩:=hw'.head;have n1:x::t≠[]:=by simp
   have n2:y::t'≠[]:=by simp
   have e1:=(Q5 n1).symm;have e2:=(Q5 n2).symm;have e3:(x::t).getLast n1=(y::t').getLast n2:=by
    rw[Y8 n1,Y8 n2] at hl;exact jh hl
   rw[<-e3] at e2;exact⟨_,_,[],_,e1,e2,by rw[<-e1,<-e2]⟩
  ·rintro s ⟨f,n,c,m,e1,e2,rfl⟩;have hfn:f.length+n.length<=100:=by
    rw[e1] at l1;rw[e2] at l2;simp at l1 l2;lia
   refine⟨_,_,fW f n m hfn,?_⟩;split
   ·rename_i hb;rw[jL,jL] at hb;obtain⟨b1,b2,b3⟩:=hb;have hf:f≠[]:=by intro e; subst e; cases b1
    have hn:n≠[]:=by intro e; subst e; cases b2
    obtain⟨f',u,rfl⟩:∃ f' u,f=f'++[u]:=⟨f.dropLast,f.getLast hf,(Q5 hf).symm⟩;obtain⟨n',v,rfl⟩:∃ n' v,n=n'++[v]:=⟨n.dropLast,n.getLast hn,(Q5 hn).symm⟩;have:u=v:=by have:=of_decide_eq_true b3; simpa using this
    subst this;refine aX (by simp_all?[u9]<;>rfl) ?_
    refine cm (by simp_all?[u9]<;>rfl) ⟨⟨f',n',m::c,u,by rw[e1]; simp,by rw[e2]; simp,rfl⟩,?_⟩
    show ((f'++[u]).map T.str).length < (((f'++[u])++[m]).map T.str).length;simp
   ·trivial
  ·rintro s0 s' ⟨f,n,c,m,e1,e2,rfl⟩ hf;have hfn:f.length+n.length<=100:=by
    rw[e1] at l1;rw[e2] at l2;simp at l1 l2;lia
   rw[fW f n m hfn] at hf;injection hf with hf;injection hf with hf1 hf2;subst hf2;refine dA (by simp_all?[Op,Ry]<;>rfl) ⟨_,_,rfl,f,n,c,m,e1,e2,?_,by simp⟩
   by_cases q1:f=[]
   ·exact .inl q1
   ·by_cases q2:n=[]
    ·exact .inr (.inl q2)
    ·refine .inr (.inr λq3=>?_);have i1:f.isEmpty=aD:=by simpa using q1
     have i2:n.isEmpty=aD:=by simpa using q2
     rw[i1,i2,am q3] at hf1
     cases hf1)
 exact⟨f,n,c,m,h1,h2,h3,h⟩
theorem B4(a b:T):aP (.tup [a,b]) (.int 0)=aA a:=rfl
theorem B5(a b:T):aP (.tup [a,b]) (.int 1)=aA b:=rfl
structure RingOk (ns:List Str) (adj:Str->Str->Bool) (r:List Str):Prop where
 nd:r.Nodup
 sub:∀ x∈r,x∈ns
 len:3<=r.length
 chn:cV (λa b=>adj a b=aC) r
 ends:∃ x y,r.head?=aA x/\r.getLast?=aA y/\adj y x=aC/\((if bG ns adj y x then 1 else 0)+r9 (bG ns adj) r)%2=1
structure SidesOk (ns:List Str) (adj:Str->Str->Bool) (sd:Str->Bool):Prop where
 even:∀ x∈ns,(bu ns adj x).length%2=0
 pair:∀ x∈ns,∀ y∈ns,¬ lX ns adj x y
 fit:∀ x∈ns,∀ y∈ns,adj x y=aC->bG ns adj x y=(sd x != sd y)
inductive Told (ns:List Str) (adj:Str->Str->Bool):T->Prop
 |odd (x:Str) (hx:x∈ns) (h:(bu ns adj x).length%2=1):Told ns adj (.tup [.str "odd",.str x])
 |pair (x y:Str) (hx:x∈ns) (hy:y∈ns) (h:lX ns adj x y):Told ns adj (.tup [.str "pair",.str x,.str y])
 |ring (r:List Str) (h:RingOk ns adj r):Told ns adj (.tup [.str "ring",.lst (r.map T.str)])
 |sides (sd:Str->Bool) (h:SidesOk ns adj sd):Told ns adj (.tup [.str "sides",.lst (ns.map λx=>.int (bI (sd x)))])
theorem Uz{ns:List Str}{adj:Str->Str->Bool}(g:Gr ns adj)(he:∀ x∈ns,(bu ns adj x).length%2=0)(hp:∀ x∈ns,∀ y∈ns,¬ lX ns adj x y):∃ t,Ac [bR ns adj]=aA t/\Told ns adj t:=by
 obtain⟨O,h1,F,hall⟩:=UE g;have h2:=Uj g F;generalize hsd:cu (bG ns adj) O=sd at h2;obtain⟨r,h3,hr1,hr2⟩:=Um g (sd:=sd) (l:=aY O) hall;refine iJ (n:=4) (d:=tG) (ts:=[bR ns adj]) (Q:=Told ns adj) ?_;show af tG [aA (bR ns adj),aB,aB,aB] _;unfold tG;refine aX (by simp_all?[h1]<;>rfl) (aX (by simp_all?[h2]<;>rfl) ?_)
 cases r with
 |none=>
  have hfit:=hr2 rfl;refine aX (by simp_all?[h3]<;>rfl) (aX (by simp_all?[eN,fC]<;>rfl) ?_)
  have e:=iW (M:=[]) (caps:=[aB,aA 2]) (fi:=bJ (dV 0)) (dg:=au 0) (fe:=d2 aP (dV 1) (dV 0)) (s:=[aA (bR ns adj),aA (.fd (bD O)),aA (.fd (eD sd (aY O))),aA .non]) ns T.str (λx=>.int (bI (sd x))) (qm ns adj _ _ _ rfl) (by have:=g.len; lia) (by
   intro x hx;have sx:aP (.fd (eD sd (aY O))) (.str x)=aA (.int (bI (sd x))):=by rw[sM]; exact vE (hall x hx)
   exact⟨_,by simp_all?[]<;>rfl,by simp_all?[sx],rfl⟩)
  exact dA (by simp_all?[e]<;>rfl) ⟨_,_,rfl,.sides sd ⟨he,hp,hfit⟩⟩
 |some xy=>
  obtain⟨x,y⟩:=xy;obtain⟨hx,hy,ha,hw⟩:=hr1 x y rfl;obtain⟨w,hwx⟩:=F.way x (hall x hx);obtain⟨w',hwy⟩:=F.way y (hall y hy);have hl:=F.rt x (hall x hx) y (hall y hy) ha w w' hwx hwy;obtain⟨f,n,c,m,e1,e2,he3,h4⟩:=Uv g F hwx hwy hl;rw[e1] at hwx;rw[e2] at hwy;have hyx:adj y x=aC:=by rw[<-g.sym x hx y hy]; exact ha
  have hw2:bG ns adj y x≠(sd y != sd x):=by
   rw[yP];intro q;apply hw;rw[q];cases sd x<;>cases sd y<;>rfl
  obtain⟨k1,k2,k3,k4,k5,k6,k7⟩:=Oj (adj:=adj) (ev:=bG ns adj) (sd:=sd) F.nd (λa b hab=>by rw[<-hsd]; exact F.edge g hab) hwx hwy he3 (g.irr x hx) hyx hw2 (yP _ _ _ _)
  refine aX (by simp_all?[h3]<;>rfl) (qZ (by simp_all?[eN,fC,B4,B5,h4]<;>rfl) ⟨_,_,rfl,.ring _ ⟨k1,λz hz=>F.sub z (k2 z hz),k3,k4,x,y,k5,k6,hyx,k7⟩⟩)
theorem oO{wd:List Str}(g:GoodWord wd):Gr (aL wd) (bH wd):=by
 refine⟨vz wd,λx hx y hy=>MV g (mem_firsts.mp hx) (mem_firsts.mp hy),λx hx=>Pp g (mem_firsts.mp hx),?_⟩;have:=lb g.two;have:=g.len;lia
theorem SB{wd:List Str}(gw:GoodWord wd):∃ t,oZ [.lst (wd.map T.str)]=aA t/\Told (aL wd) (bH wd) t:=by
 have g:=oO gw;have gl:=gw.len;have hn:=vf (wd:=wd) (by lia)
 obtain⟨r,h1,o1,o2⟩:=TF g;obtain⟨r2,h2,p1,p2⟩:=TH g;refine iJ (n:=4) (d:=sv) (ts:=[.lst (wd.map T.str)]) (Q:=Told (aL wd) (bH wd)) ?_;show af sv [aA (.lst (wd.map T.str)),aB,aB,aB] _;unfold sv;have hf:=yx wd
 have e:=LJ (M:=[]) (caps:=[aB,aA 0]) (fi:=bJ (ae lE (aF (dV 0) aJ))) (dg:=au 0) (fk:=dV 0) (fe:=ae qy (aF (dV 1) (aF (dV 0) aJ))) (s:=[aA (.lst (wd.map T.str)),aB,aB,aB]) (aL wd) T.str T.str Zv (λx=>.lst ((bu (aL wd) (bH wd) x).map T.str)) (by simp_all?[hn]) (by lia) (ge.mpr ((vz wd).imp λh e=>h (ZV e))) (by
  intro x hx;obtain⟨i,j,hp⟩:=gw.places (mem_firsts.mp hx);have hc:=FW (wd:=wd) (by lia) hp
  refine⟨_,by simp_all?[]<;>rfl,by simp_all?[],rfl,?_,rfl⟩
  simp_all?[hc]
  rfl)
 refine aX (by simp_all?[e]<;>rfl) ?_
 have fz:T.fd ((aL wd).map λx=>((Zv x:aK),T.lst ((bu (aL wd) (bH wd) x).map T.str)))=bR (aL wd) (bH wd):=rfl;cases r with
 |some x=>
  obtain⟨hx,ho⟩:=o1 x rfl;refine aX (by simp_all?[fz,h1]<;>rfl) (qZ (by simp_all?[eV,eN,fC]<;>rfl) ⟨_,_,rfl,.odd x hx ho⟩)
 |none=>
  have ho:=o2 rfl;refine aX (by simp_all?[fz,h1]<;>rfl) (aX (by simp_all?[eV,eN,fC]<;>rfl) ?_)
  cases r2 with
  |some xy=>
   obtain⟨x,y⟩:=xy;obtain⟨hx,hy,hxy⟩:=p1 x y rfl;refine aX (by simp_all?[h2]<;>rfl) (qZ (by simp_all?[eN,fC,B4,B5]<;>rfl) ⟨_,_,rfl,.pair x y hx hy hxy⟩)
  |none=>
   obtain⟨t,h3,tt⟩:=Uz g ho (p2 rfl);refine aX (by simp_all?[h2]<;>rfl) (aX (by simp_all?[eN,fC]<;>rfl) ?_)
   exact dA (by simp_all?[h3]<;>rfl) ⟨_,_,rfl,tt⟩
def bp(r:List Nat):T:=.lst (r.map nT)
def bZ(f:Nat->Nat)(k s:Nat):List Nat:=(j6 k).map λi=>aw f i s
theorem qt(f:Nat->Nat)(k s:Nat):bZ f (k+1) s=bZ f k s++[aw f k s]:=by unfold bZ; rw[Js,jE]; rfl
theorem zA{f:Nat->Nat}{k s:Nat}(h:aw f k s∈bZ f k s):∀ m,aw f m s∈bZ f k s:=by
 obtain⟨i,hi,e⟩:=jx.mp h;have hi:=jc.mp hi;intro m
 induction m using Nat.strongRecOn with
 |_ m ih=>
  by_cases hm:m < k
  ·exact jx.mpr ⟨m,jc.mpr hm,rfl⟩
  ·have e1:aw f m s=aw f (m - k+i) s:=by
    rw[qe,e,<-qe,show m - k+k=m by lia]
   rw[e1];exact ih _ (by lia)
def uE(f:Nat->Nat)(s:Nat)(r:List Nat):Prop:=∃ k,r=bZ f k s/\0 < k/\(bZ f k s).Nodup/\aw f k s∈bZ f k s
structure RowsL (f:Nat->Nat) (rows:List (List Nat)) (L:List Nat) (s:Nat):Prop where
 len:rows.length=L.length
 lt:∀ x∈L,x < s
 srt:L.Pairwise λx y=>x < y
 row:∀(i x:Nat) (r:List Nat),L[i]?=aA x->rows[i]?=aA r->uE f x r
 le:∀ x,x < s->∃ t∈L,t<=x/\bV f t x
theorem RowsL.nil(f:Nat->Nat):RowsL f [] [] 0:=⟨rfl,λx hx=>(by cases hx),.nil,λi x r h=>by simp at h,λx hx=>by lia⟩
theorem RowsL.skip{f:Nat->Nat}{rows:List (List Nat)}{L:List Nat}{s:Nat}(h:RowsL f rows L s)(hs:∃ t∈L,bV f t s):RowsL f rows L (s+1):=
 ⟨h.len,λx hx=>Z0 (h.lt x hx),h.srt,h.row,λx hx=>by
  by_cases q:x=s
  ·obtain⟨t,ht,o⟩:=hs;exact⟨t,ht,by rw[q]; exact Z4 (h.lt t ht),by rw[q]; exact o⟩
  ·exact h.le x (by lia)⟩
theorem RowsL.snoc{f:Nat->Nat}{rows:List (List Nat)}{L:List Nat}{s:Nat}{r:List Nat}(h:RowsL f rows L s)(hr:uE f s r):RowsL f (rows++[r]) (L++[s]) (s+1):=by
 refine⟨by rw[jn,jn,h.len]; rfl,λx hx=>?_,?_,λi x r' hx hr'=>?_,λx hx=>?_⟩
 ·rcases jt.mp hx with q |q
  ·exact Z0 (h.lt x q)
  ·rw[je.mp q]; exact Zn s
 ·rw[NW];exact⟨h.srt,by simp,λx hx y hy=>by rw[je.mp hy]; exact h.lt x hx⟩
 ·by_cases q:i < L.length
  ·rw[Q7 q] at hx;rw[Q7 (by rw[h.len]; exact q)] at hr'
   exact h.row i x r' hx hr'
  ·have hi:i=L.length:=by
    have:=(j7.mp hx).1;rw[jn,Zq] at this;lia
   subst hi;rw[Qc (ji _),Nat.sub_self] at hx;rw[<-h.len,Qc (ji _),Nat.sub_self] at hr';obtain rfl:=jh hx;obtain rfl:=jh hr';exact hr
 ·by_cases q:x=s
  ·exact⟨s,by simp,by lia,by rw[q]; exact bV.refl f s⟩
  ·obtain⟨t,ht,o⟩:=h.le x (by lia)
   exact⟨t,jj _ ht,o⟩
def tS(n:Nat)(f:Nat->Nat)(rows:List (List Nat)):Prop:=∃ L,Trav n (bV f) L/\RowsL f rows L n
structure Wkd (n:Nat) (f:Nat->Nat) (S:Int->Bool) (m:Nat) (Wl L:List Nat) (s:Nat):Prop where
 set:∀ x:Nat,S (x:Int)=aC↔x∈Wl
 len:m=Wl.length
 nd:Wl.Nodup
 lt:∀ x∈Wl,x < n
 mem:∀ x,x∈Wl↔x < n/\∃ t∈L,bV f t x
 ltL:∀ x∈L,x < n
 one:L.Pairwise λx y=>¬ bV f x y
 all:∀ x,x < s->∃ t∈L,bV f t x
def Gd:T->Nat
 |.lst xs=>xs.length
 |_=>0
def IN(s:Sg):Nat:=300 - Gd ((s[4]?).join.getD .non) - 1
theorem Kl{n:Nat}{f:Nat->Nat}{x:Nat}(hx:x < n):aP (.lst (((j6 n).map f).map nT)) (.int (x:Int))=aA (.int (f x:Nat)):=by
 rw[lW,jg,jg,Zh hx]; rfl
theorem SJ{n:Nat}{f:Nat->Nat}(hf:Perm1 n f)(hn:n<=120):∃ rows:List (List Nat),zk [.lst (((j6 n).map f).map nT)]=aA (.lst (rows.map bp))/\tS n f rows:=by
 obtain⟨t,e,rows,rfl,hT⟩:=iJ (n:=6) (d:=vW) (ts:=[.lst (((j6 n).map f).map nT)]) (Q:=λt=>∃ rows:List (List Nat),t=.lst (rows.map bp)/\tS n f rows) (by
  show af _ [aA (.lst (((j6 n).map f).map nT)),aB,aB,aB,aB,aB] _;unfold vW;have la:(((j6 n).map f).map nT).length=n:=by simp
  generalize hA:(((j6 n).map f).map nT)=A at la;refine aX (s':=[aA (.lst A),aA (.lst []),aB,aB,aB,aB]) (by simp_all?[]<;>rfl) ?_
  refine aX (s':=[aA (.lst A),aA (.lst []),aA (.set (λ_=>aD) 0),aB,aB,aB]) (by simp_all?[]<;>rfl) ?_
  have r1:dR (n:Int)=aC:=oS (by lia) (by lia)
  refine iK (its:=dS 0 n) (λs st=>∃(rows:List (List Nat)) (L Wl:List Nat) (S:Int->Bool) (m:Nat) (a b c:Option T),st=[aA (.lst A),aA (.lst (rows.map bp)),aA (.set S m),a,b,c]/\Wkd n f S m Wl L s/\RowsL f rows L s/\rows.length<=s)
   (by simp_all?[la,r1,Q8]<;>rfl) ⟨[],[],[],λ_=>aD,0,aB,aB,aB,rfl,⟨λx=>by simp,rfl,Zx,λx hx=>by simp at hx,λx=>by simp,λx hx=>by simp at hx,WJ,λx hx=>by lia⟩,RowsL.nil f,ji _⟩ ?_ ?_
  ·rintro s z st hz ⟨rows,L,Wl,S,m,a,b,c,rfl,hW,hrl,hrs⟩;obtain⟨hs,rfl⟩:s < n/\z=.int (s:Int):=by
    obtain⟨h1,h2⟩:=EE hz;exact⟨h1,by rw[h2,Nw]⟩
   refine⟨[aA (.lst A),aA (.lst (rows.map bp)),aA (.set S m),aA (.int (s:Int)),b,c],rfl,?_⟩;refine aX (s':=[aA (.lst A),aA (.lst (rows.map bp)),aA (.set S m),aA (.int (s:Int)),aA (.lst []),c]) (by simp_all?[]<;>rfl) ?_
   refine aX (s':=[aA (.lst A),aA (.lst (rows.map bp)),aA (.set S m),aA (.int (s:Int)),aA (.lst []),aA (.int (s:Int))]) (by simp_all?[]<;>rfl) ?_
   refine ql (λst=>∃(k:Nat) (S':Int->Bool) (m':Nat),st=[aA (.lst A),aA (.lst (rows.map bp)),aA (.set S' m'),aA (.int (s:Int)),aA (.lst ((bZ f k s).map nT)),aA (.int ((aw f k s:Nat):Int))]/\(∀ x:Nat,S' (x:Int)=aC↔x∈Wl++bZ f k s)/\m'=(Wl++bZ f k s).length/\(Wl++bZ f k s).Nodup) IN ?_ ⟨0,S,m,rfl,by simpa[bZ] using hW.set,by simpa[bZ] using hW.len,by simpa[bZ] using hW.nd⟩ ?_ ?_
   ·show 300 - 0 - 1 < 300;lia
   ·rintro st ⟨k,S',m',rfl,h1,h2,h3⟩;have hx:=hf.itr_lt k hs;have hlen:(Wl++bZ f k s).length<=n:=by
     have:=sk (m:=j6 n) h3 λx hx=>by
      refine jc.mpr ?_;rcases jt.mp hx with q |q
      ·exact hW.lt x q
      ·obtain⟨i,_,rfl⟩:=jx.mp q;exact hf.itr_lt i hs
     rwa [QK] at this
    refine⟨!S' ((aw f k s:Nat):Int),[aA (.lst A),aA (.lst (rows.map bp)),aA (.set S' m'),aA (.int (s:Int)),aA (.lst ((bZ f k s).map nT)),aA (.int ((aw f k s:Nat):Int))],by simp_all?[show qH (.int ((aw f k s:Nat):Int)) (.set S' m')=aA (.bl (!S' ((aw f k s:Nat):Int))) from rfl],?_⟩
    split
    ·rename_i hc;have hc':S' ((aw f k s:Nat):Int)=aD:=by simpa using hc
     have hni:aw f k s∉Wl++bZ f k s:=λz=>by rw[(h1 _).mpr z] at hc'; cases hc'
     have hsl:(bZ f k s).length=k:=by unfold bZ; simp
     have hkn:k<=n:=by rw[jn,hsl] at hlen; lia
     refine aX (s':=[aA (.lst A),aA (.lst (rows.map bp)),aA (.set (λj=>S' j||aE (j=((aw f k s:Nat):Int))) (if S' ((aw f k s:Nat):Int) then m' else m'+1)),aA (.int (s:Int)),aA (.lst ((bZ f k s).map nT)),aA (.int ((aw f k s:Nat):Int))]) (by
      simp_all?[show m' < 1000 by lia]) ?_
     refine aX (s':=[aA (.lst A),aA (.lst (rows.map bp)),aA (.set (λj=>S' j||aE (j=((aw f k s:Nat):Int))) (if S' ((aw f k s:Nat):Int) then m' else m'+1)),aA (.int (s:Int)),aA (.lst ((bZ f (k+1) s).map nT)),aA (.int ((aw f k s:Nat):Int))]) (by
      simp_all?[rZ,qt,jE,jq,Zf]<;>rfl) ?_
     have it:=Kl (f:=f) hx;rw[hA] at it;refine cm (s':=[aA (.lst A),aA (.lst (rows.map bp)),aA (.set (λj=>S' j||aE (j=((aw f k s:Nat):Int))) (if S' ((aw f k s:Nat):Int) then m' else m'+1)),aA (.int (s:Int)),aA (.lst ((bZ f (k+1) s).map nT)),aA (.int ((aw f (k+1) s:Nat):Int))]) (by simp_all?[it]<;>rfl) ⟨⟨k+1,_,_,rfl,λx=>?_,?_,?_⟩,?_⟩
     ·rw[Zg,h1,decide_eq_true_iff,qt,<-Ql];constructor
      ·rintro(q |q)
       ·exact jj _ q
       ·exact jB _ (je.mpr (by lia))
      ·intro q;rcases jt.mp q with q |q
       ·exact .inl q
       ·exact .inr (by have:=je.mp q; lia)
     ·rw[hc',aH (by simp),qt,<-Ql,jn,<-h2]; rfl
     ·rw[qt,<-Ql,jP];exact⟨h3,by simp,λx hx y hy e=>hni (by rw[je] at hy; subst hy; exact e▸hx)⟩
     ·show 300 - ((bZ f (k+1) s).map nT).length - 1 < 300 - ((bZ f k s).map nT).length - 1;rw[j5,j5,qt,jn,hsl];simp;lia
    ·trivial
   ·rintro st0 st' ⟨k,S',m',rfl,h1,h2,h3⟩ hfalse;have hE:dB (d2 qH (dV 5) (dV 2)) [aA (.lst A),aA (.lst (rows.map bp)),aA (.set S' m'),aA (.int (s:Int)),aA (.lst ((bZ f k s).map nT)),aA (.int ((aw f k s:Nat):Int))]=aA (!S' ((aw f k s:Nat):Int),[aA (.lst A),aA (.lst (rows.map bp)),aA (.set S' m'),aA (.int (s:Int)),aA (.lst ((bZ f k s).map nT)),aA (.int ((aw f k s:Nat):Int))]):=by simp_all?[show qH (.int ((aw f k s:Nat):Int)) (.set S' m')=aA (.bl (!S' ((aw f k s:Nat):Int))) from rfl]
    rw[hE] at hfalse;injection hfalse with hfalse;injection hfalse with hb hst;subst hst;have hin:aw f k s∈Wl++bZ f k s:=(h1 _).mp (by simpa using hb)
    cases k with
    |zero=>
     have hsW:s∈Wl:=by simpa[bZ,aw] using hin
     refine cm (s':=[aA (.lst A),aA (.lst (rows.map bp)),aA (.set S' m'),aA (.int (s:Int)),aA (.lst ((bZ f 0 s).map nT)),aA (.int ((aw f 0 s:Nat):Int))]) (by simp_all?[bZ,NI,Zf]<;>rfl) ⟨rows,L,Wl,S',m',_,_,_,rfl,⟨by simpa[bZ] using h1,by simpa[bZ] using h2,hW.nd,hW.lt,hW.mem,hW.ltL,hW.one,λx hx=>?_⟩,hrl.skip ((hW.mem s).mp hsW).2,by lia⟩
     by_cases q:x=s
     ·rw[q]; exact((hW.mem s).mp hsW).2
     ·exact hW.all x (by lia)
    |succ k=>
     have hs0:s∈bZ f (k+1) s:=jx.mpr ⟨0,by simp,rfl⟩
     have hsn:s∉Wl:=λz=>(jP.mp h3).2.2 s z s hs0 rfl;have hin2:aw f (k+1) s∈bZ f (k+1) s:=by
      rcases jt.mp hin with q |q
      ·exfalso
       obtain⟨_,t,ht,o⟩:=(hW.mem _).mp q;have o2:bV f (aw f (k+1) s) s:=bV.symm hf hs ⟨k+1,rfl⟩;exact hsn ((hW.mem s).mpr ⟨hs,t,ht,o.trans o2⟩)
      ·exact q
     have hall:=zA hin2;have hro:((bZ f (k+1) s).map nT).isEmpty=aD:=by rw[qt]; simp
     refine cm (s':=[aA (.lst A),aA (.lst ((rows++[bZ f (k+1) s]).map bp)),aA (.set S' m'),aA (.int (s:Int)),aA (.lst ((bZ f (k+1) s).map nT)),aA (.int ((aw f (k+1) s:Nat):Int))]) (by simp_all?[hro,rZ,jE,jq,Zf,bp]<;>rfl) ⟨rows++[bZ f (k+1) s],L++[s],Wl++bZ f (k+1) s,S',m',_,_,_,rfl,⟨h1,h2,h3,λx hx=>?_,λx=>?_,λx hx=>?_,?_,λx hx=>?_⟩,hrl.snoc ⟨k+1,rfl,Nat.succ_pos k,(jP.mp h3).2.1,hin2⟩,by rw[jn,Zq]; lia⟩
     ·rcases jt.mp hx with q |q
      ·exact hW.lt x q
      ·obtain⟨i,_,rfl⟩:=jx.mp q;exact hf.itr_lt i hs
     ·rw[jt,hW.mem];constructor
      ·rintro(⟨q1,t,ht,o⟩ |q)
       ·exact⟨q1,t,jj _ ht,o⟩
       ·obtain⟨i,_,rfl⟩:=jx.mp q;exact⟨hf.itr_lt i hs,s,by simp,i,rfl⟩
      ·rintro⟨q1,t,ht,o⟩;rcases jt.mp ht with q |q
       ·exact .inl ⟨q1,t,q,o⟩
       ·rw[je.mp q] at o;obtain⟨i,rfl⟩:=o;exact .inr (hall i)
     ·rcases jt.mp hx with q |q
      ·exact hW.ltL x q
      ·rw[je.mp q]; exact hs
     ·rw[NW];refine⟨hW.one,by simp,λx hx y hy o=>?_⟩
      rw[je.mp hy] at o;exact hsn ((hW.mem s).mpr ⟨hs,x,hx,o⟩)
     ·by_cases q:x=s
      ·exact⟨s,by simp,by rw[q]; exact bV.refl f s⟩
      ·obtain⟨t,ht,o⟩:=hW.all x (by lia)
       exact⟨t,jj _ ht,o⟩
  ·rintro st ⟨rows,L,Wl,S,m,a,b,c,rfl,hW,hrl,hrs⟩;rw[EF] at hW hrl;have q:ak [] (dV 1) [aA (.lst A),aA (.lst (rows.map bp)),aA (.set S m),a,b,c]=aA (.rt (.lst (rows.map bp)) [aA (.lst A),aA (.lst (rows.map bp)),aA (.set S m),a,b,c]):=by simp_all?[]
   exact dA q ⟨_,_,rfl,rows,rfl,L,⟨hW.ltL,hW.one,hW.all⟩,hrl⟩)
 exact⟨rows,e,hT⟩
def Ew(n w:Nat):Nat:=if w%2=1 then w - 1 else if w / 2+1=n then 1 else w+3
def Bw(n e:Nat):Nat:=if e%2=0 then e else if e=1 then 2*n - 1 else e - 2
def fl(w:Nat):Nat:=if w%2=0 then w+1 else w - 1
theorem rM{n w:Nat}(h:w < 2*n):Ew n w < 2*n:=by
 unfold Ew;split
 ·lia
 ·split<;>lia
theorem HD{n e:Nat}(h:e < 2*n):Bw n e < 2*n:=by
 unfold Bw;split
 ·lia
 ·split<;>lia
theorem Bk(w:Nat):fl (fl w)=w:=by unfold fl; split<;>split<;>lia
theorem HG{n e:Nat}(h:e < 2*n):Ew n (fl (Bw n e))=e:=by
 by_cases h0:e%2=0
 ·have b:Bw n e=e:=aI h0;have f:fl e=e+1:=aI h0;rw[b,f];unfold Ew;rw[aI (by lia)]
  lia
 ·by_cases h1:e=1
  ·have b:Bw n e=2*n - 1:=by unfold Bw; rw[aH h0,aI h1]
   have f:fl (2*n - 1)=2*n - 2:=by unfold fl; rw[aH (by lia)]; lia
   rw[b,f];unfold Ew;rw[aH (by lia),aI (by lia),h1]
  ·have b:Bw n e=e - 2:=by unfold Bw; rw[aH h0,aH h1]
   have f:fl (e - 2)=e - 3:=by unfold fl; rw[aH (by lia)]; lia
   rw[b,f];unfold Ew;rw[aH (by lia),aH (by lia)]
   lia
theorem HC{n w:Nat}(h:w < 2*n):Bw n (Ew n w)=fl w:=by
 by_cases h0:w%2=1
 ·have b:Ew n w=w - 1:=aI h0;have f:fl w=w - 1:=aH (by lia)
  rw[b,f];exact aI (by lia)
 ·have f:fl w=w+1:=aI (by lia)
  by_cases h1:w / 2+1=n
  ·have b:Ew n w=1:=by unfold Ew; rw[aH h0,aI h1]
   rw[b,f];unfold Bw;rw[aH (by lia),aI rfl]
   lia
  ·have b:Ew n w=w+3:=by unfold Ew; rw[aH h0,aH h1]
   rw[b,f];unfold Bw;rw[aH (by lia),aH (by lia)]
   lia
def cD(wd:List Str)(p:Nat):Nat:=match bn wd (wd.getD p jC) with
 |[i,j]=>if p=i then j else i
 |_=>p
theorem Cj{wd:List Str}(g:∀ x∈wd,wd.count x=2){p:Nat}(hp:p < wd.length):∃ i j,bn wd wd[p]=[i,j]/\i < j/\j < wd.length/\wd[i]?=aA wd[p]/\wd[j]?=aA wd[p]/\((p=i/\cD wd p=j)∨(p=j/\cD wd p=i)):=by
 obtain⟨i,j,e⟩:=qr (g wd[p] (jX hp));obtain⟨h1,h2⟩:=oh e;have hm:p∈bn wd wd[p]:=jQ.mpr ⟨jc.mpr hp,am (j3 hp)⟩;have ei:=nY (wd:=wd) (x:=wd[p]) (k:=i) (by rw[e]; simp)
 have ej:=nY (wd:=wd) (x:=wd[p]) (k:=j) (by rw[e]; simp)
 refine⟨i,j,e,h1,h2,ei,ej,?_⟩;have eq:cD wd p=if p=i then j else i:=by
  unfold cD;rw[jv,j3 hp];show (match bn wd wd[p] with |[i,j]=>if p=i then j else i |_=>p)=_
  rw[e]
 rw[e] at hm;simp at hm;rcases hm with rfl |rfl
 ·exact .inl ⟨rfl,by rw[eq,aI rfl]⟩
 ·exact .inr ⟨rfl,by rw[eq,aH (by lia)]⟩
theorem Ck{wd:List Str}(g:∀ x∈wd,wd.count x=2){p:Nat}(hp:p < wd.length):cD wd p < wd.length/\cD wd p≠p/\cD wd (cD wd p)=p/\wd.getD (cD wd p) jC=wd.getD p jC:=by
 obtain⟨i,j,e,h1,h2,ei,ej,h3⟩:=Cj g hp;have gp:wd.getD p jC=wd[p]:=by rw[jv,j3 hp]; rfl
 have gi:wd.getD i jC=wd[p]:=by rw[jv,ei]; rfl
 have gj:wd.getD j jC=wd[p]:=by rw[jv,ej]; rfl
 have pi:cD wd i=j:=by
  unfold cD;rw[gi,e];exact aI rfl
 have pj:cD wd j=i:=by
  unfold cD;rw[gj,e];exact aH (by lia)
 rcases h3 with ⟨rfl,h3⟩ |⟨rfl,h3⟩
 ·rw[h3]; exact⟨h2,by lia,pj,by rw[gj,gp]⟩
 ·rw[h3]; exact⟨by lia,by lia,pi,by rw[gi,gp]⟩
def Aw(wd:List Str)(hd:Str->Bool)(e:Nat):Nat:=2*cD wd (e / 2)+(if aE (e / 2 < cD wd (e / 2))=hd (wd.getD (e / 2) jC) then 1 - e%2 else e%2)
theorem ww{wd:List Str}(g:∀ x∈wd,wd.count x=2)(hd:Str->Bool){e:Nat}(h:e < 2*wd.length):Aw wd hd e < 2*wd.length:=by
 have:=(Ck g (p:=e / 2) (by lia)).1
 unfold Aw;split<;>lia
theorem HB{wd:List Str}(g:∀ x∈wd,wd.count x=2){hd he:Str->Bool}(hh:∀ x,he x=!hd x){e:Nat}(h:e < 2*wd.length):Aw wd he (Aw wd hd e)=e:=by
 obtain⟨h1,h2,h3,h4⟩:=Ck g (p:=e / 2) (by lia)
 generalize hb:(if aE (e / 2 < cD wd (e / 2))=hd (wd.getD (e / 2) jC) then 1 - e%2 else e%2)=b
 have b2:b < 2:=by rw[<-hb]; split<;>lia
 have q:Aw wd hd e=2*cD wd (e / 2)+b:=by unfold Aw; rw[hb]
 rw[q];unfold Aw;rw[show (2*cD wd (e / 2)+b) / 2=cD wd (e / 2) by lia,show (2*cD wd (e / 2)+b)%2=b by lia,h3,h4,hh]
 have low:aE (cD wd (e / 2) < e / 2)=!aE (e / 2 < cD wd (e / 2)):=by
  by_cases c:e / 2 < cD wd (e / 2)
  ·rw[am c,av (by lia)]; rfl
  ·rw[av c,am (by lia)]; rfl
 rw[low]
 by_cases c:aE (e / 2 < cD wd (e / 2))=hd (wd.getD (e / 2) jC)
 ·rw[aI c] at hb;rw[aI (by rw[c]),<-hb]
  lia
 ·rw[aH c] at hb;rw[aH (λz=>c (Bool.not_inj z)),<-hb];lia
def fw(wd:List Str)(hd:Str->Bool)(w:Nat):Nat:=Bw wd.length (Aw wd hd (Ew wd.length w))
theorem DK{wd:List Str}(g:∀ x∈wd,wd.count x=2){hd he:Str->Bool}(hh:∀ x,he x=!hd x){w:Nat}(h:w < 2*wd.length):fw wd he (fl (fw wd hd w))=fl w:=by
 unfold fw;rw[HG (ww g hd (rM h)),HB g hh (rM h),HC h]
theorem sK{wd:List Str}(g:∀ x∈wd,wd.count x=2)(hd:Str->Bool):Perm1 (2*wd.length) (fw wd hd):=by
 refine⟨λw h=>HD (ww g hd (rM h)),λx y hx hy e=>?_⟩;have a:=DK g (hd:=hd) (he:=λx=>!hd x) (λ_=>rfl) hx;have b:=DK g (hd:=hd) (he:=λx=>!hd x) (λ_=>rfl) hy;rw[e,b] at a;rw[<-Bk x,<-a,Bk]
theorem ii(p:aK × T)(r:List (aK × T))(k:aK):bQ (p::r) k=if p.1=k then aA p.2 else bQ r k:=by
 unfold bQ;rw[Z6]
 by_cases h:p.1=k
 ·rw[aI h,am h]; rfl
 ·rw[aH h,av h]
theorem sT(kvs:List (aK × T))(k k':aK)(v:T):bQ (cW kvs k v) k'=if k=k' then aA v else bQ kvs k':=by
 unfold cW;split
 ·rename_i h
  induction kvs with
  |nil=>simp at h
  |cons p r ih=>
   rw[jq]
   by_cases hp:p.1=k
   ·rw[aI hp,ii,ii]
    by_cases hk:k=k'
    ·rw[aI hk];show (if p.1=k' then aA v else _)=aA v
     rw[aI (hp.trans hk)]
    ·rw[aH hk];show (if p.1=k' then aA v else _)=_
     rw[aH (λz=>hk (hp.symm.trans z)),aH (λz=>hk (hp.symm.trans z))]
     clear ih h
     induction r with
     |nil=>rfl
     |cons q r ih2=>
      rw[jq]
      by_cases hq:q.1=k
      ·rw[aI hq,ii,ii];show (if q.1=k' then aA v else _)=_
       rw[aH (λz=>hk (hq.symm.trans z)),aH (λz=>hk (hq.symm.trans z)),ih2]
      ·rw[aH hq,ii,ii,ih2]
   ·rw[aH hp,ii,ii];have h2:(r.any λkv=>aE (kv.1=k))=aC:=by
     rw[Ze,av hp,Wk] at h;exact h
    rw[ih h2]
    by_cases hk:k=k'
    ·simp only[aI hk,aH (λz:p.1=k'=>hp (z.trans hk.symm))]
    ·simp only[aH hk]
 ·rename_i h;have h':(kvs.any λkv=>aE (kv.1=k))=aD:=by rw[Bool.not_eq_true] at h; exact h
  clear h
  induction kvs with
  |nil=>
   show bQ [(k,v)] k'=_;rw[ii]
  |cons p r ih=>
   rw[Ze,Bool.or_eq_false_iff] at h';have hp:p.1≠k:=of_decide_eq_false h'.1;rw[Jc,ii,ii,ih h'.2]
   by_cases hk:k=k'
   ·simp only[aI hk,aH (λz:p.1=k'=>hp (z.trans hk.symm))]
   ·simp only[aH hk]
theorem DD(kvs:List (aK × T))(k:aK)(v:T):(cW kvs k v).length<=kvs.length+1:=by
 unfold cW;split
 ·rw[j5]; lia
 ·simp
theorem Ky{k n:Nat}(h:k < n):((k:Int)+1)%(n:Int)=((if k+1=n then 0 else k+1:Nat):Int):=by
 split
 ·rename_i e;rw[show (k:Int)+1=(n:Int) by lia,Int.emod_self]
  rfl
 ·rw[YW (by lia) (by lia)]; lia
theorem Kx{k n:Nat}(h:k < n):((k:Int) - 1)%(n:Int)=((if k=0 then n - 1 else k - 1:Nat):Int):=by
 split
 ·rename_i e;rw[e,<-Int.add_emod_right,YW (by lia) (by lia)]
  lia
 ·rw[YW (by lia) (by lia)]; lia
theorem RZ{n w:Nat}(hn:n<=1000)(h:w < 2*n):ve [.int n,.int w]=aA (.int (Ew n w:Nat)):=by
 refine eY ?_;show af vV [aA (.int n),aA (.int w),aB] _;unfold vV;refine aX (s':=[aA (.int n),aA (.int w),aA (.int ((w / 2:Nat):Int))]) (by simp_all?[]<;>rfl) ?_
 have md:=Ky (k:=w / 2) (n:=n) (by lia)
 by_cases h1:w%2=1
 ·have hd:aE (((w:Nat):Int)%2=1)=aC:=am (by lia)
  refine sW (s':=[aA (.int n),aA (.int w),aA (.int ((w / 2:Nat):Int))]) (t':=.int (2*((w / 2:Nat):Int))) (by simp_all?[hd]) ?_
  unfold Ew;rw[aI h1];exact congrArg T.int (by lia)
 ·have hd:aE (((w:Nat):Int)%2=1)=aD:=av (by lia)
  refine aX (s':=[aA (.int n),aA (.int w),aA (.int ((w / 2:Nat):Int))]) (by simp_all?[hd]) ?_
  refine fL (s':=[aA (.int n),aA (.int w),aA (.int ((w / 2:Nat):Int))]) (t':=.int (2*((if w / 2+1=n then 0 else w / 2+1:Nat):Int)+1)) (by simp_all?[md]) ?_
  unfold Ew;rw[aH h1]
  by_cases h2:w / 2+1=n
  ·rw[aI h2,aI h2]; rfl
  ·rw[aH h2,aH h2];exact congrArg T.int (by lia)
theorem UD{n e:Nat}(hn:n<=1000)(h:e < 2*n):wF [.int n,.int e]=aA (.int (Bw n e:Nat)):=by
 refine eY ?_;show af vn [aA (.int n),aA (.int e),aB] _;unfold vn;refine aX (s':=[aA (.int n),aA (.int e),aA (.int ((e / 2:Nat):Int))]) (by simp_all?[]<;>rfl) ?_
 have md:=Kx (k:=e / 2) (n:=n) (by lia)
 by_cases h1:e%2=0
 ·have hd:aE (((e:Nat):Int)%2=0)=aC:=am (by lia)
  refine sW (s':=[aA (.int n),aA (.int e),aA (.int ((e / 2:Nat):Int))]) (t':=.int (2*((e / 2:Nat):Int))) (by simp_all?[hd]) ?_
  unfold Bw;rw[aI h1];exact congrArg T.int (by lia)
 ·have hd:aE (((e:Nat):Int)%2=0)=aD:=av (by lia)
  refine aX (s':=[aA (.int n),aA (.int e),aA (.int ((e / 2:Nat):Int))]) (by simp_all?[hd]) ?_
  refine fL (s':=[aA (.int n),aA (.int e),aA (.int ((e / 2:Nat):Int))]) (t':=.int (2*((if e / 2=0 then n - 1 else e / 2 - 1:Nat):Int)+1)) (by simp_all?[md]) ?_
  unfold Bw;rw[aH h1]
  by_cases h2:e=1
  ·rw[aI h2,aI (by lia)]
   exact congrArg T.int (by lia)
  ·rw[aH h2,aH (by lia)]
   exact congrArg T.int (by lia)
def uD(i j:Nat)(h:Bool):List Nat:=if h then [2*i,2*j,2*i+1,2*j+1] else [2*i,2*j+1,2*i+1,2*j]
def ag(c:Str × List Nat):T:=.tup [.str c.1,.lst (c.2.map nT)]
def Four(A:Nat->Nat)(l:List Nat):Prop:=∃ a b c d,l=[a,b,c,d]/\A a=d/\A b=a/\A c=b/\A d=c
theorem Four.len{A:Nat->Nat}{l:List Nat}(h:Four A l):l.length=4:=by obtain⟨a,b,c,d,rfl,_⟩:=h; rfl
def Knows(A:Nat->Nat)(kvs:List (aK × T))(e:Nat):Prop:=bQ kvs (.inl (e:Int))=aA (.int (A e:Nat))
theorem Knows.put{A:Nat->Nat}{kvs:List (aK × T)}{e:Nat}(h:Knows A kvs e)(d:Nat):Knows A (cW kvs (.inl (d:Int)) (.int (A d:Nat))) e:=by
 unfold Knows;rw[sT]
 by_cases q:(d:Int)=(e:Int)
 ·rw[aI (congrArg gU q),show d=e by lia]
 ·rw[aH (λz=>q (gV z))];exact h
theorem Knows.new{A:Nat->Nat}{kvs:List (aK × T)}(d:Nat):Knows A (cW kvs (.inl (d:Int)) (.int (A d:Nat))) d:=by
 unfold Knows;rw[sT,aI rfl]
theorem OX(e:Nat):cq (nT e)=aA (.inl (e:Int)):=rfl
theorem OS{A:Nat->Nat}{l:List Nat}(h:Four A l){k:Nat}(hk:k < 4){e:Nat}(he:l[k]?=aA e):aP (.lst (l.map nT)) (.int ((k:Int) - 1))=aA (nT (A e)):=by
 obtain⟨a,b,c,d,rfl,h1,h2,h3,h4⟩:=h
 match k,hk with
 |0,_=>obtain rfl:a=e:=jh he; rw[h1]; rfl
 |1,_=>obtain rfl:b=e:=jh he; rw[h2]; rfl
 |2,_=>obtain rfl:c=e:=jh he; rw[h3]; rfl
 |3,_=>obtain rfl:d=e:=jh he; rw[h4]; rfl
theorem su{α:Type}{l:List α}{k:Nat}{x:α}(h:l[k]?=aA x):l.take (k+1)=l.take k++[x]:=by rw[gr,h]; rfl
theorem UR{A:Nat->Nat}{cs:List (Str × List Nat)}(h:∀ c∈cs,Four A c.2)(hl:cs.length<=100):∃ kvs,AC [.lst (cs.map ag)]=aA (.fd kvs)/\∀ c∈cs,∀ e∈c.2,Knows A kvs e:=by
 obtain⟨t,e,kvs,rfl,hk⟩:=iJ (n:=6) (d:=t5) (ts:=[.lst (cs.map ag)]) (Q:=λt=>∃ kvs,t=.fd kvs/\∀ c∈cs,∀ e∈c.2,Knows A kvs e) (by
  show af t5 [aA (.lst (cs.map ag)),aB,aB,aB,aB,aB] _;unfold t5;refine aX (s':=[aA (.lst (cs.map ag)),aA (.dct []),aB,aB,aB,aB]) (by simp_all?[]) ?_
  refine iK (its:=cs.map ag) (λj s=>∃ kvs a b c d,s=[aA (.lst (cs.map ag)),aA (.dct kvs),a,b,c,d]/\kvs.length<=4*j/\∀ c∈cs.take j,∀ e∈c.2,Knows A kvs e) (s1:=[aA (.lst (cs.map ag)),aA (.dct []),aB,aB,aB,aB]) (by simp_all?[]) ⟨[],_,_,_,_,rfl,by simp,by simp⟩ ?_ ?_
  ·rintro j z s hz ⟨kvs,a,b,c,d,rfl,hlen,hkn⟩;rw[jg] at hz;obtain⟨⟨x,es⟩,hj,rfl⟩:=Qm hz;have hF:Four A es:=h (x,es) (jF hj);have hjl:=(j7.mp hj).1;have hel:=hF.len;refine⟨[aA (.lst (cs.map ag)),aA (.dct kvs),aA (.str x),aA (.lst (es.map nT)),c,d],rfl,?_⟩;refine FG (its:=es.zipIdx.map λp=>T.tup [.int (p.2:Nat),nT p.1]) (λk s=>∃ kvs c d,s=[aA (.lst (cs.map ag)),aA (.dct kvs),aA (.str x),aA (.lst (es.map nT)),c,d]/\kvs.length<=4*j+k/\(∀ c∈cs.take j,∀ e∈c.2,Knows A kvs e)/\∀ e∈es.take k,Knows A kvs e) (s1:=[aA (.lst (cs.map ag)),aA (.dct kvs),aA (.str x),aA (.lst (es.map nT)),c,d]) (by simp_all?[Dz]) ⟨kvs,_,_,rfl,by lia,hkn,by simp⟩ ?_ ?_
   ·rintro k z s hz ⟨kvs,c,d,rfl,l1,k1,k2⟩;rw[jg,List.getElem?_zipIdx] at hz;obtain⟨⟨e,k'⟩,hz',rfl⟩:=Qm hz;obtain⟨e',he,hz'⟩:=Qm hz';obtain⟨rfl,rfl⟩:e'=e/\0+k=k':=by
     injection hz' with q1 q2;exact⟨q1,q2⟩
    rw[QV];have hk4:k < 4:=by have:=(j7.mp he).1; lia
    have it:=OS hF hk4 he;have sz:kvs.length < jr:=lC (by lia)
    have ky:=OX e';refine⟨[aA (.lst (cs.map ag)),aA (.dct kvs),aA (.str x),aA (.lst (es.map nT)),aA (.int (k:Nat)),aA (nT e')],rfl,?_⟩;refine cm (s':=[aA (.lst (cs.map ag)),aA (.dct (cW kvs (.inl (e':Int)) (.int (A e':Nat)))),aA (.str x),aA (.lst (es.map nT)),aA (.int (k:Nat)),aA (nT e')]) (by unfold nT at it ky ⊢; simp_all?[it,ky,sz]) ⟨_,_,_,rfl,?_,λc hc e he=>(k1 c hc e he).put _,λe hm=>?_⟩
    ·have:=DD kvs (.inl (e':Int)) (.int (A e':Nat));lia
    ·rw[su he] at hm;rcases jt.mp hm with q |q
     ·exact(k2 e q).put _
     ·rw[je.mp q]; exact .new _
   ·rintro s ⟨kvs,c,d,rfl,l1,k1,k2⟩;rw[j5,List.length_zipIdx] at l1 k2;refine⟨kvs,_,_,_,_,rfl,by lia,λc hc e he=>?_⟩
    rw[su hj] at hc;rcases jt.mp hc with q |q
    ·exact k1 c q e he
    ·rw[je.mp q] at he;exact k2 e (by rw[Q1 (ji _)]; exact he)
  ·rintro s ⟨kvs,a,b,c,d,rfl,hlen,hkn⟩;rw[j5,Q1 (ji _)] at hkn
   exact dA (r:=.rt (.fd kvs) [aA (.lst (cs.map ag)),aA (.fd kvs),a,b,c,d]) (by simp_all?[]) ⟨_,_,rfl,kvs,rfl,hkn⟩)
 exact⟨kvs,e,hk⟩
structure Crs (wd:List Str) (hd:Str->Bool) (cs:List (Str × List Nat)):Prop where
 two:∀ x∈wd,wd.count x=2
 len:wd.length<=60
 cl:cs.length<=30
 four:∀ c∈cs,Four (Aw wd hd) c.2
 all:∀ e,e < 2*wd.length->∃ c∈cs,e∈c.2
def Pt(wd:List Str)(hd:Str->Bool)(rows:List (List Nat)):Prop:=(wd=[]/\rows=[[],[]])∨(wd≠[]/\tS (2*wd.length) (fw wd hd) rows)
theorem T0{wd:List Str}{hd:Str->Bool}{cs:List (Str × List Nat)}(h:Crs wd hd cs):∃ rows:List (List Nat),qw [.lst (wd.map T.str),.lst (cs.map ag)]=aA (.lst (rows.map bp))/\Pt wd hd rows:=by
 have hcl:=h.cl;have hlen:=h.len
 obtain⟨t,e,rows,rfl,hc⟩:=iJ (n:=4) (d:=sw) (ts:=[.lst (wd.map T.str),.lst (cs.map ag)]) (Q:=λt=>∃ rows:List (List Nat),t=.lst (rows.map bp)/\Pt wd hd rows) (by
  show af sw [aA (.lst (wd.map T.str)),aA (.lst (cs.map ag)),aB,aB] _;unfold sw
  by_cases h0:wd=[]
  ·subst h0;exact qZ (t:=.lst [.lst [],.lst []]) (s':=[aA (.lst (([]:List Str).map T.str)),aA (.lst (cs.map ag)),aB,aB]) (by simp_all?[]<;>rfl) ⟨_,_,rfl,[[],[]],rfl,.inl ⟨rfl,rfl⟩⟩
  ·have hp:=Qw.mpr h0;have hemp:(wd.map T.str).isEmpty=aD:=by
    cases wd with
    |nil=>exact absurd rfl h0
    |cons a l=>rfl
   obtain⟨kvs,ek,hk⟩:=UR h.four (by lia)
   have N:=sK h.two hd;obtain⟨rows,er,hT⟩:=SJ N (by lia)
   refine aX (s':=[aA (.lst (wd.map T.str)),aA (.lst (cs.map ag)),aB,aB]) (by simp_all?[hemp]) ?_
   refine aX (s':=[aA (.lst (wd.map T.str)),aA (.lst (cs.map ag)),aA (.fd kvs),aB]) (by simp_all?[ek]) ?_
   refine aX (s':=[aA (.lst (wd.map T.str)),aA (.lst (cs.map ag)),aA (.fd kvs),aA (.int (wd.length:Nat))]) (by simp_all?[]) ?_
   have r1:dR (2*((wd.length:Nat):Int))=aC:=oS (by lia) (by lia)
   have tn:(2*((wd.length:Nat):Int)).toNat=2*wd.length:=by lia
   have e:=iW (M:=[]) (caps:=[aB,aA 3,aA 2]) (fi:=fS (aF (d2 cv (dC (.int 2)) (dV 3)) aJ)) (dg:=au 0) (fe:=ae wF (aF (dV 1) (aF (d2 aP (dV 2) (ae ve (aF (dV 1) (aF (dV 0) aJ)))) aJ))) (s:=[aA (.lst (wd.map T.str)),aA (.lst (cs.map ag)),aA (.fd kvs),aA (.int (wd.length:Nat))]) (j6 (2*wd.length)) nT (λw=>nT (fw wd hd w)) (by simp_all?[r1,tn,qi]) (by simp; lia) (by
    intro w hw;have hw:=jc.mp hw;have e1:=RZ (n:=wd.length) (by lia) hw
    obtain⟨c,hc,he⟩:=h.all _ (rM hw);have e2:aP (.fd kvs) (.int (Ew wd.length w:Nat))=aA (.int (Aw wd hd (Ew wd.length w):Nat)):=hk c hc _ he;have e3:=UD (n:=wd.length) (by lia) (ww h.two hd (rM hw))
    exact⟨[aA (.int w),aA (.int (wd.length:Nat)),aA (.fd kvs)],rfl,by unfold nT; simp_all?[e1,e2,e3]<;>rfl,rfl⟩)
   rw[show (j6 (2*wd.length)).map (λw=>nT (fw wd hd w))=((j6 (2*wd.length)).map (fw wd hd)).map nT by rw[jU]; rfl] at e
   have fl:(((j6 (2*wd.length)).map (fw wd hd)).map nT).all lO=aC:=by rw[U2]; exact jz.mpr λ_ _=>rfl
   exact dA (r:=.rt (.lst (rows.map bp)) [aA (.lst (wd.map T.str)),aA (.lst (cs.map ag)),aA (.fd kvs),aA (.int (wd.length:Nat))]) (by simp_all?[e,er]) ⟨_,_,rfl,rows,rfl,.inr ⟨h0,hT⟩⟩)
 exact⟨rows,e,hc⟩
def iy(wd:List Str)(x:Str)(h:Bool):List Nat:=match bn wd x with
 |[i,j]=>uD i j h
 |_=>[]
theorem qj{wd:List Str}{x:Str}{i j:Nat}(e:bn wd x=[i,j])(h:Bool):iy wd x h=uD i j h:=by unfold iy; rw[e]
def aq(wd:List Str)(hd:Str->Bool):List (Str × List Nat):=(aL wd).map λx=>(x,iy wd x (hd x))
theorem nF{wd:List Str}{hd:Str->Bool}{p q:Nat}{x:Str}(hp:cD wd p=q)(hx:wd.getD p jC=x){b:Nat}(hb:b < 2):Aw wd hd (2*p+b)=2*q+(if aE (p < q)=hd x then 1 - b else b):=by
 unfold Aw;rw[show (2*p+b) / 2=p by lia,show (2*p+b)%2=b by lia,hp,hx]
theorem MW{wd:List Str}(g:GoodWord wd)(hd:Str->Bool):Crs wd hd (aq wd hd):=by
 have tl:=lb g.two;have hl:=g.len;refine⟨g.two,hl,by unfold aq; rw[j5]; lia,λc hc=>?_,λe he=>?_⟩
 ·unfold aq at hc;obtain⟨x,hx,rfl⟩:=jx.mp hc;have hx:=mem_firsts.mp hx;obtain⟨i,j,e⟩:=qr (g.two x hx);obtain⟨h1,h2⟩:=oh e;have ei:=nY (wd:=wd) (x:=x) (k:=i) (by rw[e]; simp)
  have ej:=nY (wd:=wd) (x:=x) (k:=j) (by rw[e]; simp)
  have gi:wd.getD i jC=x:=by rw[jv,ei]; rfl
  have gj:wd.getD j jC=x:=by rw[jv,ej]; rfl
  have pi:cD wd i=j:=by
   unfold cD;rw[gi,e];exact aI rfl
  have pj:cD wd j=i:=by
   unfold cD;rw[gj,e];exact aH (by lia)
  have dij:aE (i < j)=aC:=am h1;have dji:aE (j < i)=aD:=av (by lia)
  have i0:=nF (hd:=hd) pi gi (b:=0) (by lia)
  have i1:=nF (hd:=hd) pi gi (b:=1) (by lia)
  have j0:=nF (hd:=hd) pj gj (b:=0) (by lia)
  have j1:=nF (hd:=hd) pj gj (b:=1) (by lia)
  rw[dij] at i0 i1;rw[dji] at j0 j1;show Four (Aw wd hd) (iy wd x (hd x));rw[qj e];cases hh:hd x with
  |true=>
   rw[hh] at i0 i1 j0 j1;rw[aI rfl] at i0 i1;rw[aH (by simp)] at j0 j1
   exact⟨2*i,2*j,2*i+1,2*j+1,rfl,i0,j0,i1,j1⟩
  |false=>
   rw[hh] at i0 i1 j0 j1;rw[aH (by simp)] at i0 i1
   rw[aI rfl] at j0 j1;exact⟨2*i,2*j+1,2*i+1,2*j,rfl,i0,j1,i1,j0⟩
 ·obtain⟨i,j,e1,h1,h2,ei,ej,h3⟩:=Cj g.two (p:=e / 2) (by lia)
  have hm:wd[e / 2]∈wd:=jX _;refine⟨(wd[e / 2],iy wd wd[e / 2] (hd wd[e / 2])),jx.mpr ⟨_,mem_firsts.mpr hm,rfl⟩,?_⟩;show e∈iy wd wd[e / 2] (hd wd[e / 2]);rw[qj e1];have h4:e=2*i∨e=2*i+1∨e=2*j∨e=2*j+1:=by
   rcases h3 with ⟨h3,_⟩ |⟨h3,_⟩<;>lia
  cases hd wd[e / 2] with
  |true=>
   show e∈[2*i,2*j,2*i+1,2*j+1];simp;lia
  |false=>
   show e∈[2*i,2*j+1,2*i+1,2*j];simp;lia
theorem E8{f:T->T->Option Bool}:∀ {xs:List T},(∀ x∈xs,f x x=aA aC)->eJ f xs xs=aA aC:=by
 intro xs
 induction xs with
 |nil=>intro _; rfl
 |cons x xs ih=>
  intro h;unfold eJ;rw[h x (by simp),ih λy hy=>h y (jA _ hy)]
  rfl
theorem vO{n:Nat}{xs:List T}(h:∀ x∈xs,ap n x x=aA aC):ap (n+1) (.lst xs) (.lst xs)=aA aC:=by
 show (if xs.length=xs.length then eJ (ap n) xs xs else aA aD)=aA aC
 rw[aI rfl,E8 h]
theorem Mw(c:Str × List Nat):ap 6 (ag c) (ag c)=aA aC:=by
 show (eJ (ap 5) [T.str c.1,.lst (c.2.map nT)] [T.str c.1,.lst (c.2.map nT)]).map (λb=>b&&2 == 2)=aA aC;rw[E8]
 ·rfl
 ·intro x hx;rcases jy.mp hx with rfl |hx
  ·show br (.str c.1) (.str c.1)=aA aC;simp[br]
  ·rw[je.mp hx];refine vO λy hy=>?_;obtain⟨z,_,rfl⟩:=jx.mp hy;show br (.int (z:Int)) (.int (z:Int))=aA aC;simp[br]
theorem Ra(wd:List Str)(cs:List (Str × List Nat)):bY (.lst [.lst (wd.map T.str),.lst (cs.map ag)]) (.lst [.lst (wd.map T.str),.lst (cs.map ag)])=aA (.bl aC):=by
 show (ap 8 _ _).map T.bl=_;rw[vO]
 ·rfl
 ·intro x hx;rcases jy.mp hx with rfl |hx
  ·refine vO λy hy=>?_;obtain⟨z,_,rfl⟩:=jx.mp hy;show br (.str z) (.str z)=aA aC;simp[br]
  ·rw[je.mp hx];refine vO λy hy=>?_;obtain⟨z,_,rfl⟩:=jx.mp hy;exact Mw z
def dX(wd:List Str)(x:Str):Nat:=(bn wd x).getD 0 0
def bt(wd:List Str)(x:Str):Nat:=(bn wd x).getD 1 0
def ah(wd:List Str)(v:Nat):Str:=(aL wd).getD v jC
def iN(wd:List Str)(v:Nat):Nat:=dX wd (ah wd v)
def jN(wd:List Str)(v:Nat):Nat:=bt wd (ah wd v)
def hN(wd:List Str)(hd:Str->Bool)(v:Nat):Bool:=hd (ah wd v)
def nv(wd:List Str)(p:Nat):Nat:=(aL wd).idxOf (wd.getD p jC)
theorem ie{wd:List Str}{v:Nat}(hv:v < (aL wd).length):ah wd v∈aL wd:=by
 unfold ah;rw[jv,j3 hv];exact jX hv
theorem qa{wd:List Str}{x:Str}(h:x∈aL wd):ah wd ((aL wd).idxOf x)=x:=by
 unfold ah;have:=Qn.mpr h;rw[jv,j3 this];exact Wz this
theorem ua{wd:List Str}{v:Nat}(hv:v < (aL wd).length):(aL wd).idxOf (ah wd v)=v:=by
 have h1:=ie hv;have h2:=Qn.mpr h1;have h3:(aL wd)[(aL wd).idxOf (ah wd v)]=(aL wd)[v]:=by
  rw[Wz h2];unfold ah;rw[jv,j3 hv]; rfl
 exact(Y4 (vz wd)).mp h3
theorem o8{wd:List Str}{x:Str}(h:wd.count x=2):bn wd x=[dX wd x,bt wd x]/\dX wd x < bt wd x/\bt wd x < wd.length/\wd.getD (dX wd x) jC=x/\wd.getD (bt wd x) jC=x:=by
 obtain⟨i,j,e⟩:=qr h;obtain⟨h1,h2⟩:=oh e;have ei:=nY (wd:=wd) (x:=x) (k:=i) (by rw[e]; simp)
 have ej:=nY (wd:=wd) (x:=x) (k:=j) (by rw[e]; simp)
 unfold dX bt;rw[e];exact⟨rfl,h1,h2,by show wd.getD i _=x; rw[jv,ei]; rfl,by show wd.getD j _=x; rw[jv,ej]; rfl⟩
theorem qJ{wd:List Str}(g:∀ x∈wd,wd.count x=2):Ij (aL wd).length (iN wd) (jN wd) (nv wd):=by
 have hl:=lb g;have pl:∀ v,v < (aL wd).length->bn wd (ah wd v)=[dX wd (ah wd v),bt wd (ah wd v)]/\dX wd (ah wd v) < bt wd (ah wd v)/\bt wd (ah wd v) < wd.length/\wd.getD (dX wd (ah wd v)) jC=(ah wd v)/\wd.getD (bt wd (ah wd v)) jC=(ah wd v):=λv hv=>o8 (g _ (mem_firsts.mp (ie hv)));have hm:∀ p,p < 2*(aL wd).length->wd.getD p jC∈aL wd/\p∈bn wd (wd.getD p jC):=λp hp=>by
  have hp:p < wd.length:=hl▸hp;rw[jv,j3 hp];exact⟨mem_firsts.mpr (jX hp),jQ.mpr ⟨jc.mpr hp,am (j3 hp)⟩⟩
 refine⟨λv hv=>(pl v hv).2.1,λv hv=>hl▸(pl v hv).2.2.1,λv hv=>?_,λv hv=>?_,λp hp=>Qn.mpr (hm p hp).1,λp hp=>?_⟩
 ·unfold nv iN;rw[(pl v hv).2.2.2.1]; exact ua hv
 ·unfold nv jN;rw[(pl v hv).2.2.2.2]; exact ua hv
 ·obtain⟨h1,h2⟩:=hm p hp;have e:ah wd (nv wd p)=wd.getD p jC:=qa h1;unfold iN jN;rw[e];rw[(o8 (g _ (mem_firsts.mp h1))).1] at h2;exact(jy.mp h2).imp id je.mp
theorem M5{wd:List Str}(g:∀ x∈wd,wd.count x=2){x:Str}(hx:x∈wd):cD wd (dX wd x)=bt wd x/\cD wd (bt wd x)=dX wd x:=by
 obtain⟨h1,h2,h3,h4,h5⟩:=o8 (g x hx);unfold cD;rw[h4,h5,h1];exact⟨aI rfl,aH (by lia)⟩
theorem uJ{wd:List Str}(g:∀ x∈wd,wd.count x=2)(hd:Str->Bool):Wf (aL wd).length (aO (iN wd) (jN wd) (hN wd hd)) (bO (iN wd) (jN wd) (hN wd hd)) (fw wd hd):=by
 have hl:=lb g;have C:=(qJ g).cd (hN wd hd);have AA:∀ v,v < (aL wd).length->∀ t,t < 2->Aw wd hd (2*aO (iN wd) (jN wd) (hN wd hd) v+t)=2*bO (iN wd) (jN wd) (hN wd hd) v+(1 - t)/\Aw wd hd (2*bO (iN wd) (jN wd) (hN wd hd) v+t)=2*aO (iN wd) (jN wd) (hN wd hd) v+t:=λv hv t ht=>by
  have hx:=mem_firsts.mp (ie hv);obtain⟨_,h2,h3,h4,h5⟩:=o8 (g _ hx);obtain⟨p1,p2⟩:=M5 g hx;rcases iQ (iN wd) (jN wd) (hN wd hd) v with ⟨a,b,z⟩ |⟨a,b,z⟩<;>rw[a,b]<;>unfold iN jN<;>unfold hN at z
  ·rw[nF p1 h4 ht,nF p2 h5 ht,z,am h2,av (Nat.lt_asymm h2)]; exact⟨rfl,rfl⟩
  ·rw[nF p1 h4 ht,nF p2 h5 ht,z,am h2,av (Nat.lt_asymm h2)]; exact⟨rfl,rfl⟩
 have Ee:∀ p,p < wd.length->Ew wd.length (2*bT (aL wd).length p)=2*p+1:=λp hp=>by
  unfold Ew bT
  by_cases q:p=0
  ·rw[aI q,aH (by lia),aI (by lia),q]
  ·rw[aH q,aH (by lia),aH (by lia)]; lia
 have Eo:∀ p,Ew wd.length (2*p+1)=2*p:=λp=>aI (by lia)
 have Be:∀ p,Bw wd.length (2*p)=2*p:=λp=>aI (by lia)
 have Bo:∀ p,p < wd.length->Bw wd.length (2*p+1)=2*bT (aL wd).length p+1:=λp hp=>by
  unfold Bw bT;rw[aH (by lia)]
  by_cases q:p=0
  ·rw[aI q,aI (by lia)]; lia
  ·rw[aH q,aH (by lia)]; lia
 have ha:∀ v,v < (aL wd).length->aO (iN wd) (jN wd) (hN wd hd) v < wd.length:=λv hv=>by rw[hl]; exact C.alt v hv
 have hb:∀ v,v < (aL wd).length->bO (iN wd) (jN wd) (hN wd hd) v < wd.length:=λv hv=>by rw[hl]; exact C.blt v hv
 refine⟨λv hv=>?_,λv hv=>?_,λv hv=>?_,λv hv=>?_⟩<;>unfold fw
 ·rw[Ee _ (ha v hv),(AA v hv 1 (by decide)).1]; exact Be _
 ·rw[Eo,show ∀ k,2*k=2*k+0 from λ_=>rfl,(AA v hv 0 (by decide)).1]; exact Bo _ (hb v hv)
 ·rw[Ee _ (hb v hv),(AA v hv 1 (by decide)).2]; exact Bo _ (ha v hv)
 ·rw[Eo,show ∀ k,2*k=2*k+0 from λ_=>rfl,(AA v hv 0 (by decide)).2]; exact Be _
def bF(b:Bool):F2:=if b then 1 else 0
theorem L5{b c:Bool}(h:bF b=bF c):b=c:=by revert h; cases b<;>cases c<;>decide
theorem wU{wd:List Str}(g:∀ x∈wd,wd.count x=2){u v:Nat}(hu:u < (aL wd).length)(hv:v < (aL wd).length):cr (iN wd) (jN wd) u v=bF (bH wd (ah wd u) (ah wd v)):=by
 obtain⟨e1,h1,h2,_⟩:=o8 (g _ (mem_firsts.mp (ie hu)));obtain⟨e3,_⟩:=o8 (g _ (mem_firsts.mp (ie hv)));rw[qQ e1,vU _ h1 h2,e3];unfold cr d6 lT iN jN;generalize dX wd (ah wd u)=i;generalize bt wd (ah wd u)=j;generalize dX wd (ah wd v)=k;generalize bt wd (ah wd v)=l;have f:∀ k (r:List Nat),(Ju (λk=>aE (i < k)&&aE (k < j)) (k::r))=if i < k/\k < j then k::Ju (λk=>aE (i < k)&&aE (k < j)) r else Ju (λk=>aE (i < k)&&aE (k < j)) r:=λk r=>by
  rw[Zo]
  by_cases q:i < k/\k < j
  ·rw[aI q,aI (by simpa using q)]
  ·rw[aH q,aH (by simpa using q)]
 rw[f,f]
 by_cases q:i < k/\k < j<;>by_cases q':i < l/\l < j
 ·rw[aI q,aI q',aI q,aI q']; rfl
 ·rw[aI q,aH q',aI q,aH q']; rfl
 ·rw[aH q,aI q',aH q,aI q']; rfl
 ·rw[aH q,aH q',aH q,aH q']; rfl
theorem Sq(p:Nat->Bool):∀ l:List Nat,sm l (λv=>bF (p v))=n2 (l.filter p).length:=λl=>by
 induction l with
 |nil=>rfl
 |cons k l ih=>
  rw[dj,ih];cases h:p k
  ·rw[List.filter_cons_of_neg (by simp[h])]
   show (0:F2)+_=_
   grind
  ·rw[Nb h,jk,xm];show (1:F2)+_=_+1
   grind
theorem Rc(wd:List Str):aL wd=(j6 (aL wd).length).map (ah wd):=by
 refine Ja (by simp) λi h1 h2=>?_
 rw[Nj,ZU];unfold ah;rw[jv,j3 h1]; rfl
theorem EZ(wd:List Str)(p:Str->Bool):sm (j6 (aL wd).length) (λv=>bF (p (ah wd v)))=n2 ((aL wd).filter p).length:=by
 rw[Sq];have e:(aL wd).filter p=((j6 (aL wd).length).filter λv=>p (ah wd v)).map (ah wd):=by
  conv=>lhs; rw[Rc wd]
  rw[Ny]; rfl
 rw[e,j5]
def cU(wd:List Str)(hd:Str->Bool)(x:Str):Bool:=aE (dX wd x%2=1) != !hd x
theorem Fk(wd:List Str)(hd:Str->Bool)(v:Nat):li (iN wd) (hN wd hd) v=bF (cU wd hd (ah wd v)):=by
 unfold li cU fE iN hN;have e2:n2 (dX wd (ah wd v))=bF (aE (dX wd (ah wd v)%2=1)):=by
  rcases Q2 (dX wd (ah wd v)) with q |q
  ·rw[qT (k:=0) q,av (by rw[q]; decide)]; rfl
  ·rw[qT (k:=1) q,am q]; rfl
 rw[e2];cases hd (ah wd v)<;>cases aE (dX wd (ah wd v)%2=1)<;>rfl
theorem So{wd:List Str}(g:∀ x∈wd,wd.count x=2)(hd:Str->Bool):(∀(l0 d0:F2) (x:Nat->F2),lI (aL wd).length (aO (iN wd) (jN wd) (hN wd hd)) (bO (iN wd) (jN wd) (hN wd hd)) (nv wd) l0 d0 x)↔SidesOk (aL wd) (bH wd) (cU wd hd):=by
 rw[RF (qJ g)];have hdeg:∀ v,v < (aL wd).length->iu (aL wd).length (iN wd) (jN wd) v=n2 (bu (aL wd) (bH wd) (ah wd v)).length:=λv hv=>by
  unfold iu bu;rw[<-EZ];exact eO λu hu=>wU g hv (jc.mp hu)
 have hshr:∀ u v,u < (aL wd).length->v < (aL wd).length->lM (aL wd).length (iN wd) (jN wd) u v=n2 (ol (aL wd) (bH wd) (ah wd u) (ah wd v)):=λu v hu hv=>by
  unfold lM ol;rw[<-EZ wd λz=>bH wd (ah wd u) z&&bH wd (ah wd v) z];refine eO λw hw=>?_;have hw:=jc.mp hw;rw[wU g hu hw,wU g hv hw];cases bH wd (ah wd u) (ah wd w)<;>cases bH wd (ah wd v) (ah wd w)<;>rfl
 have hall:∀ {P:Str->Prop},(∀ x∈aL wd,P x)↔∀ v,v < (aL wd).length->P (ah wd v):=λ{P}=>by
  constructor
  ·intro h v hv; exact h _ (ie hv)
  ·intro h x hx;rw[<-qa hx];exact h _ (Qn.mpr hx)
 have fit:∀ u v,u < (aL wd).length->v < (aL wd).length->(lM (aL wd).length (iN wd) (jN wd) u v+cr (iN wd) (jN wd) u v*(li (iN wd) (hN wd hd) u+li (iN wd) (hN wd hd) v+1)=0↔(bH wd (ah wd u) (ah wd v)=aD->bG (aL wd) (bH wd) (ah wd u) (ah wd v)=aC)/\(bH wd (ah wd u) (ah wd v)=aC->bG (aL wd) (bH wd) (ah wd u) (ah wd v)=(cU wd hd (ah wd u) != cU wd hd (ah wd v)))):=λu v hu hv=>by
  rw[hshr u v hu hv,wU g hu hv,Fk,Fk];unfold bG;rcases Q2 (ol (aL wd) (bH wd) (ah wd u) (ah wd v)) with q |q
  ·rw[qT (k:=0) q,am q];cases bH wd (ah wd u) (ah wd v)<;>cases cU wd hd (ah wd u)<;>cases cU wd hd (ah wd v)<;>decide
  ·rw[qT (k:=1) q,av (by lia)]
   cases bH wd (ah wd u) (ah wd v)<;>cases cU wd hd (ah wd u)<;>cases cU wd hd (ah wd v)<;>decide
 constructor
 ·rintro⟨h1,h2⟩;have key:∀ x∈aL wd,∀ y∈aL wd,x≠y->(bH wd x y=aD->bG (aL wd) (bH wd) x y=aC)/\(bH wd x y=aC->bG (aL wd) (bH wd) x y=(cU wd hd x != cU wd hd y)):=λx hx y hy hne=>by
   have h:=h2 _ _ (Qn.mpr hx) (Qn.mpr hy) λe=>hne (by rw[<-qa hx,e,qa hy])
   rw[fit _ _ (Qn.mpr hx) (Qn.mpr hy),qa hx,qa hy] at h;exact h
  refine⟨hall.mpr λv hv=>?_,λx hx y hy ho=>?_,λx hx y hy ha=>?_⟩
  ·exact n2_zero.mp (by rw[<-hdeg v hv]; exact h1 v hv)
  ·have:=(key x hx y hy ho.1).1 ho.2.1;rw[ho.2.2] at this;cases this
  ·refine(key x hx y hy λe=>?_).2 ha;rw[<-e] at ha;have hm:=mem_firsts.mp hx;obtain⟨i,j,hp⟩:=qr (g x hm);rw[qQ hp,Ei hp] at ha;cases ha
 ·intro h;refine⟨λv hv=>?_,λu v hu hv hne=>?_⟩
  ·rw[hdeg v hv]; exact n2_zero.mpr (h.even _ (ie hv))
  ·rw[fit u v hu hv];refine⟨λhf=>?_,λht=>h.fit _ (ie hu) _ (ie hv) ht⟩;cases q:bG (aL wd) (bH wd) (ah wd u) (ah wd v)
   ·refine absurd ⟨λe=>hne ?_,hf,q⟩ (h.pair _ (ie hu) _ (ie hv));rw[<-ua hu,e,ua hv]
   ·rfl
theorem Uo{wd:List Str}(g:GoodWord wd){x:Str}(hx:x∈aL wd)(b:Bool):wL [.lst (wd.map T.str),.str x,.int (bI b)]=aA (.lst ((iy wd x (aE ((bI b+(dX wd x:Int))%2=0))).map nT)):=by
 have hm:=mem_firsts.mp hx;obtain⟨e,h1,h2,_⟩:=o8 (g.two x hm);have hl:=g.len;have es:=FN (wd:=wd) (by lia) x
 rw[e] at es;rw[qj e];generalize dX wd x=i at es h1;generalize bt wd x=j at es h1 h2;have es:t8 [.lst (wd.map T.str),.str x]=aA (.lst [.int (i:Nat),.int (j:Nat)]):=es;generalize wd.map T.str=W at es;refine eY ?_;show af wC [aA (.lst W),aA (.str x),aA (.int (bI b)),aB,aB] _;unfold wC;refine aX (s':=[aA (.lst W),aA (.str x),aA (.int (bI b)),aA (.int (i:Nat)),aA (.int (j:Nat))]) (by simp_all?[es]) ?_
 have two:∀ k:Nat,(2:Int)*(k:Int)=((2*k:Nat):Int):=λk=>by lia
 by_cases q:(bI b+(i:Int))%2=0
 ·rw[am q];refine sW (s':=[aA (.lst W),aA (.str x),aA (.int (bI b)),aA (.int (i:Nat)),aA (.int (j:Nat))]) (by simp_all?[am q]<;>rfl) ?_
  show T.lst [.int (2*(i:Int)),.int (2*(j:Int)),.int (2*(i:Int)+1),.int (2*(j:Int)+1)]=.lst [nT (2*i),nT (2*j),nT (2*i+1),nT (2*j+1)];rw[two,two]; rfl
 ·rw[av q];refine aX (s':=[aA (.lst W),aA (.str x),aA (.int (bI b)),aA (.int (i:Nat)),aA (.int (j:Nat))]) (by simp_all?[av q]<;>rfl) ?_
  refine fL (s':=[aA (.lst W),aA (.str x),aA (.int (bI b)),aA (.int (i:Nat)),aA (.int (j:Nat))]) (by simp_all?[]<;>rfl) ?_
  show T.lst [.int (2*(i:Int)),.int (2*(j:Int)+1),.int (2*(i:Int)+1),.int (2*(j:Int))]=.lst [nT (2*i),nT (2*j+1),nT (2*i+1),nT (2*j)];rw[two,two]; rfl
def tK(wd:List Str)(sd:Str->Bool)(x:Str):Bool:=aE ((bI (sd x)+(dX wd x:Int))%2=0)
theorem Oo(wd:List Str)(sd:Str->Bool):cU wd (tK wd sd)=sd:=by
 funext x
 unfold cU tK bI;cases sd x<;>rcases Q2 (dX wd x) with q |q
 ·rw[av (by lia),am (by simp; lia)]; rfl
 ·rw[am q,av (by simp; lia)]; rfl
 ·rw[av (by lia),av (by simp; lia)]; rfl
 ·rw[am q,am (by simp; lia)]; rfl
theorem Sy(ns:List Str)(f:Str->T):o7 (ns.map T.str) (ns.map f)=ns.map λx=>T.tup [.str x,f x]:=by
 unfold o7
 induction ns with
 |nil=>rfl
 |cons x ns ih=>rw[jq,jq,List.zip_cons_cons,jq,ih]; rfl
theorem SR{wd:List Str}(g:GoodWord wd){sd:Str->Bool}(e:oZ [.lst (wd.map T.str)]=aA (.tup [.str "sides",.lst ((aL wd).map λx=>.int (bI (sd x)))])):lD [.lst (wd.map T.str)]=aA (.lst ((aq wd (tK wd sd)).map ag)):=by
 have hl:=g.len;have en:=vf (wd:=wd) (by lia)
 refine eY ?_;show af ng [aA (.lst (wd.map T.str)),aB] _;unfold ng;generalize hW:wd.map T.str=W at e en;refine aX (s':=[aA (.lst W),aA (.tup [.str "sides",.lst ((aL wd).map λx=>.int (bI (sd x)))])]) (by simp_all?[e]) ?_
 have i0:aP (.tup [.str "sides",.lst ((aL wd).map λx=>.int (bI (sd x)))]) (.int 0)=aA (.str "sides"):=rfl;have i1:aP (.tup [.str "sides",.lst ((aL wd).map λx=>.int (bI (sd x)))]) (.int 1)=aA (.lst ((aL wd).map λx=>.int (bI (sd x)))):=rfl;have n0:cc (.str "sides") (.str "sides")=aA (.bl aD):=rfl;refine aX (s':=[aA (.lst W),aA (.tup [.str "sides",.lst ((aL wd).map λx=>.int (bI (sd x)))])]) (by simp_all?[i0,n0]<;>rfl) ?_
 have e:=iW (M:=[]) (caps:=[aB,aB,aA 0]) (fi:=tz (aF (ae lE (aF (dV 0) aJ)) (aF (d2 aP (dV 1) (dC (.int 1))) aJ))) (dg:=eg [0,1]) (fe:=du (aF (dV 0) (aF (ae wL (aF (dV 2) (aF (dV 0) (aF (dV 1) aJ)))) aJ))) (s:=[aA (.lst W),aA (.tup [.str "sides",.lst ((aL wd).map λx=>.int (bI (sd x)))])]) (aL wd) (λx=>T.tup [.str x,.int (bI (sd x))]) (λx=>ag (x,iy wd x (tK wd sd x))) (by simp_all?[en,i1,Sy]) (by have:=yx wd; lia) (by
  intro x hx;have ee:=Uo g hx (sd x);rw[hW] at ee
  exact⟨[aA (.str x),aA (.int (bI (sd x))),aA (.lst W)],rfl,by simp_all?[ee]<;>rfl,rfl⟩)
 refine fL (s':=[aA (.lst W),aA (.tup [.str "sides",.lst ((aL wd).map λx=>.int (bI (sd x)))])]) (by simp_all?[e]<;>rfl) ?_
 unfold aq;rw[jU]; rfl
structure Part (n:Nat) (f:Nat->Nat) (rows:List (List Nat)) (pn:Nat->Nat):Prop where
 at_:∀ w,w < n->∃ r,rows[pn w]?=aA r/\w∈r
 one:∀ i r w,rows[i]?=aA r->w∈r->w < n/\pn w=i
 nd:∀ r∈rows,r.Nodup
 orb:∀ r∈rows,∀ w∈r,∀ w'∈r,∃ t,t < n/\bV f t w/\bV f t w'
theorem tS.part{n:Nat}{f:Nat->Nat}(hf:Perm1 n f){rows:List (List Nat)}(h:tS n f rows):∃ pn,Part n f rows pn:=by
 obtain⟨L,hT,hR⟩:=h;have row:∀ i r,rows[i]?=aA r->∃ x,L[i]?=aA x/\x < n/\uE f x r:=λi r hr=>by
  have hi:i < L.length:=by rw[<-hR.len]; exact(j7.mp hr).1
  exact⟨L[i],j3 hi,hT.lt _ (jX hi),hR.row i _ _ (j3 hi) hr⟩
 have orb:∀ x r w,uE f x r->w∈r->bV f x w:=λx r w ⟨k,e,_⟩ hw=>by
  rw[e] at hw;obtain⟨m,_,rfl⟩:=jx.mp hw;exact⟨m,rfl⟩
 have ex:∀ w,w < n->∃ i r,rows[i]?=aA r/\w∈r:=λw hw=>by
  obtain⟨t,ht,_,m,em⟩:=hR.le w hw;obtain⟨i,hi,rfl⟩:=QF ht;have hi':i < rows.length:=by rw[hR.len]; exact hi
  obtain⟨k,e,_,_,hk⟩:=hR.row i _ _ (j3 hi) (j3 hi');refine⟨i,rows[i],j3 hi',?_⟩;rw[e,<-em];exact zA hk m
 have uq:∀ i j r r' w,rows[i]?=aA r->rows[j]?=aA r'->w∈r->w∈r'->i=j:=λi j r r' w hr hr' hw hw'=>by
  obtain⟨x,hx,xn,ax⟩:=row i r hr;obtain⟨y,hy,yn,ay⟩:=row j r' hr';have ox:=orb x r w ax hw;have oy:=orb y r' w ay hw';have oxy:bV f x y:=ox.trans (bV.symm hf yn oy);obtain⟨hi,rfl⟩:=j7.mp hx;obtain⟨hj,rfl⟩:=j7.mp hy;have pw:=gx.mp hT.one;rcases gf i j with q |q |q
  ·exact absurd oxy (pw i j hi hj q)
  ·exact q
  ·exact absurd (bV.symm hf xn oxy) (pw j i hj hi q)
 refine⟨λw=>if h:w < n then QC (ex w h) else 0,λw hw=>?_,λi r w hr hw=>?_,λr hr=>?_,λr hr w hw w' hw'=>?_⟩
 ·rw[dif_pos hw];exact Zu (ex w hw)
 ·obtain⟨x,_,xn,ax⟩:=row i r hr;obtain⟨m,em⟩:=orb x r w ax hw;have hwn:w < n:=em▸hf.itr_lt m xn;refine⟨hwn,?_⟩;rw[dif_pos hwn];obtain⟨r',hr',hw'⟩:=Zu (ex w hwn);exact uq _ _ _ _ w hr' hr hw' hw
 ·obtain⟨i,hi,rfl⟩:=QF hr;obtain⟨x,_,_,k,e,_,nd,_⟩:=row i _ (j3 hi);rw[e]; exact nd
 ·obtain⟨i,hi,rfl⟩:=QF hr;obtain⟨x,_,xn,ax⟩:=row i _ (j3 hi);exact⟨x,xn,orb x _ w ax hw,orb x _ w' ax hw'⟩
theorem zJ:∀(l m:List Nat),l.Nodup->(∀ x∈l,x∈m)->l.length<=m.length:=by
 intro l
 induction l with
 |nil=>intro m _ _; exact QZ _
 |cons a l ih=>
  intro m hn hs;obtain⟨h1,h2⟩:=Qf.mp hn;have ha:=hs a (jW ..);have:=ih (m.erase a) h2 (λx hx=>(gk (λe:x=a=>h1 (e▸hx))).mpr (hs x (jA _ hx)));rw[ZH ha] at this;have:=gT ha;rw[jk];lia
theorem Pt.part{wd:List Str}{hd:Str->Bool}(g:∀ x∈wd,wd.count x=2){rows:List (List Nat)}(h:Pt wd hd rows):∃ pn,Part (2*wd.length) (fw wd hd) rows pn:=by
 rcases h with ⟨rfl,rfl⟩ |⟨_,h⟩
 ·have no:∀(r:List Nat) (w:Nat),r∈[[],[]]->w∈r->False:=λr w hr hw=>by
   rcases jy.mp hr with rfl |hr
   ·cases hw
   ·rw[je.mp hr] at hw; cases hw
  exact⟨λ_=>0,λw hw=>absurd hw (Z7 _),λi r w hr hw=>(no r w (jF hr) hw).elim,λr hr=>by
   rcases jy.mp hr with rfl |hr
   ·exact Zx
   ·rw[je.mp hr]; exact Zx,λr hr w hw=>(no r w hr hw).elim⟩
 ·exact h.part (sK g hd)
theorem Ot:∀ {L:List Nat} {lo s:Nat},L.Pairwise (λx y=>x < y)->(∀ x∈L,lo<=x/\x < s)->lo<=s->L.length+lo<=s:=by
 intro L
 induction L with
 |nil=>intro lo s _ _ h; simpa using h
 |cons a l ih=>
  intro lo s hp h hs;obtain⟨h1,h2⟩:=List.pairwise_cons.mp hp;have ha:=h a (jW ..);have:=ih (lo:=a+1) h2 (λx hx=>⟨h1 x hx,(h x (jA _ hx)).2⟩) ha.2;rw[jk];lia
theorem Pt.len{wd:List Str}{hd:Str->Bool}{rows:List (List Nat)}(h:Pt wd hd rows)(hl:wd.length<=60):rows.length<=122:=by
 rcases h with ⟨_,rfl⟩ |⟨_,L,ht,hR⟩
 ·decide
 ·have:=Ot (lo:=0) hR.srt (λx hx=>⟨QZ _,hR.lt x hx⟩) (QZ _);rw[hR.len];lia
theorem SE(wd:List Str)(cs:List (Str × List Nat)):cc (.lst [.lst (wd.map T.str),.lst (cs.map ag)]) (.lst [.lst (wd.map T.str),.lst (cs.map ag)])=aA (.bl aD):=by
 have h:=Ra wd cs;obtain⟨b,h1,h2⟩:=Qm (show (ap 8 _ _).map T.bl=aA (.bl aC) from h);obtain rfl:b=aC:=by injection h2
 show (ap 8 _ _).map (λb=>T.bl (!b))=_;rw[h1]; rfl
theorem zS{wd:List Str}{t:T}{x:Str}(e:oZ [.lst (wd.map T.str)]=aA t)(e0:aP t (.int 0)=aA (.str x))(hx:aE (x=("sides":Str))=aD):lD [.lst (wd.map T.str)]=aB/\qx [.lst (wd.map T.str)]=aC:=by
 constructor
 ·show bM 2 ng [.lst (wd.map T.str)]=aB;unfold bM;have:ng (dL 2 [.lst (wd.map T.str)])=aB:=by
   show ng [aA (.lst (wd.map T.str)),aB]=aB;unfold ng
   simp_all?[e,e0,hx]
   rfl
  rw[this]
 ·show vy [aA (.lst (wd.map T.str)),aB]=aC;have h1:aa 1 (ae oZ (aF (dV 0) aJ)) [aA (.lst (wd.map T.str)),aB]=aA (.nx [aA (.lst (wd.map T.str)),aA t]):=by simp_all?[e]
  have h2:dB (d2 cc (d2 aP (dV 1) (dC (.int 0))) (dC (.str "sides"))) [aA (.lst (wd.map T.str)),aA t]=aA (aC,[aA (.lst (wd.map T.str)),aA t]):=by simp_all?[e0,hx]
  unfold vy qG;rw[h1];unfold rJ;dsimp only;rw[h2];rfl
theorem SS{wd:List Str}(g:GoodWord wd):(∃ hd:Str->Bool,lD [.lst (wd.map T.str)]=aA (.lst ((aq wd hd).map ag))/\SidesOk (aL wd) (bH wd) (cU wd hd))∨(lD [.lst (wd.map T.str)]=aB/\qx [.lst (wd.map T.str)]=aC):=by
 obtain⟨t,e,ht⟩:=SB g;cases ht with
 |odd x hx h=>exact .inr (zS e rfl (by decide))
 |pair x y hx hy h=>exact .inr (zS e rfl (by decide))
 |ring r h=>exact .inr (zS e rfl (by decide))
 |sides sd h=>exact .inl ⟨tK wd sd,SR g e,by rw[Oo]; exact h⟩
def bX(E:List (Str × Bool)):List (aK × T):=E.map λe=>(Zv e.1,T.int (bI e.2))
def bg(E:List (Str × Bool)):List Str:=E.map (·.1)
theorem sL(E:List (Str × Bool))(x:Str):(bQ (bX E) (.inr x)).isSome=aE (x∈bg E):=by
 unfold bX bg;rw[oT,gd,Zi,YV,decide_eq_true_iff];constructor
 ·rintro⟨e,he,h⟩;have:=ZV (of_decide_eq_true h);rw[<-this]; exact jx.mpr ⟨e,he,rfl⟩
 ·intro h;obtain⟨e,he,rfl⟩:=jx.mp h;exact⟨e,he,am rfl⟩
theorem Ik{E:List (Str × Bool)}{x:Str}(h:x∈bg E):∃ b:Bool,bQ (bX E) (.inr x)=aA (.int (bI b)):=by
 have q:=sL E x;rw[am h] at q;obtain⟨v,hv⟩:=ZD.mp q;have hv':=hv;unfold bX at hv;rw[oT] at hv;obtain⟨e,_,rfl⟩:=Qm hv;exact⟨e.2,hv'⟩
theorem Cu{E:List (Str × Bool)}{x:Str}(b:Bool)(h:x∉bg E):cW (bX E) (.inr x) (.int (bI b))=bX (E++[(x,b)]):=by
 rw[sP]
 ·unfold bX; rw[jE]; rfl
 ·unfold bX;rw[jU];intro hm;obtain⟨e,he,h2⟩:=jx.mp hm;exact h (ZV h2▸jx.mpr ⟨e,he,rfl⟩)
def VZ:Sg->Nat
 |[_,_,_,aA (.dct kvs),_,_,aA (.lst w),_,_,_]=>31*(30 - kvs.length)+w.length
 |_=>0
structure Tn (wd:List Str) (E:List (Str × Bool)):Prop where
 nd:(bg E).Nodup
 sub:∀ x∈bg E,x∈aL wd
theorem Tn.le{wd:List Str}{E:List (Str × Bool)}(h:Tn wd E)(hl:(aL wd).length<=30):E.length<=30:=by
 have:=qp _ _ h.nd h.sub;unfold bg at this;rw[j5] at this;lia
theorem Tn.snoc{wd:List Str}{E:List (Str × Bool)}(h:Tn wd E){x:Str}(b:Bool)(hx:x∉bg E)(hf:x∈aL wd):Tn wd (E++[(x,b)]):=by
 have e:bg (E++[(x,b)])=bg E++[x]:=by unfold bg; rw[jE]; rfl
 refine⟨?_,λy hy=>?_⟩
 ·rw[e];refine jP.mpr ⟨h.nd,by simp,λa ha b hb=>?_⟩
  obtain rfl:=je.mp hb;exact λz=>hx (z▸ha)
 ·rw[e] at hy;rcases jt.mp hy with hy |hy
  ·exact h.sub y hy
  ·rw[je.mp hy]; exact hf
theorem vF(E:List (Str × Bool))(x:Str)(b:Bool):bg (E++[(x,b)])=bg E++[x]:=by unfold bg; rw[jE]; rfl
def fQ(E:List (Str × Bool))(x:Str):Bool:=match bQ (bX E) (.inr x) with
 |some (.int i)=>aE (i=1)
 |_=>aD
theorem xR{E:List (Str × Bool)}{x:Str}{b:Bool}(h:bQ (bX E) (.inr x)=aA (.int (bI b))):fQ E x=b:=by
 unfold fQ;rw[h];cases b<;>rfl
theorem DY{E:List (Str × Bool)}{y:Str}(b:Bool)(hy:y∉bg E)(x:Str):fQ (E++[(y,b)]) x=if y=x then b else fQ E x:=by
 have h:=sT (bX E) (.inr y) (.inr x) (.int (bI b));rw[Cu b hy] at h
 by_cases e:y=x
 ·subst e;rw[aI rfl] at h;rw[aI rfl,xR h]
 ·rw[aH (λz=>e (ZV z))] at h;rw[aH e];unfold fQ;rw[h]
def tW(wd:List Str)(E:List (Str × Bool)):Prop:=∀ x∈bg E,∀ y∈aL wd,bH wd x y=aC->y∈bg E/\fQ E y=fQ E x
structure Wh (wd:List Str) (sb:Bool) (E E':List (Str × Bool)) (wt:List Str):Prop where
 old:∀ x∈bg E,x∈bg E'/\fQ E' x=fQ E x
 new:∀ x∈bg E',x∉bg E->fQ E' x=sb
 nb:∀ x∈bg E',x∉bg E->∀ y∈aL wd,bH wd x y=aC->y∈bg E'∨y∈wt
theorem Wh.put{wd:List Str}{sb:Bool}{E E':List (Str × Bool)}{w':List Str}{y:Str}(h:Wh wd sb E E' (w'++[y]))(hy:y∉bg E'):Wh wd sb E (E'++[(y,sb)]) (w'++(aL wd).filter (bH wd y)):=by
 refine⟨λx hx=>?_,λx hx hn=>?_,λx hx hn z hz hc=>?_⟩
 ·obtain⟨h1,h2⟩:=h.old x hx;rw[vF,DY sb hy,aH (λe:y=x=>hy (e▸h1))];exact⟨jj _ h1,h2⟩
 ·rw[DY sb hy]
  by_cases e:y=x
  ·rw[aI e]
  ·rw[aH e];rw[vF] at hx;rcases jt.mp hx with hx |hx
   ·exact h.new x hx hn
   ·exact absurd (je.mp hx).symm e
 ·rw[vF] at hx ⊢;rcases jt.mp hx with hx |hx
  ·rcases h.nb x hx hn z hz hc with q |q
   ·exact .inl (jj _ q)
   ·rcases jt.mp q with q |q
    ·exact .inr (jj _ q)
    ·exact .inl (jB _ q)
  ·obtain rfl:=je.mp hx;exact .inr (jB _ (jQ.mpr ⟨hz,hc⟩))
theorem Wh.pop{wd:List Str}{sb:Bool}{E E':List (Str × Bool)}{w':List Str}{y:Str}(h:Wh wd sb E E' (w'++[y]))(hy:y∈bg E'):Wh wd sb E E' w':=
 ⟨h.old,h.new,λx hx hn z hz hc=>by
  rcases h.nb x hx hn z hz hc with q |q
  ·exact .inl q
  ·rcases jt.mp q with q |q
   ·exact .inr q
   ·rw[je.mp q]; exact .inl hy⟩
theorem Wh.fin{wd:List Str}(g:GoodWord wd){sb:Bool}{E E':List (Str × Bool)}(h:Wh wd sb E E' [])(hE:tW wd E)(ht:Tn wd E'):tW wd E':=by
 intro x hx y hy hc
 by_cases hn:x∈bg E
 ·obtain⟨h1,h2⟩:=hE x hn y hy hc;exact⟨(h.old y h1).1,by rw[(h.old y h1).2,(h.old x hn).2,h2]⟩
 ·have hyE:y∉bg E:=λz=>hn (by
   have hs:=(oO g).sym x (ht.sub x hx) y hy
   exact(hE y z x (ht.sub x hx) (hs▸hc)).1)
  rcases h.nb x hx hn y hy hc with q |q
  ·exact⟨q,by rw[h.new y q hyE,h.new x hx hn]⟩
  ·cases q
theorem Kw(i j:Nat)(h:Bool):∃ a b c d:Nat,uD i j h=[a,b,c,d]/\uD i j (!h)=[a,d,c,b]:=by cases h<;>exact⟨_,_,_,_,rfl,rfl⟩
theorem RS{wd:List Str}(g:GoodWord wd){x:Bag2}(hx:x.Ok)(L:T)(Q:Fl->Prop){d:DS}(k:∀(b:Bag2) (E:List (Str × Bool)) (a4 a5 a6 a7:Option T),b.Ok->(∀ y∈aL wd,y∈bg E)->tW wd E->af d [aA b.t,aA (.lst (wd.map T.str)),aA L,aA (.dct (bX E)),a4,a5,a6,a7,aB,aB] Q) :
  af (aM (cJ (bJ (ae lE (aF (dV 1) aJ))) (au 4)
  (bU (dB (d2 dZ (dV 4) (dV 3))) (aM (aa 5 (lR lh 0 (aF (dC (.int 2)) aJ)))
  (aM (aa 6 (bz (aF (dV 4) aJ)))
  (eM (dB (d2 fD (d1 bS (dV 6)) (dC (.int 0))))
  (aM (aa 7 (dt ip 6 aJ))
  (bU (dB (d2 dZ (dV 7) (dV 3))) (aM (iY 3 (dV 7) (dV 5))
  (iG (dt nE 6 (aF (ae qy (aF (dV 1) (aF (dV 7) aJ))) aJ)))) bW)) 1000))) bW)) d) [aA x.t,aA (.lst (wd.map T.str)),aA L,aA (.dct []),aB,aB,aB,aB,aB,aB] Q:=by
 have hl:=g.len;have hf:=(oO g).len;have en:=vf (wd:=wd) (by lia)
 generalize hW:T.lst (wd.map T.str)=W at *;refine iK (its:=(aL wd).map T.str) (λj s=>∃(b:Bag2) (E:List (Str × Bool)) (a4 a5 a6 a7:Option T),b.Ok/\(Tn wd E/\tW wd E)/\(∀ y∈(aL wd).take j,y∈bg E)/\s=[aA b.t,aA W,aA L,aA (.dct (bX E)),a4,a5,a6,a7,aB,aB]) (by simp_all?[en]<;>rfl) ⟨x,[],aB,aB,aB,aB,hx,⟨⟨Zx,λy hy=>by cases hy⟩,λy hy=>by cases hy⟩,λy hy=>by simp at hy,rfl⟩ ?_ ?_
 ·rintro j z s hz ⟨b,E,a4,a5,a6,a7,hb,⟨tn,cle⟩,hj,rfl⟩;obtain⟨nm,hnm,rfl⟩:=nR hz;have hnf:=jF hnm;have bE0:=tn.le hf;refine⟨[aA b.t,aA W,aA L,aA (.dct (bX E)),aA (.str nm),a5,a6,a7,aB,aB],by simp_all?[],?_⟩
  by_cases hk:nm∈bg E
  ·have e1:aE (nm∈bg E)=aC:=am hk;exact cm (by simp_all?[sL,e1]<;>rfl) ⟨b,E,_,_,_,_,hb,⟨tn,cle⟩,ij hj hnm hk,rfl⟩
  ·have e1:aE (nm∈bg E)=aD:=av hk;obtain⟨sz,b1,edr,hb1,z0,z1⟩:=uu hb 2 (by lia) (by lia)
   obtain⟨sb,rfl⟩:∃ sb:Bool,sz=bI sb:=by
    rcases(show sz=0∨sz=1 by lia) with rfl |rfl
    ·exact⟨aD,rfl⟩
    ·exact⟨aC,rfl⟩
   refine yH (s':=[aA b.t,aA W,aA L,aA (.dct (bX E)),aA (.str nm),a5,a6,a7,aB,aB]) (by simp_all?[sL,e1]) ?_
   refine aX (s':=[aA b1.t,aA W,aA L,aA (.dct (bX E)),aA (.str nm),aA (.int (bI sb)),a6,a7,aB,aB]) (by simp_all?[edr]) ?_
   refine aX (s':=[aA b1.t,aA W,aA L,aA (.dct (bX E)),aA (.str nm),aA (.int (bI sb)),aA (.lst ([nm].map T.str)),a7,aB,aB]) (by simp_all?[]<;>rfl) ?_
   refine Et (λs=>∃(E':List (Str × Bool)) (wt:List Str) (c7:Option T),Tn wd E'/\Wh wd sb E E' wt/\(∀ y∈wt,y∈aL wd)/\(nm∈wt∨nm∈bg E')/\31*(30 - E'.length)+wt.length<=931/\s=[aA b1.t,aA W,aA L,aA (.dct (bX E')),aA (.str nm),aA (.int (bI sb)),aA (.lst (wt.map T.str)),c7,aB,aB]) VZ ?_ ⟨E,[nm],a7,tn,⟨λ_ h=>⟨h,rfl⟩,λ_ h n=>absurd h n,λ_ h n=>absurd h n⟩,λy hy=>by rw[je.mp hy]; exact hnf,.inl (je.mpr rfl),by show 31*(30 - E.length)+1<=931; lia,rfl⟩ ?_ ?_
   ·show 31*(30 - (bX E).length)+1 < 1000;lia
   ·rintro s ⟨E',wt,c7,tn',hsub,hwf,hin,hm,rfl⟩;have bE:=tn'.le hf
    by_cases hwt:wt=[]
    ·subst hwt;exact⟨aD,_,by simp_all?[]<;>rfl,trivial⟩
    ·obtain⟨w',y,rfl⟩:∃ w' y,wt=w'++[y]:=⟨wt.dropLast,wt.getLast hwt,(Q5 hwt).symm⟩;have hyf:=hwf y (by simp)
     rw[jn] at hm;have hm:31*(30 - E'.length)+(w'.length+1)<=931:=hm;have pos:aE ((0:Int) < (((w'++[y]).map T.str).length:Nat))=aC:=am (by rw[j5,jn]; show (0:Int) < ((w'.length+1:Nat):Int); lia)
     refine⟨aC,[aA b1.t,aA W,aA L,aA (.dct (bX E')),aA (.str nm),aA (.int (bI sb)),aA (.lst ((w'++[y]).map T.str)),c7,aB,aB],by simp_all?[pos,jn]; simp,?_⟩
     rw[aI rfl];refine aX (s':=[aA b1.t,aA W,aA L,aA (.dct (bX E')),aA (.str nm),aA (.int (bI sb)),aA (.lst (w'.map T.str)),aA (.str y),aB,aB]) (by simp_all?[u9]) ?_
     by_cases hy:y∈bg E'
     ·have e2:aE (y∈bg E')=aC:=am hy;refine cm (by simp_all?[sL,e2]<;>rfl) ⟨⟨E',w',_,tn',hsub.pop hy,λz hz=>hwf z (jj _ hz),?_,by lia,rfl⟩,?_⟩
      ·rcases hin with hin |hin
       ·rcases jt.mp hin with hin |hin
        ·exact .inl hin
        ·rw[je.mp hin]; exact .inr hy
       ·exact .inr hin
      ·show 31*(30 - (bX E').length)+(w'.map T.str).length < 31*(30 - (bX E').length)+((w'++[y]).map T.str).length;rw[j5,j5,jn];show _ < _+(w'.length+1);lia
     ·have e2:aE (y∈bg E')=aD:=av hy;have hp:=Cu sb hy;have tn2:=tn'.snoc sb hy hyf;have bE2:=tn2.le hf;rw[jn] at bE2;have bE2:E'.length+1<=30:=bE2;have ll:(bX E').length < jr:=lC (by unfold bX; rw[j5]; lia)
      obtain⟨pi,pj,hpl⟩:=qr (g.two y (mem_firsts.mp hyf));have ec:=FW (wd:=wd) (by lia) hpl
      rw[hW] at ec;have cl:((aL wd).filter (bH wd y)).length<=30:=Q9 (Zr _ _) hf;generalize hcw:(aL wd).filter (bH wd y)=cw at ec cl;refine yH (s':=[aA b1.t,aA W,aA L,aA (.dct (bX E')),aA (.str nm),aA (.int (bI sb)),aA (.lst (w'.map T.str)),aA (.str y),aB,aB]) (by simp_all?[sL,e2]) ?_
      refine aX (s':=[aA b1.t,aA W,aA L,aA (.dct (bX (E'++[(y,sb)]))),aA (.str nm),aA (.int (bI sb)),aA (.lst (w'.map T.str)),aA (.str y),aB,aB]) (by simp_all?[ll,cq,hp]) ?_
      refine cm (s':=[aA b1.t,aA W,aA L,aA (.dct (bX (E'++[(y,sb)]))),aA (.str nm),aA (.int (bI sb)),aA (.lst ((w'++cw).map T.str)),aA (.str y),aB,aB]) (by simp_all?[ec,B6 (a:=w') (b:=cw) (by lia)]) ⟨⟨_,w'++cw,_,tn2,hcw▸hsub.put hy,λz hz=>?_,?_,?_,rfl⟩,?_⟩
      ·rcases jt.mp hz with hz |hz
       ·exact hwf z (jj _ hz)
       ·rw[<-hcw] at hz;exact(jQ.mp hz).1
      ·rw[vF];rcases hin with hin |hin
       ·rcases jt.mp hin with hin |hin
        ·exact .inl (jj _ hin)
        ·rw[je.mp hin]; exact .inr (jB _ (je.mpr rfl))
       ·exact .inr (jj _ hin)
      ·rw[jn,jn];show 31*(30 - (E'.length+1))+_<=_;lia
      ·show 31*(30 - (bX (E'++[(y,sb)])).length)+((w'++cw).map T.str).length < 31*(30 - (bX E').length)+((w'++[y]).map T.str).length;unfold bX;rw[j5,j5,j5,j5,jn,jn,jn];show 31*(30 - (E'.length+1))+_ < _+(w'.length+1);lia
   ·rintro s0 s' ⟨E',wt,c7,tn',hsub,hwf,hin,hm,rfl⟩ h0
    by_cases hwt:wt=[]
    ·subst hwt;have h0:aA (aD,[aA b1.t,aA W,aA L,aA (.dct (bX E')),aA (.str nm),aA (.int (bI sb)),aA (.lst (([]:List Str).map T.str)),c7,aB,aB])=aA (aD,s'):=h0;injection h0 with h0;injection h0 with _ h0;subst h0;refine⟨b1,E',_,_,_,_,hb1,⟨tn',hsub.fin g cle tn'⟩,ij (λy hy=>(hsub.old y (hj y hy)).1) hnm ?_,rfl⟩;rcases hin with hin |hin
     ·cases hin
     ·exact hin
    ·exfalso
     have pos:aE ((0:Int) < (wt.length:Nat))=aC:=am (by have:=Qw.mpr hwt; lia)
     have h2:dB (d2 fD (d1 bS (dV 6)) (dC (.int 0))) [aA b1.t,aA W,aA L,aA (.dct (bX E')),aA (.str nm),aA (.int (bI sb)),aA (.lst (wt.map T.str)),c7,aB,aB]=aA (aC,[aA b1.t,aA W,aA L,aA (.dct (bX E')),aA (.str nm),aA (.int (bI sb)),aA (.lst (wt.map T.str)),c7,aB,aB]):=by simp_all?[pos]
     rw[h2] at h0;cases h0
 ·rintro s ⟨b,E,a4,a5,a6,a7,hb,⟨tn,cle⟩,hj,rfl⟩;rw[j5,Qy] at hj;exact k b E a4 a5 a6 a7 hb hj cle
theorem T6{wd:List Str}{hd hd':Str->Bool}{E:List (Str × Bool)}(h:SidesOk (aL wd) (bH wd) (cU wd hd))(e:∀ x,hd' x=if fQ E x then !hd x else hd x)(c:tW wd E)(hall:∀ y∈aL wd,y∈bg E):SidesOk (aL wd) (bH wd) (cU wd hd'):=by
 have q:∀ x,cU wd hd' x=(cU wd hd x != fQ E x):=λx=>by
  unfold cU;rw[e];cases fQ E x<;>cases hd x<;>cases aE (dX wd x%2=1)<;>rfl
 refine⟨h.even,h.pair,λx hx y hy hc=>?_⟩;rw[h.fit x hx y hy hc,q,q,(c x (hall x hx) y hy hc).2];cases cU wd hd x<;>cases cU wd hd y<;>cases fQ E x<;>rfl
theorem HM{wd:List Str}{hd:Str->Bool}{j:Nat}{z:T}(h:((aq wd hd).map ag)[j]?=aA z):∃ x,(aL wd)[j]?=aA x/\z=.tup [.str x,.lst ((iy wd x (hd x)).map nT)]:=by
 unfold aq at h;rw[jU,jg] at h;obtain⟨x,hx,rfl⟩:=Qm h;exact⟨x,hx,rfl⟩
theorem Tf{wd:List Str}(g:GoodWord wd){x:Bag2}(hx:x.Ok):∃ y:Bag2,y.Ok/\((∃ hd:Str->Bool,w4 [x.t,.lst (wd.map T.str)]=aA (.lst ((aq wd hd).map ag),y.t)/\SidesOk (aL wd) (bH wd) (cU wd hd))∨w4 [x.t,.lst (wd.map T.str)]=aA (.non,y.t)):=by
 have hf:=(oO g).len;rcases SS g with ⟨hd,ed,hsd⟩ |⟨en,er⟩
 ·obtain⟨t,u,e,y,hy,rfl,hd',rfl,hsd'⟩:=uw (n:=10) (d:=nc) (ts:=[x.t,.lst (wd.map T.str)]) (Q:=λt u=>∃ y:Bag2,y.Ok/\u=y.t/\∃ hd':Str->Bool,t=.lst ((aq wd hd').map ag)/\SidesOk (aL wd) (bH wd) (cU wd hd')) (by
   show af nc [aA x.t,aA (.lst (wd.map T.str)),aB,aB,aB,aB,aB,aB,aB,aB] _;unfold nc;have tr:oE [0] 1 qx (aF (dV 1) aJ) (aa 2 (ae lD (aF (dV 1) aJ))) [aA x.t,aA (.lst (wd.map T.str)),aB,aB,aB,aB,aB,aB,aB,aB]=aA (.nx [aA x.t,aA (.lst (wd.map T.str)),aA (.lst ((aq wd hd).map ag)),aB,aB,aB,aB,aB,aB,aB]):=by
    have q:aa 2 (ae lD (aF (dV 1) aJ)) [aA x.t,aA (.lst (wd.map T.str)),aB,aB,aB,aB,aB,aB,aB,aB]=aA (.nx [aA x.t,aA (.lst (wd.map T.str)),aA (.lst ((aq wd hd).map ag)),aB,aB,aB,aB,aB,aB,aB]):=by simp_all?[ed]
    unfold oE;rw[q]
   refine aX tr ?_;refine aX (s':=[aA x.t,aA (.lst (wd.map T.str)),aA (.lst ((aq wd hd).map ag)),aA (.dct []),aB,aB,aB,aB,aB,aB]) (by simp_all?[]) ?_
   refine RS g hx _ _ λb E a4 a5 a6 a7 hb hall cle=>?_;obtain⟨hd',hd1⟩:∃ hd':Str->Bool,∀ x,hd' x=if fQ E x then !hd x else hd x:=⟨_,λ_=>rfl⟩
   refine aX (s':=[aA b.t,aA (.lst (wd.map T.str)),aA (.lst ((aq wd hd).map ag)),aA (.dct (bX E)),a4,a5,a6,a7,aA (.lst []),aB]) (by simp_all?[]) ?_
   refine iK (its:=(aq wd hd).map ag) (λj s=>∃ a4 a9:Option T,s=[aA b.t,aA (.lst (wd.map T.str)),aA (.lst ((aq wd hd).map ag)),aA (.dct (bX E)),a4,a5,a6,a7,aA (.lst (((aq wd hd').take j).map ag)),a9]) (by simp_all?[]<;>rfl) ⟨a4,aB,rfl⟩ ?_ ?_
   ·rintro j z s hz ⟨b4,b9,rfl⟩;obtain⟨nm,hnm,rfl⟩:=HM hz;have hnf:=jF hnm;obtain⟨bb,hbb⟩:=Ik (hall nm hnf);obtain⟨pi,pj,hpl⟩:=qr (g.two nm (mem_firsts.mp hnf));obtain⟨a,b',c,d,e1,e2⟩:=Kw pi pj (hd nm);have jl:j < (aL wd).length:=(j7.mp hnm).1;have tl:(((aq wd hd').take j).map ag).length<=1000000:=by rw[j5,Qd]; lia
    have nxt:(aq wd hd').take (j+1)=(aq wd hd').take j++[(nm,iy wd nm (hd' nm))]:=by
     refine su ?_;unfold aq;rw[jg,hnm]; rfl
    rw[qj hpl,e1];refine⟨[aA b.t,aA (.lst (wd.map T.str)),aA (.lst ((aq wd hd).map ag)),aA (.dct (bX E)),aA (.str nm),a5,a6,a7,aA (.lst (((aq wd hd').take j).map ag)),aA (.lst ([a,b',c,d].map nT))],rfl,?_⟩;have ll:∀ l:List T,i9 (.lst l)=aA (.lst l):=λ_=>rfl;have i0:aP (.lst ([a,b',c,d].map nT)) (.int 0)=aA (nT a):=rfl;have i1:aP (.lst ([a,b',c,d].map nT)) (.int 1)=aA (nT b'):=rfl;have i2:aP (.lst ([a,b',c,d].map nT)) (.int 2)=aA (nT c):=rfl;have i3:aP (.lst ([a,b',c,d].map nT)) (.int 3)=aA (nT d):=rfl;cases bb with
    |true=>
     have hh:hd' nm=!hd nm:=by rw[hd1,xR hbb]; rfl
     refine aX (s':=[aA b.t,aA (.lst (wd.map T.str)),aA (.lst ((aq wd hd).map ag)),aA (.dct (bX E)),aA (.str nm),a5,a6,a7,aA (.lst (((aq wd hd').take j).map ag)),aA (.lst ([a,d,c,b'].map nT))]) (by simp_all?[hbb,show (bI aC)=1 from rfl,i0,i1,i2,i3]<;>rfl) ?_
     refine cm (s':=[aA b.t,aA (.lst (wd.map T.str)),aA (.lst ((aq wd hd).map ag)),aA (.dct (bX E)),aA (.str nm),a5,a6,a7,aA (.lst (((aq wd hd').take (j+1)).map ag)),aA (.lst ([a,d,c,b'].map nT))]) ?_ ⟨_,_,rfl⟩;rw[nxt,hh,qj hpl,e2,jE]
     simp_all?[ll,rZ _ tl]
     rfl
    |false=>
     have hh:hd' nm=hd nm:=by rw[hd1,xR hbb]; rfl
     refine aX (s':=[aA b.t,aA (.lst (wd.map T.str)),aA (.lst ((aq wd hd).map ag)),aA (.dct (bX E)),aA (.str nm),a5,a6,a7,aA (.lst (((aq wd hd').take j).map ag)),aA (.lst ([a,b',c,d].map nT))]) (by simp_all?[hbb,show (bI aD)=0 from rfl]<;>rfl) ?_
     refine cm (s':=[aA b.t,aA (.lst (wd.map T.str)),aA (.lst ((aq wd hd).map ag)),aA (.dct (bX E)),aA (.str nm),a5,a6,a7,aA (.lst (((aq wd hd').take (j+1)).map ag)),aA (.lst ([a,b',c,d].map nT))]) ?_ ⟨_,_,rfl⟩;rw[nxt,hh,qj hpl,e1,jE]
     simp_all?[ll,rZ _ tl]
     rfl
   ·rintro s ⟨b4,b9,rfl⟩;have tk:(aq wd hd').take ((aq wd hd).map ag).length=aq wd hd':=by
     rw[j5];refine Q1 ?_;unfold aq;rw[j5,j5];exact ji _
    rw[tk]
    exact dA (by simp_all?[]<;>rfl) ⟨_,_,_,rfl,b,hb,rfl,hd',rfl,T6 hsd hd1 cle hall⟩)
  exact⟨y,hy,.inl ⟨hd',e,hsd'⟩⟩
 ·obtain⟨t,u,e,rfl,rfl⟩:=uw (n:=10) (d:=nc) (ts:=[x.t,.lst (wd.map T.str)]) (Q:=λt u=>t=.non/\u=x.t) (by
   show af nc [aA x.t,aA (.lst (wd.map T.str)),aB,aB,aB,aB,aB,aB,aB,aB] _;unfold nc;have tr:oE [0] 1 qx (aF (dV 1) aJ) (aa 2 (ae lD (aF (dV 1) aJ))) [aA x.t,aA (.lst (wd.map T.str)),aB,aB,aB,aB,aB,aB,aB,aB]=aA (.rt .non [aA x.t,aA (.lst (wd.map T.str)),aB,aB,aB,aB,aB,aB,aB,aB]):=by
    have q:aa 2 (ae lD (aF (dV 1) aJ)) [aA x.t,aA (.lst (wd.map T.str)),aB,aB,aB,aB,aB,aB,aB,aB]=aB:=by simp_all?[en]<;>rfl
    have q2:(aF (dV 1) aJ) [aA x.t,aA (.lst (wd.map T.str)),aB,aB,aB,aB,aB,aB,aB,aB]=aA ([.lst (wd.map T.str)],[aA x.t,aA (.lst (wd.map T.str)),aB,aB,aB,aB,aB,aB,aB,aB]):=by simp_all?[]
    unfold oE;rw[q,q2];dsimp only;rw[er];rfl
   exact qZ tr ⟨_,_,_,rfl,rfl,rfl⟩)
  exact⟨x,hx,.inr e⟩
def cg(pn:Nat->Nat)(k:Nat):T:=.tup [.int (pn (2*k):Nat),.int (pn (2*k+1):Nat)]
theorem Mv{xs:List T}{j:Nat}{z:T}(h:(iU xs)[j]?=aA z):∃ x,xs[j]?=aA x/\z=.tup [.int (j:Int),x]:=by
 unfold iU at h;rw[jg] at h;obtain⟨i,hi,rfl⟩:=Qm h;obtain⟨h1,h2⟩:=j7.mp hi;rw[ZU] at h2;subst h2;have hj:j < xs.length:=by simpa using h1
 exact⟨xs[j],j3 hj,by rw[jv,j3 hj]; rfl⟩
theorem PL(xs:List T):(iU xs).length=xs.length:=by unfold iU; simp
theorem SN{wd:List Str}(hl:wd.length<=60){Lc:T}{rows:List (List Nat)}(hr:rows.length<=122)(ep:qw [.lst (wd.map T.str),Lc]=aA (.lst (rows.map bp))){f pn:Nat->Nat}(P:Part (2*wd.length) f rows pn):og [.lst (wd.map T.str),Lc]=aA (.lst ((j6 wd.length).map (cg pn))):=by
 first |refine sJ ?_ |refine eY ?_
 show af vb [aA (.lst (wd.map T.str)),aA Lc,aB,aB,aB,aB] _;unfold vb;refine aX (s':=[aA (.lst (wd.map T.str)),aA Lc,aA (.dct []),aB,aB,aB]) (by simp_all?[]) ?_
 refine iK (its:=iU (rows.map bp)) (λj s=>∃(kvs:List (aK × T)) (a3 a4 a5:Option T),kvs.length<=200*j/\(∀ i,i < j->∀ r,rows[i]?=aA r->∀ w∈r,bQ kvs (.inl (w:Int))=aA (.int (i:Int)))/\s=[aA (.lst (wd.map T.str)),aA Lc,aA (.dct kvs),a3,a4,a5]) (by simp_all?[ep]) ⟨[],aB,aB,aB,QZ _,λi hi=>absurd hi (Z7 _),rfl⟩ ?_ ?_
 ·rintro j z s hz ⟨kvs,a3,a4,a5,hk,hw,rfl⟩;obtain⟨x,hx,rfl⟩:=Mv hz;rw[jg] at hx;obtain⟨r,hrj,rfl⟩:=Qm hx;have jl:=(j7.mp hrj).1;have rl:r.length<=120:=by
   have:=zJ r (j6 (2*wd.length)) (P.nd r (jF hrj)) λw hw=>jc.mpr (P.one j r w hrj hw).1;rw[QK] at this;lia
  refine⟨[aA (.lst (wd.map T.str)),aA Lc,aA (.dct kvs),aA (.int (j:Int)),aA (bp r),a5],rfl,?_⟩;refine FG (its:=r.map nT) (λm s=>∃(kv:List (aK × T)) (a5:Option T),kv.length<=200*j+m/\(∀ i,i < j->∀ r,rows[i]?=aA r->∀ w∈r,bQ kv (.inl (w:Int))=aA (.int (i:Int)))/\(∀ w∈r.take m,bQ kv (.inl (w:Int))=aA (.int (j:Int)))/\s=[aA (.lst (wd.map T.str)),aA Lc,aA (.dct kv),aA (.int (j:Int)),aA (bp r),a5]) (by unfold bp; simp_all?[]) ⟨kvs,a5,by lia,hw,λw hw=>by simp at hw,rfl⟩ ?_ ?_
  ·rintro m z s hz ⟨kv,b5,hkl,ho,hn,rfl⟩;rw[jg] at hz;obtain⟨w,hwm,rfl⟩:=Qm hz;have hwr:=jF hwm;have ml:=(j7.mp hwm).1;have ll:kv.length < jr:=lC (by lia)
   have pl:=DD kv (.inl (w:Int)) (.int (j:Int));have inj:∀ w':Nat,((.inl (w:Int):aK)=.inl (w':Int))->w=w':=λw' e=>by have:=gV e; lia
   refine⟨[aA (.lst (wd.map T.str)),aA Lc,aA (.dct kv),aA (.int (j:Int)),aA (bp r),aA (.int (w:Int))],rfl,?_⟩;refine cm (s':=[aA (.lst (wd.map T.str)),aA Lc,aA (.dct (cW kv (.inl (w:Int)) (.int (j:Int)))),aA (.int (j:Int)),aA (bp r),aA (.int (w:Int))]) (by simp_all?[ll,cq]) ⟨_,_,by lia,λi hi r' hr' w' hw'=>?_,λw' hw'=>?_,rfl⟩
   ·rw[sT,aH λe=>?_]
    ·exact ho i hi r' hr' w' hw'
    ·have:=inj w' e;subst this;have:=(P.one i r' w hr' hw').2;have:=(P.one j r w hrj hwr).2;lia
   ·rw[sT]
    by_cases e:w=w'
    ·rw[aI (by rw[e])]
    ·rw[aH λz=>e (inj w' z)];rw[su hwm] at hw';rcases jt.mp hw' with q |q
     ·exact hn w' q
     ·exact absurd (je.mp q).symm e
  ·rintro s ⟨kv,b5,hkl,ho,hn,rfl⟩;rw[j5] at hkl hn;rw[Qy] at hn;refine⟨kv,_,_,_,by lia,λi hi r' hr' w hw=>?_,rfl⟩
   by_cases e:i=j
   ·subst e;rw[hrj] at hr';obtain rfl:=jh hr';exact hn w hw
   ·exact ho i (by lia) r' hr' w hw
 ·rintro s ⟨kvs,a3,a4,a5,hk,hw,rfl⟩;rw[PL,j5] at hw;have look:∀ w,w < 2*wd.length->bQ kvs (.inl (w:Int))=aA (.int (pn w:Nat)):=λw hwl=>by
   obtain⟨r,hr',hwr⟩:=P.at_ w hwl;exact hw _ (j7.mp hr').1 r hr' w hwr
  have e:=iW (M:=[2]) (caps:=[aB,aA 2]) (fi:=fS (aF (d1 bS (dV 0)) aJ)) (dg:=au 0) (fe:=du (aF (bh aP 1 (d2 cv (dC (.int 2)) (dV 0))) (aF (bh aP 1 (d2 bK (d2 cv (dC (.int 2)) (dV 0)) (dC (.int 1)))) aJ))) (s:=[aA (.lst (wd.map T.str)),aA Lc,aA (.dct kvs),a3,a4,a5]) (j6 wd.length) nT (cg pn) (by simp_all?[wQ (k:=wd.length) (by lia),Q8,qi]) (by simp; lia) (by
   intro k hk;have hk:=jc.mp hk;have e1:bQ kvs (.inl (2*(k:Int)))=aA (.int (pn (2*k):Nat)):=by rw[show (2*(k:Int))=((2*k:Nat):Int) by lia]; exact look _ (by lia)
   have e2:bQ kvs (.inl (2*(k:Int)+1))=aA (.int (pn (2*k+1):Nat)):=by rw[show (2*(k:Int)+1)=((2*k+1:Nat):Int) by lia]; exact look _ (by lia)
   exact⟨[aA (.int (k:Int)),aA (.dct kvs)],rfl,by simp_all?[e1,e2]<;>rfl,rfl⟩)
  exact dA (by simp_all?[e]<;>rfl) ⟨_,rfl⟩
theorem xS{b nm:Nat->Nat}(k:Nat):Dd b nm (0:F2) (λ_=>0) k=0:=by
 rw[wy,nV (λk _=>by split<;>rfl)]
 rfl
theorem KW{a b nm:Nat->Nat}(l0:F2):∀ k,La a b nm l0 0 (λ_=>0) k=l0:=λk=>by
 induction k with
 |zero=>rfl
 |succ k ih=>
  show La a b nm l0 0 (λ_=>0) k+Cc a b nm 0 (λ_=>0) k=l0;rw[ih];unfold Cc;rw[xS,xS];split<;>(generalize l0=z; revert z; decide)
theorem GX{wd:List Str}(g:∀ x∈wd,wd.count x=2){hd:Str->Bool}{G:Nat->F2}(hG:∀ w,w < 2*wd.length->G (fw wd hd w)=G w)(h2:∀ k,k < wd.length->G (2*k)=G (2*k+1)):∃ z,∀ w,w < 2*wd.length->G w=z:=by
 have hl:=lb g;have C:=(qJ g).cd (hN wd hd);have cor:=CG C (uJ g hd) (G:=G) λw hw=>hG w (by lia)
 have dz:∀ k,k < 2*(aL wd).length->dG G k=0:=λk hk=>by
  unfold dG;rw[h2 k (by lia)]
  generalize G (2*k+1)=z
  revert z
  decide
 refine⟨lH (aL wd).length G,λw hw=>?_⟩;have pv:∀ {k:Nat},k < 2*(aL wd).length->bT (aL wd).length k < 2*(aL wd).length:=λh=>uM h;have xz:∀ v,v < (aL wd).length->xG (aL wd).length (aO (iN wd) (jN wd) (hN wd hd)) G v=0:=λv hv=>by
  have ha:=C.alt v hv;unfold xG;rw[dz _ ha,dz _ (pv ha)];rfl
 rw[we C cor w (by lia),dz _ (pv (by lia)),Cz C xz (by lia)]
 unfold Gg;rw[KW,xS];split
 ·rfl
 ·generalize lH _ _=z
  revert z
  decide
theorem yb{wd:List Str}(g:∀ x∈wd,wd.count x=2){hd:Str->Bool}{rows:List (List Nat)}(h:Pt wd hd rows)(hs:SidesOk (aL wd) (bH wd) (cU wd hd)):rows.length=(aL wd).length+2:=by
 have hl:=lb g;rcases h with ⟨rfl,rfl⟩ |⟨hne,L,hT,hR⟩
 ·rfl
 ·have hp:=sK g hd;have e4:2*wd.length=4*(aL wd).length:=by lia
  have hn:0 < (aL wd).length:=by have:=Qw.mpr hne; lia
  rw[e4] at hp hT;obtain⟨r,hc⟩:=CD hp hT;have C:=(qJ g).cd (hN wd hd);have W:=uJ g hd;have h1:=(EG (M:=2) C W hn hc).1;have h2:=SK (M:=2) C W hp hn hc ((So g hd).mpr hs);rw[hR.len];exact Nat.pow_right_inj (a:=2) (by lia) |>.mp (ND h1 h2)
def Si(b nm:Nat->Nat):Nat->Int
 |0=>0
 |k+1=>Si b nm k+if k=b (nm k) then 1 else -1
def Hw(b nm:Nat->Nat)(w:Nat):Int:=if w%2=0 then Si b nm (w / 2+1) else Si b nm (w / 2+1) - 1
theorem D3(b nm:Nat->Nat)(k:Nat):Si b nm (k+1)=Si b nm k+if k=b (nm k) then 1 else -1:=rfl
theorem KY(b nm:Nat->Nat):∀ k:Nat,-(k:Int)<=Si b nm k/\Si b nm k<=k:=λk=>by
 induction k with
 |zero=>exact⟨Int.le_refl _,Int.le_refl _⟩
 |succ k ih=>
  rw[D3];split<;>lia
theorem KU(b nm:Nat->Nat)(w:Nat):-((w / 2:Nat):Int) - 2<=Hw b nm w/\Hw b nm w<=((w / 2:Nat):Int)+1:=by
 have:=KY b nm (w / 2+1);unfold Hw;split<;>lia
abbrev FK:=Fin 1000
def cF(z:Int):FK:=⟨(z%1000).toNat,by lia⟩
theorem L8{x y:Int}(h:cF x=cF y)(hx:-100<=x/\x<=100)(hy:-100<=y/\y<=100):x=y:=by
 have:=congrArg Fin.val h;unfold cF at this;have:(x%1000).toNat=(y%1000).toNat:=this;lia
theorem LA(z:Int):cF (z+1)=cF z+1:=by
 refine Jr ?_;rw[Fin.val_add];show ((z+1)%1000).toNat=((z%1000).toNat+1)%1000;lia
theorem L9(z:Int):cF (z+-1)=cF z+-1:=by
 refine Jr ?_;rw[Fin.val_add];show ((z+-1)%1000).toNat=((z%1000).toNat+999)%1000;lia
theorem LB(z:Int):cF (z - 1)=cF z - 1:=by
 refine Jr ?_;rw[Fin.sub_def];show ((z - 1)%1000).toNat=((1000 - 1)+(z%1000).toNat)%1000;lia
theorem VU{M:Nat}[NeZero M]{l:List Nat}{h:Nat->Fin M}(e:∀ k∈l,h k=0):sm l h=0:=by
 rw[eO (h':=λ_=>0) e]; exact yJ l
theorem Az{b nm:Nat->Nat}(k:Nat):Dd b nm (1:FK) (λ_=>0) k=1:=by
 rw[wy,VU (λk _=>by split<;>rfl)]
 rfl
theorem Vf{a b nm:Nat->Nat}:∀ k,La a b nm (0:FK) 1 (λ_=>0) k=cF (Si b nm k):=λk=>by
 induction k with
 |zero=>rfl
 |succ k ih=>
  show La a b nm (0:FK) 1 (λ_=>0) k+Cc a b nm 1 (λ_=>0) k=_;rw[ih];unfold Cc;rw[Az,Az,D3]
  by_cases q:k=b (nm k)
  ·rw[aI q,aI q,LA]
  ·rw[aH q,aH q,L9]
theorem Fy{a b nm:Nat->Nat}(w:Nat):Gg a b nm (0:FK) 1 (λ_=>0) w=cF (Hw b nm w):=by
 unfold Gg Hw;rw[Vf,Az]
 by_cases q:w%2=0
 ·rw[aI q,aI q]
 ·rw[aH q,aH q,LB]
def hW(wd:List Str)(hd:Str->Bool):Nat->Int:=Hw (bO (iN wd) (jN wd) (hN wd hd)) (nv wd)
theorem CM(wd:List Str)(hd:Str->Bool)(k:Nat):hW wd hd (2*k)=hW wd hd (2*k+1)+1:=by
 unfold hW Hw;rw[aI (by lia),aH (by lia),show (2*k+1) / 2=2*k / 2 by lia]
 lia
theorem CL{wd:List Str}(hd:Str->Bool)(hl:wd.length<=60){w:Nat}(hw:w < 2*wd.length):-100<=hW wd hd w/\hW wd hd w<=100:=by
 have:=KU (bO (iN wd) (jN wd) (hN wd hd)) (nv wd) w;unfold hW;lia
theorem MK{wd:List Str}(g:∀ x∈wd,wd.count x=2){hd:Str->Bool}{rows:List (List Nat)}(h:Pt wd hd rows)(hs:SidesOk (aL wd) (bH wd) (cU wd hd))(hne:wd≠[]):∀(l0 d0:FK) (x:Nat->FK),lI (aL wd).length (aO (iN wd) (jN wd) (hN wd hd)) (bO (iN wd) (jN wd) (hN wd hd)) (nv wd) l0 d0 x:=by
 have hl:=lb g;have hr:=yb g h hs;rcases h with ⟨e,_⟩ |⟨hne,L,hT,hR⟩
 ·exact absurd e hne
 ·have hp:=sK g hd;have e4:2*wd.length=4*(aL wd).length:=by lia
  have hn:0 < (aL wd).length:=by have:=Qw.mpr hne; lia
  rw[e4] at hp hT;obtain⟨r,hc⟩:=CD hp hT;rw[hR.len] at hr;rw[hr] at hc;exact(EG ((qJ g).cd (hN wd hd)) (uJ g hd) hn hc).2 rfl
theorem Kg{wd:List Str}(g:∀ x∈wd,wd.count x=2)(h60:wd.length<=60){hd:Str->Bool}{rows:List (List Nat)}(h:Pt wd hd rows)(hs:SidesOk (aL wd) (bH wd) (cU wd hd)){t w w':Nat}(ht:t < 2*wd.length)(h1:bV (fw wd hd) t w)(h2:bV (fw wd hd) t w')(hw:w < 2*wd.length)(hw':w' < 2*wd.length):hW wd hd w=hW wd hd w':=by
 have hl:=lb g;have C:=(qJ g).cd (hN wd hd);have hne:wd≠[]:=λe=>by rw[e] at ht; exact absurd ht (Z7 _)
 have cor:=CF C (MK g h hs hne 0 1 λ_=>0);have inv:=CQ C (uJ g hd) cor;have hp:=sK g hd;rw[show 2*wd.length=4*(aL wd).length by lia] at hp ht
 have e:=(uc hp inv ht h1).trans (uc hp inv ht h2).symm;rw[Fy,Fy] at e;exact L8 e (CL hd h60 hw) (CL hd h60 hw')
theorem IB{wd:List Str}(g:∀ x∈wd,wd.count x=2)(h60:wd.length<=60){hd:Str->Bool}{rows:List (List Nat)}(h:Pt wd hd rows)(hs:SidesOk (aL wd) (bH wd) (cU wd hd)){pn:Nat->Nat}(P:Part (2*wd.length) (fw wd hd) rows pn):∃ hv:Nat->Int,∀ w,w < 2*wd.length->hv (pn w)=hW wd hd w - hW wd hd 0:=by
 classical
 refine⟨λp=>if e:∃ w,w < 2*wd.length/\pn w=p then hW wd hd (QC e) - hW wd hd 0 else 0,λw hw=>?_⟩
 have e:∃ w',w' < 2*wd.length/\pn w'=pn w:=⟨w,hw,rfl⟩;show (if e:∃ w',w' < 2*wd.length/\pn w'=pn w then hW wd hd (QC e) - hW wd hd 0 else 0)=_
 rw[dif_pos e];obtain⟨h1,h2⟩:=Zu e;generalize QC e=w' at h1 h2 ⊢;obtain⟨r,hr,m⟩:=P.at_ w hw;obtain⟨r',hr',m'⟩:=P.at_ w' h1;rw[h2,hr] at hr';obtain rfl:=jh hr';obtain⟨t,ht,o1,o2⟩:=P.orb r (jF hr) _ m' _ m;rw[Kg g h60 h hs ht o1 o2 h1 hw]
theorem LG{wd:List Str}(g:∀ x∈wd,wd.count x=2){hd:Str->Bool}{rows:List (List Nat)}{pn:Nat->Nat}(h:Pt wd hd rows)(P:Part (2*wd.length) (fw wd hd) rows pn)(S:Nat->Bool)(h2:∀ k,k < wd.length->S (pn (2*k))=S (pn (2*k+1)))(h0:S (pn 0)=aC):∀ w,w < 2*wd.length->S (pn w)=aC:=by
 have stay:∀ w,w < 2*wd.length->pn (fw wd hd w)=pn w:=λw hw=>by
  rcases h with ⟨e,_⟩ |⟨_,L,hT,hR⟩
  ·rw[e] at hw; exact absurd hw (Z7 _)
  ·obtain⟨r,hr,m⟩:=P.at_ w hw;have hi:pn w < L.length:=by rw[<-hR.len]; exact(j7.mp hr).1
   obtain⟨k,e,_,_,hk⟩:=hR.row _ _ _ (j3 hi) hr;refine(P.one (pn w) r _ hr ?_).2;rw[e] at m ⊢;obtain⟨j,_,ej⟩:=jx.mp m;have:=zA hk (j+1);rw[show aw (fw wd hd) (j+1) L[pn w]=fw wd hd w from congrArg (fw wd hd) ej] at this;exact this
 obtain⟨z,hz⟩:=GX g (hd:=hd) (G:=λw=>bF (S (pn w))) (λw hw=>by rw[stay w hw]) (λk hk=>by rw[h2 k hk])
 intro w hw;have e:=(hz w hw).trans (hz 0 (by lia)).symm
 rw[L5 e,h0]
def bN(hv:Nat->Int)(L:List Nat):List (aK × T):=L.map fun(p:Nat)=>(gU (p:Int),T.int (hv p))
theorem uZ(hv:Nat->Int)(L:List Nat)(p:Nat):bQ (bN hv L) (.inl (p:Int))=if p∈L then aA (.int (hv p)) else aB:=by
 unfold bN;rw[oT]
 by_cases h:p∈L
 ·rw[aI h];have:(L.find? fun(x:Nat)=>aE ((gU (x:Int):aK)=.inl (p:Int))).isSome:=YV.mpr ⟨p,h,am rfl⟩;obtain⟨y,hy⟩:=ZD.mp this;have e:=Jt hy;have e:(y:Int)=(p:Int):=gV (of_decide_eq_true e);rw[hy,show y=p by lia]; rfl
 ·rw[aH h,Wy.mpr]
  ·rfl
  ·intro x hx e;have e:(x:Int)=(p:Int):=gV (of_decide_eq_true e);exact h (by rw[<-show x=p by lia]; exact hx)
theorem CN(hv:Nat->Int)(L:List Nat)(p:Nat):cW (bN hv L) (.inl (p:Int)) (.int (hv p))=bN hv (if p∈L then L else L++[p]):=by
 by_cases h:p∈L
 ·rw[aI h];unfold cW bN;rw[aI]
  ·rw[jU];refine QJ λx hx=>?_;show (if (gU (x:Int):aK)=.inl (p:Int) then ((gU (x:Int):aK),T.int (hv p)) else (gU (x:Int),T.int (hv x)))=_
   split
   ·next e=>rw[show x=p by have:=gV e; lia]
   ·rfl
  ·exact Y7.mpr ⟨(gU (p:Int),T.int (hv p)),jx.mpr ⟨p,h,rfl⟩,am rfl⟩
 ·rw[aH h,sP]
  ·unfold bN; rw[jE]; rfl
  ·unfold bN;rw[jU];intro hm;obtain⟨x,hx,e⟩:=jx.mp hm;exact h (by rw[<-show x=p by have:=gV e; lia]; exact hx)
def Ai:Sg->Nat
 |[_,aA (.dct kvs),aA (.lst w),_,_]=>if w.isEmpty then 0 else 33 - kvs.length
 |_=>0
structure Ht (R:Nat) (L:List Nat):Prop where
 nd:L.Nodup
 lt:∀ p∈L,p < R
theorem Ht.len{R:Nat}{L:List Nat}(h:Ht R L):L.length<=R:=by
 have:=zJ L (j6 R) h.nd λx hx=>jc.mpr (h.lt x hx);rw[QK] at this; exact this
theorem Ht.put{R:Nat}{L:List Nat}(h:Ht R L){p:Nat}(hp:p < R):Ht R (if p∈L then L else L++[p]):=by
 by_cases q:p∈L
 ·rw[aI q]; exact h
 ·rw[aH q];refine⟨jP.mpr ⟨h.nd,by simp,λa ha b hb=>?_⟩,λx hx=>?_⟩
  ·rw[je.mp hb]; exact λe=>q (e▸ha)
  ·rcases jt.mp hx with hx |hx
   ·exact h.lt x hx
   ·rw[je.mp hx]; exact hp
structure Tr (pn:Nat->Nat) (L L':List Nat) (js:List Nat):Prop where
 sub:∀ p∈L,p∈L'
 or_:L.length < L'.length∨(L'=L/\∀ k∈js,(pn (2*k)∈L↔pn (2*k+1)∈L))
theorem Tr.put{pn:Nat->Nat}{L L' js:List Nat}(h:Tr pn L L' js){p k:Nat}(hs:p∈L'->(pn (2*k)∈L'/\pn (2*k+1)∈L')):Tr pn L (if p∈L' then L' else L'++[p]) (js++[k]):=by
 by_cases q:p∈L'
 ·rw[aI q];refine⟨h.sub,h.or_.imp id fun⟨e,hh⟩=>⟨e,λj hj=>?_⟩⟩;rcases jt.mp hj with hj |hj
  ·exact hh j hj
  ·rw[je.mp hj,<-e];exact⟨λ_=>(hs q).2,λ_=>(hs q).1⟩
 ·rw[aH q];refine⟨λx hx=>jj _ (h.sub x hx),.inl ?_⟩;rw[jn];rcases h.or_ with z |⟨e,_⟩
  ·exact Nat.lt_add_right _ z
  ·rw[e]; exact Zn _
theorem Tr.no{pn:Nat->Nat}{L L' js:List Nat}(h:Tr pn L L' js){k:Nat}(h1:pn (2*k)∉L')(h2:pn (2*k+1)∉L'):Tr pn L L' (js++[k]):=
 ⟨h.sub,h.or_.imp id fun⟨e,hh⟩=>⟨e,λj hj=>by
  rcases jt.mp hj with hj |hj
  ·exact hh j hj
  ·rw[je.mp hj,<-e]
   exact⟨λz=>absurd z h1,λz=>absurd z h2⟩⟩⟩
theorem Fb{N:Nat}(hN:0 < N)(h60:N<=60){pn:Nat->Nat}{R:Nat}(hR:R<=32)(lt:∀ w,w < 2*N->pn w < R){hv:Nat->Int}(h0:hv (pn 0)=0)(hs:∀ k,k < N->hv (pn (2*k))=hv (pn (2*k+1))+1)(cn:∀ S:Nat->Bool,(∀ k,k < N->S (pn (2*k))=S (pn (2*k+1)))->S (pn 0)=aC->∀ w,w < 2*N->S (pn w)=aC) :
  ∃ L:List Nat,Ht R L/\(∀ w,w < 2*N->pn w∈L)/\wN [.lst ((j6 N).map (cg pn))]=aA (.fd (bN hv L)):=by
 have hInA:∀(x:Int) (kvs:List (aK × T)),iS (.int x) (.dct kvs)=aA (.bl (bQ kvs (.inl x)).isSome):=λ_ _=>rfl;have hNotA:∀(x:Int) (kvs:List (aK × T)),dZ (.int x) (.dct kvs)=aA (.bl (!(bQ kvs (.inl x)).isSome)):=λ_ _=>rfl;have some_in:∀(L:List Nat) (p:Nat),(bQ (bN hv L) (.inl (p:Int))).isSome=aE (p∈L):=λL p=>by
  rw[uZ]; by_cases h:p∈L
  ·rw[aI h,am h]; rfl
  ·rw[aH h,av h]; rfl
 generalize hA:T.lst ((j6 N).map (cg pn))=A
 obtain⟨t,e,L,hL,hall,rfl⟩:=iJ (n:=5) (d:=tF) (ts:=[A]) (Q:=λt=>∃ L:List Nat,Ht R L/\(∀ w,w < 2*N->pn w∈L)/\t=.fd (bN hv L)) (by
  show af tF [aA A,aB,aB,aB,aB] _;unfold tF;have i0:aP A (.int 0)=aA (cg pn 0):=by
   rw[<-hA,show (0:Int)=((0:Nat):Int) from rfl,lW,jg,Zh hN]; rfl
  have i1:aP (cg pn 0) (.int 0)=aA (.int (pn 0:Nat)):=rfl;have d0:bN hv [pn 0]=[(.inl (pn 0:Int),.int 0)]:=by unfold bN; rw[jq,h0]; rfl
  refine aX (s':=[aA A,aA (.dct (bN hv [pn 0])),aB,aB,aB]) (by rw[d0]; simp_all?[i0,i1,cq]<;>rfl) ?_
  refine aX (s':=[aA A,aA (.dct (bN hv [pn 0])),aA A,aB,aB]) (by simp_all?[]) ?_
  have hl1:Ht R [pn 0]:=⟨by simp,λp hp=>by rw[je.mp hp]; exact lt 0 (by lia)⟩
  refine ql (λs=>∃(L ks:List Nat) (a3 a4:Option T),Ht R L/\pn 0∈L/\(∀ k∈ks,k < N)/\(∀ k,k < N->k∉ks->pn (2*k)∈L/\pn (2*k+1)∈L)/\ks.length<=60/\s=[aA A,aA (.dct (bN hv L)),aA (.lst (ks.map (cg pn))),a3,a4]) Ai ?_ ⟨[pn 0],j6 N,aB,aB,hl1,by simp,λk hk=>jc.mp hk,λk hk hn=>absurd (jc.mpr hk) hn,by simpa using h60,by rw[hA]⟩ ?_ ?_
  ·show Ai [aA A,aA (.dct (bN hv [pn 0])),aA A,aB,aB] < 100;rw[<-hA];unfold Ai;show (if _ then 0 else 33 - _) < 100
   split
   ·decide
   ·exact gL (Nat.sub_le _ _) (by decide)
  ·rintro s ⟨L,ks,a3,a4,hL,hp0,hk,hout,hkl,rfl⟩
   by_cases hz:ks=[]
   ·subst hz;exact⟨aD,_,by simp_all?[]<;>rfl,trivial⟩
   have hne:(ks.map (cg pn)).isEmpty=aD:=by cases ks<;>simp at hz ⊢
   refine⟨aC,[aA A,aA (.dct (bN hv L)),aA (.lst (ks.map (cg pn))),a3,a4],by simp_all?[hne]<;>rfl,?_⟩
   rw[aI rfl];refine iK (its:=ks.map (cg pn)) (λj s=>∃(L':List Nat) (a3 a4:Option T),Ht R L'/\Tr pn L L' (ks.take j)/\s=[aA A,aA (.dct (bN hv L')),aA (.lst (ks.map (cg pn))),a3,a4]) (by simp_all?[]) ⟨L,a3,a4,hL,⟨λ_ h=>h,.inr ⟨rfl,λk hk=>by simp at hk⟩⟩,rfl⟩ ?_ ?_
   ·rintro j z s hz ⟨L',b3,b4,hL',tr,rfl⟩;rw[jg] at hz;obtain⟨k,hkj,rfl⟩:=Qm hz;have kN:=hk k (jF hkj);have tk:=su hkj;have hsk:=hs k kN;have lp:=lt (2*k) (by lia)
    have lq:=lt (2*k+1) (by lia)
    have hS:(bN hv L').length < jr:=lC (by unfold bN; rw[j5]; have:=hL'.len; lia)
    refine⟨[aA A,aA (.dct (bN hv L')),aA (.lst (ks.map (cg pn))),aA (.int (pn (2*k):Nat)),aA (.int (pn (2*k+1):Nat))],rfl,?_⟩;rw[tk];generalize hp:pn (2*k)=p at *;generalize hq:pn (2*k+1)=q at *;have lkp:=uZ hv L' p;have lkq:=uZ hv L' q
    by_cases c1:p∈L'
    ·rw[aI c1] at lkp;refine cm (s':=[aA A,aA (.dct (bN hv (if q∈L' then L' else L'++[q]))),aA (.lst (ks.map (cg pn))),aA (.int (p:Nat)),aA (.int (q:Nat))]) ?_ ⟨_,_,_,hL'.put lq,tr.put (λz=>by rw[hp,hq]; exact⟨c1,z⟩),rfl⟩
     have pt:=CN hv L' q;rw[show hv q=hv p - 1 by lia] at pt
     simp_all?[hInA,some_in,am c1,lkp,hS,cq,pt]<;>rfl
    ·by_cases c2:q∈L'
     ·rw[aI c2] at lkq;refine cm (s':=[aA A,aA (.dct (bN hv (if p∈L' then L' else L'++[p]))),aA (.lst (ks.map (cg pn))),aA (.int (p:Nat)),aA (.int (q:Nat))]) ?_ ⟨_,_,_,hL'.put lp,tr.put (λz=>absurd z c1),rfl⟩
      have pt:=CN hv L' p;rw[hsk] at pt
      simp_all?[hInA,some_in,av c1,am c2,lkq,hS,cq,pt]<;>rfl
     ·refine cm (s':=[aA A,aA (.dct (bN hv L')),aA (.lst (ks.map (cg pn))),aA (.int (p:Nat)),aA (.int (q:Nat))]) ?_ ⟨_,_,_,hL',tr.no (by rw[hp]; exact c1) (by rw[hq]; exact c2),rfl⟩
      simp_all?[hInA,some_in,av c1,av c2]
   ·rintro s ⟨L',b3,b4,hL',tr,rfl⟩;rw[j5,Qy] at tr
    have lc:=nM (M:=[1]) (caps:=[aB,aB,aA 1]) (fi:=bJ (dV 2)) (dg:=eg [0,1]) (ft:=ot (dB (d2 dZ (dV 0) (dV 2))) (dB (d2 dZ (dV 1) (dV 2)))) (fe:=du (aF (dV 0) (aF (dV 1) aJ))) (s:=[aA A,aA (.dct (bN hv L')),aA (.lst (ks.map (cg pn))),b3,b4]) ks (cg pn) (λk=>!aE (pn (2*k)∈L')||!aE (pn (2*k+1)∈L')) (cg pn) (by simp_all?[]) (by lia) (by
     intro k hk;refine⟨[aA (.int (pn (2*k):Nat)),aA (.int (pn (2*k+1):Nat)),aA (.dct (bN hv L'))],rfl,?_,λ_=>by simp_all?[]<;>rfl,rfl⟩
     by_cases c1:pn (2*k)∈L'
     ·simp_all?[hNotA,some_in,am c1]<;>rfl
     ·simp_all?[hNotA,some_in,av c1]<;>rfl)
    refine cm (s':=[aA A,aA (.dct (bN hv L')),aA (.lst ((ks.filter λk=>!aE (pn (2*k)∈L')||!aE (pn (2*k+1)∈L')).map (cg pn))),b3,b4]) (by simp_all?[lc]) ⟨⟨L',_,b3,b4,hL',tr.sub _ hp0,λk hk'=>hk k (jQ.mp hk').1,λk kN hn=>?_,Q9 (Zr _ _) hkl,rfl⟩,?_⟩
    ·by_cases m:k∈ks
     ·have:¬ (!aE (pn (2*k)∈L')||!aE (pn (2*k+1)∈L'))=aC:=λz=>hn (jQ.mpr ⟨m,z⟩)
      by_cases c1:pn (2*k)∈L'<;>by_cases c2:pn (2*k+1)∈L'<;>simp[c1,c2] at this ⊢
     ·obtain⟨h1,h2⟩:=hout k kN m;exact⟨tr.sub _ h1,tr.sub _ h2⟩
    ·have l1:=hL.len;have l2:=hL'.len;have e1:(bN hv L).length=L.length:=by unfold bN; rw[j5]
     have e2:(bN hv L').length=L'.length:=by unfold bN; rw[j5]
     show (if U5 _=aC then 0 else 33 - (bN hv L').length) < if U5 _=aC then 0 else 33 - (bN hv L).length
     rw[aH (c:=(ks.map (cg pn)).isEmpty=aC) (by rw[hne]; decide),e1,e2]
     rcases tr.or_ with z |⟨e,hh⟩
     ·split<;>lia
     ·have all:=cn (λp=>aE (p∈L)) (λk kN=>by
       by_cases m:k∈ks
       ·exact decide_eq_decide.mpr (hh k m)
       ·obtain⟨h1,h2⟩:=hout k kN m
        rw[am h1,am h2]) (am hp0)
      rw[aI]
      ·lia
      ·rw[List.isEmpty_iff,List.map_eq_nil_iff,QX];intro k hk';have kN:=hk k hk';have a1:=of_decide_eq_true (all (2*k) (by lia))
       have a2:=of_decide_eq_true (all (2*k+1) (by lia))
       rw[e];simp[a1,a2]
  ·rintro s s1 ⟨L,ks,a3,a4,hL,hp0,hk,hout,hkl,rfl⟩ hf
   by_cases hz:ks=[]
   ·subst hz;have e:fJ (dV 2) [aA A,aA (.dct (bN hv L)),aA (.lst (([]:List Nat).map (cg pn))),a3,a4]=aA (aD,[aA A,aA (.dct (bN hv L)),aA (.lst (([]:List Nat).map (cg pn))),a3,a4]):=by simp_all?[]<;>rfl
    obtain rfl:=(Ud (jh (e.symm.trans hf))).2;refine dA (r:=.rt (.fd (bN hv L)) [aA A,aA (.fd (bN hv L)),aA (.lst (([]:List Nat).map (cg pn))),a3,a4]) (by simp_all?[]<;>rfl) ⟨_,_,rfl,L,hL,λw hw=>?_,rfl⟩
    obtain⟨h1,h2⟩:=hout (w / 2) (by lia) (by simp)
    rcases Q2 w with q |q
    ·rw[show 2*(w / 2)=w by lia] at h1; exact h1
    ·rw[show 2*(w / 2)+1=w by lia] at h2; exact h2
   ·have hne:(ks.map (cg pn)).isEmpty=aD:=by cases ks<;>simp at hz ⊢
    have e:fJ (dV 2) [aA A,aA (.dct (bN hv L)),aA (.lst (ks.map (cg pn))),a3,a4]=aA (aC,[aA A,aA (.dct (bN hv L)),aA (.lst (ks.map (cg pn))),a3,a4]):=by simp_all?[hne]<;>rfl
    cases (Ud (jh (e.symm.trans hf))).1)
 exact⟨L,hL,hall,e⟩
theorem Pt.row{wd:List Str}{hd:Str->Bool}{rows:List (List Nat)}(h:Pt wd hd rows)(hne:wd≠[]){pn:Nat->Nat}(P:Part (2*wd.length) (fw wd hd) rows pn){p:Nat}(hp:p < rows.length):∃ w,w < 2*wd.length/\pn w=p:=by
 rcases h with ⟨e,_⟩ |⟨_,L,hT,hR⟩
 ·exact absurd e hne
 ·have hi:p < L.length:=by rw[<-hR.len]; exact hp
  obtain⟨k,e,hk,_⟩:=hR.row p _ _ (j3 hi) (j3 hp);have m:L[p]∈rows[p]:=by
   rw[e]; exact jx.mpr ⟨0,jc.mpr hk,rfl⟩
  exact⟨_,P.one p _ _ (j3 hp) m⟩
theorem Pt.first{wd:List Str}{hd:Str->Bool}{rows:List (List Nat)}(h:Pt wd hd rows)(hne:wd≠[]){pn:Nat->Nat}(P:Part (2*wd.length) (fw wd hd) rows pn):pn 0=0:=by
 rcases h with ⟨e,_⟩ |⟨_,L,hT,hR⟩
 ·exact absurd e hne
 ·have hl:=Qw.mpr hne;obtain⟨t,ht,h0,_⟩:=hR.le 0 (by lia)
  obtain⟨i,hi,e⟩:=QF ht;have i0:i=0:=by
   rcases Nat.eq_zero_or_pos i with q |q
   ·exact q
   ·have:=(gx.mp hR.srt) 0 i (by lia) hi q
    lia
  subst i0;have hp:0 < rows.length:=by rw[hR.len]; exact hi
  obtain⟨k,e',hk,_⟩:=hR.row 0 _ _ (j3 hi) (j3 hp);refine(P.one 0 _ 0 (j3 hp) ?_).2;rw[e',e,show t=0 by lia]
  exact jx.mpr ⟨0,jc.mpr hk,rfl⟩
def Ak:DE:=rA (fJ (dV 0)) (ae og (aF (dV 0) (aF (dV 1) aJ))) (bz (aF (du (aF (dC (.int 0)) (aF (dC (.int 1)) aJ))) aJ))
theorem F3{W Lc A:T}{hv:Nat->Int}{L:List Nat}{R:Nat}(hR:R<=32)(hL:Ht R L)(all:∀ p,p < R->p∈L)(eh:∀ o:T,Ak [aA W,aA Lc,aA o,aB,aB]=aA (A,[aA W,aA Lc,aA o,aB,aB]))(ea:wN [A]=aA (.fd (bN hv L))){o:Nat}(ho:o < R):qv [W,Lc,.int (o:Nat)]=aA (.lst ((j6 R).map λp=>.int (hv p - hv o))):=by
 have ll:L.length=R:=ND hL.len (by
  have:=zJ (j6 R) L ZR λx hx=>all x (jc.mp hx)
  rw[QK] at this; exact this)
 refine eY ?_;show af vd [aA W,aA Lc,aA (.int (o:Nat)),aB,aB] _;unfold vd;have eh:=eh (.int (o:Nat));refine aX (s':=[aA W,aA Lc,aA (.int (o:Nat)),aA A,aB]) (by show aa 3 Ak _=_; rw[C8,eh]; rfl) ?_
 refine aX (s':=[aA W,aA Lc,aA (.int (o:Nat)),aA A,aA (.fd (bN hv L))]) (by simp_all?[ea]) ?_
 have hd:(bN hv L).length=R:=by unfold bN; rw[j5,ll]
 have it:∀ p,p < R->aP (.fd (bN hv L)) (.int (p:Int))=aA (.int (hv p)):=λp hp=>by
  show bQ (bN hv L) (.inl (p:Int))=_;rw[uZ,aI (all p hp)]
 have lc:=iW (M:=[]) (caps:=[aB,aA 4,aA 2]) (fi:=fS (aF (d1 bS (dV 4)) aJ)) (dg:=au 0) (fe:=d2 ln (d2 aP (dV 1) (dV 0)) (d2 aP (dV 1) (dV 2))) (s:=[aA W,aA Lc,aA (.int (o:Nat)),aA A,aA (.fd (bN hv L))]) (j6 R) nT (λp=>.int (hv p - hv o)) (by simp_all?[K4,hd,wQ (k:=R) (by lia),Q8,qi]) (by simp; lia) (by
  intro p hp
  exact⟨[aA (.int (p:Int)),aA (.fd (bN hv L)),aA (.int (o:Nat))],rfl,by simp_all?[it p (jc.mp hp),it o ho],rfl⟩)
 exact dA (by simp_all?[lc]<;>rfl) ⟨_,rfl⟩
structure bw (wd:List Str) (hd:Str->Bool) (pn:Nat->Nat) (hv:Nat->Int):Prop where
 at_:∀ w,w < 2*wd.length->hv (pn w)=hW wd hd w - hW wd hd 0
 nil:wd=[]->hv 0=0/\hv 1=-1
theorem SW{wd:List Str}(gw:GoodWord wd){Lc:T}{hd:Str->Bool}(hs:SidesOk (aL wd) (bH wd) (cU wd hd)){rows:List (List Nat)}(h:Pt wd hd rows){pn:Nat->Nat}(P:Part (2*wd.length) (fw wd hd) rows pn)(eb:og [.lst (wd.map T.str),Lc]=aA (.lst ((j6 wd.length).map (cg pn)))):∃ hv:Nat->Int,bw wd hd pn hv/\∀ o,o < rows.length->qv [.lst (wd.map T.str),Lc,.int (o:Nat)]=aA (.lst ((j6 rows.length).map λp=>.int (hv p - hv o))):=by
 have hlen:=gw.len;have hrl:=yb gw.two h hs;have hf:=(oO gw).len
 by_cases hne:wd=[]
 ·subst hne;have hr:rows.length=2:=hrl
  obtain⟨L,hL,hall,ea⟩:=Fb (N:=1) (by decide) (by decide) (pn:=id) (R:=2) (by decide) (λw hw=>hw) (hv:=λp=>-(p:Int)) rfl (λk hk=>by rw[show k=0 by lia]; rfl) (λS h2 h0 w hw=>by
   have e:=h2 0 (by decide)
   have h0:S 0=aC:=h0;have e:S 0=S 1:=e;rcases(show w=0∨w=1 by lia) with rfl |rfl
   ·exact h0
   ·show S 1=aC; rw[<-e,h0])
  refine⟨λp=>-(p:Int),⟨λw hw=>absurd hw (Z7 _),λ_=>⟨rfl,rfl⟩⟩,λo ho=>?_⟩;rw[hr] at ho ⊢;exact F3 (hv:=λp=>-(p:Int)) (by decide) hL (λp hp=>hall p hp) (λo=>rfl) ea ho
 ·have hp:=Qw.mpr hne;obtain⟨hv,hhv⟩:=IB gw.two hlen h hs P;have plt:∀ w,w < 2*wd.length->pn w < rows.length:=λw hw=>by
   obtain⟨r,hr,_⟩:=P.at_ w hw;exact(j7.mp hr).1
  obtain⟨L,hL,hall,ea⟩:=Fb hp hlen (pn:=pn) (R:=rows.length) (by lia) plt (hv:=hv) (by rw[hhv 0 (by lia)]; lia) (λk hk=>by rw[hhv _ (by lia),hhv _ (by lia),CM]; lia) (LG gw.two h P)
  refine⟨hv,⟨hhv,λe=>absurd e hne⟩,λo ho=>F3 (by lia) hL (λp hp=>?_) (λo=>?_) ea ho⟩
  ·obtain⟨w,hw,rfl⟩:=h.row hne P hp;exact hall w hw
  ·have ht:(wd.map T.str).isEmpty=aD:=by cases wd<;>simp at hne ⊢
   unfold Ak
   simp_all?[ht,eb]<;>rfl
theorem Sn(ns:List Int):∃(wd:List Str) (t:T),GoodWord wd/\zj [.scr ns]=aA (.tup [.lst (wd.map T.str),t])/\((∃ hd:Str->Bool,t=.lst ((aq wd hd).map ag)/\SidesOk (aL wd) (bH wd) (cU wd hd))∨t=.non):=by
 have c0:iL [.scr ns,.int 0]=aA (.int (ns.getD 0 0)):=um ns 0;have c1:iL [.scr ns,.int 1]=aA (.int (ns.getD 1 0)):=um ns 1;have c2:iL [.scr ns,.int 2]=aA (.int (ns.getD 2 0)):=um ns 2;have c3:iL [.scr ns,.int 3]=aA (.int (ns.getD 3 0)):=um ns 3;generalize ns.getD 0 0=v0 at c0;generalize ns.getD 1 0=v1 at c1;generalize ns.getD 2 0=v2 at c2;generalize ns.getD 3 0=v3 at c3
 obtain⟨t,e,wd,u,gw,rfl,ht⟩:=iJ (n:=4) (d:=sZ) (ts:=[.scr ns]) (Q:=λt=>∃(wd:List Str) (u:T),GoodWord wd/\t=.tup [.lst (wd.map T.str),u]/\((∃ hd:Str->Bool,u=.lst ((aq wd hd).map ag)/\SidesOk (aL wd) (bH wd) (cU wd hd))∨u=.non)) (by
  show af sZ [aA (.scr ns),aB,aB,aB] _;unfold sZ;refine aX (s':=[aA (.scr ns),aA (.int (v1%13)),aB,aB]) (by simp_all?[c1]) ?_
  refine uz (λs=>∃ m:Nat,m<=30/\s=[aA (.scr ns),aA (.int (m:Int)),aB,aB]) ?_ ?_
  ·by_cases h:v1 / 13%8=5
   ·refine dA (r:=.nx [aA (.scr ns),aA (.int (((13+v1 / 104%18).toNat:Nat):Int)),aB,aB]) ?_ ⟨_,by lia,rfl⟩
    rw[Yq (by lia)]
    simp_all?[c1,am h]
   ·refine dA (r:=.nx [aA (.scr ns),aA (.int (((v1%13).toNat:Nat):Int)),aB,aB]) ?_ ⟨_,by lia,rfl⟩
    rw[Yq (by lia)]
    simp_all?[c1,av h]<;>rfl
  rintro s ⟨m,hm,rfl⟩;obtain⟨names,en,nl,nd,nN⟩:=SD v0 hm;obtain⟨wd,ew,gw,_⟩:=RV v2 (names:=names) (by lia) nd nN
  obtain⟨b,eb,hb⟩:=y0 v3;obtain⟨y,hy,hd⟩:=Tf gw hb;refine aX (s':=[aA (.scr ns),aA (.int (m:Int)),aA (.lst (names.map T.str)),aB]) (by simp_all?[c0,en]) ?_
  refine aX (s':=[aA (.scr ns),aA (.int (m:Int)),aA (.lst (names.map T.str)),aA (.lst (wd.map T.str))]) (by simp_all?[c2,ew]) ?_
  rcases hd with ⟨hd,ed,hsd⟩ |ed
  ·exact dA (by simp_all?[c3,eb,ed]<;>rfl) ⟨_,_,rfl,wd,_,gw,rfl,.inl ⟨hd,rfl,hsd⟩⟩
  ·exact dA (by simp_all?[c3,eb,ed]<;>rfl) ⟨_,_,rfl,wd,_,gw,rfl,.inr rfl⟩)
 exact⟨wd,u,gw,e,ht⟩
def cN(hv:Nat->Int)(p:Nat):Nat:=(hv p%2).toNat
theorem HL(hv:Nat->Int)(p:Nat):cN hv p=0∨cN hv p=1:=by unfold cN; lia
theorem SO{W Lc:T}{hv:Nat->Int}{R:Nat}(hR:R<=32)(h0:hv 0=0)(eh:qv [W,Lc,.int 0]=aA (.lst ((j6 R).map λp=>.int (hv p - hv 0)))):w6 [W,Lc]=aA (.lst (((j6 R).map (cN hv)).map nT)):=by
 refine sJ ?_;show af vc [aA W,aA Lc] _;unfold vc;rw[h0] at eh
 have lc:=iW (M:=[]) (caps:=[aB]) (fi:=bJ (ae qv (aF (dV 0) (aF (dV 1) (aF (dC (.int 0)) aJ))))) (dg:=au 0) (fe:=d2 bo (dV 0) (dC (.int 2))) (s:=[aA W,aA Lc]) (j6 R) (λp=>.int (hv p - 0)) (λp=>nT (cN hv p)) (by simp_all?[eh]) (by simp; lia) (by
  intro p hp;refine⟨[aA (.int (hv p - 0))],rfl,?_,rfl⟩;have e:(hv p - 0)%2=((cN hv p:Nat):Int):=by unfold cN; lia
  simp_all?[e])
 rw[jU];exact dA (by simp_all?[lc]<;>rfl) ⟨_,rfl⟩
theorem PX{xs:List Nat}(hl:xs.length<=1000):zT [.lst (xs.map nT),.int (xs.length:Nat)]=aA (.bl aC):=by
 have lc:=iW (M:=[]) (caps:=[aB]) (fi:=bJ (dV 0)) (dg:=au 0) (fe:=ae vX (aF (dV 0) aJ)) (s:=[aA (.lst (xs.map nT)),aA (.int (xs.length:Nat))]) xs nT (λ_=>T.bl aC) (by simp_all?[]) (by lia) (by
  intro x hx;have w:vX [.int (x:Int)]=aA (.bl aC):=rfl
  exact⟨[aA (.int (x:Int))],rfl,by simp_all?[w],rfl⟩)
 have al:qA (.lst (xs.map λ_=>T.bl aC))=aA (.bl aC):=by
  have:=C6 (xs.map λ_=>aC);rw[jU] at this;rw[show (xs.map λ_=>T.bl aC)=xs.map (T.bl∘λ_=>aC) from rfl,this];simp
 refine eY ?_;show af vK [aA (.lst (xs.map nT)),aA (.int (xs.length:Nat))] _;unfold vK;exact fL (s':=[aA (.lst (xs.map nT)),aA (.int (xs.length:Nat))]) (by simp_all?[lc,al,am rfl]<;>rfl) rfl
theorem RM{wd:List Str}(gw:GoodWord wd){Lc:T}{hd:Str->Bool}{rows:List (List Nat)}(h:Pt wd hd rows)(hrl:rows.length=(aL wd).length+2){pn:Nat->Nat}(P:Part (2*wd.length) (fw wd hd) rows pn)(ep:qw [.lst (wd.map T.str),Lc]=aA (.lst (rows.map bp)))(eb:og [.lst (wd.map T.str),Lc]=aA (.lst ((j6 wd.length).map (cg pn)))){hv:Nat->Int}(ok:bw wd hd pn hv):zV [.lst (((j6 rows.length).map (cN hv)).map nT),.lst (wd.map T.str),Lc]=aA (.bl aC):=by
 have hlen:=gw.len;have hf:=(oO gw).len;have h2:=lb gw.two;have hxl:((j6 rows.length).map (cN hv)).length=rows.length:=by simp
 have el:=PX (xs:=(j6 rows.length).map (cN hv)) (by rw[hxl]; lia)
 rw[hxl] at el;have elen:((wd.length:Nat):Int) / 2+2=((rows.length:Nat):Int):=by lia
 have fe:((j6 rows.length).map (cN hv)).filter (fun(c:Nat)=>!aE ((c:Int)=0)&&!aE ((c:Int)=1))=[]:=by
  rw[QX];intro c hc;obtain⟨p,_,rfl⟩:=jx.mp hc;rcases HL hv p with e |e<;>rw[e]<;>decide
 refine eY ?_;generalize hF:(j6 rows.length).map (cN hv)=F at el fe hxl;generalize hW:T.lst (wd.map T.str)=W at *;have hWl:bS W=aA (.int (wd.length:Nat)):=by rw[<-hW,uI,j5]
 show af vM [aA (.lst (F.map nT)),aA W,aA Lc,aB,aB,aB] _;unfold vM
 have lc:=nM (M:=[]) (caps:=[aB]) (fi:=bJ (dV 0)) (dg:=au 0) (ft:=iq (dB (d2 cc (dV 0) (dC (.int 0)))) (dB (d2 cc (dV 0) (dC (.int 1))))) (fe:=dV 0) (s:=[aA (.lst (F.map nT)),aA W,aA Lc,aB,aB,aB]) F nT (fun(c:Nat)=>!aE ((c:Int)=0)&&!aE ((c:Int)=1)) nT (by simp_all?[]) (by lia) (by
  intro c hc;refine⟨[aA (.int (c:Int))],rfl,?_,λ_=>by simp_all?[],rfl⟩
  by_cases q:(c:Int)=0
  ·simp_all?[am q]<;>rfl
  ·simp_all?[av q]<;>rfl)
 rw[fe,Zf] at lc;refine aX (s':=[aA (.lst (F.map nT)),aA W,aA Lc,aB,aB,aB]) (by simp_all?[hWl,elen,el,lc]<;>rfl) ?_
 by_cases hne:wd=[]
 ·have e0:aE (((wd.length:Nat):Int)=0)=aC:=am (by rw[hne]; rfl)
  have hr:rows.length=2:=by rw[hrl,hne]; rfl
  have hFe:F=[0,1]:=by
   rw[<-hF,hr];obtain⟨n0,n1⟩:=ok.nil hne;show [cN hv 0,cN hv 1]=[0,1];unfold cN;rw[n0,n1]; rfl
  have eq:bY (.lst (F.map nT)) (.lst [.int 0,.int 1])=aA (.bl aC):=by
   rw[hFe];have:=uH [0,1] [0,1];rw[am rfl] at this;exact this
  exact sW (s':=[aA (.lst (F.map nT)),aA W,aA Lc,aB,aB,aB]) (by simp_all?[hWl,e0,eq]<;>rfl) rfl
 have e0:aE (((wd.length:Nat):Int)=0)=aD:=av (by have:=Qw.mpr hne; lia)
 have hpos:=Qw.mpr hne;refine aX (s':=[aA (.lst (F.map nT)),aA W,aA Lc,aB,aB,aB]) (by simp_all?[hWl,e0]<;>rfl) ?_
 have plt:∀ w,w < 2*wd.length->pn w < rows.length:=λw hw=>by
  obtain⟨r,hr,_⟩:=P.at_ w hw;exact(j7.mp hr).1
 have itF:∀ p,p < rows.length->aP (.lst (F.map nT)) (.int (p:Int))=aA (.int (cN hv p:Nat)):=λp hp=>by
  rw[lW,jg,<-hF,jg,Zh hp]; rfl
 refine iK (its:=(j6 wd.length).map (cg pn)) (λj s=>∃ a3 a4:Option T,s=[aA (.lst (F.map nT)),aA W,aA Lc,a3,a4,aB]) (by simp_all?[eb]) ⟨aB,aB,rfl⟩ ?_ ?_
 ·rintro j z s hz ⟨a3,a4,rfl⟩;rw[jg] at hz;obtain⟨k,hk,rfl⟩:=Qm hz;obtain⟨h1,e2⟩:=j7.mp hk;rw[ZU] at e2;subst e2;have jl:j < wd.length:=by simpa using h1
  have a1:=ok.at_ (2*j) (by lia)
  have a2:=ok.at_ (2*j+1) (by lia)
  rw[CM] at a1;have dn:aE (((cN hv (pn (2*j)):Nat):Int)=((cN hv (pn (2*j+1)):Nat):Int))=aD:=av (by unfold cN; lia)
  refine⟨[aA (.lst (F.map nT)),aA W,aA Lc,aA (.int (pn (2*j):Nat)),aA (.int (pn (2*j+1):Nat)),aB],rfl,?_⟩;exact cm (s':=[aA (.lst (F.map nT)),aA W,aA Lc,aA (.int (pn (2*j):Nat)),aA (.int (pn (2*j+1):Nat)),aB]) (by simp_all?[itF _ (plt (2*j) (by lia)),itF _ (plt (2*j+1) (by lia)),dn]) ⟨_,_,rfl⟩
 ·rintro s ⟨a3,a4,rfl⟩;refine aX (s':=[aA (.lst (F.map nT)),aA W,aA Lc,a3,a4,aA (.lst (rows.map bp))]) (by simp_all?[ep]) ?_
  have el2:aE (((rows.length:Nat):Int)=((F.length:Nat):Int))=aC:=am (by rw[hxl])
  have p0:=h.first hne P
  have fz:(j6 rows.length).filter (λp=>aE (0∈rows.getD p []))=[0]:=by
   have h0:0 < rows.length:=p0▸plt 0 (by lia)
   obtain⟨r,hr,m⟩:=P.at_ 0 (by lia)
   rw[p0] at hr;rw[show rows.length=(rows.length - 1)+1 by lia,ZT,Nb (by rw[jv,hr]; exact am m)]
   congr 1
   rw[QX];intro p hp;obtain⟨q,hq,rfl⟩:=jx.mp hp;have hq:=jc.mp hq;rw[jv,j3 (show q+1 < rows.length by lia)]
   intro z;have:=(P.one (q+1) _ 0 (j3 (by lia)) (of_decide_eq_true z)).2
   rw[p0] at this;exact absurd this (by simp)
  have Aj:=nM (M:=[]) (caps:=[aB,aA 0,aA 5]) (fi:=fS (aF (d1 bS (dV 5)) aJ)) (dg:=au 0) (ft:=dB (d2 iS (dC (.int 0)) (d2 aP (dV 2) (dV 0)))) (fe:=d2 aP (dV 1) (dV 0)) (s:=[aA (.lst (F.map nT)),aA W,aA Lc,a3,a4,aA (.lst (rows.map bp))]) (j6 rows.length) nT (λp=>aE (0∈rows.getD p [])) (λp=>nT (cN hv p)) (by simp_all?[wQ (k:=rows.length) (by lia),Q8,qi]) (by simp; lia) (by
   intro p hp;have hp:=jc.mp hp;refine⟨[aA (.int (p:Int)),aA (.lst (F.map nT)),aA (.lst (rows.map bp))],rfl,?_,λ_=>by simp_all?[itF p hp],rfl⟩
   have gi:aP (.lst (rows.map bp)) (.int (p:Int))=aA (.lst ((rows.getD p []).map nT)):=by rw[lW,jg,jv,j3 hp]; rfl
   have gn:iS (.int 0) (.lst ((rows.getD p []).map nT))=aA (.bl (aE (0∈rows.getD p []))):=B7 0 _
   simp_all?[gi,gn])
  rw[fz] at Aj;have c0:cN hv 0=0:=by
   have:=ok.at_ 0 (by lia)
   rw[p0] at this;unfold cN;rw[this];lia
  have eq:bY (.lst ([0].map λp=>T.int (cN hv p:Nat))) (.lst [.int 0])=aA (.bl aC):=by
   have:=uH [0] [0];rw[am rfl] at this;rw[jq,c0];exact this
  exact dA (by simp_all?[el2,Aj,eq]<;>rfl) ⟨_,rfl⟩
theorem Ku(ns:List Int):Kc [.scr ns]=aA (.bl aC):=by
 obtain⟨wd,u,gw,es,hu⟩:=Sn ns;have hlen:=gw.len;have hf:=(oO gw).len;refine eY ?_;show af uA [aA (.scr ns),aB,aB,aB,aB,aB] _;unfold uA;refine aX (s':=[aA (.scr ns),aA (.lst (wd.map T.str)),aA u,aB,aB,aB]) (by simp_all?[es]<;>rfl) ?_
 rcases hu with ⟨hd,rfl,hsd⟩ |rfl
 ·have ck:=MW gw hd;obtain⟨rows,ep,hP⟩:=T0 ck;have hrl:=yb gw.two hP hsd;obtain⟨pn,P⟩:=hP.part gw.two;have eb:=SN hlen (hP.len hlen) ep P;have cl:(aq wd hd).length<=100:=by
   unfold aq;rw[j5];lia
  obtain⟨hv,ok,eh⟩:=SW gw hsd hP P eb;have h0:hv 0=0:=by
   by_cases hne:wd=[]
   ·exact(ok.nil hne).1
   ·have:=ok.at_ 0 (by have:=Qw.mpr hne; lia)
    rw[hP.first hne P] at this
    lia
  have ec:=SO (by lia) h0 (eh 0 (by lia))
  have er:=RM gw hP hrl P ep eb ok;have bl:((j6 rows.length).map (cN hv)).length<=1000000:=by simp; lia
  generalize hB:(j6 rows.length).map (cN hv)=B at ec er bl;have eqb:bY (.lst (B.map nT)) (.lst (B.map nT))=aA (.bl aC):=by rw[uH,am rfl]
  have fl:lO (.bl aC)=aC:=rfl;refine aX (s':=[aA (.scr ns),aA (.lst (wd.map T.str)),aA (.lst ((aq wd hd).map ag)),aB,aB,aB]) rfl ?_;have ll:∀ l:List T,i9 (.lst l)=aA (.lst l):=λ_=>rfl
  have lc:=iW (M:=[]) (caps:=[aB,aB]) (fi:=bJ (dV 2)) (dg:=eg [0,1]) (fe:=du (aF (dV 0) (aF (d1 i9 (dV 1)) aJ))) (s:=[aA (.scr ns),aA (.lst (wd.map T.str)),aA (.lst ((aq wd hd).map ag)),aB,aB,aB]) (aq wd hd) ag ag (by simp_all?[]) (by lia) (by
   intro c hc
   exact⟨[aA (.str c.1),aA (.lst (c.2.map nT))],rfl,by simp_all?[ll]<;>rfl,rfl⟩)
  refine aX (s':=[aA (.scr ns),aA (.lst (wd.map T.str)),aA (.lst ((aq wd hd).map ag)),aA (.lst [.lst (wd.map T.str),.lst ((aq wd hd).map ag)]),aB,aB]) (by simp_all?[ll,lc]) ?_
  have nh:=SE wd (aq wd hd);have p0:aP (.lst [.lst (wd.map T.str),.lst ((aq wd hd).map ag)]) (.int 0)=aA (.lst (wd.map T.str)):=rfl;have p1:aP (.lst [.lst (wd.map T.str),.lst ((aq wd hd).map ag)]) (.int 1)=aA (.lst ((aq wd hd).map ag)):=rfl;refine aX (s':=[aA (.scr ns),aA (.lst (wd.map T.str)),aA (.lst ((aq wd hd).map ag)),aA (.lst [.lst (wd.map T.str),.lst ((aq wd hd).map ag)]),aA (.lst (B.map nT)),aB]) (by simp_all?[p0,p1,ec]) ?_
  refine aX (s':=[aA (.scr ns),aA (.lst (wd.map T.str)),aA (.lst ((aq wd hd).map ag)),aA (.lst [.lst (wd.map T.str),.lst ((aq wd hd).map ag)]),aA (.lst (B.map nT)),aB]) (by simp_all?[nh,er,fl]<;>rfl) ?_
  refine aX (s':=[aA (.scr ns),aA (.lst (wd.map T.str)),aA (.lst ((aq wd hd).map ag)),aA (.lst [.lst (wd.map T.str),.lst ((aq wd hd).map ag)]),aA (.lst (B.map nT)),aA (.lst (B.map nT))]) (by simp_all?[ll]) ?_
  refine aX (s':=[aA (.scr ns),aA (.lst (wd.map T.str)),aA (.lst ((aq wd hd).map ag)),aA (.lst [.lst (wd.map T.str),.lst ((aq wd hd).map ag)]),aA (.lst (B.map nT++[.int 1])),aA (.lst (B.map nT))]) (by simp_all?[rZ (xs:=B.map nT) (.int 1) (by rw[j5]; exact bl)]) ?_
  exact fL (s':=[aA (.scr ns),aA (.lst (wd.map T.str)),aA (.lst ((aq wd hd).map ag)),aA (.lst [.lst (wd.map T.str),.lst ((aq wd hd).map ag)]),aA (.lst (B.map nT++[.int 1])),aA (.lst (B.map nT))]) (by simp_all?[p0,p1,ec,eqb]<;>rfl) rfl
 ·exact qZ (t:=.bl aC) (s':=[aA (.scr ns),aA (.lst (wd.map T.str)),aA .non,aB,aB,aB]) rfl ⟨_,rfl⟩
end Dw
namespace Dw
open PySem PySem.Spec PyProof.Rows L2 L3
set_option maxHeartbeats 1000000 in
theorem Kb{l:Yj}{w:Qe}{K:j9}{h:QN}{mg:Str->Option j8}{fa:jw}(X:K.In h)(G:h.Ns jT mg)(hfa:mg "law"=aA (.ref fa)){kDrawError kNotDrawn:jw}
  (a1:Fd K "_law_names" zG)
  (a2:Fd K "_law_draw" yk)
  (a3:Fd K "_law_built_word" AK)
  (a4:Fd K "_law_any_word" A3)
  (a5:Fd K "_law_bag" yI)
  (a6:Fd K "_law_word" ym)
  (a7:Fd K "_law_cell" yj)
  (a8:Fd K "names_of" A4)
  (a9:Fd K "odd_name" A5)
  (a10:Fd K "evenly_shared" AZ)
  (a11:Fd K "odd_pair" A6)
  (a12:Fd K "found_from" AM)
  (a13:Fd K "side_beside" AF)
  (a14:Fd K "sides_along" AG)
  (a15:Fd K "wrong_step" AN)
  (a16:Fd K "way_back" A7)
  (a17:Fd K "ring_through" AU)
  (a18:Fd K "sides_or_ring" Ab)
  (a19:Fd K "standings" zy)
  (a20:Fd K "between" zY)
  (a21:Fd K "crossed_with" AS)
  (a22:Fd K "looked" zM)
  (a23:Fd K "ends_by_side" AT)
  (a24:Fd K "drawing" vh)
  (a25:Fd K "_law_drawing" zX)
  (a26:Fd K "_law_set_up" zK)
  (a27:Fd K "heights_along" Aa)
  (a28:Fd K "ends_ahead" AL)
  (a29:Fd K "rounds" zN)
  (a30:Fd K "walker_by" A0)
  (a31:Fd K "end_of" zL)
  (a32:Fd K "patches" zc)
  (a33:Fd K "borders" zZ)
  (a34:Fd K "heights" zb)
  (a35:Fd K "colours" za)
  (a36:Fd K "_law_whole" zI)
  (a37:Fd K "_law_lists" zF)
  (a38:Fd K "_law_right" zH)
  (a39:Fd K "law" xP)
  (z1:Qq K jT "range"=aA aB)
  (z2:Qq K jT "len"=aA aB)
  (z3:Qq K jT "list"=aA aB)
  (z4:Qq K jT "max"=aA aB)
  (z5:Qq K jT "set"=aA aB)
  (z6:Qq K jT "enumerate"=aA aB)
  (z7:Qq K jT "zip"=aA aB)
  (z8:Qq K jT "isinstance"=aA aB)
  (z9:Qq K jT "bool"=aA aB)
  (z10:Qq K jT "int"=aA aB)
  (z11:Qq K jT "all"=aA aB)
  (xDrawError:Qq K jT "DrawError"=aA (aA (.ref kDrawError)))
  (xNotDrawn:Qq K jT "NotDrawn"=aA (aA (.ref kNotDrawn)))
  (xnd:∀ h:QN,K.In h->∃ bm,L2.XClsI K h kNotDrawn kDrawError bm)
  : ∃ fd:Z9,(∀(s:jd) (v:j8),W3 s fd ⟨[v],[]⟩ [("_law_script",v)])/\∀ base:QN,K.In base->base.Ns jT mg->FnOk l.prog w K mg base dl 9 fa fd ["_law_script"] (L3.qO K):=by
 have m_range:=Qo X G z1;have m_len:=Qo X G z2;have m_list:=Qo X G z3;have m_max:=Qo X G z4;have m_set:=Qo X G z5;have m_enumerate:=Qo X G z6;have m_zip:=Qo X G z7;have m_isinstance:=Qo X G z8;have m_bool:=Qo X G z9;have m_int:=Qo X G z10;have m_all:=Qo X G z11;refine PV (M':=[]) (Mb:=[]) X G hfa a39 Cp (λ_ _ _ _ _ _ _=>rfl) (by decide) Ku λbase KB GB=>?_
 letI:TheK:=⟨K⟩
 let v:Ev:=⟨l.prog,w,mg,base⟩
 let a:Ax:=⟨kNotDrawn,kDrawError,kNotDrawn,kNotDrawn,kNotDrawn,kNotDrawn⟩
 have m2:v.mg "NotDrawn"=aA (.ref a.r2):=Wt X G xNotDrawn;have nd:Nd v a:=xnd base KB;have kg:=a1.here X G (ps:=["_law_cell_here","_law_many"]) (eU λ_ _ _ _ _ _ _ _=>rfl);have pD:=a2.here X G (ps:=["_law_bag_here","_law_many"]) (eU λ_ _ _ _ _ _ _ _=>rfl);have mR:=a3.here X G (ps:=["_law_bag_here","_law_names_here"]) (eU λ_ _ _ _ _ _ _ _=>rfl);have kH:=a4.here X G (ps:=["_law_bag_here","_law_names_here"]) (eU λ_ _ _ _ _ _ _ _=>rfl);have mo:=a5.here X G (ps:=["_law_cell_here"]) (iP λ_ _ _ _ _ _ _=>rfl);have pY:=a6.here X G (ps:=["_law_cell_here","_law_names_here"]) (eU λ_ _ _ _ _ _ _ _=>rfl);have kJ:=a7.here X G (ps:=["_law_script","_law_k"]) (eU λ_ _ _ _ _ _ _ _=>rfl);have kQ:=a8.here X G (ps:=["word"]) (iP λ_ _ _ _ _ _ _=>rfl);have me:=a9.here X G (ps:=["mates"]) (iP λ_ _ _ _ _ _ _=>rfl);have kA:=a10.here X G (ps:=["mates","one","other"]) (tQ λ_ _ _ _ _ _ _ _ _=>rfl);have kC:=a11.here X G (ps:=["mates"]) (iP λ_ _ _ _ _ _ _=>rfl);have mh:=a12.here X G (ps:=["mates"]) (iP λ_ _ _ _ _ _ _=>rfl);have mY:=a13.here X G (ps:=["mates","sides","name","mate"]) (Vd λ_ _ _ _ _ _ _ _ _ _=>rfl);have ms:=a14.here X G (ps:=["mates","origins"]) (eU λ_ _ _ _ _ _ _ _=>rfl);have p8:=a15.here X G (ps:=["mates","sides"]) (eU λ_ _ _ _ _ _ _ _=>rfl);have mK:=a16.here X G (ps:=["origins","name"]) (eU λ_ _ _ _ _ _ _ _=>rfl);have kZ:=a17.here X G (ps:=["origins","one","other"]) (tQ λ_ _ _ _ _ _ _ _ _=>rfl);have kl:=a18.here X G (ps:=["mates"]) (iP λ_ _ _ _ _ _ _=>rfl);have kE:=a19.here X G (ps:=["word","name"]) (eU λ_ _ _ _ _ _ _ _=>rfl);have kn:=a20.here X G (ps:=["word","name"]) (eU λ_ _ _ _ _ _ _ _=>rfl);have mr:=a21.here X G (ps:=["word","name"]) (eU λ_ _ _ _ _ _ _ _=>rfl);have kP:=a22.here X G (ps:=["word"]) (iP λ_ _ _ _ _ _ _=>rfl);have kK:=a23.here X G (ps:=["word","name","side"]) (tQ λ_ _ _ _ _ _ _ _ _=>rfl);have pT:=a24.here X G (ps:=["word"]) (iP λ_ _ _ _ _ _ _=>rfl);have kO:=a25.here X G (ps:=["_law_bag_here","_law_word_here"]) (eU λ_ _ _ _ _ _ _ _=>rfl);have m7:=a26.here X G (ps:=["_law_script"]) (iP λ_ _ _ _ _ _ _=>rfl);have hX:=a27.here X G (ps:=["hands"]) (iP λ_ _ _ _ _ _ _=>rfl);have km:=a28.here X G (ps:=["crossings"]) (iP λ_ _ _ _ _ _ _=>rfl);have mT:=a29.here X G (ps:=["after"]) (iP λ_ _ _ _ _ _ _=>rfl);have mM:=a30.here X G (ps:=["size","end"]) (eU λ_ _ _ _ _ _ _ _=>rfl);have mF:=a31.here X G (ps:=["size","walker"]) (eU λ_ _ _ _ _ _ _ _=>rfl);have mD:=a32.here X G (ps:=["word","crossings"]) (eU λ_ _ _ _ _ _ _ _=>rfl);have kU:=a33.here X G (ps:=["word","crossings"]) (eU λ_ _ _ _ _ _ _ _=>rfl);have pI:=a34.here X G (ps:=["word","crossings","outside"]) (tQ λ_ _ _ _ _ _ _ _ _=>rfl);have mW:=a35.here X G (ps:=["word","crossings"]) (eU λ_ _ _ _ _ _ _ _=>rfl);have kr:=a36.here X G (ps:=["_law_found"]) (iP λ_ _ _ _ _ _ _=>rfl);have mJ:=a37.here X G (ps:=["_law_found","_law_many"]) (eU λ_ _ _ _ _ _ _ _=>rfl);have kF:=a38.here X G (ps:=["_law_found","_law_word_here","_law_lines"]) (tQ λ_ _ _ _ _ _ _ _ _=>rfl);have mP:yq v 1:=Sf kg m_range m_len;have ph:sS v 1:=Rf pD;have kR:A8 v 2:=Ur mR ph.up m_list m_len m_max;have hU:zm v 2:=UH kH ph.up m_list m_range m_len;have pP:ul v 1:=Pa mo;have mV:ye v 3:=Rg pY hU.up pP.up kR.up;have m8:yd v 1:=Re kJ m_len;have pp:qu v 1:=UI kQ m_list;have p7:zp v 1:=UJ me m_len;have pS:wJ v 1:=V5 kA m_len m_set;have kG:zq v 2:=UK kC pS.up;have mX:AI v 1:=Ut mh;have pU:wG v 2:=Uw mY pS.up;have mB:A9 v 3:=Ux ms pU.up;have kc:AJ v 3:=Uu p8 pU.up;have m6:zr v 1:=UL mK;have kY:AQ v 2:=V3 kZ m6.up m_len;have kM:AX v 4:=V7 kl mX.up mB.up kc.up kY.up;have pN:vi v 1:=UX kE m_enumerate;have pW:ze v 2:=Ti kn pN.up;have pQ:wA v 3:=V1 mr pW.up pp.up;have pM:vS v 5:=TL kP pp.up pQ.up p7.up kG.up kM.up;have mE:AO v 2:=V2 kK pN.up;have mz:zg v 6:=Tl pT pM.up pp.up mE.up m_zip;have mS:zi v a 6:=UG pT pM.up m2 nd;have ka:zd v 7:=Th kO mz.up pp.up ph.up pQ.up mS.up m_len m_list m2 nd;have kW:zO v 8:=TJ m7 m8.up mP.up mV.up ka.up pP.up;have kb:AW v 1:=V6 hX;have mO:AH v 1:=Us km m_enumerate;have ke:zQ v 1:=TM mT m_set m_range m_len;have ma:zt v 1:=UY mM;have mq:zP v 1:=TK mF;have pV:vZ v 2:=To mD mO.up ke.up ma.up mq.up m_len m_range;have pR:vY v 3:=Tj kU pV.up m_enumerate m_range m_len;have pG:zh v 4:=Tm pI pR.up kb.up m_range m_len;have mQ:zf v 5:=Tk mW pG.up;have kX:yt v 1:=Sj kr m_isinstance m_bool m_int;have hJ:yp v 2:=Se mJ kX.up m_all m_len m_isinstance m_list;have ku:yr v 4:=Sh kF hJ.up pR.up pV.up m_len m_range;exact HK (v:=v) kW.up mQ.up ku.up m_list
end Dw
namespace PySem.W.Fast
theorem tw17423689573076386516:True:=⟨⟩
theorem tw2437211934875164496:True:=⟨⟩
theorem tw12551443855022151513:True:=⟨⟩
theorem tw5060885776867703851:True:=⟨⟩
theorem tw10168628978412401307:True:=⟨⟩
theorem tw9906572322696182972:True:=⟨⟩
theorem tw1953685446072895369:True:=⟨⟩
theorem tw4997100789774616830:True:=⟨⟩
theorem tw4237160050851574130:True:=⟨⟩
theorem tw12017592236742043181:True:=⟨⟩
theorem tw15441627506939184971:True:=⟨⟩
theorem tw7709664606925195908:True:=⟨⟩
theorem tw17252918107749242151:True:=⟨⟩
theorem tw17778136750014895752:True:=⟨⟩
theorem tw10504649972476125940:True:=⟨⟩
theorem tw15311310499494679536:True:=⟨⟩
theorem tw900883062113664346:True:=⟨⟩
theorem tw2085426011927730006:True:=⟨⟩
theorem tw13508543733626752496:True:=⟨⟩
theorem tw13454997463412322415:True:=⟨⟩
theorem tw1032140046528363008:True:=⟨⟩
theorem tw8798758553597775247:True:=⟨⟩
theorem tw6770992653540859520:True:=⟨⟩
theorem tw2294625356406095617:True:=⟨⟩
theorem tw12980615499094095024:True:=⟨⟩
theorem tw12583174468267171240:True:=⟨⟩
theorem tw10051104291417279603:True:=⟨⟩
theorem tw11073746702781664848:True:=⟨⟩
theorem tw10461087319993763908:True:=⟨⟩
theorem tw9374401155974215186:True:=⟨⟩
theorem tw4021812743537478724:True:=⟨⟩
theorem tw2302152268568858188:True:=⟨⟩
theorem tw9449207633172618819:True:=⟨⟩
theorem tw14647180011774833777:True:=⟨⟩
theorem tw11883080134499902375:True:=⟨⟩
theorem tw16040412817626551355:True:=⟨⟩
theorem tw14901455465836747882:True:=⟨⟩
theorem tw10079081429561222219:True:=⟨⟩
theorem tw5437668510010939158:True:=⟨⟩
theorem tw9468953304830357618:True:=⟨⟩
theorem tw11971779798637048150:True:=⟨⟩
theorem tw5269675836320411221:True:=⟨⟩
theorem tw3173826745577363128:True:=⟨⟩
theorem tw4972585623492216723:True:=⟨⟩
theorem tw13439104870751693718:True:=⟨⟩
theorem tw3884755980661635768:True:=⟨⟩
theorem tw1463120517460214552:True:=⟨⟩
theorem tw17050260413084457814:True:=⟨⟩
theorem tw15202247462745308490:True:=⟨⟩
theorem tw17859228524045994575:True:=⟨⟩
theorem tw6017122744352737623:True:=⟨⟩
theorem tw16317250058545340103:True:=⟨⟩
theorem tw4267838920923205784:True:=⟨⟩
theorem tw11707701750578318945:True:=⟨⟩
theorem tw10919910873446633231:True:=⟨⟩
theorem tw16328651784404964292:True:=⟨⟩
theorem tw1603581630967309787:True:=⟨⟩
theorem tw12092636894082276956:True:=⟨⟩
theorem tw12140555536808988865:True:=⟨⟩
theorem tw4800858633841392334:True:=⟨⟩
theorem tw13623621295481578679:True:=⟨⟩
theorem tw10306236326122347289:True:=⟨⟩
theorem tw3192493212565930639:True:=⟨⟩
theorem tw2341687712026616658:True:=⟨⟩
theorem tw7210219466377681268:True:=⟨⟩
end PySem.W.Fast
open PySem PySem.W PyProof.Rows
set_option maxRecDepth 100000 in
set_option maxHeartbeats 0 in
theorem PySem.Challenge.cw_drawnword_k23_colours_holds : PySem.Challenge.rw_drawnword_k23_colours.Holds := by
 w_on; o_law; k_head; (case hw=>w_witness2)
 k_fill
 refine L3.K0 (l:=PySem.Challenge.rw_drawnword_k23_colours) (x:="_law_script") (k:=9) rfl rfl (by decide) (λw h Y=>PySem.W.kIn_of Y) ?F
 case F=>
  intro w mg fa h KX G hmg
  refine' Dw.Kb KX G hmg (.mk ?_ ?_ ?_ ?_) (.mk ?_ ?_ ?_ ?_) (.mk ?_ ?_ ?_ ?_) (.mk ?_ ?_ ?_ ?_) (.mk ?_ ?_ ?_ ?_) (.mk ?_ ?_ ?_ ?_) (.mk ?_ ?_ ?_ ?_) (.mk ?_ ?_ ?_ ?_) (.mk ?_ ?_ ?_ ?_) (.mk ?_ ?_ ?_ ?_) (.mk ?_ ?_ ?_ ?_) (.mk ?_ ?_ ?_ ?_) (.mk ?_ ?_ ?_ ?_) (.mk ?_ ?_ ?_ ?_) (.mk ?_ ?_ ?_ ?_) (.mk ?_ ?_ ?_ ?_) (.mk ?_ ?_ ?_ ?_) (.mk ?_ ?_ ?_ ?_) (.mk ?_ ?_ ?_ ?_) (.mk ?_ ?_ ?_ ?_) (.mk ?_ ?_ ?_ ?_) (.mk ?_ ?_ ?_ ?_) (.mk ?_ ?_ ?_ ?_) (.mk ?_ ?_ ?_ ?_) (.mk ?_ ?_ ?_ ?_) (.mk ?_ ?_ ?_ ?_) (.mk ?_ ?_ ?_ ?_) (.mk ?_ ?_ ?_ ?_) (.mk ?_ ?_ ?_ ?_) (.mk ?_ ?_ ?_ ?_) (.mk ?_ ?_ ?_ ?_) (.mk ?_ ?_ ?_ ?_) (.mk ?_ ?_ ?_ ?_) (.mk ?_ ?_ ?_ ?_) (.mk ?_ ?_ ?_ ?_) (.mk ?_ ?_ ?_ ?_) (.mk ?_ ?_ ?_ ?_) (.mk ?_ ?_ ?_ ?_) (.mk ?_ ?_ ?_ ?_) ?_ ?_ ?_ ?_ ?_ ?_ ?_ ?_ ?_ ?_ ?_ ?xDrawError ?xNotDrawn ?xnd
  (case xDrawError=>k_is)
  (case xNotDrawn=>k_is)
  case xnd=>
   intro h KX
   refine' ⟨_,L3.RW KX ?xl ?xi ?xn ?xt ?lk ?hcd ?S ?l1 ?l2 ?d1 ?d2 ?hb ?c1 ?c2 ?c3 ?c4 ?c5⟩
   (case xl=>k_is)
   (case xi=>k_is)
   (case xn=>kernel_rfl)
   (case xt=>kernel_rfl)
   (case lk=>k_is)
   (case hcd=>k_is)
   (case S=>exact⟨rfl,rfl,rfl,by decide +kernel,rfl,by decide +kernel,by decide +kernel⟩)
   (case l1=>rfl)
   (case l2=>rfl)
   (case d1=>decide)
   (case d2=>decide)
   (case hb=>exact λus hl=>match us,hl with |[_,_],_=>rfl)
   (case c1=>k_is)
   (case c2=>rfl)
   (case c3=>rfl)
   (case c4=>k_is)
   (case c5=>k_is)
  all_goals try k_is
