import PyProof.Rows.All
import Wide.All
import OpenK.AllK
import Wide.FinOn
import Lean
import PyProof.EqAt
import PyProof.EqKinds
import PyProof.TupleCall
import PyProof.EnumMake
import PyProof.EnumFor
import PyProof.NeKinds
import PyProof.EnumStmt
import PyProof.DictCompW
import KE.KDictList
import KE.KRevSl
import PyProof.ListRange
import PyProof.ConsumeWalk
import PyProof.SumWalk
import PyProof.MinMaxWalk
import PyProof.DictWalks
import PyProof.StrWalks
import PyProof.Rows.SortStr
import PyProof.Rows.SortShell
import PyProof.Rows.SortWalk
import PyProof.StrBlockG
import PyProof.StrLawsTight
import PyProof.Rows.RuleB_and
import PyProof.Rows.RuleB_or
import PyProof.Rows.SetFrom
import PyProof.SetRoads
import PyProof.Rows.SumAny
import KE.KRevIter
import PyProof.Rows.Range3
import KE.KDictLaws
import PyProof.ConsumeS
import PyProof.ZipIter
import PyProof.ListNew
import PyProof.Draws
import PyProof.SeqI3
import OpenK.KRaise
import PyProof.ExcBaseAll.ValueError
import PyProof.RulesAs
import OpenK.KDescr
import KE.KIsAll
import PyProof.ExcArgs
import PyProof.InstSpecial
import PyProof.ExcClass2
import PyProof.InstStore
import PyProof.InstStoreFacts
import PyProof.AutoSeq1
import PyProof.CallStr
import OpenK.KOwn
import PyProof.StrLawsChain
import PySem.Challenge.RW_drawnword_k19_drawings_belong_to_words_w
open List renaming getElem?_eq_getElem->j3,length_map->j6,getElem?_eq_some_iff->j9,range->jf,getElem?_map->ji,map_cons->jj,mem_range->jk,length_cons->jm,getElem?_set_ne->jn,size_toArray->jp,mem_cons->jq,getD_eq_getElem?_getD->js,all_eq_true->jt,length_append->ju,mem_append_left->jv,getElem?_cons_succ->jx,mem_map->jy,mem_append->jz,map_append->jA,mem_append_right->jC,getElem?_cons_zero->jD,mem_cons_of_mem->jF,mem_singleton->jG,mem_of_getElem?->jJ,getElem?_set_self->jP,length_take->jQ,mem_filter->jR,map_map->jU,nodup_append->jW,append_assoc->jZ,mem_cons_self->Q0,nodup_cons->Q1,length_set->Q2,getElem?_append_left->Q6,dropLast_concat_getLast->Q7,getElem_mem->Qa,idxOf_lt_length_iff->Qf,getElem?_append_right->Qh,filter_cons->Qk,mem_nil_iff->Ql,set_cons_succ->Qs,set_cons_zero->Qt,map_congr_left->Qv,take_length->Qw,take_of_length_le->QD,length_drop->QH,take_append_drop->QL,length_range->QM,append_nil->QV,find?_cons->QX,filter_append->QY,reverse_cons->Z1,map_nil->Z3,any_cons->Z7,nil_append->Zb,pairwise_lt_range->Zd,filter_eq_nil_iff->Zf,drop_eq_getElem_cons->Zk,length_nil->Zm,pairwise_map->Zo,count_cons->Zq,foldl_cons->Zr,getElem_inj->ZB,lookup_cons->ZC,not_mem_nil->ZD,take_succ->ZG,range_succ_eq_map->ZI,length_eq_one_iff->ZJ,length_filter_le->ZO,replicate->ZX,length->ge,getElem?_range->gf,range_succ->gm,filter_map->gq,count_eq_zero->gr,nodup_nil->gE,length_singleton->gG,cons_append->gO,nodup_range->gP,eq_nil_of_length_eq_zero->gQ,any_eq_true->gS,getLast?_eq_some_getLast->gT,mem_erase_of_ne->gU,getLast?_append->gW,all_cons->Y0,sum_cons->Y2,filterMap_cons->Y3,forIn_cons->Y8,getElem_of_mem->Yi,getElem?_take->Yn,getElem_range->Yo,append_of_mem->Yp,getElem_idxOf->Yr,mem_or_eq_of_mem_set->Yv,getElem?_eq_none_iff->Yw,getElem?_zip_eq_some->Yy,eq_of_mem_replicate->YG,filter_congr->YL,length_erase_of_mem->YM,eraseIdx_cons_succ->YV,map_drop->YW,map_take->YX,drop_length->N1,zipIdx_cons->N4,getElem_map->N5,length_pos_of_mem->Nb,of_mem_zip->Ng,length_replicate->Nh,perm_append_comm->Nm,dropLast_eq_take->Nn,getElem?_eq_none->Nv,mem_iff_getElem?->Ny,range_zero->Nz,Nodup->NF,mem_of_mem_take->NI,length_reverse->NS,filter_sublist->NT,filter_eq_self->NU,length_pos_iff->NV,mem_filterMap->W2,find?_eq_none->Wc,filter_filter->Wd,map_replicate->Wg,foldl_append->Wr,getElem?_set->Ws,getElem_take->Wx,any_map->WD,map_set->WG,countP_cons->WK,ext_getElem->WO,take_append->WP,zipIdx_nil->J1,length_zip->J3,filter->J5,drop_zero->J7,count_set->J8,forIn_nil->J9,range_add->Jb,Perm->JF
open PySem renaming wpAny_bind->j4,Value->ja,starEach->jb,Shared->jc,wpAny_pure->je,sizeLine->jh,wpAny->jH,Program->jK,model->jM,mainGlobals->jV,FuncData->Q9,wpAny_mono->Qg,behindInMarks->Qi,World->Qj,assignEach->Qn,wpAny_holding->Qq,foldedSetIterable->Qy,Around->Qz,backTo->QB,bootBuiltins->QK,wpAny_typeNameOfWhole_keyiter->Z6,sysModules->Z9,compareOp->Zg,wpAny_setField_rec->Zh,wpAny_passesOwn->Zl,wpAny_comprehension_free->Zn,wpAny_typeNameOf_keyiter->Zs,IsPair->Zv,mem_of_lookup->Zx,wpAny_getItem_str_slice->Zy,wpAny_callSpecial?_slot->Zz,wpAny_call_entry->ZE,cLine->ZH,letOwnedTupleGo->ZL,wpAny_nextOf_list_end->ZP,wpAny_standAt->ZR,wpAny_newObj_type->ZT,swapsWith->ZV,wpAny_seqItems->ZZ,wpAny_letOwnedTupleGo_zip->ga,wpAny_pyIter_zip->gd,wpAny_field->gg,tupleKind_room_in1->gk,wpAny_truthy_bool->gv,wpAny_pyIter_list->gx,sizeLine_eq->gy,sliceBounds->gz,assign->gF,wpAny_updateSeq_pair->gV,Scope->gX,binaryOp->gY,bindArgs->gZ,wpAny_execs_nil->Y4,holding->Y5,post_val_or_str->Ya,scanBound->Yd,wpAny_setEntries_of->Ye,codeAny_mono->Yl,wpAny_Call_Name_kw->Ym,codeAny->Yt,wpAny_assign_Name->YA,slot_list_getitem->YC,wpAny_getItem_list_slice->YD,wpAny_setState_of->YH,wpAny_dictEntries->YK,NameKind->YS,attributeBase->YU,wpAny_onRaise->N0,wpAny_askSetting->N2,wpAny_isInstance->N3,wpAny_pyNext_list_item->N6,wpAny_isTrue_Compare1->Nd,wpAny_pyNext_list_end->Nf,exec_Assign_Name_used->Nj,codeAny_builtin->No,wpAny_setAddHashed_of->Np,wpAny_dictEpoch->Nq,wpAny_isOneOf_keyiter->Nr,IsZip->Nu,wpAny_loadName_local->NG,wpAny_newFunctionEnv->NH,pyNext->NL,wpAny_loadName_cell->NP,subscripted->NQ,callerA->NR,tupleKind->NY,GenState->NZ,PassesOwn->W0,rawInt->W1,evalPart_none->W3,wpAny_forIn_array'->W9,setWalkUnseen->Wa,BindsTo->Wj,PlainAttrs->Wm,call_meets->Wn,valueAt->Wo,call->Wp,wpAny_pyIter_enum->Wq,Builtin->Wt,wpAny_setEpoch_of->Wu,seqIndex_neg->Wy,compEnvC->WQ,SetTable->WT,isTrue->WV,cellsFrom->WW,getItem->WX,seqIndex_of->WY,wpAny_letGo->J2,boot_len->Ja,builtinsNs->Je,wpAny_Name->Jf,Result->Jg,typeIs_str->Jh,wpAny_rule->Ji,Operator->Jl,standAt->Jm,relabel->Jp,compPost->Jr,Paired->Jy,Within->Jz,again->JB,bindL->JC,bindC->JD,atKey->JE,Draws->JG
open Option renaming bind_some->j5,map_some->jo,isSome_map->gA,isSome_iff_exists->YB,toList_some->W8,getD_none->WI
open PySem.Heap renaming get?_push_of_some->j7,lt_size->jg,get?_push_size->jw,SameBut->Q8,size_push->QQ,ExtBut->Yb,get?_update_other->N9,get?_update_self->Ni
open PySem.W renaming Frag->j8,keepIn->jX,fnOf->Qo,mg_none_of->Qu,kia_one->QF,nsIn->QZ,codeIn->ZY,OpenLaw->Y7,methodObj->Yz,cellsFrom_some->N7,instObj->Nc,lookIn->NM,kitOne->NN,kitx_list->Wh,kitx_dict->Wi,plainGet->WH,findIn->J6,WalkO->Jo,mg_of->Jv
open Option.some renaming inj->jd
open Nat renaming le_refl->jl,ne_of_lt->jB,lt_of_lt_of_le->jT,mod_two_eq_zero_or_one->Q3,lt_irrefl->Q4,le_trans->Q5,zero_add->Z5,le_of_lt->Z8,lt_succ_of_lt->Za,zero_le->Zj,ne_of_gt->Zt,lt_succ_self->gc,lt_trichotomy->gC,lt_or_ge->gJ,le_succ->Y9,not_lt_zero->Yc,min_eq_left->Yh,lt_of_le_of_lt->W6,pos_of_ne_zero->We,le_succ_of_le->Ww,lt_trans->Wz,le_of_not_lt->WJ,le_add_right->WN,le_antisymm->J0,succ->JN
open Bool renaming false_ne_true->jr,and_eq_true->jI,false_eq_true->QC,or_eq_true->Z4,eq_iff_iff->ZM,false_and->Ys,and_false->Yu,false_or->W5,not_true->Jt,true_and->Jw,and_comm->Jx
open Or renaming inl->jE,inr->YF
open PySem.F renaming plainAttrs_list->jL,slot_list_append->Qd,type_list_append->Qe,slot_dict_keyiterator_next->QP,called_set->ZN,args_dict_keyiterator_next_1->gH,slot_list_pop->gL,type_list_pop->gM,entry_dict_keyiterator_next->gR,slot_zip_next->Yg,args_zip_next_1->Wv,slot_dict_iter->WL,entry_zip_next->WM
open PySem.PassesOwn renaming never->jO
open PySem.Str renaming empty->jS,ofString->Zu
open PySem.Builtin.SmallTypes renaming nextOf->jY,ownedTupleIsFree->QJ,ownedTupleHandOut->g9
open ForInStep renaming yield->Qc
open PySem.Value renaming ref->Qp,isStrOf->QR,str->ZA,none->gu,notImplemented->NK,int->WU,bool->Jc,type->Jd,isInt->JH,float->JJ
open PySem.NameKind renaming free->Qr,cell->Jq
open Int renaming toNat_natCast->QN,toNat_of_nonneg->Yj,emod_lt_of_pos->Yq,emod_eq_of_lt->YN,zero_add->Nx,emod_nonneg->NB,natCast_add->J4
open PyProof.Rows renaming callWith_type1->QU,envOfC->Y6,AllBare->YQ,subscriptTail->YT,subscriptTail_builtinR->N8,boot_zip->Nw,Subscript_->Wk,IntsAre->WZ
open Array renaming length_toList->Z0,getElem?_eq_none->Ze,toList->JA
open Sum renaming inr->Z2,inl->NO
open PySem.Builtin.Frozenset renaming unchanged->Zc,isAnySet->ZU,addrOf->YJ,slot1->YZ,intersection->WC,updateFrom->WS,baseOf->Jj,sizeOf->Jk
open Ne renaming symm->Zi
open List.Pairwise renaming imp_of_mem->Zp,nil->YE,sublist->Nk,imp->JQ
open Fin renaming mul_zero->Zw,zero_mul->gK,add_zero->WE,mul_comm->WF
open Classical renaming choose->ZF,byContradiction->gb,choose_spec->NA
open Sum.inr renaming inj->ZK
open False renaming elim->ZQ
open True renaming intro->ZS
open PySem.Data renaming cell->ZW,fields->YR,seq->ND
open PySem.Builtin.List renaming listTooLong->gh
open PyProof.Rows.F renaming plain_set_update_loop->gs,entry_set_update_loop->YY
open PySem.Draws renaming list->gB
open PySem.Challenge renaming pw_drawnword_k19_drawings_belong_to_words_w->gD
open PySem.Builtin.Dict_items renaming ownsTuple->Y1
open PySem.Heap.SameBut renaming update->Yf
open PySem.Calls renaming Name_function_global->Yk,callWith_builtin->Na
open Decidable renaming byContradiction->Yx
open PySem.Heap.SetOf renaming typeIs->YI
open PySem.Paired renaming length->YO,snoc->JL
open List.Perm renaming append_left->Nl
open PySem.Builtin.Dict renaming showsAll->Nt
open PySem.Obj renaming mapSeq->NC,data_mapFields->Wb,mapFields->Ju
open PUnit renaming unit->NE
open PySem.Around renaming under_plainId->NJ
open PySem.SeqAt.EqAt renaming int_str->NW,str_int->NX
open PySem.Heap.IsSliceOf renaming new->W4
open PySem.Txt renaming slice->W7,join->WR
open Nat.succ renaming inj->WA
open PySem.pickOrder renaming go->WB
open PySem.Builtin.Range renaming rangeSize->Jn
open PySem.Shared renaming TypeIs->Js,heap->JM
open Sum.inl renaming inj->JI
open PySem.CmpOp renaming NotIn->JK
open Prod renaming snd->JO
open PySem.W.WShape renaming has->JP
set_option Elab.async false
set_option linter.all false
set_option maxRecDepth 100000
theorem Qb{α β:Type _}{x:Option α}{f:α->Option β}{b:β}(h:x.bind f=some b):∃ a,x=some a/\f a=some b:=Option.bind_eq_some_iff.mp h
theorem Qm{α β:Type _}{x:Option α}{f:α->β}{b:β}(h:x.map f=some b):∃ a,x=some a/\f a=b:=Option.map_eq_some_iff.mp h
namespace L2
open PySem PySem.Spec PyProof.Rows
abbrev Key:=Sum Int Str
def zjw:Key->ja->Bool
 |.inl k,v=>JH k v
 |.inr x,v=>QR x v
def zxG(w:Qj):Key->Int
 |.inl k=>hashInt k
 |.inr x=>hashStr w x
theorem zaF:∀ {k:Key} {v:ja},zjw k v=true->(∃ i t,k=NO i/\v=WU i t)∨(∃ x t,k=Z2 x/\v=ZA x t)
 |.inl i,v,h=>by
  obtain⟨t,e⟩:=Value.isInt_shape (k:=i) (v:=v) h;exact .inl ⟨i,t,rfl,e⟩
 |.inr x,v,h=>by
  obtain⟨t,e⟩:=Value.isStrOf_shape (x:=x) (v:=v) h;exact .inr ⟨x,t,rfl,e⟩
theorem zmD(i:Int)(t:Tok):zjw (.inl i) (.int i t)=true:=by simp[zjw,JH]
theorem zmC(x:Str)(t:Tok):zjw (.inr x) (.str x t)=true:=by simp[zjw,QR]
theorem zsS(a b:Int):decide ((NO a:Key)=NO b)=(a == b):=by
 by_cases e:a=b
 ·subst e; simp
 ·have h:¬ (NO a:Key)=NO b:=fun q=>e (JI q);rw[decide_eq_false h];exact(beq_eq_false_iff_ne.mpr e).symm
theorem zsP(a b:Str):decide ((Z2 a:Key)=Z2 b)=decide (a=b):=by
 by_cases e:a=b
 ·subst e; simp
 ·have h:¬ (Z2 a:Key)=Z2 b:=fun q=>e (ZK q);rw[decide_eq_false h,decide_eq_false e]
theorem zsR(a:Int)(b:Str):decide ((NO a:Key)=Z2 b)=false:=decide_eq_false (fun q=>nomatch q)
theorem zsQ(a:Str)(b:Int):decide ((Z2 a:Key)=NO b)=false:=decide_eq_false (fun q=>nomatch q)
def zaz(prog:jK)(w:Qj):PySem.KeyKind prog w Key where
 is:=zjw
 hash:=zxG w
 inj:=fun v a b ha hb=>by
  rcases zaF ha with ⟨i,t,rfl,rfl⟩ |⟨x,t,rfl,rfl⟩
  ·rcases zaF hb with ⟨j,u,rfl,e⟩ |⟨y,u,rfl,e⟩
   ·injection e with e1 _; rw[e1]
   ·exact nomatch e
  ·rcases zaF hb with ⟨j,u,rfl,e⟩ |⟨y,u,rfl,e⟩
   ·exact nomatch e
   ·injection e with e1 _; rw[e1]
 byValue:=fun k v h=>by
  rcases zaF h with ⟨i,t,rfl,rfl⟩ |⟨x,t,rfl,rfl⟩<;>rfl
 pyHash:=fun hv h=>by
  rcases zaF hv with ⟨i,t,rfl,rfl⟩ |⟨x,t,rfl,rfl⟩
  ·exact wpAny_pyHash_int h
  ·exact wpAny_pyHash_str h
 eqBool:=fun hu hv h=>by
  rcases zaF hu with ⟨i,t,rfl,rfl⟩ |⟨x,t,rfl,rfl⟩
  ·rcases zaF hv with ⟨j,u,rfl,rfl⟩ |⟨y,u,rfl,rfl⟩
   ·rw[zsS] at h; exact wpAny_eqBool_int h
   ·rw[zsR] at h; exact NW i t y u _ _ _ _ h
  ·rcases zaF hv with ⟨j,u,rfl,rfl⟩ |⟨y,u,rfl,rfl⟩
   ·rw[zsQ] at h; exact NX x t j u _ _ _ _ h
   ·rw[zsP] at h; exact wpAny_eqBool_str h
 «strs»:=fun k x t v h=>by
  rcases zaF h with ⟨i,u,rfl,e⟩ |⟨y,u,rfl,e⟩
  ·exact nomatch e
  ·injection e with e1 _;subst e1;cases v<;>rfl
theorem zjr(prog:jK)(w:Qj)(i:Int)(t:Tok):(zaz prog w).is (.inl i) (.int i t)=true:=zmD i t
theorem zjq(prog:jK)(w:Qj)(x:Str)(t:Tok):(zaz prog w).is (.inr x) (.str x t)=true:=zmC x t
inductive V where
 |non |bl (b:Bool) |int (i:Int) |str (x:Str) |byt (b:Array UInt8) |flt (b:UInt64) |ref (a:Addr) |ty (n:String)
 deriving DecidableEq
def RelV:V->ja->Prop
 |.non,u=>u=gu
 |.bl b,u=>u=Jc b
 |.int i,u=>∃ t,u=WU i t
 |.str x,u=>∃ t,u=ZA x t
 |.byt b,u=>∃ t,u=Value.bytes b t
 |.flt b,u=>∃ t,u=JJ b t
 |.ref a,u=>u=Qp a
 |.ty n,u=>u=Jd n
abbrev Vals:List V->List ja->Prop:=Jy RelV
theorem Vals.length{xs:List V}{us:List ja}(r:Vals xs us):xs.length=us.length:=YO r
theorem Vals.get:∀ {xs:List V} {us:List ja} {i:Nat} {x:V},Vals xs us->xs[i]?=some x->∃ u,us[i]?=some u/\RelV x u
 |_,_,_,_,.nil,e=>by simp at e
 |_,_,0,_,.cons r _,e=>by simp at e; subst e; exact⟨_,rfl,r⟩
 |_,_,i+1,x,.cons _ t,e=>by
  obtain⟨u,h1,h2⟩:=Vals.get (i:=i) (x:=x) t (by simpa using e)
  exact⟨u,by simpa using h1,h2⟩
theorem Vals.set{x:V}{u:ja}(r:RelV x u):∀ {xs:List V} {us:List ja} (i:Nat),Vals xs us->Vals (xs.set i x) (us.set i u)
 |_,_,_,.nil=>.nil
 |_,_,0,.cons _ t=>.cons r t
 |_,_,i+1,.cons q t=>.cons q (Vals.set r i t)
theorem Vals.append:∀ {xs ys:List V} {us ws:List ja},Vals xs us->Vals ys ws->Vals (xs++ys) (us++ws)
 |_,_,_,_,.nil,s=>s
 |_,_,_,_,.cons r t,s=>.cons r (Vals.append t s)
theorem Vals.take:∀ {xs:List V} {us:List ja} (n:Nat),Vals xs us->Vals (xs.take n) (us.take n)
 |_,_,0,_=>.nil
 |_,_,_+1,.nil=>.nil
 |_,_,n+1,.cons r t=>.cons r (Vals.take n t)
theorem Vals.drop:∀ {xs:List V} {us:List ja} (n:Nat),Vals xs us->Vals (xs.drop n) (us.drop n)
 |_,_,0,r=>r
 |_,_,_+1,.nil=>.nil
 |_,_,n+1,.cons _ t=>Vals.drop n t
def RelO:Option V->Option ja->Prop
 |some v,some u=>RelV v u
 |none,none=>True
 |_,_=>False
def KV{κ:Type}:List (κ × V)->List (κ × ja)->Prop:=Jy fun(p:κ × V) (q:κ × ja)=>p.1=q.1/\RelV p.2 q.2
def kV:Key->V
 |.inl i=>.int i
 |.inr x=>.str x
inductive HO where
 /-- a list -/
 |lst (xs:List V)
 /-- a tuple (never changes) -/
 |tup (xs:List V)
 /-- a dict whose keys are ints and texts; one whose keys are tuples of ints and texts (the empty one is both) -/
 |dK (kvs:List (Key × V)) |dT (kvs:List (List Key × V))
 /-- a set of ints: its members,its size -/
 |set (S:Int->Bool) (n:Nat)
 /-- an instance of the class at C,its dict at dx,its attributes -/
 |ins (C dx:Addr) (fs:List (Str × V))
 /-- the dict of the instance at x -/
 |own (x:Addr)
 /-- the dict of an exception -/
 |xd (fs:List (Str × V))
 /-- a bound method,f of x -/
 |met (f x:Addr)
 /-- a range object lo,lo+1,.. below hi -/
 |rng (lo hi:Int)
 /-- a thing that is known to the object (the script; a dict while a loop walks it): read,never written while it is so -/
 |frz (o:Obj) (u:HO)
 /-- a code object's table -/
 |tbl (ps:Array ja)
 /-- any other thing,by what is true of its one object (a def of one's own: SetO a S n:=HO.ext fun h=>..) -/
 |ext (φ:Heap->Prop)
abbrev Hp:=Addr->Option HO
def upd(H:Hp)(a:Addr)(o:HO):Hp:=fun b=>if b=a then some o else H b
theorem zae{H:Hp}{a:Addr}{o:HO}:upd H a o a=some o:=by unfold upd; rw[if_pos rfl]
theorem za5{H:Hp}{a b:Addr}{o:HO}(h:b≠a):upd H a o b=H b:=by unfold upd; rw[if_neg h]
theorem zvd{H:Hp}{a b:Addr}{o u:HO}(h:H a=some o)(h':H b=some u)(d:o≠u):a≠b:=by
 intro e; subst e; rw[h] at h'; exact d (jd h')
theorem za6{H:Hp}{a b:Addr}{o:HO}(h:H a=some o)(h':H b=none):a≠b:=by
 intro e; subst e; rw[h] at h'; cases h'
section
variable (P:jK)(w:Qj)
def ObjOk(H:Hp)(h:Heap)(a:Addr):HO->Prop
 |.lst xs=>xs.length<=jh/\∃(its:List ja) (n:Nat),Vals xs its/\h.get? a=some { cls:=.type "list",data:=.seq its.toArray n }
 |.tup xs=>xs.length<=jh/\∃ its:List ja,Vals xs its/\IsTup h a its.toArray
 |.dK kvs=>kvs.length<=jh/\(a == Z9)=false/\∃ vs,KV kvs vs/\h.DictOf (zaz P w) a vs
 |.dT kvs=>kvs.length<=jh/\(a == Z9)=false/\∃ xs:List (List Key × Addr × ja),
   Jy (fun(p:List Key × V) (q:List Key × Addr × ja)=>p.1=q.1/\H q.2.1=some (.tup (p.1.map kV))/\RelV p.2 q.2.2) kvs xs /\
   ∃ o es ep,h.get? a=some o/\o.ExactDict/\o.data=.dict es ep/\es.toList=xs.map (entryOfKey (NY (zaz P w)))/\(xs.map (·.1)).Nodup
 |.set S n=>h.SetOf (intKind P w) a S n
 |.ins C dx fs=>H dx=some (.own a)/\fs.length<=1000/\dx≠a/\h.get? a=some (Nc C dx) /\
   ∃ mA,h.Ns1 dx mA/\(∀ f,RelO (fs.lookup f) (mA f))/\Jz mA (fs.map (·.1))
 |.own _=>∃ o,h.get? a=some o
 |.xd fs=>∃ mA,h.Ns1 a mA/\∀ f,RelO (fs.lookup f) (mA f)
 |.rng lo hi=>∃ t u v,h.get? a=some { cls:=.type "range",data:=.fields #[.int lo t,.int hi u,.int 1 v] }
 |.frz o u=>h.get? a=some o/\ObjOk H h a u
 |.tbl ps=>h.get? a=some { cls:=.none,data:=.fields ps }
 |.met f x=>h.get? a=some (Yz (.ref f) (.ref x))
 |.ext φ=>φ h/\(∃ o,h.get? a=some o)/\∀ h1 h2:Heap,φ h1->(∀ o,h1.get? a=some o->h2.get? a=some o)->φ h2
def HOk(H:Hp)(h:Heap):Prop:=∀ a o,H a=some o->ObjOk P w H h a o
end
section
variable {P:jK}{w:Qj}{H H':Hp}{h h':Heap}{a:Addr}{o:HO}
theorem ObjOk.lt(x:ObjOk P w H h a o):a < h.objs.size:=by
 cases o with
 |lst xs=>obtain⟨_,_,_,_,e⟩:=x; exact jg e
 |tup xs=>obtain⟨_,_,_,p⟩:=x; exact p.lt
 |dK kvs=>obtain⟨_,_,_,_,o,_,_,e,_⟩:=x; exact jg e
 |dT kvs=>obtain⟨_,_,_,_,o,_,_,e,_⟩:=x; exact jg e
 |set S n=>obtain⟨o,_,_,_,e,_⟩:=x; exact jg e
 |ins C dx fs=>obtain⟨_,_,_,e,_⟩:=x; exact jg e
 |own y=>obtain⟨_,e⟩:=x; exact jg e
 |xd fs=>obtain⟨_,⟨_,_,_,e,_⟩,_⟩:=x; exact jg e
 |rng lo hi=>obtain⟨_,_,_,e⟩:=x; exact jg e
 |frz ob u=>obtain⟨e,_⟩:=x; exact jg e
 |tbl ps=>exact jg (show h.get? a=some _ from x)
 |met f y=>exact jg (show h.get? a=some _ from x)
 |ext φ=>obtain⟨_,⟨_,e⟩,_⟩:=x; exact jg e
theorem Paired.mapP{α β:Type}{F G:α->β->Prop}:∀ {l₁:List α} {l₂:List β},Jy F l₁ l₂->(∀ a b,F a b->G a b)->Jy G l₁ l₂
 |_,_,.nil,_=>.nil
 |_,_,.cons r t,f=>.cons (f _ _ r) (Paired.mapP t f)
theorem ObjOk.stay(x:ObjOk P w H h a o)(k:∀ b u,(b=a∨H b=some (.own a))->h.get? b=some u->h'.get? b=some u)
  (ho:∀ b,H b=some (.own a)->H' b=some (.own a)) (ht:∀ b xs,H b=some (.tup xs)->H' b=some (.tup xs)):ObjOk P w H' h' a o:=by
 induction o with
 |lst xs=>obtain⟨z,its,n,r,e⟩:=x; exact⟨z,its,n,r,k _ _ (.inl rfl) e⟩
 |tup xs=>obtain⟨z,its,r,ob,e,c⟩:=x; exact⟨z,its,r,ob,k _ _ (.inl rfl) e,c⟩
 |dK kvs=>obtain⟨z,y,vs,r,ob,es,ep,e,c⟩:=x; exact⟨z,y,vs,r,ob,es,ep,k _ _ (.inl rfl) e,c⟩
 |dT kvs=>
  obtain⟨z,y,xs,r,ob,es,ep,e,c⟩:=x;exact⟨z,y,xs,Paired.mapP r fun p q z=>⟨z.1,ht _ _ z.2.1,z.2.2⟩,ob,es,ep,k _ _ (.inl rfl) e,c⟩
 |set S n=>obtain⟨ob,es,ep,t,e,c⟩:=x; exact⟨ob,es,ep,t,k _ _ (.inl rfl) e,c⟩
 |ins C dx fs=>
  obtain⟨d,z,ne,e,mA,⟨od,es,ep,e2,c⟩,r⟩:=x;exact⟨ho _ d,z,ne,k _ _ (.inl rfl) e,mA,⟨od,es,ep,k _ _ (.inr d) e2,c⟩,r⟩
 |own y=>obtain⟨ob,e⟩:=x; exact⟨ob,k _ _ (.inl rfl) e⟩
 |xd fs=>obtain⟨mA,⟨od,es,ep,e,c⟩,r⟩:=x; exact⟨mA,⟨od,es,ep,k _ _ (.inl rfl) e,c⟩,r⟩
 |rng lo hi=>obtain⟨t,u,v,e⟩:=x; exact⟨t,u,v,k _ _ (.inl rfl) e⟩
 |frz ob u ih=>obtain⟨e,q⟩:=x; exact⟨k _ _ (.inl rfl) e,ih q⟩
 |tbl ps=>
  have e:h.get? a=some { cls:=.none,data:=.fields ps }:=x;show h'.get? a=some { cls:=.none,data:=.fields ps };exact k a _ (.inl rfl) e
 |met f y=>
  have e:h.get? a=some (Yz (.ref f) (.ref y)):=x;show h'.get? a=some (Yz (.ref f) (.ref y));exact k a _ (.inl rfl) e
 |ext φ=>obtain⟨p,⟨o,e⟩,st⟩:=x; exact⟨st _ _ p fun o q=>k _ _ (.inl rfl) q,⟨o,k _ _ (.inl rfl) e⟩,st⟩
theorem HOk.lt(x:HOk P w H h)(e:H a=some o):a < h.objs.size:=(x a o e).lt
theorem HOk.fresh(x:HOk P w H h)(e:h.objs.size<=a):H a=none:=by
 cases q:H a with
 |none=>rfl
 |some u=>exact absurd (jT (x.lt q) e) (Q4 _)
theorem HOk.kept(x:HOk P w H h)(k:∀ b u,h.get? b=some u->h'.get? b=some u):HOk P w H h':=fun a o e=>
 (x a o e).stay (fun b u _ q=>k b u q) (fun _ q=>q) fun _ _ q=>q
theorem HOk.laid(x:HOk P w H h)(k:∀ b u,h.get? b=some u->h'.get? b=some u)(hp:h.objs.size<=a)(new:ObjOk P w (upd H a o) h' a o):HOk P w (upd H a o) h':=fun b u e=>by
 have hn:=x.fresh hp
 by_cases hb:b=a
 ·subst hb; rw[zae] at e; cases e; exact new
 ·rw[za5 hb] at e;exact(x b u e).stay (fun c v _ q=>k c v q) (fun c q=>by rw[za5 (za6 q hn)]; exact q) fun c xs q=>by rw[za5 (za6 q hn)]; exact q
end
def Rd(H:Hp)(a:Addr)(u:HO):Prop:=H a=some u∨∃ o,H a=some (.frz o u)
theorem Rd.ok{P:jK}{w:Qj}{H:Hp}{h:Heap}{a:Addr}{u:HO}(r:Rd H a u)(x:HOk P w H h):ObjOk P w H h a u:=by
 rcases r with r |⟨o,r⟩
 ·exact x a u r
 ·obtain⟨_,q⟩:=x a _ r;exact q
def Mut:Option HO->Prop
 |some (.lst _)=>True
 |some (.dK _)=>True
 |some (.dT _)=>True
 |some (.set _ _)=>True
 |some (.ins _ _ _)=>True
 |some (.ext _)=>True
 |_=>False
section
variable {P:jK}{w:Qj}{H:Hp}{h h':Heap}{x e:Addr}{o':HO}
theorem HOk.write(ok:HOk P w H h)(mu:Mut (H x))(he:e=x∨H e=some (.own x))(k:∀ b u,b≠e->h.get? b=some u->h'.get? b=some u)(heo:∃ u,h'.get? e=some u)
  (new:ObjOk P w (upd H x o') h' x o'):HOk P w (upd H x o') h':=fun b u q=>by
 have nown:∀ c y,H c=some (.own y)->c≠x:=fun c y r z=>by subst z; rw[r] at mu; exact mu
 have ntup:∀ c xs,H c=some (.tup xs)->c≠x:=fun c xs r z=>by subst z; rw[r] at mu; exact mu
 by_cases hb:b=x
 ·subst hb; rw[zae] at q; cases q; exact new
 ·rw[za5 hb] at q
  by_cases hbe:b=e
  ·have q':H b=some (.own x):=by
    rcases he with z |z
    ·exact absurd (hbe.trans z) hb
    ·rw[hbe]; exact z
   rw[q] at q'; cases q';obtain⟨v,hv⟩:=heo;exact⟨v,by rw[hbe]; exact hv⟩
  ·refine(ok b u q).stay (fun c v hc r=>k c v ?_ r) (fun c r=>by rw[za5 (nown c b r)]; exact r) fun c xs r=>by rw[za5 (ntup c xs r)]; exact r
   rcases hc with rfl |hc
   ·exact hbe
   ·rintro rfl;rcases he with z |z
    ·exact nown c b hc z
    ·rw[hc] at z; cases z; exact hb rfl
end
structure Un (fs ex:List Addr) (H H':Hp) (h h':Heap):Prop where
 keep:∀ b o,h.get? b=some o->H b=none->b∉fs->b∉ex->h'.get? b=some o
 slot:∀ b o,h.get? b=some o->H b=none->b∈fs->b∉ex->∃ sl,h'.get? b=some { o with slots:=sl }
 free:∀ b o,h.get? b=some o->H b=none->b∉ex->H' b=none
 there:∀ b o,h.get? b=some o->b∉ex->∃ o',h'.get? b=some o'
 tups:∀ b xs,H b=some (.tup xs)->H' b=some (.tup xs)
 frzs:∀ b o u,H b=some (.frz o u)->H' b=some (.frz o u)
 tbls:∀ b ps,H b=some (.tbl ps)->∃ more,H' b=some (.tbl (ps++more))
section
variable {fs fs' ex ex':List Addr}{H H1 H2:Hp}{h h1 h2 h':Heap}{a x e:Addr}{o:HO}
theorem Un.any(u:Un fs ex H H1 h h1){b:Addr}{ob:Obj}(q:h.get? b=some ob)(n:H b=none)(hx:b∉ex):∃ sl,h1.get? b=some { ob with slots:=sl }:=by
 by_cases hb:b∈fs
 ·exact u.slot b ob q n hb hx
 ·exact⟨ob.slots,u.keep b ob q n hb hx⟩
theorem Un.kept(k:∀ b u,h.get? b=some u->h'.get? b=some u):Un fs ex H H h h':=
 ⟨fun b ob q _ _ _=>k b ob q,fun b ob q _ _ _=>⟨ob.slots,k b ob q⟩,fun _ _ _ n _=>n,fun b ob q _=>⟨ob,k b ob q⟩,fun _ _ q=>q,fun _ _ _ q=>q,fun _ ps q=>⟨#[],by rw[q]; simp⟩⟩
theorem Un.refl:Un fs ex H H h h:=Un.kept fun _ _ q=>q
theorem Un.laid(k:∀ b u,h.get? b=some u->h'.get? b=some u)(hp:h.objs.size<=a)(hn:H a=none):Un fs ex H (upd H a o) h h' where
 keep:=fun b u q _ _ _=>k b u q
 slot:=fun b u q _ _ _=>⟨u.slots,k b u q⟩
 free:=fun b u q n _=>by rw[za5 (jB (jT (jg q) hp))]; exact n
 there:=fun b u q _=>⟨u,k b u q⟩
 tups:=fun b xs q=>by rw[za5 (za6 q hn)]; exact q
 frzs:=fun b u xs q=>by rw[za5 (za6 q hn)]; exact q
 tbls:=fun b ps q=>⟨#[],by rw[za5 (za6 q hn),q]; simp⟩
theorem Un.write(mu:Mut (H x))(he:e=x∨H e=some (.own x))(k:∀ b u,b≠e->h.get? b=some u->h'.get? b=some u)(heo:∃ u,h'.get? e=some u):Un fs ex H (upd H x o) h h':=by
 have hx:∀ b,H b=none->b≠x:=fun b n z=>by subst z; rw[n] at mu; exact mu
 have hb:∀ b,H b=none->b≠e:=fun b n z=>by
  subst z;rcases he with r |r
  ·exact hx b n r
  ·rw[n] at r; cases r
 have hm:∀ b u,H b=some u->¬ Mut (some u)->b≠x:=fun b u q nm z=>by subst z; rw[q] at mu; exact nm mu
 refine⟨fun b u q n _ _=>k b u (hb b n) q,fun b u q n _ _=>⟨u.slots,k b u (hb b n) q⟩,fun b u q n _=>by rw[za5 (hx b n)]; exact n,fun b u q _=>?_,
  fun b xs q=>by rw[za5 (hm b _ q fun z=>z)]; exact q,fun b u xs q=>by rw[za5 (hm b _ q fun z=>z)]; exact q,fun b ps q=>⟨#[],by rw[za5 (hm b _ q fun z=>z),q]; simp⟩⟩
 by_cases hbe:b=e
 ·subst hbe; exact heo
 ·exact⟨u,k b u hbe q⟩
end
def trk(h:Heap)(H:Hp):List Addr:=(jf h.objs.size).filter fun a=>(H a).isSome
def zo5(h:Heap)(H:Hp):Heap:=PySem.W.hideAll h (trk h H)
theorem zmK(h:Heap)(H:Hp):(zo5 h H).objs.size=h.objs.size:=PySem.W.hideAll_size _ _
theorem zo4{h:Heap}{H:Hp}{b:Addr}{o:Obj}(e:h.get? b=some o)(n:H b=none):(zo5 h H).get? b=some o:=
 PySem.W.hideAll_get _ e fun hm=>by
  have q:(H b).isSome=true:=(jR.mp hm).2;rw[n] at q; simp at q
theorem zqi{h:Heap}{H:Hp}{b:Addr}{o:Obj}(e:(zo5 h H).get? b=some o):h.get? b=some o/\H b=none:=by
 have e':h.get? b=some o:=PySem.W.of_hideAll (trk h H) e;refine⟨e',?_⟩;cases q:H b with
 |none=>rfl
 |some x=>
  have hm:b∈trk h H:=jR.mpr ⟨jk.mpr (jg e'),by simp[q]⟩
  have z:(zo5 h H).get? b=none:=PySem.W.hideAll_none (trk h H) hm;rw[z] at e; cases e
def zr2(g h:Heap)(L:Addr):List (Addr × Obj):=(jf h.objs.size).filterMap fun a=>if a=L∨(g.get? a).isSome=true then none else (h.get? a).map fun o=>(a,o)
def rest(g h:Heap)(L d:Addr):List (Addr × Obj):=(zr2 g h L).filter fun p=>decide (p.1≠d)
structure Mod (K:j8) (mg:Str->Option ja) (base:Heap):Prop where
 kin:K.In base
 glob:base.Ns jV mg
 blt:∃ mb,base.Ns Je mb/\∀ x:Str,x≠"__name__"->mb x=QK x
 nolimit:base.NoLimit
structure Cx where
 prog:jK
 w:Qj
 K:j8
 mg:Str->Option ja
 base:Heap
 A:Qz
 N:List Str
 s₀:jc
 H₀:Hp
 env:Env
 outer:List Env
 stack:List Env
 ex:List Addr
 fn:Str->Bool
 calm:Bool
 pn:List (Addr × Obj)
 xe:ja->jc->Prop
def frs(l:List Env):List Addr:=l.filterMap (·.frame)
abbrev Cx.fs(X:Cx):List Addr:=frs X.outer
def Vis(sc:gX)(x:Str):Prop:=sc.names.lookup x=some .local∨sc.names.lookup x=some .cell∨sc.names.lookup x=some .free
def Loc(sc:gX)(x:Str):Prop:=sc.names.lookup x=some .local∨sc.names.lookup x=some .cell
def zxW(env:Env)(h:Heap)(m:Str->Option ja)(x:Str)(u:ja):Prop:=
 (env.kindOf x=some .local/\m x=some u)∨((env.kindOf x=some .cell∨env.kindOf x=some .free)/\∃ c,env.cells.lookup x=some c/\h.IsCell c (some u))
structure Cx.Ok (X:Cx):Prop where
 mod:Mod X.K X.mg X.base
 kind:X.env.scope.kind=.function
 glob:X.env.globals=jV
 blt:X.env.builtins=Je
 above:X.s₀.heap.objs.size<=X.env.locals
 inj:∀ x y c,X.env.cells.lookup x=some c->X.env.cells.lookup y=some c->x=y
 has:∀ x,(X.env.kindOf x=some .cell∨X.env.kindOf x=some .free)->∃ c,X.env.cells.lookup x=some c
 cab:∀ x c,X.fn x=true->X.env.cells.lookup x=some c->X.s₀.heap.objs.size<=c
 hd:X.calm=true->X.A.handled=none
 frames:X.A.frames=some X.stack
 stk:X.stack=X.outer∨(X.stack=X.env::X.outer/\X.env.frame=some X.env.locals)
 exf:∀ b∈X.ex,b≠X.env.locals/\∀ x c,X.env.cells.lookup x=some c->c≠b
 bs:∀ b o,X.base.get? b=some o->X.s₀.heap.get? b=some o/\X.H₀ b=none
 bsz:X.base.objs.size<=X.s₀.heap.objs.size
 noex:∀ b o,X.base.get? b=some o->b∉X.ex
 exfs:∀ b∈X.ex,b∉X.fs
 funs:X.s₀.heap.FunFrames X.base X.outer
 frf:∀ b∈X.fs,X.H₀ b=none
structure Inv (X:Cx) (pins:List (Addr × Obj)) (σ:List (Option V)) (H:Hp) (s:jc):Prop where
 ok:X.Ok
 os:s.os=X.s₀.os
 bare:YQ s.gens
 base:Un X.fs X.ex X.H₀ H X.s₀.heap s.heap
 loc:∃ m,s.heap.Ns X.env.locals m/\∀(i:Nat) (x:Str) (v:V),X.N[i]?=some x->σ[i]?=some (some v)->Vis X.env.scope x->∃ u,RelV v u/\zxW X.env s.heap m x u
 cell:∀ x c,X.env.cells.lookup x=some c->∃ v,s.heap.IsCell c v
 free:H X.env.locals=none
 freeC:∀ x c,X.env.cells.lookup x=some c->H c=none
 pin:∀ p∈X.pn++pins,s.heap.get? p.1=some p.2/\H p.1=none/\p.1≠X.env.locals/\p.1∉X.fs/\∀ v,p.2.data≠.cell v
 hok:HOk X.prog X.w H s.heap
 len:σ.length=X.N.length
section
variable {X:Cx}{pins:List (Addr × Obj)}{σ:List (Option V)}{H H':Hp}{s:jc}{h':Heap}
theorem Cx.Ok.nofr(ok:X.Ok){b:Addr}{o:Obj}(e:X.base.get? b=some o):b∉X.fs:=fun hb=>by
 have:=(ok.funs.mem hb).1;rw[e] at this; cases this
theorem Inv.bs(I:Inv X pins σ H s):∀ b o,X.base.get? b=some o->s.heap.get? b=some o/\H b=none:=fun b o e=>
 ⟨I.base.keep b o (I.ok.bs b o e).1 (I.ok.bs b o e).2 (I.ok.nofr e) (I.ok.noex b o e),I.base.free b o (I.ok.bs b o e).1 (I.ok.bs b o e).2 (I.ok.noex b o e)⟩
theorem Inv.bk(I:Inv X pins σ H s):∀ b o,X.base.get? b=some o->s.heap.get? b=some o:=fun b o e=>(I.bs b o e).1
theorem Inv.mod(I:Inv X pins σ H s):Mod X.K X.mg X.base:=I.ok.mod
theorem Inv.kIn(I:Inv X pins σ H s):X.K.In s.heap:=I.ok.mod.kin.keeps I.bk
theorem Inv.lt(I:Inv X pins σ H s):X.env.locals < s.heap.objs.size:=let ⟨_,hn,_⟩:=I.loc; hn.lt
theorem Inv.sz(I:Inv X pins σ H s):X.s₀.heap.objs.size<=s.heap.objs.size:=Q5 I.ok.above (Z8 I.lt)
theorem Inv.nofs(I:Inv X pins σ H s){a:Addr}(h:s.heap.objs.size<=a):a∉X.fs:=fun hb=>by
 obtain⟨_,o,ho,_⟩:=I.ok.funs.mem hb;exact absurd (jT (jg ho) (Q5 I.sz h)) (Q4 _)
theorem Inv.cne(I:Inv X pins σ H s):∀ x c,X.env.cells.lookup x=some c->c≠X.env.locals:=fun x c e z=>by
 obtain⟨v,o,ho,hd⟩:=I.cell x c e;obtain⟨m,⟨o',es,ep,ho',hd',_⟩,_⟩:=I.loc;rw[z,ho'] at ho; cases ho; rw[hd'] at hd; cases hd
theorem Inv.funs(I:Inv X pins σ H s):s.heap.FunFrames X.base X.outer:=by
 have all:∀(l:List Env),(∀ b∈frs l,b∈X.fs)->X.s₀.heap.FunFrames X.base l->s.heap.FunFrames X.base l:=by
  intro l
  induction l with
  |nil=>intro _ _; trivial
  |cons env r ih=>
   intro hs hl;obtain⟨hk,⟨L,o,hf,hn,ho,hd⟩,hr⟩:=hl;have hL:L∈X.fs:=hs L (by unfold frs; rw[Y3,hf]; exact Q0)
   obtain⟨sl,e⟩:=I.base.slot L o ho (I.ok.frf L hL) hL fun z=>I.ok.exfs L z hL;exact⟨hk,⟨L,_,hf,hn,e,hd⟩,ih (fun b hb=>hs b (by unfold frs; rw[Y3,hf]; exact jF _ hb)) hr⟩
 exact all X.outer (fun _ hb=>hb) I.ok.funs
theorem Inv.stack(I:Inv X pins σ H s):s.heap.FunFrames X.base X.stack:=by
 rcases I.ok.stk with e |⟨e,hf⟩
 ·rw[e]; exact I.funs
 ·rw[e];obtain⟨m,hn,_⟩:=I.loc;refine .cons (by rw[I.ok.kind]; decide) hf hn ?_ I.funs
  exact Heap.get?_none_of_le (Q5 I.ok.bsz I.ok.above)
theorem Inv.stkSub(I:Inv X pins σ H s):∀ b∈frs X.stack,b∈X.env.locals::X.fs:=fun b hb=>by
 rcases I.ok.stk with e |⟨e,hf⟩
 ·rw[e] at hb; exact jF _ hb
 ·rw[e] at hb;unfold frs at hb;rw[Y3,hf] at hb;exact hb
theorem Inv.stkFree(I:Inv X pins σ H s):∀ b∈frs X.stack,H b=none:=fun b hb=>by
 rcases jq.mp (I.stkSub b hb) with e |hb
 ·rw[e]; exact I.free
 ·obtain⟨_,o,ho,_⟩:=I.ok.funs.mem hb;exact I.base.free b o ho (I.ok.frf b hb) fun z=>I.ok.exfs b z hb
theorem Inv.step{g':Array NZ}{t':Nat}{d':Drawn}{ch:List Addr}(I:Inv X pins σ H s)
  (hch:∀ b∈ch,(b∈X.ex∨X.s₀.heap.objs.size<=b)/\b≠X.env.locals/\(∀ x c,X.env.cells.lookup x=some c->c≠b)/\∀ p∈X.pn++pins,p.1≠b)
  (keep:∀ b o,b≠X.env.locals->b∉X.fs->b∉ch->s.heap.get? b=some o->H b=none->h'.get? b=some o)
  (slot:∀ b o,b≠X.env.locals->b∈X.fs->b∉ch->s.heap.get? b=some o->H b=none->∃ sl,h'.get? b=some { o with slots:=sl }) (free:∀ b o,b∉ch->s.heap.get? b=some o->H b=none->H' b=none)
  (there:∀ b o,b∉ch->s.heap.get? b=some o->∃ o',h'.get? b=some o')
  (tups:∀ b xs,H b=some (.tup xs)->H' b=some (.tup xs)) (frzs:∀ b o u,H b=some (.frz o u)->H' b=some (.frz o u)) (tbls:∀ b ps,H b=some (.tbl ps)->∃ more,H' b=some (.tbl (ps++more)))
  (ns:∀ m,s.heap.Ns X.env.locals m->h'.Ns X.env.locals m) (hok:HOk X.prog X.w H' h') (hg:YQ g') :
  Inv X pins σ H' { s with heap:=h',gens:=g',drawn:=d',toks:=t' }:=by
 have neL:∀ b o,X.s₀.heap.get? b=some o->b≠X.env.locals:=fun b o e=>jB (jT (jg e) I.ok.above);have neC:∀ b o,X.s₀.heap.get? b=some o->b∉X.ex->b∉ch:=fun b o e hx hb=>by
  rcases(hch b hb).1 with z |z
  ·exact hx z
  ·exact absurd (jT (jg e) z) (Q4 _)
 have cellK:∀ x c,X.env.cells.lookup x=some c->∀ v,s.heap.IsCell c v->h'.IsCell c v:=fun x c e v ⟨o,ho,hd⟩=>by
  have nch:c∉ch:=fun z=>(hch c z).2.2.1 x c e rfl
  by_cases hc:c∈X.fs
  ·obtain⟨sl,q⟩:=slot c o (I.cne x c e) hc nch ho (I.freeC x c e);exact⟨_,q,hd⟩
  ·exact⟨o,keep c o (I.cne x c e) hc nch ho (I.freeC x c e),hd⟩
 refine⟨I.ok,I.os,hg,⟨fun b o e n hb hx=>?_,fun b o e n hb hx=>?_,fun b o e n hx=>?_,fun b o e hx=>?_,fun b xs e=>tups b xs (I.base.tups b xs e),fun b o xs e=>frzs b o xs (I.base.frzs b o xs e),fun b ps e=>?_⟩,?_,fun x c e=>?_,?_,fun x c e=>?_,fun p hp=>?_,hok,I.len⟩
 ·exact keep b o (neL b o e) hb (neC b o e hx) (I.base.keep b o e n hb hx) (I.base.free b o e n hx)
 ·obtain⟨sl,e1⟩:=I.base.slot b o e n hb hx;obtain⟨sl',e2⟩:=slot b _ (neL b o e) hb (neC b o e hx) e1 (I.base.free b o e n hx);exact⟨sl',e2⟩
 ·obtain⟨o',e1⟩:=I.base.there b o e hx;exact free b o' (neC b o e hx) e1 (I.base.free b o e n hx)
 ·obtain⟨o',e1⟩:=I.base.there b o e hx;exact there b o' (neC b o e hx) e1
 ·obtain⟨m1,e1⟩:=I.base.tbls b ps e;obtain⟨m2,e2⟩:=tbls b _ e1;exact⟨m1++m2,by rw[e2,Array.append_assoc]⟩
 ·obtain⟨m,hn,hl⟩:=I.loc;refine⟨m,ns m hn,fun i x v e1 e2 e3=>?_⟩;obtain⟨u,r,l⟩:=hl i x v e1 e2 e3;refine⟨u,r,?_⟩;rcases l with l |⟨k,c,e,z⟩
  ·exact .inl l
  ·exact .inr ⟨k,c,e,cellK x c e _ z⟩
 ·obtain⟨v,z⟩:=I.cell x c e;exact⟨v,cellK x c e v z⟩
 ·obtain⟨m,⟨o,_,_,ho,_⟩,_⟩:=I.loc;exact free _ o (fun z=>(hch _ z).2.1 rfl) ho I.free
 ·obtain⟨v,o,ho,hd⟩:=I.cell x c e;exact free c o (fun z=>(hch c z).2.2.1 x c e rfl) ho (I.freeC x c e)
 ·obtain⟨e,n,ne,nf,d⟩:=I.pin p hp;have nch:p.1∉ch:=fun z=>(hch p.1 z).2.2.2 p hp rfl;exact⟨keep p.1 p.2 ne nf nch e n,free p.1 p.2 nch e n,ne,nf,d⟩
theorem Inv.un{t':Nat}(I:Inv X pins σ H s)(u:Un X.fs [] H H' s.heap h')(hok:HOk X.prog X.w H' h'):Inv X pins σ H' { s with heap:=h',toks:=t' }:=by
 obtain⟨m,⟨o,es,ep,ho,r⟩,_⟩:=id I.loc;obtain⟨sl,hL⟩:=u.any ho I.free (by simp)
 exact I.step (g':=s.gens) (d':=s.drawn) (ch:=[]) (fun _ z=>nomatch z) (fun b o _ hb _ e n=>u.keep b o e n hb (by simp)) (fun b o _ hb _ e n=>u.slot b o e n hb (by simp)) (fun b o _ e n=>u.free b o e n (by simp)) (fun b o _ e=>u.there b o e (by simp)) u.tups u.frzs u.tbls (fun m' hm=>by
  obtain⟨o',es',ep',ho',r'⟩:=hm;rw[ho] at ho'; cases ho'
  exact⟨_,es',ep',hL,r'⟩) hok I.bare
theorem Inv.call{g':Array NZ}{t':Nat}{d':Drawn}{ch:List Addr}(I:Inv X pins σ H s)(u:Un (frs X.stack) ch H H' s.heap h')(hok:HOk X.prog X.w H' h')(hg:YQ g')
  (hch:∀ b∈ch,(b∈X.ex∨X.s₀.heap.objs.size<=b)/\b≠X.env.locals/\(∀ x c,X.env.cells.lookup x=some c->c≠b)/\∀ p∈X.pn++pins,p.1≠b) :
  Inv X pins σ H' { s with heap:=h',gens:=g',drawn:=d',toks:=t' }:=by
 obtain⟨m,⟨o,es,ep,ho,r⟩,_⟩:=id I.loc;obtain⟨sl,hL⟩:=u.any ho I.free fun z=>(hch _ z).2.1 rfl
 exact I.step (ch:=ch) hch (fun b o hL hb hc e n=>u.keep b o e n (fun z=>(jq.mp (I.stkSub b z)).elim hL hb) hc) (fun b o _ _ hc e n=>u.any e n hc) (fun b o hc e n=>u.free b o e n hc) (fun b o hc e=>u.there b o e hc) u.tups u.frzs u.tbls (fun m' hm=>by
  obtain⟨o',es',ep',ho',r'⟩:=hm;rw[ho] at ho'; cases ho'
  exact⟨_,es',ep',hL,r'⟩) hok hg
theorem Inv.turned{t':Nat}{it:Addr}(I:Inv X pins σ H s)(k:∀ b o,b≠it->s.heap.get? b=some o->h'.get? b=some o)(hn:H it=none)(hL:it≠X.env.locals)
  (h1:it∈X.ex∨X.s₀.heap.objs.size<=it) (h2:∀ x c,X.env.cells.lookup x=some c->c≠it) (h3:∀ p∈X.pn++pins,p.1≠it):Inv X pins σ H { s with heap:=h',toks:=t' }:=by
 have nit:∀ b u,H b=some u->b≠it:=fun b u e z=>by rw[z,hn] at e; cases e
 refine I.step (g':=s.gens) (d':=s.drawn) (ch:=[it]) (fun b hb=>?_) (fun b o _ _ hc e _=>k b o (fun z=>hc (by simp[z])) e) (fun b o _ _ hc e _=>⟨o.slots,k b o (fun z=>hc (by simp[z])) e⟩) (fun _ _ _ _ n=>n)
  (fun b o hc e=>⟨o,k b o (fun z=>hc (by simp[z])) e⟩) (fun _ _ e=>e) (fun _ _ _ e=>e) (fun b ps e=>⟨#[],by rw[e]; simp⟩) (fun m hm=>?_) (fun b u e=>?_) I.bare
 ·have e:b=it:=by simpa using hb
  subst e;exact⟨h1,hL,h2,h3⟩
 ·obtain⟨o,es,ep,ho,r⟩:=hm;exact⟨o,es,ep,k _ o (Zi hL) ho,r⟩
 ·refine(I.hok b u e).stay (fun c v hc q=>k c v ?_ q) (fun _ q=>q) fun _ _ q=>q;rcases hc with z |z
  ·rw[z]; exact nit b u e
  ·exact nit c _ z
theorem Inv.tok(I:Inv X pins σ H s)(t:Nat):Inv X pins σ H { s with toks:=t }:=I.un (h':=s.heap) (t':=t) Un.refl I.hok
theorem Inv.kept{t':Nat}(I:Inv X pins σ H s)(k:∀ b u,s.heap.get? b=some u->h'.get? b=some u):Inv X pins σ H { s with heap:=h',toks:=t' }:=I.un (Un.kept k) (I.hok.kept k)
theorem Inv.laid{a:Addr}{o:HO}{t':Nat}(I:Inv X pins σ H s)(k:∀ b u,s.heap.get? b=some u->h'.get? b=some u)(hp:s.heap.objs.size<=a)(new:ObjOk X.prog X.w (upd H a o) h' a o) :
  Inv X pins σ (upd H a o) { s with heap:=h',toks:=t' }:=I.un (Un.laid k hp (I.hok.fresh hp)) (I.hok.laid k hp new)
theorem Inv.write{x e:Addr}{o:HO}{t':Nat}(I:Inv X pins σ H s)(mu:Mut (H x))(he:e=x∨H e=some (.own x))(k:∀ b u,b≠e->s.heap.get? b=some u->h'.get? b=some u)(heo:∃ u,h'.get? e=some u)
  (new:ObjOk X.prog X.w (upd H x o) h' x o):Inv X pins σ (upd H x o) { s with heap:=h',toks:=t' }:=I.un (Un.write mu he k heo) (I.hok.write mu he k heo new)
theorem Inv.pins_of{pins':List (Addr × Obj)}(I:Inv X pins σ H s)(h:∀ p∈pins',s.heap.get? p.1=some p.2/\H p.1=none/\p.1≠X.env.locals/\p.1∉X.fs/\∀ v,p.2.data≠.cell v):Inv X pins' σ H s:=
 ⟨I.ok,I.os,I.bare,I.base,I.loc,I.cell,I.free,I.freeC,fun p hp=>(jz.mp hp).elim (fun z=>I.pin p (jv _ z)) (h p),I.hok,I.len⟩
theorem zkm{N:List Str}(hN:N.Nodup){i j:Nat}{x:Str}(a:N[i]?=some x)(b:N[j]?=some x):i=j:=by
 obtain⟨h1,e1⟩:=j9.mp a;obtain⟨h2,e2⟩:=j9.mp b;exact(ZB hN).mp (e1.trans e2.symm)
theorem zfG{M:Model}{A:Qz}{E:ja->jc->Prop}{i:Nat}{x:Str}{v:V}{u:ja}{Q:Unit->jc->Prop}(I:Inv X pins σ H s)(hN:X.N.Nodup)(hi:X.N[i]?=some x)(hx:Loc X.env.scope x)(r:RelV v u)
  (h:∀ s',Inv X pins (σ.set i (some v)) H s'->(∃ a,Q8 a s.heap s'.heap/\(a=X.env.locals∨X.env.cells.lookup x=some a))->Q () s') (hf:X.fn x=true∨X.env.scope.names.lookup x=some .local:=by first |exact .inl rfl |exact .inr rfl |assumption):jH M A (storeName X.env x u) Q E s:=by
 obtain⟨m,hn,hl⟩:=id I.loc;have hcls:(X.env.scope.kind == .class||(X.env.scope.kind == .module&&X.env.locals != X.env.globals))=false:=by rw[I.ok.kind]; rfl
 have hiσ:i < σ.length:=by rw[I.len]; exact(j9.mp hi).1
 have cne:=I.cne;have tracked:∀ {a:Addr} {h':Heap},(∃ o,s.heap.get? a=some o/\H a=none)->Q8 a s.heap h'->HOk X.prog X.w H h':=fun {a h'} ha hs b ob e=>by
  obtain⟨_,_,hfree⟩:=ha;refine(I.hok b ob e).stay (fun c w' hc q=>(hs.2 c ?_).trans q) (fun _ q=>q) fun _ _ q=>q;rintro rfl;rcases hc with rfl |hc
  ·rw[hfree] at e; cases e
  ·rw[hfree] at hc; cases hc
 rcases hx with hk |hk
 ·refine wpAny_storeName_local hk hn (fun h' hn' hs=>?_) hcls;obtain⟨oL,_,_,hoL,_⟩:=id hn;refine h _ ⟨I.ok,I.os,I.bare,⟨fun b o e n hb hx=>?_,fun b o e n hb hx=>?_,I.base.free,fun b o e hx=>?_,I.base.tups,I.base.frzs,I.base.tbls⟩,⟨_,hn',fun j y v' e1 e2 e3=>?_⟩,fun y c e=>?_,I.free,I.freeC,fun p hp=>?_,tracked ⟨oL,hoL,I.free⟩ hs,by simpa using I.len⟩ ⟨_,hs,.inl rfl⟩
  ·exact(hs.2 b (jB (jT (jg e) I.ok.above))).trans (I.base.keep b o e n hb hx)
  ·obtain⟨sl,e1⟩:=I.base.slot b o e n hb hx;exact⟨sl,(hs.2 b (jB (jT (jg e) I.ok.above))).trans e1⟩
  ·obtain⟨o',e1⟩:=I.base.there b o e hx;exact⟨o',(hs.2 b (jB (jT (jg e) I.ok.above))).trans e1⟩
  ·by_cases hj:j=i
   ·subst hj;rw[hi] at e1; cases e1;rw[jP hiσ] at e2;cases e2;exact⟨u,r,.inl ⟨hk,by simp⟩⟩
   ·rw[jn (Zi hj)] at e2;obtain⟨u',r',q⟩:=hl j y v' e1 e2 e3;refine⟨u',r',?_⟩;rcases q with ⟨k,e⟩ |⟨k,c,e,z⟩
    ·refine .inl ⟨k,?_⟩;have:y≠x:=fun e=>hj (zkm hN e1 (e▸hi));simp[this,e]
    ·exact .inr ⟨k,c,e,z.sameBut hs (cne y c e)⟩
  ·obtain⟨w',z⟩:=I.cell y c e;exact⟨w',z.sameBut hs (cne y c e)⟩
  ·obtain⟨e,n,ne,nf,d⟩:=I.pin p hp;exact⟨(hs.2 p.1 ne).trans e,n,ne,nf,d⟩
 ·have hfn:X.fn x=true:=by
   rcases hf with z |z
   ·exact z
   ·rw[z] at hk; cases hk
  obtain⟨c,hc⟩:=I.ok.has x (.inl hk);obtain⟨w',z⟩:=I.cell x c hc;refine wpAny_storeName_cell I.ok.kind hk hc z (fun h' hc' hs=>?_);obtain⟨oc,hoc,hocd⟩:=id z;refine h { s with heap:=h' } ⟨I.ok,I.os,I.bare,⟨fun b o e n hb hx=>?_,fun b o e n hb hx=>?_,I.base.free,fun b o e hx=>?_,I.base.tups,I.base.frzs,I.base.tbls⟩,⟨m,hn.sameBut hs (Zi (cne x c hc)),fun j y v' e1 e2 e3=>?_⟩,fun y c' e=>?_,I.free,I.freeC,fun p hp=>?_,tracked ⟨oc,hoc,I.freeC x c hc⟩ hs,by simpa using I.len⟩ ⟨c,hs,.inr hc⟩
  ·exact(hs.2 b (jB (jT (jg e) (I.ok.cab x c hfn hc)))).trans (I.base.keep b o e n hb hx)
  ·obtain⟨sl,e1⟩:=I.base.slot b o e n hb hx;exact⟨sl,(hs.2 b (jB (jT (jg e) (I.ok.cab x c hfn hc)))).trans e1⟩
  ·obtain⟨o',e1⟩:=I.base.there b o e hx;exact⟨o',(hs.2 b (jB (jT (jg e) (I.ok.cab x c hfn hc)))).trans e1⟩
  ·by_cases hj:j=i
   ·subst hj;rw[hi] at e1; cases e1;rw[jP hiσ] at e2;cases e2;exact⟨u,r,.inr ⟨.inl hk,c,hc,hc'⟩⟩
   ·rw[jn (Zi hj)] at e2;obtain⟨u',r',q⟩:=hl j y v' e1 e2 e3;refine⟨u',r',?_⟩;rcases q with q |⟨k,c',e,z'⟩
    ·exact .inl q
    ·refine .inr ⟨k,c',e,z'.sameBut hs ?_⟩;rintro rfl;exact hj (zkm hN e1 (I.ok.inj _ _ _ e hc▸hi))
  ·by_cases hcc:c'=c
   ·subst hcc; exact⟨_,hc'⟩
   ·obtain⟨w2,z2⟩:=I.cell y c' e;exact⟨w2,z2.sameBut hs hcc⟩
  ·obtain⟨e,n,ne,nf,d⟩:=I.pin p hp;refine⟨(hs.2 p.1 ?_).trans e,n,ne,nf,d⟩;intro q;rw[q,hoc] at e;have q':oc=p.2:=jd e;exact d w' (by rw[<-q']; exact hocd)
theorem zhb{M:Model}{A:Qz}{E:ja->jc->Prop}{i:Nat}{x:Str}{v:V}{u:ja}{Q:Unit->jc->Prop}(I:Inv X pins σ H s)(hN:X.N.Nodup)(hi:X.N[i]?=some x)(hx:Loc X.env.scope x)(r:RelV v u)
  (h:∀ s',Inv X pins (σ.set i (some v)) H s'->Q () s') (hf:X.fn x=true∨X.env.scope.names.lookup x=some .local:=by first |exact .inl rfl |exact .inr rfl |assumption):jH M A (storeName X.env x u) Q E s:=
 zfG I hN hi hx r (fun s' I' _=>h s' I') hf
theorem Inv.call'{s':jc}{ch:List Addr}(I:Inv X pins σ H s)(ho:s'.os=s.os)(u:Un (frs X.stack) ch H H' s.heap s'.heap)(hok:HOk X.prog X.w H' s'.heap)(hg:YQ s'.gens)
  (hch:∀ b∈ch,(b∈X.ex∨X.s₀.heap.objs.size<=b)/\b≠X.env.locals/\(∀ x c,X.env.cells.lookup x=some c->c≠b)/\∀ p∈X.pn++pins,p.1≠b):Inv X pins σ H' s':=by
 obtain⟨h',g',d',t',o'⟩:=s';have e:o'=s.os:=ho;subst e;exact I.call (g':=g') (t':=t') (d':=d') u hok hg hch
end
abbrev XK:=ja->Option Addr->Hp->Prop
abbrev St:=List (Option V)
abbrev VK:=V->Hp->Prop
abbrev TE:=St->Hp->VK->Prop
abbrev TT:=St->Hp->(Bool->Hp->Prop)->Prop
abbrev TA:=St->Hp->(List V->Hp->Prop)->Prop
structure Ends where
 nx:St->Hp->Prop
 rt:VK
 bk:St->Hp->Prop:=fun _ _=>False
 ct:St->Hp->Prop:=fun _ _=>False
abbrev TS:=Ends->St->Hp->Prop
def EP(X:Cx)(pins:List (Addr × Obj))(σ:St)(Q:VK)(u:ja)(s':jc):Prop:=∃ v H',Inv X pins σ H' s'/\RelV v u/\Q v H'
def TP(X:Cx)(pins:List (Addr × Obj))(σ:St)(Q:Bool->Hp->Prop)(b:Bool)(s':jc):Prop:=∃ H',Inv X pins σ H' s'/\Q b H'
def AP(X:Cx)(pins:List (Addr × Obj))(σ:St)(Q:List V->Hp->Prop)(us:List ja)(s':jc):Prop:=∃ vs H',Inv X pins σ H' s'/\Vals vs us/\Q vs H'
def SP(X:Cx)(pins:List (Addr × Obj))(D:Ends)(f:Flow)(s':jc):Prop:=
 match f with
 |.next=>∃ σ' H',Inv X pins σ' H' s'/\D.nx σ' H'
 |.brk=>∃ σ' H',Inv X pins σ' H' s'/\D.bk σ' H'
 |.cont=>∃ σ' H',Inv X pins σ' H' s'/\D.ct σ' H'
 |.ret u=>∃ v σ' H',Inv X pins σ' H' s'/\RelV v u/\D.rt v H'
def PE(X:Cx)(e:Expr)(t:TE):Prop:=
 ∀(pins:List (Addr × Obj)) (s:jc) (σ:St) (H:Hp) (Q:VK),Inv X pins σ H s->t σ H Q->jH (jM X.prog X.w) X.A (eval e X.env) (EP X pins σ Q) X.xe s
def PT(X:Cx)(e:Expr)(t:TT):Prop:=
 ∀(pins:List (Addr × Obj)) (s:jc) (σ:St) (H:Hp) (Q:Bool->Hp->Prop),Inv X pins σ H s->t σ H Q->jH (jM X.prog X.w) X.A (WV e X.env (eval e X.env)) (TP X pins σ Q) X.xe s
def PW(X:Cx)(e:Expr)(t:TT):Prop:=
 ∀(whole:Sem ja) (pins:List (Addr × Obj)) (s:jc) (σ:St) (H:Hp) (Q:Bool->Hp->Prop),Inv X pins σ H s->t σ H Q->jH (jM X.prog X.w) X.A (WV e X.env whole) (TP X pins σ Q) X.xe s
theorem PW.pt{X:Cx}{e:Expr}{t:TT}(h:PW X e t):PT X e t:=h _
def PA(X:Cx)(es:List Expr)(t:TA):Prop:=
 ∀(pos:Pos) (pins:List (Addr × Obj)) (s:jc) (σ:St) (H:Hp) (Q:List V->Hp->Prop),Inv X pins σ H s->t σ H Q->jH (jM X.prog X.w) X.A (spliced (QB pos (jb es X.env))) (AP X pins σ Q) X.xe s
def PS(X:Cx)(st:Stmt)(t:TS):Prop:=
 ∀(pins:List (Addr × Obj)) (s:jc) (σ:St) (H:Hp) (D:Ends),Inv X pins σ H s->t D σ H->jH (jM X.prog X.w) X.A (exec st X.env) (SP X pins D) X.xe s
def PSs(X:Cx)(st:List Stmt)(t:TS):Prop:=
 ∀(pins:List (Addr × Obj)) (s:jc) (σ:St) (H:Hp) (D:Ends),Inv X pins σ H s->t D σ H->jH (jM X.prog X.w) X.A (execs st X.env) (SP X pins D) X.xe s
theorem thn{α:Type}{t:Sem α}{Q Q':α->jc->Prop}{M:Model}{A:Qz}{E:ja->jc->Prop}{s:jc}(h:jH M A t Q E s)(hQ:∀ a s,Q a s->Q' a s):jH M A t Q' E s:=Qg h hQ fun _ _ x=>x
section
variable {X:Cx}
theorem bin{a b:Expr}{ta tb:TE}(ha:PE X a ta)(hb:PE X b tb){pins:List (Addr × Obj)}{s:jc}{σ:St}{H:Hp}{R:V->V->Hp->Prop}(I:Inv X pins σ H s)(h:ta σ H fun x H1=>tb σ H1 fun y H2=>R x y H2)
  {α:Type} {Q:α->jc->Prop} {f:ja->ja->Sem α}
  (hf:∀ v u s2 x y H2,Inv X pins σ H2 s2->RelV x v->RelV y u->R x y H2->jH (jM X.prog X.w) X.A (f v u) Q X.xe s2) :
  jH (jM X.prog X.w) X.A (eval a X.env) (fun v s₁=>jH (jM X.prog X.w) X.A (eval b X.env) (fun u s₂=>jH (jM X.prog X.w) X.A (f v u) Q X.xe s₂) X.xe s₁) X.xe s:=by
 refine thn (ha pins s σ H _ I h) fun v s1 h_=>?_; obtain⟨x,H1,I1,r1,q1⟩:=h_;refine thn (hb pins s1 σ H1 _ I1 q1) fun u s2 h_=>?_; obtain⟨y,H2,I2,r2,q2⟩:=h_;exact hf v u s2 x y H2 I2 r1 r2 q2
def zcT(i:Nat):TE:=fun σ H Q=>∃ v,σ[i]?=some (some v)/\Q v H
def tC(v:V):TE:=fun _ H Q=>Q v H
theorem zso{i:Nat}{x:Str}{pos:Pos}(hN:X.N[i]?=some x)(hv:Vis X.env.scope x)(hd:(x == ("__debug__":Str))=false:=by decide)(hcd:(x == ("__classdict__":Str))=false:=by decide):PE X (.Name x pos) (zcT i):=by
 intro pins s σ H Q I h;obtain⟨v,e,h⟩:=h;obtain⟨m,hn,hl⟩:=I.loc;obtain⟨u,r,l⟩:=hl i x v hN e hv;have fin:EP X pins σ Q u s:=⟨v,H,I,r,h⟩;rcases l with ⟨hk,hm⟩ |⟨hk,c,hc,hcell⟩
 ·exact Jf (NG I.ok.kind hk hn hm fin) hd
 ·rcases hk with hk |hk
  ·exact Jf (NP I.ok.kind hk hc hcell fin) hd
  ·exact Jf (wpAny_loadName_free I.ok.kind hk hc hcell fin hcd) hd
theorem zsv{i j pos}:PE X (.Constant (.int i) j pos) (tC (.int i)):=fun _ _ _ H _ I h=>wpAny_Constant_int ⟨.int i,H,I.tok _,⟨_,rfl⟩,h⟩
theorem zva{b j pos}:PE X (.Constant (.bool b) j pos) (tC (.bl b)):=fun _ _ _ H _ I h=>Constant_bool ⟨.bl b,H,I,rfl,h⟩
theorem zst{j pos}:PE X (.Constant .none j pos) (tC .non):=fun _ _ _ H _ I h=>Constant_none ⟨.non,H,I,rfl,h⟩
theorem zsq{x j pos}:PE X (.Constant (.str x) j pos) (tC (.str x)):=fun _ _ _ H _ I h=>Calls.Constant_str ⟨.str x,H,I.tok _,⟨_,rfl⟩,h⟩
def Gl(X:Cx)(x:Str):Prop:=X.env.kindOf x=some .globalImplicit
theorem zqo{E:ja->jc->Prop}{pins:List (Addr × Obj)}{s:jc}{σ:St}{H:Hp}{x:Str}{u:ja}{pos:Pos}{Q:ja->jc->Prop}(I:Inv X pins σ H s)(hg:Gl X x)(hm:X.mg x=some u)(h:Q u s)
  (hd:(x == ("__debug__":Str))=false:=by decide):jH (jM X.prog X.w) X.A (eval (.Name x pos) X.env) Q E s:=
 Yk I.ok.kind hg (Calls.loadGlobal_global (by rw[I.ok.glob]; exact I.mod.glob.keeps I.bk) hm h) hd
theorem zg9{E:ja->jc->Prop}{pins:List (Addr × Obj)}{s:jc}{σ:St}{H:Hp}{x:Str}{u:ja}{pos:Pos}{Q:ja->jc->Prop}(I:Inv X pins σ H s)(hg:Gl X x)(hm:X.mg x=none)(hv:QK x=some u)(h:Q u s)
  (hn:x≠"__name__":=by decide) (hd:(x == ("__debug__":Str))=false:=by decide):jH (jM X.prog X.w) X.A (eval (.Name x pos) X.env) Q E s:=by
 obtain⟨mb,h1,h2⟩:=I.mod.blt;exact Yk I.ok.kind hg (Calls.loadGlobal_builtin (by rw[I.ok.glob]; exact I.mod.glob.keeps I.bk) hm (by rw[I.ok.blt]; exact h1.keeps I.bk) ((h2 x hn).trans hv) h) hd
theorem zqd{x:Str}{v:V}{u:ja}{pos:Pos}(hg:Gl X x)(hm:X.mg x=none)(hv:QK x=some u)(r:RelV v u)(hn:x≠"__name__":=by decide)(hd:(x == ("__debug__":Str))=false:=by decide):PE X (.Name x pos) (tC v):=
 fun _ _ _ H _ I h=>zg9 I hg hm hv ⟨v,H,I,r,h⟩ hn hd
variable {a b:Expr}{ta tb:TE}{pos:Pos}
def PC(X:Cx)(op:CmpOp)(a b:Expr)(t:TE):Prop:=
 ∀(pins:List (Addr × Obj)) (s:jc) (σ:St) (H:Hp) (Q:VK),Inv X pins σ H s->t σ H Q->
  jH (jM X.prog X.w) X.A (eval a X.env) (fun v s₁=>jH (jM X.prog X.w) X.A (eval b X.env) (fun u s₂=>jH (jM X.prog X.w) X.A (Zg op v u) (EP X pins σ Q) X.xe s₂) X.xe s₁) X.xe s
theorem zkn(b:Expr){op:CmpOp}(h:op≠.In)(h2:op≠.NotIn):Qi op b=false:=by
 have e1:(op == CmpOp.In)=false:=by cases op<;>first |rfl |exact absurd rfl h
 have e2:(op == JK)=false:=by cases op<;>first |rfl |exact absurd rfl h2
 cases b<;>simp[Qi,e1,e2]
def tB(t:TE):TT:=fun σ H Q=>t σ H fun x H1=>∃ c,x=.bl c/\Q c H1
theorem zsw{op:CmpOp}{t:TE}(h:PC X op a b t)(h1:Qi op b=false:=by first |exact zkn _ (by decide) (by decide) |rfl):PE X (.Compare a [op] [b] pos) t:=fun pins s σ H Q I hw=>wpAny_Compare1 (h pins s σ H Q I hw) h1
theorem zoO{op:CmpOp}{t:TE}(h:PC X op a b t)(h1:Qi op b=false:=by first |exact zkn _ (by decide) (by decide) |rfl):PT X (.Compare a [op] [b] pos) (tB t):=by
 intro pins s σ H Q I hw;refine Nd (thn (h pins s σ H _ I hw) fun v s1 h1=>thn h1 fun u s2 h2=>thn h2 fun c s3 ⟨x,H1,I1,r1,q1⟩=>?_) h1;obtain⟨d,rfl,q⟩:=q1;cases r1;exact gv ⟨H1,I1,q⟩
variable {tA tB':TT}{rest:List Expr}
def zxp(t u:TT):TT:=fun σ H Q=>t σ H fun c H1=>if c=true then u σ H1 Q else Q false H1
def tOr(t u:TT):TT:=fun σ H Q=>t σ H fun c H1=>if c=true then Q true H1 else u σ H1 Q
def zxk(t:TT):TT:=fun σ H Q=>t σ H fun c H1=>Q (!c) H1
theorem zq1(ha:PT X a tA):PW X (.BoolOp .And [a] pos) tA:=by
 intro wh pins s σ H Q I h;refine isTrue_and (thn (ha pins s σ H Q I h) fun c s1 e=>?_);cases c with
 |true=>exact isTrue_and_nil e
 |false=>exact e
theorem zsd(ha:PT X a tA):PW X (.BoolOp .Or [a] pos) tA:=by
 intro wh pins s σ H Q I h;refine isTrue_or (thn (ha pins s σ H Q I h) fun c s1 e=>?_);cases c with
 |false=>exact isTrue_or_nil e
 |true=>exact e
theorem zse(ha:PT X a tA)(hb:PW X (.BoolOp .And (b::rest) pos) tB'):PW X (.BoolOp .And (a::b::rest) pos) (zxp tA tB'):=by
 intro wh pins s σ H Q I h;refine isTrue_and (thn (ha pins s σ H _ I h) fun c s1 h_=>?_); obtain⟨H1,I1,q1⟩:=h_;cases c with
 |true=>exact hb wh pins s1 σ H1 Q I1 q1
 |false=>exact⟨H1,I1,q1⟩
theorem zv5(ha:PT X a tA)(hb:PW X (.BoolOp .Or (b::rest) pos) tB'):PW X (.BoolOp .Or (a::b::rest) pos) (tOr tA tB'):=by
 intro wh pins s σ H Q I h;refine isTrue_or (thn (ha pins s σ H _ I h) fun c s1 h_=>?_); obtain⟨H1,I1,q1⟩:=h_;cases c with
 |true=>exact⟨H1,I1,q1⟩
 |false=>exact hb wh pins s1 σ H1 Q I1 q1
theorem zsg(ha:PT X a tA):PT X (.UnaryOp .Not a pos) (zxk tA):=by
 intro pins s σ H Q I h;exact isTrue_not (ha pins s σ H (fun c H1=>Q (!c) H1) I h)
def zuO(ta tb:TE):TE:=fun σ H Q=>ta σ H fun x H1=>∃ c,x=.bl c/\if c=true then tb σ H1 Q else Q (.bl false) H1
theorem zss{op}{t:TE}(h:PE X a t):PE X (.BoolOp op [a] pos) t:=fun pins s σ H Q I hw=>BoolOp_one (h pins s σ H Q I hw)
theorem zsz(ha:PE X a ta)(hb:PE X (.BoolOp .And (b::rest) pos) tb):PE X (.BoolOp .And (a::b::rest) pos) (zuO ta tb):=by
 intro pins s σ H Q I h;refine BoolOp_and (thn (ha pins s σ H _ I h) fun v s1 h_=>?_); obtain⟨x,H1,I1,r1,q1⟩:=h_;obtain⟨c,rfl,q1⟩:=q1;cases r1;refine gv ?_;cases c with
 |true=>exact hb pins s1 σ H1 Q I1 q1
 |false=>exact⟨.bl false,H1,I1,rfl,q1⟩
def tIf(t:TT)(ta tb:TE):TE:=fun σ H Q=>t σ H fun c H1=>if c=true then ta σ H1 Q else tb σ H1 Q
theorem znR{c:Expr}(hc:PT X c tA)(ha:PE X a ta)(hb:PE X b tb):PE X (.IfExp c a b pos) (tIf tA ta tb):=by
 intro pins s σ H Q I h;refine wpAny_IfExp (thn (hc pins s σ H _ I h) fun d s1 h_=>?_); obtain⟨H1,I1,q1⟩:=h_;cases d with
 |true=>exact ha pins s1 σ H1 Q I1 q1
 |false=>exact hb pins s1 σ H1 Q I1 q1
end
def SqL(K:j8)(H:Hp)(a:Addr)(xs:List V):Prop:=
 Rd H a (.lst xs) ∨
  ∃(o:Obj) (its:Array ja) (n:Nat),K.lookup a=some o/\o.cls=.type "list"/\o.dict=none/\o.data=.seq its n/\its.size<=jh/\Vals xs its.toList
def SqT(K:j8)(H:Hp)(a:Addr)(xs:List V):Prop:=
 Rd H a (.tup xs) ∨
  ∃(o:Obj) (its:Array ja) (n:Nat),K.lookup a=some o/\o.cls=.type "tuple"/\o.data=.seq its n/\its.size<=jh/\Vals xs its.toList
def zxU:ja->Option V
 |.none=>some .non
 |.bool b=>some (.bl b)
 |.int i _=>some (.int i)
 |.str x _=>some (.str x)
 |.bytes b _=>some (.byt b)
 |.float b _=>some (.flt b)
 |.ref a=>some (.ref a)
 |.type n=>some (.ty n)
 |_=>none
theorem RelV.abs{x:V}{u:ja}(r:RelV x u):zxU u=some x:=by
 cases x with
 |non=>cases r; rfl
 |bl _=>cases r; rfl
 |int _=>obtain⟨t,rfl⟩:=r; rfl
 |str _=>obtain⟨t,rfl⟩:=r; rfl
 |byt _=>obtain⟨t,rfl⟩:=r; rfl
 |flt _=>obtain⟨t,rfl⟩:=r; rfl
 |ref _=>cases r; rfl
 |ty _=>cases r; rfl
theorem RelV.inj{x y:V}{u:ja}(r:RelV x u)(q:RelV y u):x=y:=jd (r.abs.symm.trans q.abs)
theorem Vals.inj:∀ {xs ys:List V} {us:List ja},Vals xs us->Vals ys us->xs=ys
 |_,_,_,.nil,.nil=>rfl
 |_,_,_,.cons r t,.cons r' t'=>by rw[r.inj r',Vals.inj t t']
section
variable {X:Cx}{pins:List (Addr × Obj)}{σ:St}{H:Hp}{s:jc}{a:Addr}{xs ys:List V}
theorem SqL.of{K:j8}(h:H a=some (.lst xs)):SqL K H a xs:=.inl (.inl h)
theorem SqT.of{K:j8}(h:H a=some (.tup xs)):SqT K H a xs:=.inl (.inl h)
theorem Inv.list(I:Inv X pins σ H s)(h:SqL X.K H a xs):∃ its:List ja,Vals xs its/\PlainL s.heap a its.toArray/\xs.length<=jh:=by
 rcases h with h |⟨o,its,n,hk,hc,hd,hs,hz,r⟩
 ·obtain⟨z,its,n,r,e⟩:=h.ok I.hok;exact⟨its,r,⟨_,n,e,rfl,rfl,rfl⟩,z⟩
 ·refine⟨its.toList,r,⟨o,n,I.kIn a o hk,hc,hd,by simpa using hs⟩,?_⟩
  have e:=r.length;simp only[Z0] at e;lia
theorem Inv.tuple(I:Inv X pins σ H s)(h:SqT X.K H a xs):∃ its:List ja,Vals xs its/\IsTup s.heap a its.toArray/\xs.length<=jh:=by
 rcases h with h |⟨o,its,n,hk,hc,hs,hz,r⟩
 ·obtain⟨z,its,r,p⟩:=h.ok I.hok;exact⟨its,r,p,z⟩
 ·refine⟨its.toList,r,⟨o,I.kIn a o hk,hc,n,by simpa using hs⟩,?_⟩
  have e:=r.length;simp only[Z0] at e;lia
theorem Inv.list_inj(I:Inv X pins σ H s)(h:SqL X.K H a xs)(h':SqL X.K H a ys):xs=ys:=by
 obtain⟨its,r,⟨o,n,e,_,_,d⟩,_⟩:=I.list h;obtain⟨its',r',⟨o',n',e',_,_,d'⟩,_⟩:=I.list h';rw[e] at e'; cases e';rw[d] at d';injection d' with d1 _;have:its=its':=by simpa using congrArg JA d1
 subst this;exact r.inj r'
theorem Inv.tuple_inj(I:Inv X pins σ H s)(h:SqT X.K H a xs)(h':SqT X.K H a ys):xs=ys:=by
 obtain⟨its,r,⟨o,e,_,n,d⟩,_⟩:=I.tuple h;obtain⟨its',r',⟨o',e',_,n',d'⟩,_⟩:=I.tuple h';rw[e] at e'; cases e';rw[d] at d';injection d' with d1 _;have:its=its':=by simpa using congrArg JA d1
 subst this;exact r.inj r'
end
abbrev Cx.wish(X:Cx)(E:ja->jc->Prop):Cx:={ X with xe:=E }
abbrev Cx.nox(X:Cx):Cx:=X.wish fun _ _=>False
theorem Cx.Ok.wish{X:Cx}(ok:X.Ok)(E:ja->jc->Prop):(X.wish E).Ok:=
 ⟨ok.mod,ok.kind,ok.glob,ok.blt,ok.above,ok.inj,ok.has,ok.cab,ok.hd,ok.frames,ok.stk,ok.exf,ok.bs,ok.bsz,ok.noex,ok.exfs,ok.funs,ok.frf⟩
theorem Cx.Ok.unwish{X:Cx}{E:ja->jc->Prop}(ok:(X.wish E).Ok):X.Ok:=
 ⟨ok.mod,ok.kind,ok.glob,ok.blt,ok.above,ok.inj,ok.has,ok.cab,ok.hd,ok.frames,ok.stk,ok.exf,ok.bs,ok.bsz,ok.noex,ok.exfs,ok.funs,ok.frf⟩
section
variable {X:Cx}{pins:List (Addr × Obj)}{σ:St}{H:Hp}{s:jc}{E:ja->jc->Prop}
theorem Inv.wish(I:Inv X pins σ H s)(E:ja->jc->Prop):Inv (X.wish E) pins σ H s:=⟨I.ok.wish E,I.os,I.bare,I.base,I.loc,I.cell,I.free,I.freeC,I.pin,I.hok,I.len⟩
theorem Inv.unwish(I:Inv (X.wish E) pins σ H s):Inv X pins σ H s:=⟨I.ok.unwish,I.os,I.bare,I.base,I.loc,I.cell,I.free,I.freeC,I.pin,I.hok,I.len⟩
theorem SP.unwish{D:Ends}{f:Flow}{s':jc}(h:SP (X.wish E) pins D f s'):SP X pins D f s':=by
 cases f with
 |next=>obtain⟨σ',H',I,q⟩:=h; exact⟨σ',H',I.unwish,q⟩
 |brk=>obtain⟨σ',H',I,q⟩:=h; exact⟨σ',H',I.unwish,q⟩
 |cont=>obtain⟨σ',H',I,q⟩:=h; exact⟨σ',H',I.unwish,q⟩
 |ret u=>obtain⟨v,σ',H',I,r,q⟩:=h; exact⟨v,σ',H',I.unwish,r,q⟩
theorem PSs.nox{st:List Stmt}{t:TS}(h:PSs X.nox st t):PSs X st t:=fun pins s σ H D I hw=>
 Qg (h pins s σ H D (I.wish _) hw) (fun _ _ q=>q.unwish) fun _ _ z=>ZQ z
end
section
variable {X:Cx}{st:Stmt}{rest:List Stmt}{t u:TS}{e:Expr}{te:TE}{pos:Pos}
def zuL:TS:=fun D σ H=>D.nx σ H
def zxh(t u:TS):TS:=fun D σ H=>t { D with nx:=u D } σ H
theorem zq5:PSs X [] zuL:=fun _ _ σ H _ I h=>Y4 ⟨σ,H,I,h⟩
theorem zhr(h1:PS X st t)(h2:PSs X rest u):PSs X (st::rest) (zxh t u):=by
 intro pins s σ H D I h;refine wpAny_execs_cons (thn (h1 pins s σ H { D with nx:=u D } I h) fun f s1 q=>?_);cases f with
 |next=>
  obtain⟨σ',H',I',q⟩:=q;exact h2 pins s1 σ' H' D I' q
 |ret v=>exact q
 |brk=>exact q
 |cont=>exact q
theorem zfY(h1:PS X st t):PSs X [st] t:=by
 intro pins s σ H D I h;refine wpAny_execs_cons (thn (h1 pins s σ H D I h) fun f s1 q=>?_);cases f with
 |next=>exact Y4 q
 |ret v=>exact q
 |brk=>exact q
 |cont=>exact q
theorem Inv.quiet{pins:List (Addr × Obj)}{σ:St}{H:Hp}{s:jc}(I:Inv X pins σ H s):interactive X.env=false:=by simp[interactive,I.ok.kind]
def zuM(te:TE):TS:=fun D σ H=>te σ H fun _ H1=>D.nx σ H1
theorem zm7(he:PE X e te)(hs:ZV e none pos.line X.env=pure false:=by rfl):PS X (.Expr e pos) (zuM te):=by
 intro pins s σ H D I h;exact wpAny_Expr_any (thn (he pins s σ H _ I h) fun v s1 ⟨x,H1,I1,r1,q1⟩=>⟨σ,H1,I1,q1⟩) I.quiet hs
def zxj(te:TE):TS:=fun D σ H=>te σ H D.rt
theorem zkj(he:PE X e te):PS X (.Return (some e) pos) (zxj te):=by
 intro pins s σ H D I h;exact wpAny_Return_some (thn (he pins s σ H _ I h) fun v s1 ⟨x,H1,I1,r1,q1⟩=>⟨x,σ,H1,I1,r1,q1⟩)
def zxn(c:TT)(t u:TS):TS:=fun D σ H=>c σ H fun b H1=>if b=true then t D σ H1 else u D σ H1
theorem zsh{c:Expr}{a b:List Stmt}{tc:TT}(hc:PT X c tc)(ha:PSs X a t)(hb:PSs X b u):PS X (.If c a b pos) (zxn tc t u):=by
 intro pins s σ H D I h;refine wpAny_If (thn (hc pins s σ H _ I h) fun d s1 h_=>?_); obtain⟨H1,I1,q1⟩:=h_;cases d with
 |true=>exact ha pins s1 σ H1 D I1 q1
 |false=>exact hb pins s1 σ H1 D I1 q1
end
abbrev TG:=V->St->Hp->(St->Hp->Prop)->Prop
abbrev TGs:=List V->St->Hp->(St->Hp->Prop)->Prop
def PG(X:Cx)(target:Expr)(t:TG):Prop:=
 ∀(pins:List (Addr × Obj)) (s:jc) (σ:St) (H:Hp) (v:V) (u:ja) (Q:St->Hp->Prop),Inv X pins σ H s->RelV v u->t v σ H Q->
  jH (jM X.prog X.w) X.A (gF target X.env u) (fun _ s'=>∃ σ' H',Inv X pins σ' H' s'/\Q σ' H') X.xe s
def PGs(X:Cx)(ts:List Expr)(t:TGs):Prop:=
 ∀(pins:List (Addr × Obj)) (s:jc) (σ:St) (H:Hp) (vs:List V) (us:List ja) (Q:St->Hp->Prop),Inv X pins σ H s->Vals vs us->t vs σ H Q->
  jH (jM X.prog X.w) X.A (assignInOrder ((Qn ts X.env).map (·.2)) us) (fun _ s'=>∃ σ' H',Inv X pins σ' H' s'/\Q σ' H') X.xe s
abbrev ztV:=V->V->V->Hp->(Hp->Prop)->Prop
def zw4(X:Cx)(t:ztV):Prop:=
 ∀(pins:List (Addr × Obj)) (s:jc) (σ:St) (H:Hp) (o i v:V) (ov iv u:ja) (Q:Hp->Prop),Inv X pins σ H s->RelV o ov->RelV i iv->RelV v u->t o i v H Q->
  jH (jM X.prog X.w) X.A (setItem ov iv u) (fun _ s'=>∃ H',Inv X pins σ H' s'/\Q H') X.xe s
abbrev TIp:=V->V->Hp->VK->Prop
def PIp(X:Cx)(op:Jl)(t:TIp):Prop:=
 ∀(pins:List (Addr × Obj)) (s:jc) (σ:St) (H:Hp) (x y:V) (v u:ja) (Q:VK),Inv X pins σ H s->RelV x v->RelV y u->t x y H Q->
  jH (jM X.prog X.w) X.A (inplaceOp op v u) (EP X pins σ Q) X.xe s
section
variable {X:Cx}{pos:Pos}
def zc8(i:Nat):TG:=fun v σ H Q=>Q (σ.set i (some v)) H
theorem zjh{i:Nat}{x:Str}(hN:X.N.Nodup)(hi:X.N[i]?=some x)(hx:Loc X.env.scope x)(hf:X.fn x=true∨X.env.scope.names.lookup x=some .local:=by first |exact .inl rfl |exact .inr rfl |assumption):PG X (.Name x pos) (zc8 i):=by
 intro pins s σ H v u Q I r h;exact YA (zhb I hN hi hx r (fun s' I'=>⟨_,H,I',h⟩) hf)
def zqD:TGs:=fun vs σ H Q=>vs=[]/\Q σ H
def ziB(t:TG)(u:TGs):TGs:=fun vs σ H Q=>∃ v r,vs=v::r/\t v σ H fun σ' H'=>u r σ' H' Q
theorem zmc:PGs X [] zqD:=by
 intro pins s σ H vs us Q I r h;obtain⟨e,h⟩:=h;subst e;cases r;exact assignInOrder_nil ⟨σ,H,I,h⟩
theorem zht{e:Expr}{es:List Expr}{t:TG}{u:TGs}(h1:PG X e t)(h2:PGs X es u)
  (hs:(Qn (e::es) X.env).map (·.2)=gF e X.env::(Qn es X.env).map (·.2):=by rfl):PGs X (e::es) (ziB t u):=by
 intro pins s σ H vs us Q I r h;obtain⟨v,vr,e1,h⟩:=h;subst e1;cases r with
 |cons r rr=>
  rw[hs];refine assignInOrder_cons (thn (h1 pins s σ H _ _ _ I r h) fun _ s1 h_=>?_); obtain⟨σ1,H1,I1,q1⟩:=h_;exact h2 pins s1 σ1 H1 _ _ Q I1 rr q1
def zkw(K:j8)(n:Nat)(t:TGs):TG:=fun v σ H Q=>∃ a xs,v=.ref a/\SqT K H a xs/\xs.length=n/\t xs σ H Q
theorem zmd{es:List Expr}{k:Nat}{t:TGs}{n:Nat}(hc:X.calm=true)(h:PGs X es t)
  (hn:(Qn es X.env).length=n:=by rfl) (hst:(Qn es X.env).findIdx? (·.1)=none:=by rfl):PG X (.Tuple es k pos) (zkw X.K n t):=by
 intro pins s σ H v u Q I r hw;obtain⟨a,xs,e1,hq,hl,hw⟩:=hw;subst e1;cases r;obtain⟨its,rv,ht,hz⟩:=I.tuple hq;refine assign_Tuple_tuple (I.ok.hd hc) ht (by simp[hn,<-hl,rv.length]) hst fun h' hx=>?_
 have I1:Inv X pins σ H { s with heap:=h' }:=I.kept (t':=s.toks) fun b o e=>hx b o (jB (jg e)) e;exact h pins _ σ H xs _ Q I1 (by simpa using rv) hw
def ztS(to ti:TE)(t:ztV):TG:=fun v σ H Q=>to σ H fun o H1=>ti σ H1 fun i H2=>t o i v H2 fun H3=>Q σ H3
theorem zsm{o i:Expr}{to ti:TE}{t:ztV}(ho:PE X o to)(hi:PE X i ti)(hs:zw4 X t)
  (ha:∀ v,gF (.Subscript o i pos) X.env v=(do
   let ov <-Y5 [v] (eval o X.env)
   let iv <-Y5 [v,ov] (eval i X.env)
   Jm pos
   Y5 [v,ov,iv] (setItem ov iv v)
   release [v,ov,iv] []):=by intro _; rfl):PG X (.Subscript o i pos) (ztS to ti t):=by
 intro pins s σ H v u Q I r h;rw[ha];refine j4 (Qq (thn (ho pins s σ H _ I h) fun ov s1 h_=>?_)); obtain⟨x,H1,I1,r1,q1⟩:=h_;refine j4 (Qq (thn (hi pins s1 σ H1 _ I1 q1) fun iv s2 h_=>?_)); obtain⟨y,H2,I2,r2,q2⟩:=h_;refine j4 (ZR (j4 (Qq (thn (hs pins s2 σ H2 x y v ov iv u _ I2 r1 r2 r q2) fun _ s3 h_=>?_)))); obtain⟨H3,I3,q3⟩:=h_;exact wpAny_release ⟨σ,H3,I3,q3⟩
def ze8(te:TE)(g:TG):TS:=fun D σ H=>te σ H fun x H1=>g x σ H1 D.nx
theorem zsj{tg e:Expr}{te:TE}{g:TG}(he:PE X e te)(hg:PG X tg g)(hs:swapsWithSole [tg] e pos.line X.env=pure false:=by rfl)(hw:swappedStores [tg] e X.env=pure none:=by rfl)
  (h1:(Qn [tg] X.env).map (·.2)=[gF tg X.env]:=by rfl):PS X (.Assign [tg] e pos) (ze8 te g):=by
 intro pins s σ H D I h;refine wpAny_Assign_stores (thn (he pins s σ H _ I h) fun v s1 ⟨x,H1,I1,r1,q1⟩=>?_) hs hw;rw[h1];exact thn (hg pins s1 σ H1 x v _ I1 r1 q1) fun _ s2 q=>q
theorem zoP{i:Nat}{x:Str}{e:Expr}{te:TE}{pos':Pos}(hN:X.N.Nodup)(hi:X.N[i]?=some x)(hx:Loc X.env.scope x)(he:PE X e te)(hs:ZV e (some (.Name x pos')) pos.line X.env=pure false:=by rfl)(hf:X.fn x=true∨X.env.scope.names.lookup x=some .local:=by first |exact .inl rfl |exact .inr rfl |assumption) :
  PS X (.Assign [.Name x pos'] e pos) (ze8 te (zc8 i)):=by
 intro pins s σ H D I h;refine wpAny_Assign_Name (thn (he pins s σ H _ I h) fun v s1 ⟨y,H1,I1,r1,q1⟩=>?_) hs;exact zhb I1 hN hi hx r1 (fun s2 I2=>⟨_,H1,I2,q1⟩) hf
def ztO(i:Nat)(te:TE)(ti:TIp):TS:=fun D σ H=>∃ x,σ[i]?=some (some x)/\te σ H fun y H1=>ti x y H1 fun z H2=>D.nx (σ.set i (some z)) H2
theorem zsi{i:Nat}{x:Str}{e:Expr}{te:TE}{op:Jl}{ti:TIp}{pos':Pos}(hN:X.N.Nodup)(hi:X.N[i]?=some x)(hx:Loc X.env.scope x)(he:PE X e te)(ho:PIp X op ti)(hf:X.fn x=true∨X.env.scope.names.lookup x=some .local:=by first |exact .inl rfl |exact .inr rfl |assumption) :
  PS X (.AugAssign (.Name x pos') op e pos) (ztO i te ti):=by
 intro pins s σ H D I h;obtain⟨v,e1,h⟩:=h;obtain⟨m,hn,hl⟩:=I.loc;have vis:Vis X.env.scope x:=by rcases hx with k |k; exact .inl k; exact .inr (.inl k)
 obtain⟨u,r,l⟩:=hl i x v hi e1 vis;refine wpAny_AugAssign_Name ?_;have go:jH (jM X.prog X.w) X.A (eval e X.env) (fun w s₂=>jH (jM X.prog X.w) X.A (inplaceOp op u w) (fun r s₃=>jH (jM X.prog X.w) X.A (storeName X.env x r) (fun _=>SP X pins D .next) X.xe s₃) X.xe s₂) X.xe s:=by
  refine thn (he pins s σ H _ I h) fun w s1 h_=>?_; obtain⟨y,H1,I1,r1,q1⟩:=h_;refine thn (ho pins s1 σ H1 v y u w _ I1 r r1 q1) fun z s2 h_=>?_; obtain⟨zv,H2,I2,r2,q2⟩:=h_;exact zhb I2 hN hi hx r2 (fun s3 I3=>⟨_,H2,I3,q2⟩) hf
 rcases l with ⟨hk,hm⟩ |⟨hk,c,hc,hcell⟩
 ·exact NG I.ok.kind hk hn hm go
 ·rcases hk with hk |hk
  ·exact NP I.ok.kind hk hc hcell go
  ·rcases hx with k |k
   ·have:X.env.scope.names.lookup x=some .free:=hk;rw[k] at this; cases this
   ·have:X.env.scope.names.lookup x=some .free:=hk;rw[k] at this; cases this
def ipI(f:Int->Int->Int):TIp:=fun x y H Q=>∃ i j,x=.int i/\y=.int j/\Q (.int (f i j)) H
theorem zsX:PIp X .Add (ipI fun i j=>i+j):=by
 intro pins s σ H x y v u Q I r1 r2 h;obtain⟨i,j,e1,e2,q⟩:=h;subst e1; subst e2;obtain⟨t,rfl⟩:=r1;obtain⟨t',rfl⟩:=r2;exact iadd_int ⟨.int _,H,I.tok _,⟨_,rfl⟩,q⟩
end
section
variable {X:Cx}{pos:Pos}
def zoG(c:TT)(tb:TS):TS:=fun D σ H=>∃ W:Nat->St->Hp->Prop,(∃ m,W m σ H)/\∀ m σ H,W m σ H->
 c σ H fun b H1=>if b=true then ∃ N:St->Hp->Prop,(∀ σ' H',N σ' H'->∃ m',m' < m/\W m' σ' H')/\tb { D with nx:=N,ct:=N,bk:=D.nx } σ H1 else D.nx σ H1
theorem znL{c:Expr}{body:List Stmt}{tc:TT}{tb:TS}(hp:W0 (jM X.prog X.w) X.A X.env X.xe)(hc:PT X c tc)(hb:PSs X body tb):PS X (.While c body [] pos) (zoG tc tb):=by
 intro pins s σ H D I h;obtain⟨W,⟨m0,w0⟩,turn⟩:=h;refine wpAny_While (codeAny_whileLoop (fun n s'=>∃ σ' H',Inv X pins σ' H' s'/\W n σ' H') ?_ m0 ⟨σ,H,I,w0⟩);rintro n s1 ⟨σ1,H1,I1,w1⟩;refine Zl hp (thn (hc pins s1 σ1 H1 _ I1 (turn n σ1 H1 w1)) fun b s2 h_=>?_); obtain⟨H2,I2,q2⟩:=h_;cases b with
 |true=>
  obtain⟨N,hN,q2⟩:=q2;rw[if_pos rfl];refine Zl hp (thn (hb pins s2 σ1 H2 _ I2 q2) fun f s3 q3=>?_);cases f with
  |next=>
   obtain⟨σ3,H3,I3,n3⟩:=q3;obtain⟨m',hm,w3⟩:=hN σ3 H3 n3;exact⟨m',hm,σ3,H3,I3,w3⟩
  |cont=>
   obtain⟨σ3,H3,I3,n3⟩:=q3;obtain⟨m',hm,w3⟩:=hN σ3 H3 n3;exact⟨m',hm,σ3,H3,I3,w3⟩
  |brk=>exact q3
  |ret v=>exact q3
 |false=>
  rw[if_neg jr];exact Y4 ⟨σ1,H2,I2,q2⟩
end
structure It where
 go:Nat->Hp->Prop
 yld:Nat->Hp->V->Hp->Prop
 stop:Nat->Hp->Prop
def zj2(X:Cx)(pins:List (Addr × Obj))(H:Hp)(b:Addr):Prop:=
 H b=none/\b≠X.env.locals/\b∉X.fs/\(b∈X.ex∨X.s₀.heap.objs.size<=b)/\(∀ x c,X.env.cells.lookup x=some c->c≠b)/\∀ p∈X.pn++pins,p.1≠b
theorem Inv.fpOk{X:Cx}{pins:List (Addr × Obj)}{σ:St}{H H':Hp}{s:jc}{b:Addr}(I:Inv X pins σ H s)(hb:s.heap.objs.size<=b)(hn:H' b=none):zj2 X pins H' b:=by
 refine⟨hn,Zt (jT I.lt hb),I.nofs hb,.inr (Q5 I.sz hb),fun x c e z=>?_,fun p hp z=>?_⟩
 ·obtain⟨v,q⟩:=I.cell x c e;exact absurd (jT q.lt (by rw[z]; exact hb)) (Q4 _)
 ·exact absurd (jT (jg (I.pin p hp).1) (by rw[z]; exact hb)) (Q4 _)
structure Turn (P:jK) (w:Qj) (K:j8) (tg:Expr) (J:It) (fp:List Addr) (it:Addr) (tn:Nat->Heap->Prop):Prop where
 mem:it∈fp
 obj:∀ i h,tn i h->∀ b∈fp,∃ o,h.get? b=some o/\∀ v,o.data≠.cell v
 keep:∀ i h h',tn i h->(∀ b∈fp,∀ o,h.get? b=some o->h'.get? b=some o)->tn i h'
 item:∀(X:Cx),X.prog=P->X.w=w->X.K=K->X.calm=true->∀(i:Nat) (pins:List (Addr × Obj)) (s:jc) (σ:St) (H:Hp) (E:ja->jc->Prop),Inv X pins σ H s->(∀ b∈fp,zj2 X pins H b)->tn i s.heap->J.go i H->
  jH (jM P w) X.A (NL (.ref it)) (fun r s1=>∃ u,r=some u /\
   jH (jM P w) X.A (ZL tg (.ref it) u) (fun _ s2=>∃ x H',Inv X pins σ H' s2/\RelV x u/\J.yld i H x H'/\tn (i+1) s2.heap/\∀ b∈fp,H' b=none) E s1) E s
 done:∀(X:Cx),X.prog=P->X.w=w->X.K=K->X.calm=true->∀(i:Nat) (pins:List (Addr × Obj)) (s:jc) (σ:St) (H:Hp) (E:ja->jc->Prop),Inv X pins σ H s->(∀ b∈fp,zj2 X pins H b)->tn i s.heap->J.stop i H->
  jH (jM P w) X.A (NL (.ref it)) (fun r s1=>r=none/\Inv X pins σ H s1) E s
 self:∀(A:Qz) (i:Nat) (s:jc) (Q:ja->jc->Prop) (E:ja->jc->Prop),tn i s.heap->Q (.ref it) s->jH (jM P w) A (pyIter (.ref it)) Q E s
abbrev TI:=St->Hp->(It->Hp->Prop)->Prop
def PIE(X:Cx)(pins:List (Addr × Obj))(σ:St)(tg:Expr)(R:It->Hp->Prop)(itv:ja)(s2:jc):Prop:=
 ∃(it:Addr) (fp:List Addr) (tn:Nat->Heap->Prop) (J:It) (H':Hp),itv=.ref it/\Inv X pins σ H' s2/\Turn X.prog X.w X.K tg J fp it tn/\tn 0 s2.heap/\(∀ b∈fp,zj2 X pins H' b)/\R J H'
def PI(X:Cx)(tg iter:Expr)(wi:TI):Prop:=
 ∀(pins:List (Addr × Obj)) (s:jc) (σ:St) (H:Hp) (R:It->Hp->Prop),Inv X pins σ H s->wi σ H R->
  jH (jM X.prog X.w) X.A (eval iter X.env) (fun v s1=>jH (jM X.prog X.w) X.A (pyIter v) (PIE X pins σ tg R) X.xe s1) X.xe s
theorem zmL{M:Model}{A:Qz}{E:ja->jc->Prop}{s:jc}{tg:Expr}{it:Addr}{u:ja}{o:Obj}{n:String}{vs:Array ja}{Q:Unit->jc->Prop}(ho:s.heap.get? it=some o)(hc:o.cls=.type n)(hd:o.data=.fields vs)
    (hn:["enumerate","zip","dict_itemiterator","dict_reverseitemiterator","odict_iterator","itertools.zip_longest","itertools.pairwise"].contains n=false) (hQ:Q () s):jH M A (ZL tg (.ref it) u) Q E s:=by
  unfold ZL;cases tg<;>first
    |exact je hQ
    | (cases u<;>first
        |exact je hQ
        | (refine j4 (wpAny_load ho ?_)
           rw[hc,hd];show jH M A (if (["enumerate","zip","dict_itemiterator","dict_reverseitemiterator","odict_iterator","itertools.zip_longest","itertools.pairwise"].contains n&&vs[0]? == some (W1 _))=true then _ else _) Q E s
           rw[if_neg (by intro h; rw[hn,Ys] at h; cases h)]
           exact je hQ))
def Itl(K:j8)(a:Addr):It:=
 ⟨fun i H=>∃ xs x,SqL K H a xs/\xs[i]?=some x,fun i H x H'=>H'=H/\∀ xs,SqL K H a xs->xs[i]?=some x,fun i H=>∃ xs,SqL K H a xs/\xs.length<=i⟩
def Itt(K:j8)(a:Addr):It:=
 ⟨fun i H=>∃ xs x,SqT K H a xs/\xs[i]?=some x,fun i H x H'=>H'=H/\∀ xs,SqT K H a xs->xs[i]?=some x,fun i H=>∃ xs,SqT K H a xs/\xs.length<=i⟩
def Itr(lo:Int)(n:Nat):It:=⟨fun i _=>i < n,fun i H x H'=>H'=H/\x=.int (lo+i),fun i _=>n<=i⟩
theorem zlF{P:jK}{w:Qj}{K:j8}{tg:Expr}(a it:Addr):Turn P w K tg (Itl K a) [it] it (fun i h=>h.IsListIter it a i) where
 mem:=by simp
 obj:=fun i h st b hb=>by
  have e:b=it:=by simpa using hb
  subst e;obtain⟨o,e,c,d⟩:=st;exact⟨o,e,fun v z=>by rw[d] at z; cases z⟩
 keep:=fun i h h' st k=>st.at fun o e=>k it (by simp) o e
 item:=by
  intro X hP hw hK hc i pins s σ H E I hf st hg;subst hP hw hK;obtain⟨xs,x,hq,hx⟩:=hg;obtain⟨its,rv,p,hz⟩:=I.list hq;obtain⟨u,hu,ru⟩:=rv.get hx;obtain⟨f0,f1,f2,f3,f4,f5⟩:=hf it (by simp)
  refine N6 st p.isList (x:=u) (by simpa using hu) fun h' st' sb=>?_
  have I1:Inv X pins σ H { s with heap:=h' }:=I.turned (t':=s.toks) (fun b o hb e=>(sb.2 b hb).trans e) f0 f1 f3 f4 f5;obtain⟨o,e,c,d⟩:=id st';exact⟨u,rfl,zmL (s:={ s with heap:=h' }) e c d (by decide) ⟨x,H,I1,ru,⟨rfl,fun ys hy=>by rw[I.list_inj hy hq]; exact hx⟩,st',fun b hb=>(hf b hb).1⟩⟩
 done:=by
  intro X hP hw hK hc i pins s σ H E I hf st hg;subst hP hw hK;obtain⟨xs,hq,hx⟩:=hg;obtain⟨its,rv,p,hz⟩:=I.list hq;obtain⟨f0,f1,f2,f3,f4,f5⟩:=hf it (by simp)
  have hl:=rv.length;exact Nf (I.ok.hd hc) st p.isList (by simp; lia) fun h' eb=>⟨rfl,I.turned (t':=s.toks) (fun b o hb e=>eb b o hb e) f0 f1 f3 f4 f5⟩
 self:=fun _ _ _ _ _ st h=>wpAny_pyIter_listiter st h
theorem zkU{P:jK}{w:Qj}{K:j8}{tg:Expr}(a it:Addr):Turn P w K tg (Itt K a) [it] it (fun i h=>h.IsTupleIter it a i) where
 mem:=by simp
 obj:=fun i h st b hb=>by
  have e:b=it:=by simpa using hb
  subst e;obtain⟨o,e,c,d⟩:=st;exact⟨o,e,fun v z=>by rw[d] at z; cases z⟩
 keep:=fun i h h' st k=>st.at fun o e=>k it (by simp) o e
 item:=by
  intro X hP hw hK hc i pins s σ H E I hf st hg;subst hP hw hK;obtain⟨xs,x,hq,hx⟩:=hg;obtain⟨its,rv,p,hz⟩:=I.tuple hq;obtain⟨u,hu,ru⟩:=rv.get hx;obtain⟨f0,f1,f2,f3,f4,f5⟩:=hf it (by simp)
  refine wpAny_pyNext_tuple_item st (show s.heap.IsTuple a its.toArray from p) (x:=u) (by simpa using hu) fun h' st' sb=>?_
  have I1:Inv X pins σ H { s with heap:=h' }:=I.turned (t':=s.toks) (fun b o hb e=>(sb.2 b hb).trans e) f0 f1 f3 f4 f5;obtain⟨o,e,c,d⟩:=id st';exact⟨u,rfl,zmL (s:={ s with heap:=h' }) e c d (by decide) ⟨x,H,I1,ru,⟨rfl,fun ys hy=>by rw[I.tuple_inj hy hq]; exact hx⟩,st',fun b hb=>(hf b hb).1⟩⟩
 done:=by
  intro X hP hw hK hc i pins s σ H E I hf st hg;subst hP hw hK;obtain⟨xs,hq,hx⟩:=hg;obtain⟨its,rv,p,hz⟩:=I.tuple hq;obtain⟨f0,f1,f2,f3,f4,f5⟩:=hf it (by simp)
  have hl:=rv.length;exact wpAny_pyNext_tuple_end (I.ok.hd hc) st (show s.heap.IsTuple a its.toArray from p) (by simp; lia) fun h' eb=>⟨rfl,I.turned (t':=s.toks) (fun b o hb e=>eb b o hb e) f0 f1 f3 f4 f5⟩
 self:=fun _ _ _ _ _ st h=>wpAny_pyIter_tupleiter st h
theorem zkV{P:jK}{w:Qj}{K:j8}{tg:Expr}(it:Addr)(lo:Int)(n:Nat):Turn P w K tg (Itr lo n) [it] it (fun i h=>IsRangeIter h it (lo+(i:Nat)*1) ((n:Int) - (i:Nat)) 1) where
 mem:=by simp
 obj:=fun i h st b hb=>by
  have e:b=it:=by simpa using hb
  subst e
  exact⟨_,st,fun v z=>by
   have z':YR _=ZW v:=z
   cases z'⟩
 keep:=fun i h h' st k=>k it (by simp) _ st
 item:=by
  intro X hP hw hK hc i pins s σ H E I hf st hg;subst hP hw hK;obtain⟨f0,f1,f2,f3,f4,f5⟩:=hf it (by simp)
  have W:=Walks.range (prog:=X.prog) (w:=X.w) (I.ok.hd hc) it lo 1 n;refine W.item i s _ _ hg st fun v h' tk hv st' kk=>?_;obtain⟨t,rfl⟩:=hv;have I1:Inv X pins σ H { s with heap:=h',toks:=tk }:=I.turned (fun b o hb e=>kk b o (by simpa using hb) e) f0 f1 f3 f4 f5
  refine⟨_,rfl,zmL (s:={ s with heap:=h',toks:=tk }) (n:="range_iterator") st' rfl rfl (by decide) ⟨.int (lo+i),H,I1,⟨t,?_⟩,⟨rfl,rfl⟩,st',fun b hb=>(hf b hb).1⟩⟩
  rw[Int.mul_one]
 done:=by
  intro X hP hw hK hc i pins s σ H E I hf st hg;subst hP hw hK;obtain⟨f0,f1,f2,f3,f4,f5⟩:=hf it (by simp)
  exact wpAny_pyNext_range_end (I.ok.hd hc) st (by have:n<=i:=hg; lia) fun h' eb=>⟨rfl,I.turned (t':=s.toks) (fun b o hb e=>eb b o hb e) f0 f1 f3 f4 f5⟩
 self:=fun _ _ _ _ _ st h=>wpAny_pyIter_rangeiter st h
section
variable {X:Cx}{tg:Expr}
def zt5(K:j8)(tl:TE):TI:=fun σ H R=>tl σ H fun x H1=>∃ a,x=.ref a/\(∃ xs,SqL K H1 a xs)/\R (Itl K a) H1
def zxJ(K:j8)(tl:TE):TI:=fun σ H R=>tl σ H fun x H1=>∃ a,x=.ref a/\(∃ xs,SqT K H1 a xs)/\R (Itt K a) H1
theorem zqa{l:Expr}{tl:TE}(hl:PE X l tl):PI X tg l (zt5 X.K tl):=by
 intro pins s σ H R I h;refine thn (hl pins s σ H _ I h) fun v s1 h_=>?_; obtain⟨x,H1,I1,r1,q1⟩:=h_;obtain⟨a,e,⟨xs,hq⟩,q⟩:=q1;subst e;cases r1;obtain⟨its,rv,p,hz⟩:=I1.list hq;refine gx p.isList ?_;refine⟨s1.heap.objs.size,[s1.heap.objs.size],_,_,H1,rfl,I1.kept (t':=s1.toks) fun b o e=>j7 _ e,zlF a _,⟨_,jw _ rfl,rfl,rfl⟩,fun b hb=>?_,q⟩;have e:b=s1.heap.objs.size:=by simpa using hb
 subst e;exact I1.fpOk (jl _) (I1.hok.fresh (jl _))
theorem zsk{l:Expr}{tl:TE}(hl:PE X l tl):PI X tg l (zxJ X.K tl):=by
 intro pins s σ H R I h;refine thn (hl pins s σ H _ I h) fun v s1 h_=>?_; obtain⟨x,H1,I1,r1,q1⟩:=h_;obtain⟨a,e,⟨xs,hq⟩,q⟩:=q1;subst e;cases r1;obtain⟨its,rv,p,hz⟩:=I1.tuple hq;refine wpAny_pyIter_tuple (show s1.heap.IsTuple a its.toArray from p) ?_;refine⟨s1.heap.objs.size,[s1.heap.objs.size],_,_,H1,rfl,I1.kept (t':=s1.toks) fun b o e=>j7 _ e,zkU a _,⟨_,jw _ rfl,rfl,rfl⟩,fun b hb=>?_,q⟩;have e:b=s1.heap.objs.size:=by simpa using hb
 subst e;exact I1.fpOk (jl _) (I1.hok.fresh (jl _))
theorem znA{pins:List (Addr × Obj)}{σ:St}{H:Hp}{s:jc}{R:It->Hp->Prop}{E:ja->jc->Prop}{lo hi:Int}{t u v:Tok}{tk:Nat}(I:Inv X pins σ H s)(h1:-(2 ^ 62)<=lo)(h2:lo < 2 ^ 62)(h3:-(2 ^ 62)<=hi)(h4:hi < 2 ^ 62)
  (q:R (Itr lo (hi - lo).toNat) H):jH (jM X.prog X.w) X.A (pyIter (.ref s.heap.objs.size)) (PIE X pins σ tg R) E { s with heap:=s.heap.push { cls:=.type "range",data:=.fields #[.int lo t,.int hi u,.int 1 v] },toks:=tk }:=by
 refine wpAny_pyIter_range (IsRange.new ..) (small_one h1 h2 h3 h4) ?_;have I1:Inv X pins σ H { s with heap:=s.heap.push { cls:=.type "range",data:=.fields #[.int lo t,.int hi u,.int 1 v] },toks:=tk }:=I.kept fun b o e=>j7 _ e
 refine⟨(s.heap.push { cls:=.type "range",data:=.fields #[.int lo t,.int hi u,.int 1 v] }).objs.size,[(s.heap.push { cls:=.type "range",data:=.fields #[.int lo t,.int hi u,.int 1 v] }).objs.size],_,_,H,rfl,
  I1.kept (t':=tk) fun b o e=>j7 _ e,zkV _ lo (hi - lo).toNat,?_,fun b hb=>?_,q⟩
 ·have e1:lo+((0:Nat):Int)*1=lo:=by simp
  have e2:(((hi - lo).toNat:Nat):Int) - ((0:Nat):Int)=Jn lo hi 1:=by rw[rangeSize_one]; split<;>lia
  show IsRangeIter _ _ (lo+((0:Nat):Int)*1) ((((hi - lo).toNat:Nat):Int) - ((0:Nat):Int)) 1;rw[e1,e2];exact jw _ rfl
 ·have e:b=(s.heap.push { cls:=.type "range",data:=.fields #[.int lo t,.int hi u,.int 1 v] }).objs.size:=by simpa using hb
  subst e;exact I1.fpOk (jl _) (I1.hok.fresh (jl _))
def zvr(ta:TA):TI:=fun σ H R=>ta σ H fun vs H1=>∃ j:Int,vs=[.int j]/\-(2 ^ 62)<=j/\j < 2 ^ 62/\R (Itr 0 j.toNat) H1
theorem zma{a:Expr}{ta:TA}{p pos:Pos}(hg:Gl X "range")(hm:X.mg "range"=none)(ha:PA X [a] ta)(hs:jb [a] X.env=[(false,eval a X.env)]:=by rfl):PI X tg (.Call (.Name "range" p) [a] [] pos) (zvr ta):=by
 intro pins s σ H R I h;refine Call_ (zg9 I hg hm boot_range (QU (thn (ha pos pins s σ H _ I h) fun us s1 ⟨vs,H1,I1,r1,q1⟩=>?_) hs rfl));obtain⟨j,e,q1,q2,q⟩:=q1;subst e;cases r1 with
 |cons r rr=>
  cases rr;obtain⟨t,rfl⟩:=r;exact call_range_1 (znA I1 (by lia) (by lia) q1 q2 (by simpa using q))
def zrD(wi:TI)(g:TG)(tb:TS):TS:=fun D σ H=>wi σ H fun J H1=>∃ W:Nat->Nat->St->Hp->Prop,(∃ m,W 0 m σ H1)/\∀ i m σ H,W i m σ H->
 (J.stop i H/\D.nx σ H)∨(J.go i H/\∃ N:St->Hp->Prop,(∀ σ' H',N σ' H'->∃ m',m' < m/\W (i+1) m' σ' H')/\∀ x H',J.yld i H x H'->g x σ H' fun σ2 H2=>tb { D with nx:=N,ct:=N,bk:=D.nx } σ2 H2)
def zgV(fp:List Addr)(h:Heap):List (Addr × Obj):=fp.filterMap fun b=>(h.get? b).map fun o=>(b,o)
theorem zcf{fp:List Addr}{h:Heap}{b:Addr}{o:Obj}(hb:b∈fp)(e:h.get? b=some o):(b,o)∈zgV fp h:=W2.mpr ⟨b,hb,by rw[e]; rfl⟩
theorem zmo{fp:List Addr}{h:Heap}{p:Addr × Obj}(hp:p∈zgV fp h):p.1∈fp/\h.get? p.1=some p.2:=by
 obtain⟨b,hb,e⟩:=W2.mp hp;cases q:h.get? b with
 |none=>rw[q] at e; cases e
 |some o=>
  rw[q] at e;have e':(b,o)=p:=jd e;subst e';exact⟨hb,q⟩
theorem Inv.pinned{pins:List (Addr × Obj)}{σ:St}{H:Hp}{s:jc}{fp:List Addr}(I:Inv X pins σ H s)(hf:∀ b∈fp,zj2 X pins H b)(ho:∀ b∈fp,∃ o,s.heap.get? b=some o/\∀ v,o.data≠.cell v):Inv X (pins++zgV fp s.heap) σ H s:=
 I.pins_of fun p hp=>(jz.mp hp).elim (fun z=>I.pin p (jC _ z)) fun z=>by
  obtain⟨hb,e⟩:=zmo z;obtain⟨f0,f1,f2,_⟩:=hf p.1 hb;obtain⟨o,e',d⟩:=ho p.1 hb;rw[e] at e'; cases e';exact⟨e,f0,f1,f2,d⟩
theorem Inv.unpinned{pins pl:List (Addr × Obj)}{σ:St}{H:Hp}{s:jc}(I:Inv X (pins++pl) σ H s):Inv X pins σ H s:=I.pins_of fun p hp=>I.pin p (jC _ (jv _ hp))
theorem zoQ{iter:Expr}{body:List Stmt}{wi:TI}{g:TG}{tb:TS}{pos:Pos}(hp:W0 (jM X.prog X.w) X.A X.env X.xe)(hc:X.calm=true)(hi:PI X tg iter wi)(hg:PG X tg g)(hb:PSs X body tb)
  (hs:∀ x,Qy iter X.env x=pure x:=by intro _; rfl):PS X (.For tg iter body [] pos) (zrD wi g tb):=by
 intro pins s σ H D I h;refine wpAny_For (thn (hi pins s σ H _ I h) fun v s1 h1=>thn h1 fun itv s2 h2=>?_) hs;obtain⟨it,fp,tn,J,H2,e,I2,T,st2,f2,W,⟨m0,w0⟩,turn⟩:=h2;subst e
 -- what stays true of the iterator's objects through the loop
 have stat:∀ {H':Hp},(∀ b∈fp,H' b=none)->∀ b∈fp,zj2 X pins H' b:=fun hn b hb=>⟨hn b hb,(f2 b hb).2⟩;refine codeAny_forLoop_any (fun n s'=>∃ i σ' H',Inv X pins σ' H' s'/\tn i s'.heap/\(∀ b∈fp,H' b=none)/\W i n σ' H') ?_ m0 ⟨0,σ,H2,I2,st2,fun b hb=>(f2 b hb).1,w0⟩;rintro n s3 ⟨i,σ3,H3,I3,st3,fr3,w3⟩;rcases turn i n σ3 H3 w3 with ⟨stop,qn⟩ |⟨go,N,hN,step⟩
 ·refine Zl hp (thn (T.done X rfl rfl rfl hc i pins s3 σ3 H3 X.xe I3 (stat fr3) st3 stop) fun r s4 h_=>?_); obtain⟨hr,I4⟩:=h_;subst hr;exact Y4 ⟨σ3,H3,I4,qn⟩
 ·refine Zl hp (thn (T.item X rfl rfl rfl hc i pins s3 σ3 H3 X.xe I3 (stat fr3) st3 go) fun r s4 h_=>?_); obtain⟨u,hr,h4⟩:=h_;subst hr;refine Zl hp (thn h4 fun _ s5 h_=>?_); obtain⟨x,H5,I5,r5,y5,st5,fr5⟩:=h_;have I5':=I5.pinned (stat fr5) (T.obj _ _ st5);refine Zl hp (thn (hg _ s5 σ3 H5 x u _ I5' r5 (step x H5 y5)) fun _ s6 h_=>?_); obtain⟨σ6,H6,I6,q6⟩:=h_;refine Zl hp (thn (hb _ s6 σ6 H6 _ I6 q6) fun f s7 q7=>?_);have JB:∀ {σ7:St} {H7:Hp},Inv X (pins++zgV fp s5.heap) σ7 H7 s7->N σ7 H7->∃ m,m < n/\∃ i σ' H',Inv X pins σ' H' s7/\tn i s7.heap/\(∀ b∈fp,H' b=none)/\W i m σ' H':=fun {σ7 H7} I7 n7=>by
   obtain⟨m',hm,w7⟩:=hN σ7 H7 n7;refine⟨m',hm,i+1,σ7,H7,I7.unpinned,T.keep _ _ _ st5 fun b hb o e=>(I7.pin (b,o) (jC _ (jC _ (zcf hb e)))).1,fun b hb=>?_,w7⟩;obtain⟨o,e,d⟩:=T.obj _ _ st5 b hb;exact(I7.pin (b,o) (jC _ (jC _ (zcf hb e)))).2.1
  cases f with
  |next=>obtain⟨σ7,H7,I7,n7⟩:=q7; exact JB I7 n7
  |cont=>obtain⟨σ7,H7,I7,n7⟩:=q7; exact JB I7 n7
  |brk=>obtain⟨σ7,H7,I7,q7⟩:=q7; exact⟨σ7,H7,I7.unpinned,q7⟩
  |ret v=>obtain⟨x7,σ7,H7,I7,r7,q7⟩:=q7; exact⟨x7,σ7,H7,I7.unpinned,r7,q7⟩
end
abbrev R2:=V->V->Hp->VK->Prop
def OpR(X:Cx)(f:ja->ja->Sem ja)(r:R2):Prop:=
 ∀(pins:List (Addr × Obj)) (s:jc) (σ:St) (H:Hp) (x y:V) (v u:ja) (Q:VK),Inv X pins σ H s->RelV x v->RelV y u->r x y H Q->
  jH (jM X.prog X.w) X.A (f v u) (EP X pins σ Q) X.xe s
def UnR(X:Cx)(f:ja->Sem ja)(r:V->Hp->VK->Prop):Prop:=
 ∀(pins:List (Addr × Obj)) (s:jc) (σ:St) (H:Hp) (x:V) (v:ja) (Q:VK),Inv X pins σ H s->RelV x v->r x H Q->
  jH (jM X.prog X.w) X.A (f v) (EP X pins σ Q) X.xe s
def CallR(X:Cx)(f:ja)(r:List V->Hp->VK->Prop):Prop:=
 ∀(pins:List (Addr × Obj)) (s:jc) (σ:St) (H:Hp) (xs:List V) (us:List ja) (Q:VK),Inv X pins σ H s->Vals xs us->r xs H Q->
  jH (jM X.prog X.w) X.A (call f us) (EP X pins σ Q) X.xe s
def zxV(X:Cx)(r:V->Hp->(Bool->Hp->Prop)->Prop):Prop:=
 ∀(pins:List (Addr × Obj)) (s:jc) (σ:St) (H:Hp) (x:V) (v:ja) (Q:Bool->Hp->Prop),Inv X pins σ H s->RelV x v->r x H Q->
  jH (jM X.prog X.w) X.A (truthy v) (TP X pins σ Q) X.xe s
def tOp(r:R2)(ta tb:TE):TE:=fun σ H Q=>ta σ H fun x H1=>tb σ H1 fun y H2=>r x y H2 Q
def tUn(r:V->Hp->VK->Prop)(ta:TE):TE:=fun σ H Q=>ta σ H fun x H1=>r x H1 Q
def rI(C:Int->Int->Prop)(g:Int->Int->V):R2:=fun x y H Q=>∃ i j,x=.int i/\y=.int j/\C i j/\Q (g i j) H
def rI0(g:Int->Int->V):R2:=fun x y H Q=>∃ i j,x=.int i/\y=.int j/\Q (g i j) H
def rU(g:Int->V):V->Hp->VK->Prop:=fun x H Q=>∃ i,x=.int i/\Q (g i) H
section
variable {X:Cx}{a b c:Expr}{ta tb tc:TE}{pos:Pos}
theorem zvY(ha:PE X a ta)(hb:PE X b tb){pins:List (Addr × Obj)}{s:jc}{σ:St}{H:Hp}{R:V->V->Hp->Prop}(I:Inv X pins σ H s)
  (h:ta σ H fun x H1=>tb σ H1 fun y H2=>R x y H2) {Q:ja->jc->Prop} {f:ja->ja->Sem ja}
  (hf:∀ v u s2 x y H2,Inv X pins σ H2 s2->RelV x v->RelV y u->R x y H2->jH (jM X.prog X.w) X.A (f v u) Q X.xe s2) :
  jH (jM X.prog X.w) X.A (eval a X.env) (fun v s₁=>jH (jM X.prog X.w) X.A (eval b X.env) (fun u s₂=>jH (jM X.prog X.w) X.A (f v u) Q X.xe s₂) X.xe s₁) X.xe s:=by
 refine thn (ha pins s σ H _ I h) fun v s1 h_=>?_; obtain⟨x,H1,I1,r1,q1⟩:=h_;refine thn (hb pins s1 σ H1 _ I1 q1) fun u s2 h_=>?_; obtain⟨y,H2,I2,r2,q2⟩:=h_;exact hf v u s2 x y H2 I2 r1 r2 q2
theorem zil{op:Jl}{r:R2}(ho:OpR X (gY op) r)(ha:PE X a ta)(hb:PE X b tb):PE X (.BinOp a op b pos) (tOp r ta tb):=by
 intro pins s σ H Q I h;exact wpAny_BinOp (zvY ha hb I h fun v u s2 x y H2 I2 rx ry q=>ho pins s2 σ H2 x y v u Q I2 rx ry q)
theorem zv7{op:UnaryOp}{r:V->Hp->VK->Prop}(ho:UnR X (unaryOp op) r)(ha:PE X a ta):PE X (.UnaryOp op a pos) (tUn r ta):=by
 intro pins s σ H Q I h;exact UnaryOp_ (thn (ha pins s σ H _ I h) fun v s1 ⟨x,H1,I1,r1,q1⟩=>ho pins s1 σ H1 x v Q I1 r1 q1)
theorem opI{f:ja->ja->Sem ja}{C:Int->Int->Prop}{g:Int->Int->Int}
  (rule:∀(i j:Int) (t u:Tok) (s:jc) (Q:ja->jc->Prop) (E:ja->jc->Prop),C i j->Q (.int (g i j) s.toks) { s with toks:=s.toks+1 }->jH (jM X.prog X.w) X.A (f (.int i t) (.int j u)) Q E s) :
  OpR X f (rI C fun i j=>.int (g i j)):=by
 intro pins s σ H x y v u Q I rx ry h;obtain⟨i,j,rfl,rfl,hc,q⟩:=h;obtain⟨t,rfl⟩:=rx;obtain⟨t',rfl⟩:=ry;exact rule i j t t' s _ _ hc ⟨.int (g i j),H,I.tok _,⟨_,rfl⟩,q⟩
theorem zwq{f:ja->ja->Sem ja}{g:Int->Int->Int}
  (rule:∀(i j:Int) (t u:Tok) (s:jc) (Q:ja->jc->Prop) (E:ja->jc->Prop),Q (.int (g i j) s.toks) { s with toks:=s.toks+1 }->jH (jM X.prog X.w) X.A (f (.int i t) (.int j u)) Q E s) :
  OpR X f (rI0 fun i j=>.int (g i j)):=by
 intro pins s σ H x y v u Q I rx ry h;obtain⟨i,j,rfl,rfl,q⟩:=h;obtain⟨t,rfl⟩:=rx;obtain⟨t',rfl⟩:=ry;exact rule i j t t' s _ _ ⟨.int (g i j),H,I.tok _,⟨_,rfl⟩,q⟩
theorem zwr{f:ja->ja->Sem ja}{g:Int->Int->Bool}
  (rule:∀(i j:Int) (t u:Tok) (s:jc) (Q:ja->jc->Prop) (E:ja->jc->Prop),Q (.bool (g i j)) s->jH (jM X.prog X.w) X.A (f (.int i t) (.int j u)) Q E s) :
  OpR X f (rI0 fun i j=>.bl (g i j)):=by
 intro pins s σ H x y v u Q I rx ry h;obtain⟨i,j,rfl,rfl,q⟩:=h;obtain⟨t,rfl⟩:=rx;obtain⟨t',rfl⟩:=ry;exact rule i j t t' s _ _ ⟨.bl (g i j),H,I,rfl,q⟩
def zxY(i j:Int):Prop:=0 < j/\j < 1073741824
def CMul(i j:Int):Prop:=(-(2 ^ 64) < i/\i < 2 ^ 64)∨(-(2 ^ 64) < j/\j < 2 ^ 64)
theorem CMul.ok{i j:Int}(h:CMul i j):IntMulOk i j:=by
 rcases h with ⟨h1,h2⟩ |⟨h1,h2⟩
 ·exact .of_left (intBits_le_64 h1 h2)
 ·exact .of_right (intBits_le_64 h1 h2)
theorem op_add:OpR X (gY .Add) (rI0 fun i j=>.int (i+j)):=zwq fun _ _ _ _ _ _ _ q=>add_int q
theorem zsB:OpR X (gY .Sub) (rI0 fun i j=>.int (i - j)):=zwq fun _ _ _ _ _ _ _ q=>sub_int q
theorem zsC:OpR X (gY .Mult) (rI CMul fun i j=>.int (i*j)):=opI fun _ _ _ _ _ _ _ hc q=>mul_int q hc.ok
theorem zqg:OpR X (gY .FloorDiv) (rI zxY fun i j=>.int (i / j)):=opI fun i j _ _ _ _ _ hc q=>by
 have h1:(0:Int) < j:=hc.1;have h2:j < 1073741824:=hc.2;exact floordiv_int (by lia) (by rw[Int.fdiv_eq_ediv_of_nonneg i (by lia)]; exact q) (.inl (PyProof.noPylong_small (by lia)))
theorem zsD:OpR X (gY .Mod) (rI (fun _ j=>0 < j) fun i j=>.int (i%j)):=opI fun i j _ _ _ _ _ hc q=>by
 have h1:(0:Int) < j:=hc;exact mod_int' (by lia) (by rw[Int.fmod_eq_emod_of_nonneg i (by lia)]; exact q)
theorem unI{f:ja->Sem ja}{g:Int->Int}
  (rule:∀(i:Int) (t:Tok) (s:jc) (Q:ja->jc->Prop) (E:ja->jc->Prop),Q (.int (g i) s.toks) { s with toks:=s.toks+1 }->jH (jM X.prog X.w) X.A (f (.int i t)) Q E s) :
  UnR X f (rU fun i=>.int (g i)):=by
 intro pins s σ H x v Q I rx h;obtain⟨i,rfl,q⟩:=h;obtain⟨t,rfl⟩:=rx;exact rule i t s _ _ ⟨.int (g i),H,I.tok _,⟨_,rfl⟩,q⟩
theorem zrx:UnR X (unaryOp .USub) (rU fun i=>.int (-i)):=unI fun _ _ _ _ _ q=>neg_int q
end
section
variable {X:Cx}{a b c:Expr}{ta tb tc:TE}{pos:Pos}
theorem zmU{pins:List (Addr × Obj)}{σ:St}{H:Hp}{s:jc}{Q:VK}{k k':Bool}(I:Inv X pins σ H s)(q:Q (.bl k) H)(e:k=k'):EP X pins σ Q (.bool k') s:=by
 subst e;exact⟨.bl k,H,I,rfl,q⟩
theorem op_lt:OpR X (Zg .Lt) (rI0 fun i j=>.bl (decide (i < j))):=zwr fun _ _ _ _ _ _ _ q=>lt_int q
theorem zvb:OpR X (Zg .Gt) (rI0 fun i j=>.bl (decide (j < i))):=zwr fun _ _ _ _ _ _ _ q=>gt_int q
theorem zmj:OpR X (Zg .Lt) (fun x y H Q=>∃ i j,x=.str i/\y=.str j/\Q (.bl (decide (i.cps.toList < j.cps.toList))) H):=by
 intro pins s σ H x y v u Q I rx ry h;obtain⟨i,j,rfl,rfl,q⟩:=h;obtain⟨t,rfl⟩:=rx;obtain⟨t',rfl⟩:=ry;exact lt_str (zmU I q rfl)
theorem zsE:OpR X (Zg .Is) (fun x y H Q=>y=.non/\Q (.bl (decide (x=.non))) H):=by
 intro pins s σ H x y v u Q I rx ry h;obtain⟨rfl,q⟩:=h;cases ry;refine is_none_gen (zmU I q ?_);cases x<;>first
  |(cases rx; rfl)
  |(obtain⟨t,rfl⟩:=rx; rfl)
theorem zqf:OpR X (Zg .IsNot) (fun x y H Q=>y=.non/\Q (.bl (!decide (x=.non))) H):=by
 intro pins s σ H x y v u Q I rx ry h;obtain⟨rfl,q⟩:=h;cases ry;refine isnot_none_gen (zmU I q ?_);cases x<;>first
  |(cases rx; rfl)
  |(obtain⟨t,rfl⟩:=rx; rfl)
theorem OpR.or{f:ja->ja->Sem ja}{r r':R2}(h:OpR X f r)(h':OpR X f r'):OpR X f (fun x y H Q=>r x y H Q∨r' x y H Q):=by
 intro pins s σ H x y v u Q I rx ry q;rcases q with q |q
 ·exact h pins s σ H x y v u Q I rx ry q
 ·exact h' pins s σ H x y v u Q I rx ry q
theorem zf6(b:Expr){op:CmpOp}(h:op≠.In:=by decide)(h2:op≠.NotIn:=by decide):Qi op b=false:=by
 have e1:(op == CmpOp.In)=false:=by cases op<;>first |rfl |exact absurd rfl h
 have e2:(op == JK)=false:=by cases op<;>first |rfl |exact absurd rfl h2
 cases b<;>simp[Qi,e1,e2]
theorem zjj{op:CmpOp}{r:R2}(ho:OpR X (Zg op) r)(ha:PE X a ta)(hb:PE X b tb)(hm:Qi op b=false):PE X (.Compare a [op] [b] pos) (tOp r ta tb):=by
 intro pins s σ H Q I h;exact wpAny_Compare1 (zvY ha hb I h fun v u s2 x y H2 I2 rx ry q=>ho pins s2 σ H2 x y v u Q I2 rx ry q) hm
def zrC(t:TE):TT:=fun σ H Q=>t σ H fun x H'=>∃ k,x=.bl k/\Q k H'
theorem zdZ{op:CmpOp}{r:R2}(ho:OpR X (Zg op) r)(ha:PE X a ta)(hb:PE X b tb)(hm:Qi op b=false):PT X (.Compare a [op] [b] pos) (zrC (tOp r ta tb)):=by
 intro pins s σ H Q I h
 refine Nd (thn (ha pins s σ H _ I h) fun v s1 ⟨x,H1,I1,r1,q1⟩=>thn (hb pins s1 σ H1 _ I1 q1) fun u s2 ⟨y,H2,I2,r2,q2⟩=>
  thn (ho pins s2 σ H2 x y v u _ I2 r1 r2 q2) fun c s3 ⟨z,H3,I3,r3,k,e,q3⟩=>?_) hm
 subst e;cases r3;exact gv ⟨H3,I3,q3⟩
def zw2(K:j8)(x:V)(H:Hp)(k:Bool):Prop:=
 match x with
 |.non=>k=false
 |.bl b=>k=b
 |.int i=>k=(i != 0)
 |.str y=>y.length<=jh/\k=((y.length:Int) != 0)
 |.byt y=>y.size<=jh/\k=((y.size:Int) != 0)
 |.ref p=>(∃ xs,SqL K H p xs/\k=!xs.isEmpty)∨(∃ xs,SqT K H p xs/\k=!xs.isEmpty)∨∃ kvs,H p=some (.dK kvs)/\k=!kvs.isEmpty
 |_=>False
theorem zld{κ:Type}{kvs:List (κ × V)}{vs:List (κ × ja)}(r:KV kvs vs):(!vs.isEmpty)=!kvs.isEmpty:=by
 cases r<;>rfl
theorem zh2{xs:List V}{its:List ja}(r:Vals xs its):(!its.toArray.isEmpty)=!xs.isEmpty:=by
 cases r<;>simp
theorem zg5:(jh:Nat) < 2 ^ 63:=by rw[gy]; decide
theorem zrA:zxV X (fun x H Q=>∃ k,zw2 X.K x H k/\Q k H):=by
 intro pins s σ H x v Q I rx h;obtain⟨k,e,q⟩:=h;have hl:=zg5;have hs:jh=16777216:=gy;cases x with
 |non=>
  cases rx;have e':k=false:=e;subst e';exact truthy_none ⟨H,I,q⟩
 |bl b=>
  cases rx;have e':k=b:=e;subst e';exact gv ⟨H,I,q⟩
 |int i=>
  obtain⟨t,rfl⟩:=rx;have e':k=(i != 0):=e;subst e';exact PySem.P.truthy_int ⟨H,I,q⟩
 |str y=>
  obtain⟨t,rfl⟩:=rx;obtain⟨hy,e'⟩:y.length<=jh/\k=((y.length:Int) != 0):=e;subst e';exact PySem.P.truthy_str (by lia) ⟨H,I.tok _,q⟩
 |byt y=>
  obtain⟨t,rfl⟩:=rx;obtain⟨hy,e'⟩:y.size<=jh/\k=((y.size:Int) != 0):=e;subst e';exact PySem.W.truthy_bytes (by lia) ⟨H,I.tok _,q⟩
 |ref p=>
  cases rx;have e':(∃ xs,SqL X.K H p xs/\k=!xs.isEmpty)∨(∃ xs,SqT X.K H p xs/\k=!xs.isEmpty)∨∃ kvs,H p=some (.dK kvs)/\k=!kvs.isEmpty:=e;rcases e' with ⟨xs,hx,e'⟩ |⟨xs,hx,e'⟩ |⟨kvs,hx,e'⟩
  ·subst e';obtain⟨its,r,pl,hz⟩:=I.list hx;have hlen:=r.length;exact wpAny_truthy_list pl.isList (by simp only[jp]; lia) ⟨H,I.tok _,by rw[zh2 r]; exact q⟩
  ·subst e';obtain⟨its,r,pl,hz⟩:=I.tuple hx;have hlen:=r.length;exact truthy_tuple pl (by simp only[jp]; lia) ⟨H,I.tok _,by rw[zh2 r]; exact q⟩
  ·subst e';obtain⟨hz,hS,vs,r,m⟩:kvs.length<=jh/\(p == Z9)=false/\∃ vs,KV kvs vs/\s.heap.DictOf (zaz X.prog X.w) p vs:=I.hok p _ hx;have hlen:kvs.length=vs.length:=YO r;exact wpAny_truthy_dict hS m (by lia) ⟨H,I.tok _,by rw[zld r]; exact q⟩
 |_=>exact(show False from e).elim
theorem znK(ha:PE X a ta)(he:∀ whole,WV a X.env whole=(do let v <-whole; Jm a.pos; Y5 [v] (truthy v))) :
  PT X a (fun σ H Q=>ta σ H fun x H'=>∃ k,zw2 X.K x H' k/\Q k H'):=by
 intro pins s σ H Q I h;exact isTrue_plain (thn (ha pins s σ H _ I h) fun v s1 ⟨x,H1,I1,r1,q1⟩=>zrA pins s1 σ H1 x v Q I1 r1 q1) (he _)
theorem zl1:OpR X (gY .Add) (fun x y H Q=>∃ i j,x=.str i/\y=.str j/\i.length+j.length<=jh/\Q (.str (i++j)) H):=by
 intro pins s σ H x y v u Q I rx ry h;obtain⟨i,j,rfl,rfl,hz,q⟩:=h;obtain⟨t,rfl⟩:=rx;obtain⟨t',rfl⟩:=ry;exact add_str (fun t' tk=>⟨.str (i++j),H,I.tok _,⟨_,rfl⟩,q⟩) hz
theorem zj5{x:V}{us:List ja}(r:Vals [x] us):∃ u,us=[u]/\RelV x u:=by
 cases r with
 |cons r1 r2=>cases r2; exact⟨_,rfl,r1⟩
theorem zur{x y:V}{us:List ja}(r:Vals [x,y] us):∃ u w',us=[u,w']/\RelV x u/\RelV y w':=by
 cases r with
 |cons r1 r2=>
  cases r2 with
  |cons r3 r4=>cases r4; exact⟨_,_,rfl,r1,r3⟩
theorem znc:CallR X (.type "int") (fun xs H Q=>(∃ i,xs=[.int i]/\Q (.int i) H)∨∃ k,xs=[.bl k]/\Q (.int (if k then 1 else 0)) H):=by
 intro pins s σ H xs us Q I r h;rcases h with ⟨i,rfl,q⟩ |⟨k,rfl,q⟩
 ·obtain⟨u,rfl,t,rfl⟩:=zj5 r;exact call_int_int ⟨.int i,H,I,⟨_,rfl⟩,q⟩
 ·obtain⟨u,rfl,r1⟩:=zj5 r;cases r1;exact call_int_bool ⟨.int (if k then 1 else 0),H,I.tok _,⟨_,rfl⟩,q⟩
end
structure ObjM (h:Heap) (x dx C:Addr) (mA:Str->Option ja):Prop where
 obj:h.get? x=some (Nc C dx)
 ns:h.Ns1 dx mA
 ne:dx≠x
theorem zmy{h:Heap}{dx:Addr}{mA:Str->Option ja}(n:h.Ns1 dx mA):∃ od,h.get? dx=some od/\∀ name,NM name od=some (mA name):=by
 obtain⟨o,es,ep,ho,hd,hk,_,hm⟩:=n;refine⟨o,ho,fun name=>?_⟩;have e:=hm name;unfold nsFind findBy at e;rw[<-Array.find?_toList] at e;unfold NM;rw[hd];dsimp only;split
 ·rename_i y q;rw[q] at e;exact congrArg some e
 ·rename_i q;rw[q] at e;have a:es.toList.any (·.refKey)=false:=by
   rw[List.any_eq_false];intro y hy;obtain⟨z,t,hkey⟩:=hk y (Array.mem_toList_iff.mp hy);simp[DictEntry.refKey,hkey]
  have a':¬ es.toList.any (·.refKey)=true:=by rw[a]; exact jr
  rw[if_neg a'];exact congrArg some e
theorem ObjM.look{h:Heap}{x dx C:Addr}{mA:Str->Option ja}(I:ObjM h x dx C mA):∃ od,PySem.W.InstAt h x (Nc C dx) C (some od)/\∀ name,NM name od=some (mA name):=
 let ⟨od,ho,hl⟩:=zmy I.ns
 ⟨od,⟨I.obj,rfl,rfl,ho⟩,hl⟩
theorem RelO.some_of{v:V}{o:Option ja}(r:RelO (some v) o):∃ u,o=some u/\RelV v u:=by
 cases o with
 |none=>exact(show False from r).elim
 |some u=>exact⟨u,rfl,r⟩
section
variable {P:jK}{w:Qj}{H H':Hp}{h h':Heap}{a C dx:Addr}{fs fs':List (Str × V)}
theorem zqv(hok:HOk P w H h)(e:H a=some (.ins C dx fs)):∃ mA,ObjM h a dx C mA/\(∀ f,RelO (fs.lookup f) (mA f))/\Jz mA (fs.map (·.1))/\fs.length<=1000/\H dx=some (.own a):=by
 obtain⟨d,z,ne,ob,mA,n,r,q⟩:=(show ObjOk P w H h a (.ins C dx fs) from hok a _ e);exact⟨mA,⟨ob,n,ne⟩,r,q,z,d⟩
end
structure Cls (K:j8) (C:Addr):Prop where
 pg:WH K C jS=true
 hd:PySem.W.hasDictIn K C=true
 po:PySem.W.plainOver K C=true
 sa:J6 K (.ref C) "__setattr__"=some (some (.builtin "object.__setattr__"))
theorem Cls.get{K:j8}{C:Addr}(c:Cls K C)(f:Str):WH K C f=true:=c.pg
section
variable {X:Cx}{pins:List (Addr × Obj)}{σ:St}{H:Hp}{s:jc}{A:Qz}{E:ja->jc->Prop}{Q:ja->jc->Prop}{c:ja}{b:Bool}
inductive TyOf (K:j8) (H:Hp):V->ja->Prop where
 |non:TyOf K H .non (.type "NoneType")
 |bl (x:Bool):TyOf K H (.bl x) (.type "bool")
 |int (i:Int):TyOf K H (.int i) (.type "int")
 |str (x:Str):TyOf K H (.str x) (.type "str")
 |flt (x:UInt64):TyOf K H (.flt x) (.type "float")
 |lst {a:Addr} {xs:List V} (e:H a=some (.lst xs)):TyOf K H (.ref a) (.type "list")
 |frz {a:Addr} {o:Obj} {xs:List V} (e:H a=some (.frz o (.lst xs))):TyOf K H (.ref a) (.type "list")
 |tup {a:Addr} {xs:List V} (e:H a=some (.tup xs)):TyOf K H (.ref a) (.type "tuple")
 |dK {a:Addr} {kvs:List (Key × V)} (e:H a=some (.dK kvs)):TyOf K H (.ref a) (.type "dict")
 |dT {a:Addr} {kvs:List (List Key × V)} (e:H a=some (.dT kvs)):TyOf K H (.ref a) (.type "dict")
 |ins {a C dx:Addr} {fs:List (Str × V)} (e:H a=some (.ins C dx fs)) (cl:Cls K C) (ha:J6 K (.ref C) "__class__"=some (some (.builtin "object.__class__")))
   (hn:PySem.W.specialIn K (.builtin "object.__class__") "__get__"=some (some (.builtin "getset_descriptor.__get__"))) (htk:PySem.W.takesIn K (.builtin "object.__class__")=some true)
   (hm:PySem.W.mroIn K C (.type "object")=some true):TyOf K H (.ref a) (.ref C)
theorem zmF{x:V}{u t:ja}(I:Inv X pins σ H s)(rx:RelV x u)(ty:TyOf X.K H x t)(e:NN X.K t c=some b)(h:∀ tk,Q (.bool b) { s with toks:=tk }) :
  jH (jM X.prog X.w) A (call (.builtin "isinstance") [u,c]) Q E s:=by
 cases ty with
 |non=>cases (show u=gu from rx); exact QF PySem.W.kitx_none I.kIn ZS e (fun z=>nomatch z) h
 |bl y=>cases (show u=Jc y from rx); exact QF PySem.W.kitx_bool I.kIn ZS e (fun z=>nomatch z) h
 |int i=>obtain⟨t,q⟩:=(show ∃ t,u=WU i t from rx); cases q; exact QF PySem.W.kitx_int I.kIn ZS e (fun z=>nomatch z) h
 |str y=>obtain⟨t,q⟩:=(show ∃ t,u=ZA y t from rx); cases q; exact QF PySem.W.kitx_str I.kIn ZS e (fun z=>nomatch z) h
 |flt y=>obtain⟨t,q⟩:=(show ∃ t,u=JJ y t from rx); cases q; exact QF PySem.W.kitx_float I.kIn ZS e (fun z=>nomatch z) h
 |@lst a xs ea=>
  cases (show u=Qp a from rx);obtain⟨_,_,n,_,h1⟩:=(show ObjOk X.prog X.w H s.heap a (.lst xs) from I.hok a _ ea);exact QF Wh I.kIn ⟨_,h1,rfl⟩ e (fun z=>nomatch z) h
 |@frz a ob xs ea=>
  cases (show u=Qp a from rx);obtain⟨_,_,_,n,_,h1⟩:=(show ObjOk X.prog X.w H s.heap a (.frz ob (.lst xs)) from I.hok a _ ea);exact QF Wh I.kIn ⟨_,h1,rfl⟩ e (fun z=>nomatch z) h
 |@tup a xs ea=>
  cases (show u=Qp a from rx);obtain⟨_,_,_,p⟩:=(show ObjOk X.prog X.w H s.heap a (.tup xs) from I.hok a _ ea);obtain⟨o,h1,h2,_⟩:=p;exact QF PySem.W.kitx_tuple I.kIn ⟨o,h1,h2⟩ e (fun z=>nomatch z) h
 |@dK a kvs ea=>
  cases (show u=Qp a from rx);obtain⟨_,_,vs,_,p⟩:=(show ObjOk X.prog X.w H s.heap a (.dK kvs) from I.hok a _ ea);obtain⟨o,es,ep,h1,h2,_⟩:=p;exact QF Wi I.kIn ⟨o,h1,h2.1⟩ e (fun z=>nomatch z) h
 |@dT a kvs ea=>
  cases (show u=Qp a from rx);obtain⟨_,_,xs,_,o,es,ep,h1,h2,_⟩:=(show ObjOk X.prog X.w H s.heap a (.dT kvs) from I.hok a _ ea);exact QF Wi I.kIn ⟨o,h1,h2.1⟩ e (fun z=>nomatch z) h
 |@ins a C dx fs ea cl ha hn htk hm=>
  cases (show u=Qp a from rx);obtain⟨mA,O,_⟩:=zqv I.hok ea;obtain⟨od,J,_⟩:=O.look;exact QF (PySem.W.kitx_own (cl.get _) cl.hd ha hn htk hm) I.kIn J e (fun z=>nomatch z) h
end
structure Room (k:Nat) (A:Qz):Prop where
 hd:A.handled=none
 dp:A.depth+3*k+5 < recursionLimit
 un:A.units+16*k+200 < ZH
theorem Room.mono{j k:Nat}{A:Qz}(r:Room k A)(h:j<=k):Room j A:=⟨r.hd,by have:=r.dp; lia,by have:=r.un; lia⟩
theorem Room.deeper{k:Nat}{A:Qz}(r:Room (k+1) A)(env:Env):Room k (A.deeper env):=
 ⟨r.hd,by have:=r.dp; show A.depth+1+3*k+5 < _; lia,by have:=r.un; show A.units+3+16*k+200 < _; lia⟩
theorem Room.depth{k:Nat}{A:Qz}(r:Room k A):A.depth < recursionLimit:=by have:=r.dp; lia
theorem Room.units{k:Nat}{A:Qz}(r:Room k A):A.units+64 < ZH:=by have:=r.un; lia
def zlJ:TA:=fun _ H Q=>Q [] H
def zde(ta:TE)(tr:TA):TA:=fun σ H Q=>ta σ H fun x H1=>tr σ H1 fun xs H2=>Q (x::xs) H2
section
variable {X:Cx}{e:Expr}{es:List Expr}{te:TE}{t:TA}{pos:Pos}
theorem zdb:PA X [] zlJ:=fun _ _ _ _ H Q I h=>Calls.spliced_nil ⟨[],H,I,.nil,h⟩
theorem zbf(ha:PE X e te)(hr:PA X es t)(hs:jb (e::es) X.env=(false,eval e X.env)::jb es X.env:=by rfl):PA X (e::es) (zde te t):=by
 intro pos pins s σ H Q I h;rw[hs];show jH _ _ (spliced ((false,eval e X.env)::QB pos (jb es X.env))) _ _ s;refine Calls.spliced_cons (thn (ha pins s σ H _ I h) fun u s1 h_=>?_); obtain⟨x,H1,I1,r1,q1⟩:=h_;exact thn (hr pos pins s1 σ H1 _ I1 q1) fun us s2 ⟨xs,H2,I2,r2,q2⟩=>⟨x::xs,H2,I2,.cons r1 r2,q2⟩
def zxg(t:TA):TE:=fun σ H Q=>t σ H fun xs H1=>xs.length<=jh/\∀ p,H1 p=none->Q (.ref p) (upd H1 p (.tup xs))
def zxl(t:TA):TE:=fun σ H Q=>t σ H fun xs H1=>xs.length<=jh/\∀ p,H1 p=none->Q (.ref p) (upd H1 p (.lst xs))
theorem zsp{x1}(h:PA X es t):PE X (.Tuple es x1 pos) (zxg t):=by
 intro pins s σ H Q I hq;refine wpAny_Tuple_spliced (thn (h pos pins s σ H _ I hq) fun us s1 ⟨xs,H1,I1,r,z,q⟩=>⟨by rw[<-r.length]; exact z,?_⟩)
 have hf:H1 s1.heap.objs.size=none:=I1.hok.fresh (jl _);refine⟨.ref s1.heap.objs.size,upd H1 s1.heap.objs.size (.tup xs),I1.laid (t':=s1.toks) (fun b u e=>j7 _ e) (jl _) ?_,rfl,q _ hf⟩;exact⟨z,us,r,⟨_,jw _ rfl,rfl,_,rfl⟩⟩
theorem zoR(h:PA X es t):PE X (.List es pos) (zxl t):=by
 intro pins s σ H Q I hq;refine wpAny_List_spliced (thn (h pos pins s σ H _ I hq) fun us s1 ⟨xs,H1,I1,r,z,q⟩=>⟨by rw[<-r.length]; exact z,?_⟩)
 have hf:H1 s1.heap.objs.size=none:=I1.hok.fresh (jl _);refine⟨.ref s1.heap.objs.size,upd H1 s1.heap.objs.size (.lst xs),I1.laid (t':=s1.toks) (fun b u e=>j7 _ e) (jl _) ?_,rfl,q _ hf⟩;exact⟨z,us,0,r,jw _ rfl⟩
end
abbrev Sp:=List V->Hp->VK->XK->Prop
abbrev CXT:=List Env->Hp->jc->XK->ja->jc->Prop
structure Env0 (P:jK) (w:Qj) (K:j8) (mg:Str->Option ja) (base:Heap) (A:Qz) (outer:List Env) (s:jc) (H:Hp):Prop where
 frames:A.frames=some outer
 mod:Mod K mg base
 bs:∀ b o,base.get? b=some o->s.heap.get? b=some o/\H b=none
 bsz:base.objs.size<=s.heap.objs.size
 funs:s.heap.FunFrames base outer
 frf:∀ b∈frs outer,H b=none
 hok:HOk P w H s.heap
 bare:YQ s.gens
def CE(outer:List Env)(P:jK)(w:Qj)(H:Hp)(s:jc)(Q:VK)(u:ja)(s':jc):Prop:=
 ∃ v H',s'.os=s.os/\YQ s'.gens/\Un (frs outer) [] H H' s.heap s'.heap/\HOk P w H' s'.heap/\RelV v u/\Q v H'
def CR(CX:CXT)(outer:List Env)(P:jK)(w:Qj)(H:Hp)(s:jc)(Q:VK)(E:XK)(r:Jg)(s':jc):Prop:=
 match r with
 |.ok (.ret u)=>CE outer P w H s Q u s'
 |.ok _=>False
 |.error e=>CX outer H s E e s'
structure FnOk (P:jK) (w:Qj) (K:j8) (mg:Str->Option ja) (base:Heap) (CX:CXT) (k:Nat) (f:Addr) (fd:Q9) (ps:List Str) (sp:Sp):Prop where
 len:∀ vs H Q E,sp vs H Q E->vs.length=ps.length
 run:∀(A:Qz) (outer:List Env) (s:jc) (H:Hp) (args:Args) (us:List ja) (vs:List V) (Q:VK) (E:XK),Room k A->Env0 P w K mg base A outer s H->Wj s fd args (ps.zip us)->Vals vs us->sp vs H Q E->
  Yt (jM P w) A (.call (.ref f) args) (CR CX outer P w H s Q E) s
theorem FnOk.mono{P:jK}{w:Qj}{K:j8}{mg:Str->Option ja}{base:Heap}{CX:CXT}{j k:Nat}{f:Addr}{fd:Q9}{ps:List Str}{sp:Sp}(F:FnOk P w K mg base CX j f fd ps sp)(h:j<=k) :
  FnOk P w K mg base CX k f fd ps sp:=⟨F.len,fun A outer s H args us vs Q E hr=>F.run A outer s H args us vs Q E (hr.mono h)⟩
section
variable {X:Cx}{pins:List (Addr × Obj)}{σ:St}{H:Hp}{s s':jc}
theorem Inv.env0(I:Inv X pins σ H s):Env0 X.prog X.w X.K X.mg X.base X.A X.stack s H:=
 ⟨I.ok.frames,I.ok.mod,I.bs,Q5 I.ok.bsz I.sz,I.stack,I.stkFree,I.hok,I.bare⟩
theorem Inv.after{Q:VK}{u:ja}(I:Inv X pins σ H s)(h:CE X.stack X.prog X.w H s Q u s'):EP X pins σ Q u s':=by
 obtain⟨v,H',os,bare,un,hok,r,q⟩:=h;obtain⟨hh,g,d,t,os'⟩:=s';obtain rfl:os'=s.os:=os;exact⟨v,H',I.call (h':=hh) (g':=g) (d':=d) (t':=t) (ch:=[]) un hok bare (fun b z=>absurd z (by simp)),r,q⟩
end
def zkW(sp:Sp)(dvs:List V)(E:XK)(t:TA):TE:=fun σ H Q=>t σ H fun vs H1=>sp (vs++dvs) H1 Q E
def Binds(K:j8)(fd:Q9)(ps:List Str)(ds:List ja):Prop:=
 ∀(s:jc) (us:List ja),K.In s.heap->(us++ds).length=ps.length->Wj s fd ⟨us,[]⟩ (ps.zip (us++ds))
theorem Binds.all{K:j8}{fd:Q9}{ps:List Str}(h:∀ us:List ja,us.length=ps.length->gZ fd ⟨us,[]⟩=pure (ps.zip us)):Binds K fd ps []:=fun s us _ hl=>by
 rw[QV] at hl ⊢;exact .of_eq (h us hl)
def zne(CX:CXT)(X:Cx)(E:XK):Prop:=∀(pins:List (Addr × Obj)) (σ:St) (H:Hp) (s:jc) (e:ja) (s':jc),Inv X pins σ H s->CX X.stack H s E e s'->X.xe e s'
section
variable {X:Cx}{CX:CXT}{k:Nat}{f C:Addr}{fd:Q9}{ps:List Str}{sp:Sp}{dvs:List V}{ds:List ja}{E:XK}{x m:Str}{p pos apos:Pos}{e o:Expr}{es:List Expr}{ta:TE}{t:TA}
theorem zs1{pins:List (Addr × Obj)}{σ:St}{H:Hp}{s:jc}{Q:VK}{us:List ja}{vs:List V}(F:FnOk X.prog X.w X.K X.mg X.base CX k f fd ps sp)(hr:Room k X.A)(hb:Binds X.K fd ps ds)(hd:Vals dvs ds)(hx:zne CX X E)
  (I:Inv X pins σ H s) (r:Vals vs us) (h:sp (vs++dvs) H Q E):jH (jM X.prog X.w) X.A (call (.ref f) us) (EP X pins σ Q) X.xe s:=by
 have r2:Vals (vs++dvs) (us++ds):=r.append hd;have hl:(us++ds).length=ps.length:=by rw[<-r2.length]; exact F.len _ _ _ _ h
 refine wpAny_call (Yl (F.run X.A X.stack s H ⟨us,[]⟩ (us++ds) (vs++dvs) Q E hr I.env0 (hb s us I.kIn hl) r2 h) fun r s' hq=>?_);cases r with
 |error e=>exact hx pins σ H s e s' I hq
 |ok fl=>
  cases fl with
  |ret u=>exact I.after hq
  |next=>exact ZQ hq
  |brk=>exact ZQ hq
  |cont=>exact ZQ hq
theorem zg0(F:FnOk X.prog X.w X.K X.mg X.base CX k f fd ps sp)(hr:Room k X.A)(hg:Gl X x)(hm:X.mg x=some (.ref f))(hk:jX X.K (.ref f)=true)(hb:Binds X.K fd ps ds)(hd:Vals dvs ds)(hx:zne CX X E)
  (ha:PA X (e::es) t) (hdb:(x == ("__debug__":Str))=false:=by decide) (he:jb (e::es) X.env=(false,eval e X.env)::jb es X.env:=by rfl) (hpl:(QB pos (jb es X.env)).any (·.1)=false:=by rfl) :
  PE X (.Call (.Name x p) (e::es) [] pos) (zkW sp dvs E t):=by
 intro pins s σ H Q I h;refine Ym (zqo I hg hm ?_ hdb);refine PySem.W.callWith_K (h₀:=X.base) I.ok.mod.kin hk (thn (ha pos pins s σ H _ I h) fun us s1 ⟨vs,H1,I1,r,q⟩=>⟨I1.kIn,?_⟩) he hpl;exact zs1 F hr hb hd hx I1 r q
end
structure FnScope (N P:List Str) (sc:gX):Prop where
 kind:sc.kind=.function
 co:sc.isCoroutine=false
 gen:sc.isGenerator=false
 nd:N.Nodup
 pre:N.take P.length=P
 par:∀ x∈P,sc.names.lookup x=some .local∨sc.names.lookup x=some .cell
 nofree:∀ y∈sc.names,y.2≠.free
theorem ziU{kindOf:Str->Option YS}{x:Str}:∀ {binds:List (Str × ja)} {m:Str->Option ja},(∀ v,(x,v)∉binds)->JC kindOf binds m x=m x
 |[],_,_=>rfl
 |(n,v)::r,m,h=>by
  unfold JC;rw[ziU fun w hw=>h w (jF _ hw)];split
  ·have:x≠n:=by rintro rfl; exact h v Q0
   simp[this]
  ·rfl
theorem ziW{kindOf:Str->Option YS}{x:Str}:∀ {binds:List (Str × ja)} {m:Str->Option ja},(∀ v,(x,v)∉binds)->JD kindOf binds m x=m x
 |[],_,_=>rfl
 |(n,v)::r,m,h=>by
  unfold JD;rw[ziW fun w hw=>h w (jF _ hw)];split
  ·rfl
  ·have:x≠n:=by rintro rfl; exact h v Q0
   simp[this]
theorem ziV{kindOf:Str->Option YS}{x:Str}{v:ja}:∀ {P:List Str} {vs:List ja} {i:Nat} {m:Str->Option ja},P.Nodup->P[i]?=some x->vs[i]?=some v->kindOf x=some .local->
  JC kindOf (P.zip vs) m x=some v
 |[],_,_,_,_,h,_,_=>by simp at h
 |_::_,[],_,_,_,_,h,_=>by simp at h
 |p::P,w::vs,0,m,nd,h1,h2,hk=>by
  simp at h1 h2; subst h1; subst h2;show JC kindOf ((p,w)::P.zip vs) m p=_;unfold JC;rw[ziU fun v hv=>(Q1.mp nd).1 (Ng hv).1,if_pos hk];simp
 |p::P,w::vs,i+1,m,nd,h1,h2,hk=>by
  show JC kindOf ((p,w)::P.zip vs) m x=_;unfold JC;exact ziV (i:=i) (Q1.mp nd).2 (by simpa using h1) (by simpa using h2) hk
theorem ziX{kindOf:Str->Option YS}{x:Str}{v:ja}:∀ {P:List Str} {vs:List ja} {i:Nat} {m:Str->Option ja},P.Nodup->P[i]?=some x->vs[i]?=some v->kindOf x≠some .local->
  JD kindOf (P.zip vs) m x=some v
 |[],_,_,_,_,h,_,_=>by simp at h
 |_::_,[],_,_,_,_,h,_=>by simp at h
 |p::P,w::vs,0,m,nd,h1,h2,hk=>by
  simp at h1 h2; subst h1; subst h2;show JD kindOf ((p,w)::P.zip vs) m p=_;unfold JD;rw[ziW fun v hv=>(Q1.mp nd).1 (Ng hv).1,if_neg hk];simp
 |p::P,w::vs,i+1,m,nd,h1,h2,hk=>by
  show JD kindOf ((p,w)::P.zip vs) m x=_;unfold JD;exact ziX (i:=i) (Q1.mp nd).2 (by simpa using h1) (by simpa using h2) hk
def start(N:List Str)(vs:List V):St:=vs.map some++ZX (N.length - vs.length) none
def zoq(CX:CXT)(P:jK)(w:Qj)(K:j8)(mg:Str->Option ja)(base:Heap)(N:List Str)(qual:Str)(scope:gX)(f:Addr)(cd:ja)(A:Qz)(outer:List Env)(s:jc)(H:Hp)(E:XK):Cx where
 prog:=P
 w:=w
 K:=K
 mg:=mg
 base:=base
 A:=A.deeper (Y6 qual scope s.heap.objs.size f cd)
 N:=N
 s₀:=s
 H₀:=H
 env:=Y6 qual scope s.heap.objs.size f cd
 outer:=outer
 stack:=Y6 qual scope s.heap.objs.size f cd::outer
 ex:=[]
 calm:=true
 fn:=fun _=>true
 pn:=[]
 xe:=fun e s'=>jH (jM P w) (A.deeper (Y6 qual scope s.heap.objs.size f cd)) (leaving (Y6 qual scope s.heap.objs.size f cd) e) (fun _ s''=>CX outer H s E e s'') (fun e' s''=>CX outer H s E e' s'') s'
theorem zkH{sc:gX}{n:Nat}{x:Str}(h:sc.names.lookup x=some .cell):∃ c,(WW n sc.names []).lookup x=some c:=by
 have q:=N7 sc.names n [] (.inl h);exact YB.mp q
theorem zmJ{CX:CXT}{P:jK}{w:Qj}{K:j8}{mg:Str->Option ja}{base:Heap}{N ps:List Str}{qual:Str}{scope:gX}{f:Addr}{cd:ja}{A:Qz}{outer:List Env}{s s1:jc}{H:Hp}{E:XK}{us:List ja}{vs:List V}
  (S:FnScope N ps scope) (hd:A.handled=none) (e0:Env0 P w K mg base A outer s H) (hl:vs.length=ps.length) (r:Vals vs us)
  (x:InCallC s s.heap.objs.size (JC (Y6 qual scope s.heap.objs.size f cd).kindOf (ps.zip us) fun _=>none) (WW (s.heap.objs.size+1) scope.names []) (JD (Y6 qual scope s.heap.objs.size f cd).kindOf (ps.zip us) fun _=>none) s1) :
  Inv (zoq CX P w K mg base N qual scope f cd A outer s H E) [] (start N vs) H s1:=by
 have hpl:ps.length<=N.length:=by have:=congrArg ge S.pre; rw[jQ] at this; lia
 obtain⟨h1,tk,rfl,hk⟩:=x.done;have noA:∀ b:Addr,b∉(zoq CX P w K mg base N qual scope f cd A outer s H E).ex:=fun b z=>absurd (show b∈([]:List Addr) from z) (by simp)
 refine⟨⟨e0.mod,S.kind,rfl,rfl,jl _,fun y z c h1 h2=>?_,fun y hy=>?_,fun y c _ h=>?_,fun _=>hd,Around.frames_deeper e0.frames,.inr ⟨rfl,rfl⟩,fun b z=>absurd z (noA b),e0.bs,e0.bsz,fun b _ _=>noA b,fun b z=>absurd z (noA b),e0.funs,e0.frf⟩,
  rfl,e0.bare,Un.kept hk,⟨_,x.toInCall.ns,fun i y v h1 h2 h3=>?_⟩,fun y c h=>⟨_,x.cell y c h⟩,e0.hok.fresh (jl _),fun y c h=>?_,fun p hp=>absurd (show p∈([]:List (Addr × Obj)) from hp) (by simp),e0.hok.kept hk,?_⟩
 ·exact name_of_addr x.apart (Zx h1) (Zx h2)
 ·have hy:scope.names.lookup y=some .cell∨scope.names.lookup y=some .free:=hy;rcases hy with hy |hy
  ·exact zkH hy
  ·exact absurd rfl (S.nofree _ (Zx hy))
 ·exact Z8 (x.above y c (Zx h))
 ·have hi:i < vs.length:=by
   unfold start at h2
   by_cases hi:i < vs.length
   ·exact hi
   ·rw[Qh (by simpa using hi)] at h2
    rw[List.getElem?_replicate] at h2;split at h2<;>cases h2
  have ha:vs[i]?=some v:=by
   unfold start at h2;rw[Q6 (by simpa using hi),ji] at h2
   cases e:vs[i]? with
   |none=>rw[e] at h2; cases h2
   |some a=>rw[e] at h2; cases h2; rfl
  obtain⟨u,hu,rv⟩:=r.get ha;have hp:ps[i]?=some y:=by
   rw[<-S.pre,List.getElem?_take_of_lt (by lia)]; exact h1
  have ndP:ps.Nodup:=by rw[<-S.pre]; exact S.nd.sublist (List.take_sublist _ _)
  refine⟨u,rv,?_⟩;rcases S.par y (jJ hp) with k |k
  ·exact .inl ⟨k,ziV ndP hp hu k⟩
  ·obtain⟨c,e⟩:=zkH (n:=s.heap.objs.size+1) k;refine .inr ⟨.inl k,c,e,?_⟩;have q:=x.cell y c e;rw[ziX ndP hp hu (by show scope.names.lookup y≠_; rw[k]; decide)] at q
   exact q
 ·exact e0.hok.fresh (Z8 (x.above y c (Zx h)))
 ·unfold start;show _=N.length;rw[ju,j6,Nh];lia
theorem zvw{CX:CXT}{P:jK}{w:Qj}{K:j8}{mg:Str->Option ja}{base:Heap}{k:Nat}{f:Addr}{name qual:Str}{params:Arguments}{body:List Stmt}{scope:gX}{dV kV doc pm cdv ct oc:ja}{an od:Option Addr}
  {osl:Array (Option ja)} {N ps:List Str} {sp:Sp} (lk:K.lookup f=some ⟨oc,od,.func (Qo name qual params body scope dV kV doc pm an cdv ct),osl⟩) (hcd:ZY K cdv qual=true) (S:FnScope N ps scope)
  (len:∀ vs H Q E,sp vs H Q E->vs.length=ps.length)
  (hbody:∀(A:Qz) (outer:List Env) (s:jc) (H:Hp) (vs:List V) (Q:VK) (E:XK),Room k (A.deeper (Y6 qual scope s.heap.objs.size f cdv))->sp vs H Q E->
   ∃ t,PSs (zoq CX P w K mg base N qual scope f cdv A outer s H E) body t/\t { nx:=fun _ H'=>Q .non H',rt:=Q } (start N vs) H) :
  FnOk P w K mg base CX (k+1) f (Qo name qual params body scope dV kV doc pm an cdv ct) ps sp:=by
 refine⟨len,fun A outer s H args us vs Q E hr e0 hb r hsp=>?_⟩;have hl:=len _ _ _ _ hsp;have KX:K.In s.heap:=e0.mod.kin.keeps fun b o e=>(e0.bs b o e).1;have lim:s.heap.NoLimit:=e0.mod.nolimit.keeps fun b o e=>(e0.bs b o e).1;have hkind:∀ y∈ps.zip us,scope.names.lookup y.1=some .local∨(scope.names.lookup y.1=some .cell/\((WW (s.heap.objs.size+1) scope.names []).lookup y.1).isSome=true):=fun⟨n,v⟩ hy=>by
  rcases S.par n (Ng hy).1 with q |q
  ·exact .inl q
  ·exact .inr ⟨q,N7 _ _ _ (.inl q)⟩
 refine codeAny_call_function hr.depth (KX _ _ lk) rfl S.co S.gen rfl (PySem.W.codeRec_of KX hcd) (hb _ _ _ _ ?_);refine wpAny_newFunctionEnv_cells S.kind hkind fun env he s1 x=>?_;subst he;refine⟨lim.keeps x.toInCall.keep,codeAny_func ?_⟩;obtain⟨t,ht,hq⟩:=hbody A outer s H vs Q E (hr.deeper _) hsp;have I:Inv (zoq CX P w K mg base N qual scope f cdv A outer s H E) [] (start N vs) H s1:=zmJ S hr.hd e0 hl r x;refine Qg (ht [] s1 (start N vs) H _ I hq) (fun fl s' hs=>?_) fun e s' hs=>hs;have fin:∀ {σ':St} {H':Hp} {v:V} {u:ja},Inv (zoq CX P w K mg base N qual scope f cdv A outer s H E) [] σ' H' s'->RelV v u->Q v H'->CE outer P w H s Q u s':=
  fun {σ' H' v u} J rv q=>⟨v,H',J.os,J.bare,J.base,J.hok,rv,q⟩
 cases fl with
 |ret u=>
  obtain⟨v,σ',H',J,rv,q⟩:=hs;exact fin J rv q
 |next=>
  obtain⟨σ',H',J,q⟩:=hs;exact fin (v:=V.non) (u:=gu) J rfl q
 |brk=>
  obtain⟨_,_,_,q⟩:=hs;exact ZQ q
 |cont=>
  obtain⟨_,_,_,q⟩:=hs;exact ZQ q
section
variable {X:Cx}{x:Str}{p pos:Pos}{e:Expr}{es:List Expr}{t:TA}{id T:String}{r:List V->Hp->VK->Prop}
def tCB(r:List V->Hp->VK->Prop)(t:TA):TE:=fun σ H Q=>t σ H fun vs H1=>r vs H1 Q
theorem zhv(hc:CallR X (.builtin id) r)(hg:Gl X x)(hm:X.mg x=none)(hv:QK x=some (.builtin id))(ha:PA X (e::es) t)(hn:x≠"__name__":=by decide)(hdb:(x == ("__debug__":Str))=false:=by decide)
  (he:jb (e::es) X.env=(false,eval e X.env)::jb es X.env:=by rfl) (hpl:(QB pos (jb es X.env)).any (·.1)=false:=by rfl):PE X (.Call (.Name x p) (e::es) [] pos) (tCB r t):=by
 intro pins s σ H Q I h;refine Ym (zg9 I hg hm hv ?_ hn hdb);exact PyProof.Rows.callWith_builtin1 (thn (ha pos pins s σ H _ I h) fun us s1 ⟨vs,H1,I1,r1,q1⟩=>hc pins s1 σ H1 vs us Q I1 r1 q1) he hpl
theorem zem(hc:CallR X (.type T) r)(hg:Gl X x)(hm:X.mg x=none)(hv:QK x=some (.type T))(ha:PA X (e::es) t)(hn:x≠"__name__":=by decide)(hdb:(x == ("__debug__":Str))=false:=by decide)
  (he:jb (e::es) X.env=(false,eval e X.env)::jb es X.env:=by rfl) (hpl:(QB pos (jb es X.env)).any (·.1)=false:=by rfl):PE X (.Call (.Name x p) (e::es) [] pos) (tCB r t):=by
 intro pins s σ H Q I h;refine Ym (zg9 I hg hm hv ?_ hn hdb);exact QU (thn (ha pos pins s σ H _ I h) fun us s1 ⟨vs,H1,I1,r1,q1⟩=>hc pins s1 σ H1 vs us Q I1 r1 q1) he hpl
end
end L2
namespace HT
open PySem PyProof.Rows
section
variable {prog:jK}{w:Qj}{A:Qz}{E:ja->jc->Prop}{s:jc}
def sIx(n d:Nat):Option Int->Nat
 |none=>d
 |some v=>if v < 0 then (v+(n:Int)).toNat else min v.toNat n
end
end HT
namespace L2
open PySem PySem.Spec PyProof.Rows
abbrev TO:=St->Hp->(Option Int->Hp->Prop)->Prop
def PO(X:Cx)(e:Option Expr)(t:TO):Prop:=
 ∀(pins:List (Addr × Obj)) (s:jc) (σ:St) (H:Hp) (Q:Option Int->Hp->Prop),Inv X pins σ H s->t σ H Q->
  jH (jM X.prog X.w) X.A (evalPart e X.env) (fun u s'=>∃ o H',Inv X pins σ H' s'/\IsPart u o/\Q o H') X.xe s
def zpv:TO:=fun _ H Q=>Q none H
def zuK(t:TE):TO:=fun σ H Q=>t σ H fun x H1=>∃ i,x=.int i/\Q (some i) H1
section
variable {X:Cx}{e:Expr}{te:TE}{lo hi:Option Expr}{tl th:TO}{pos p2:Pos}
theorem zq7:PO X none zpv:=by
 intro pins s σ H Q I h;rw[W3];exact je ⟨none,H,I,.none,h⟩
theorem zq6(h:PE X e te):PO X (some e) (zuK te):=by
 intro pins s σ H Q I hw;rw[evalPart_some];refine thn (h pins s σ H _ I hw) fun u s1 h_=>?_; obtain⟨x,H1,I1,r1,q1⟩:=h_;obtain⟨i,rfl,q⟩:=q1;obtain⟨t,rfl⟩:=r1;exact⟨some i,H1,I1,.int i t,q⟩
def SlR(X:Cx)(r:V->Option Int->Option Int->Hp->VK->Prop):Prop:=
 ∀(pins:List (Addr × Obj)) (s:jc) (σ:St) (H:Hp) (x:V) (v vl vu:ja) (lo hi:Option Int) (sl:Addr) (Q:VK),Inv X pins σ H s->RelV x v->s.heap.IsSliceOf sl vl vu .none->IsPart vl lo->IsPart vu hi->r x lo hi H Q->
  ∃ T id,typeLookup (.type T) "__getitem__"=pure (some (.builtin id))/\s.TypeIs v T/\jH (jM X.prog X.w) X.A (WX v (.ref sl)) (EP X pins σ Q) X.xe s
def tSl(r:V->Option Int->Option Int->Hp->VK->Prop)(te:TE)(tl th:TO):TE:=fun σ H Q=>te σ H fun x H1=>tl σ H1 fun l H2=>th σ H2 fun u H3=>r x l u H3 Q
theorem zhu{r:V->Option Int->Option Int->Hp->VK->Prop}(hr:SlR X r)(he:PE X e te)(hl:PO X lo tl)(hu:PO X hi th):PE X (.Subscript e (.Slice lo hi none p2) pos) (tSl r te tl th):=by
 intro pins s σ H Q I h;refine Wk (thn (he pins s σ H _ I h) fun v s1 h_=>?_); obtain⟨x,H1,I1,r1,q1⟩:=h_;refine wpAny_Slice (thn (hl pins s1 σ H1 _ I1 q1) fun vl s2 h_=>?_); obtain⟨l,H2,I2,pl,q2⟩:=h_; refine thn (hu pins s2 σ H2 _ I2 q2) fun vu s3 h_=>?_; obtain⟨u,H3,I3,pu,q3⟩:=h_;rw[W3];refine je ?_;have I4:Inv X pins σ H3 { s3 with heap:=s3.heap.push { cls:=.type "slice",data:=.fields #[vl,vu,.none] } }:=I3.kept (t':=s3.toks) fun b ob q=>j7 _ q;obtain⟨T,id,hT,ht,hg⟩:=hr pins { s3 with heap:=s3.heap.push { cls:=.type "slice",data:=.fields #[vl,vu,.none] } } σ H3 x v vl vu l u s3.heap.objs.size Q I4 r1 (W4 ..) pl pu q3;show jH (jM X.prog X.w) X.A (YT e (.Slice lo hi none p2) v (.ref s3.heap.objs.size)) (EP X pins σ Q) X.xe { s3 with heap:=s3.heap.push { cls:=.type "slice",data:=.fields #[vl,vu,.none] } };exact tail_any (ops:=[.ref s3.heap.objs.size,v]) ht hT hg (by with_unfolding_all rfl)
def zpa(xs:List V)(lo hi:Option Int):List V:=(xs.drop (HT.sIx xs.length 0 lo)).take (HT.sIx xs.length xs.length hi - HT.sIx xs.length 0 lo)
theorem zjP(xs:List V)(lo hi:Option Int):(zpa xs lo hi).length<=xs.length:=by
 unfold zpa;rw[jQ,QH];lia
end
def ixN(n:Nat)(i:Int):Option Nat:=if 0<=i then (if i < n then some i.toNat else none) else if -(n:Int)<=i then some (i+n).toNat else none
def atI{α:Type}(xs:List α)(i:Int):Option α:=(ixN xs.length i).bind fun j=>xs[j]?
theorem zmE{n:Nat}{i:Int}{j:Nat}(h:ixN n i=some j):seqIndex? i n=some j/\j < n/\-(n:Int)<=i/\i < n:=by
 unfold ixN at h
 by_cases h0:0<=i
 ·rw[if_pos h0] at h
  by_cases h1:i < n
  ·rw[if_pos h1] at h;have e:i.toNat=j:=jd h;exact⟨by rw[WY h0 h1,e],by lia,by lia,h1⟩
  ·rw[if_neg h1] at h; cases h
 ·rw[if_neg h0] at h
  by_cases h1:-(n:Int)<=i
  ·rw[if_pos h1] at h;have e:(i+n).toNat=j:=jd h;exact⟨by rw[Wy (by lia) h1,e],by lia,h1,by lia⟩
  ·rw[if_neg h1] at h; cases h
theorem zjV{α:Type}{xs:List α}{i:Int}{v:α}(h:atI xs i=some v):∃ j,seqIndex? i xs.length=some j/\xs[j]?=some v/\j < xs.length/\-(xs.length:Int)<=i/\i < xs.length:=by
 unfold atI at h;cases e:ixN xs.length i with
 |none=>rw[e] at h; cases h
 |some j=>
  rw[e] at h;obtain⟨h1,h2,h3,h4⟩:=zmE e;exact⟨j,h1,h,h2,h3,h4⟩
theorem zr0{α:Type}{xs:List α}{j:Nat}{v:α}(h:xs[j]?=some v):atI xs (j:Int)=some v:=by
 have hj:j < xs.length:=(j9.mp h).1;have e:ixN xs.length (j:Int)=some j:=by
  unfold ixN;rw[if_pos (by lia),if_pos (by lia)]; simp
 unfold atI; rw[e]; exact h
def ze6(b:Expr):Prop:=∀ o i,NQ b false o i=operate [o,i] (WX o i)
def IxR(X:Cx)(r:R2):Prop:=
 ∀(value slice:Expr) (pins:List (Addr × Obj)) (s:jc) (σ:St) (H:Hp) (x y:V) (v u:ja) (Q:VK),Inv X pins σ H s->RelV x v->RelV y u->r x y H Q->
  NQ slice false v u=operate [v,u] (WX v u)->jH (jM X.prog X.w) X.A (YT value slice v u) (EP X pins σ Q) X.xe s
def MtR(X:Cx)(id:String)(r:V->List V->Hp->VK->Prop):Prop:=
 ∀(pins:List (Addr × Obj)) (s:jc) (σ:St) (H:Hp) (x:V) (xs:List V) (v:ja) (us:List ja) (Q:VK),Inv X pins σ H s->RelV x v->Vals xs us->r x xs H Q->
  jH (jM X.prog X.w) X.A (call (.builtin id) (v::us)) (EP X pins σ Q) X.xe s
section
variable {X:Cx}{a b:Expr}{ta tb:TE}{pos:Pos}
theorem IxR.or{r r':R2}(h:IxR X r)(h':IxR X r'):IxR X (fun x y H Q=>r x y H Q∨r' x y H Q):=by
 intro value slice pins s σ H x y v u Q I rx ry q hs;rcases q with q |q
 ·exact h value slice pins s σ H x y v u Q I rx ry q hs
 ·exact h' value slice pins s σ H x y v u Q I rx ry q hs
theorem zsu{r:R2}(hr:IxR X r)(ha:PE X a ta)(hb:PE X b tb)(hs:ze6 b):PE X (.Subscript a b pos) (tOp r ta tb):=by
 intro pins s σ H Q I h;exact Wk (zvY ha hb I h fun v u s2 x y H2 I2 rx ry q=>hr a b pins s2 σ H2 x y v u Q I2 rx ry q (hs _ _))
def zwn(K:j8):R2:=fun x y H Q=>∃ p xs i v,x=.ref p/\y=.int i/\SqL K H p xs/\atI xs i=some v/\Q v H
def zwl(K:j8):R2:=fun x y H Q=>∃ p xs i v,x=.ref p/\y=.int i/\SqT K H p xs/\atI xs i=some v/\Q v H
def zwm:R2:=fun x y H Q=>∃ z i c,x=.str z/\y=.int i/\z.length<=jh/\atI z.cps.toList i=some c/\Q (.str ⟨#[c]⟩) H
theorem ix_list:IxR X (zwn X.K):=by
 intro value slice pins s σ H x y v u Q I rx ry h hs;obtain⟨p,xs,i,z,rfl,rfl,hq,he,q⟩:=h;cases rx;obtain⟨t,rfl⟩:=ry;obtain⟨its,r,pl,hz⟩:=I.list hq;obtain⟨j,h1,h2,h3,h4,h5⟩:=zjV he;obtain⟨w,ew,rw'⟩:=r.get h2;have hl:=r.length;have hn:=zg5;have fin:EP X pins σ Q w s:=⟨z,H,I,rw',q⟩
 by_cases h0:0<=i
 ·have hj:i.toNat=j:=by
   rw[WY h0 h5] at h1;exact jd h1
  exact item_listR pl.isList h0 (by lia) (by rw[hj]; simpa using ew) fin hs
 ·have hj:(i+(its.toArray.size:Int)).toNat=j:=by
   rw[Wy (by lia) h4] at h1
   rw[jp,<-hl];exact jd h1
  exact N8 (x:=w) pl.isList.typeIs YC.lookup
   (wpAny_getItem_list_neg (Q:=fun r s'=>r=w/\EP X pins σ Q r s') pl.isList (by lia) (by rw[jp]<;>lia) (by lia) (by rw[hj]; simpa using ew) ⟨rfl,fin⟩) hs
theorem ix_tup:IxR X (zwl X.K):=by
 intro value slice pins s σ H x y v u Q I rx ry h hs;obtain⟨p,xs,i,z,rfl,rfl,hq,he,q⟩:=h;cases rx;obtain⟨t,rfl⟩:=ry;obtain⟨its,r,pl,hz⟩:=I.tuple hq;obtain⟨j,h1,h2,h3,h4,h5⟩:=zjV he;obtain⟨w,ew,rw'⟩:=r.get h2;have hl:=r.length;have hn:=zg5;have fin:EP X pins σ Q w s:=⟨z,H,I,rw',q⟩;exact N8 (x:=w) pl.typeIs slot_tuple_getitem.lookup
  (getItem_tuple (j:=j) (Q:=fun r s'=>r=w/\EP X pins σ Q r s') pl (by lia) (by lia) (by rw[jp,<-hl]; exact h1) (by simpa using ew) ⟨rfl,fin⟩) hs
theorem zsV:IxR X zwm:=by
 intro value slice pins s σ H x y v u Q I rx ry h hs;obtain⟨z,i,c,rfl,rfl,hz,he,q⟩:=h;obtain⟨t,rfl⟩:=rx;obtain⟨t',rfl⟩:=ry;obtain⟨j,h1,h2,h3,h4,h5⟩:=zjV he;have hl:z.cps.toList.length=z.length:=by simp[Str.length]
 rw[hl] at h1 h4 h5;have hn:=zg5
 exact tail_any (Jh s z t) slot_str_getitem.lookup (getItem_str (c:=c) (by
  have e1:decide (i < -(2 ^ 63:Int))=false:=decide_eq_false (by lia)
  have e2:decide (i≥2 ^ 63)=false:=decide_eq_false (by lia)
  rw[e1,e2,Bool.or_false]) (by rw[h1]; simpa using h2) ⟨.str ⟨#[c]⟩,H,I.tok _,⟨_,rfl⟩,q⟩) hs
def rIx(K:j8):R2:=fun x y H Q=>zwn K x y H Q∨zwl K x y H Q∨zwm x y H Q
theorem zoY:IxR X (rIx X.K):=ix_list.or (ix_tup.or zsV)
theorem zl7(its:List ja)(n j:Nat)(u:ja):NC (·.setIfInBounds j u) { cls:=.type "list",data:=.seq its.toArray n }={ cls:=.type "list",data:=.seq (its.set j u).toArray n }:=by
 simp[NC]
theorem Inv.lst{pins:List (Addr × Obj)}{σ:St}{H:Hp}{s:jc}{p:Addr}{xs:List V}(I:Inv X pins σ H s)(h:H p=some (.lst xs)) :
  ∃(its:List ja) (n:Nat),Vals xs its/\s.heap.get? p=some { cls:=.type "list",data:=.seq its.toArray n }/\xs.length<=jh:=by
 obtain⟨z,its,n,r,e⟩:=I.hok p _ h;exact⟨its,n,r,e,z⟩
theorem Inv.lstUpd{pins:List (Addr × Obj)}{σ:St}{H:Hp}{s:jc}{p:Addr}{xs ys:List V}{its its':List ja}{n n':Nat}{f:Obj->Obj}(I:Inv X pins σ H s)(h:H p=some (.lst xs))
  (ho:s.heap.get? p=some { cls:=.type "list",data:=.seq its.toArray n }) (hf:f { cls:=.type "list",data:=.seq its.toArray n }={ cls:=.type "list",data:=.seq its'.toArray n' }) (r:Vals ys its') (hz:ys.length<=jh) (t:Nat) :
  Inv X pins σ (upd H p (.lst ys)) { s with heap:=s.heap.update p f,toks:=t }:=by
 have e:(s.heap.update p f).get? p=some { cls:=.type "list",data:=.seq its'.toArray n' }:=by
  rw[Ni f ho (by rw[hf]<;>rfl),hf]
 refine I.write (x:=p) (e:=p) (by rw[h]; trivial) (.inl rfl) (fun b u hb q=>(N9 _ _ (Zi hb)).trans q) ⟨_,e⟩ ?_
 exact⟨hz,its',n',r,e⟩
def zpQ:V->V->V->Hp->(Hp->Prop)->Prop:=fun o i v H Q=>∃ p xs k j,o=.ref p/\i=.int k/\H p=some (.lst xs)/\ixN xs.length k=some j/\Q (upd H p (.lst (xs.set j v)))
theorem zed:zw4 X zpQ:=by
 intro pins s σ H o i v ov iv u Q I ro ri rv h;obtain⟨p,xs,k,j,rfl,rfl,hp,hj,q⟩:=h;cases ro;obtain⟨t,rfl⟩:=ri;obtain⟨its,n,r,ho,hz⟩:=I.lst hp;obtain⟨h1,h2,h3,h4⟩:=zmE hj;have hl:=r.length;have hn:=zg5;have I':Inv X pins σ (upd H p (.lst (xs.set j v))) { s with heap:=s.heap.update p (NC (·.setIfInBounds j u)) }:=
  I.lstUpd hp ho (zl7 its n j u) (r.set rv j) (by rw[Q2]; exact hz) s.toks
 by_cases h0:0<=k
 ·have hk:k.toNat=j:=by
   rw[WY h0 h4] at h1;exact jd h1
  exact PySem.W.ki_setAt ho h0 (by lia) (by rw[jp,<-hl]; exact h4) (by rw[hk]; exact⟨_,I',q⟩)
 ·have hk:(k+(its.toArray.size:Int)).toNat=j:=by
   rw[Wy (by lia) h3] at h1
   rw[jp,<-hl];exact jd h1
  exact PySem.W.ki_setBack ho (by lia) (by rw[jp,<-hl]; exact h3) (by lia) (by rw[hk]; exact⟨_,I',q⟩)
theorem zia(lo hi:Option Int)(n:Nat):(gz lo hi none n).1=((HT.sIx n 0 lo:Nat):Int)/\(gz lo hi none n).2.1=((HT.sIx n n hi:Nat):Int)/\(gz lo hi none n).2.2=1:=by
 refine⟨?_,?_,rfl⟩
 ·cases lo with
  |none=>simp[gz,HT.sIx]
  |some i=>
   simp only[gz,HT.sIx,WI,show (1:Int) > 0 by decide,if_true]
   by_cases h:i < 0
   ·simp only[h,if_true]<;>lia
   ·simp only[h,if_false]<;>lia
 ·cases hi with
  |none=>simp[gz,HT.sIx]
  |some i=>
   simp only[gz,HT.sIx,WI,show (1:Int) > 0 by decide,if_true]
   by_cases h:i < 0
   ·simp only[h,if_true]<;>lia
   ·simp only[h,if_false]<;>lia
theorem zhc(its:List ja)(lo hi:Option Int):slicePick its.toArray lo hi none=((its.drop (HT.sIx its.length 0 lo)).take (HT.sIx its.length its.length hi - HT.sIx its.length 0 lo)).toArray:=by
 obtain⟨h1,h2,h3⟩:=zia lo hi its.toArray.size;unfold slicePick;rw[h1,h2,h3];simp only[sliceRange_one,pick_run,jp]<;>rfl
def zwk(K:j8):V->Option Int->Option Int->Hp->VK->Prop:=fun x lo hi H Q=>∃ a xs,x=.ref a/\SqL K H a xs/\∀ p,H p=none->Q (.ref p) (upd H p (.lst (zpa xs lo hi)))
theorem zlN:SlR X (zwk X.K):=by
 intro pins s σ H x v vl vu lo hi sl Q I rx hs pl pu h;obtain⟨a,xs,rfl,hx,q⟩:=h;cases rx;obtain⟨its,r,ht,hz⟩:=I.list hx;have hlen:=r.length;refine⟨"list",_,YC.lookup,ht.isList.typeIs,?_⟩;refine YD ht.isList hs pl pu .none (by simp) ?_ (by rw[jp]<;>lia)
 rw[zhc,<-hlen];refine⟨.ref s.heap.objs.size,_,I.laid (t':=s.toks) (o:=.lst (zpa xs lo hi)) (fun b ob q=>j7 _ q) (jl _) ?_,rfl,q _ (I.hok.fresh (jl _))⟩;exact⟨Q5 (zjP xs lo hi) hz,_,0,(r.drop (HT.sIx xs.length 0 lo)).take (HT.sIx xs.length xs.length hi - HT.sIx xs.length 0 lo),jw _ rfl⟩
def zeP:V->Bool
 |.non=>true
 |.bl _=>true
 |.int _=>true
 |.str _=>true
 |_=>false
def eqV:V->V->Bool
 |.non,.non=>true
 |.bl a,.bl b=>a == b
 |.bl a,.int b=>(if a then 1 else 0) == b
 |.int a,.bl b=>a == (if b then 1 else 0)
 |.int a,.int b=>a == b
 |.str a,.str b=>a == b
 |_,_=>false
theorem ztf{A:Qz}{s:jc}{y x:V}{u v:ja}(ry:RelV y u)(rx:RelV x v)(fy:zeP y=true)(fx:zeP x=true):SeqAt.EqAt A s u v (eqV y x):=by
 cases y with
 |non=>
  cases ry;cases x with
  |non=>cases rx; exact SeqAt.EqAt.same _
  |bl b=>cases rx; exact SeqAt.EqAt.none_bool b
  |int b=>obtain⟨t,rfl⟩:=rx; exact SeqAt.EqAt.none_int b t
  |str b=>obtain⟨t,rfl⟩:=rx; exact SeqAt.EqAt.none_str b t
  |_=>exact absurd (show false=true from fx) jr
 |bl a=>
  cases ry;cases x with
  |non=>cases rx; exact SeqAt.EqAt.bool_none a
  |bl b=>cases rx; exact SeqAt.EqAt.bool_bool a b
  |int b=>obtain⟨t,rfl⟩:=rx; exact SeqAt.EqAt.bool_int a b t
  |str b=>obtain⟨t,rfl⟩:=rx; exact SeqAt.EqAt.bool_str a b t
  |_=>exact absurd (show false=true from fx) jr
 |int a=>
  obtain⟨t',rfl⟩:=ry;cases x with
  |non=>cases rx; exact SeqAt.EqAt.int_none a t'
  |bl b=>cases rx; exact SeqAt.EqAt.int_bool a t' b
  |int b=>obtain⟨t,rfl⟩:=rx; exact SeqAt.EqAt.int_int a t' b t
  |str b=>obtain⟨t,rfl⟩:=rx; exact NW a t' b t
  |_=>exact absurd (show false=true from fx) jr
 |str a=>
  obtain⟨t',rfl⟩:=ry;cases x with
  |non=>cases rx; exact SeqAt.EqAt.str_none a t'
  |bl b=>cases rx; exact SeqAt.EqAt.str_bool a t' b
  |int b=>obtain⟨t,rfl⟩:=rx; exact NX a t' b t
  |str b=>obtain⟨t,rfl⟩:=rx; exact SeqAt.EqAt.str_str a t' b t
  |_=>exact absurd (show false=true from fx) jr
 |_=>exact absurd (show false=true from fy) jr
def eqU(x:V)(u:ja):Bool:=match u with
 |.none=>eqV .non x
 |.bool b=>eqV (.bl b) x
 |.int i _=>eqV (.int i) x
 |.str z _=>eqV (.str z) x
 |_=>false
theorem zmX{x y:V}{u:ja}(r:RelV y u)(f:zeP y=true):eqU x u=eqV y x:=by
 cases y with
 |non=>cases r; rfl
 |bl b=>cases r; rfl
 |int i=>obtain⟨t,rfl⟩:=r; rfl
 |str z=>obtain⟨t,rfl⟩:=r; rfl
 |_=>exact absurd (show false=true from f) jr
theorem zjW{x:V}:∀ {xs:List V} {us:List ja},Vals xs us->xs.all zeP=true->us.any (eqU x)=xs.any fun y=>eqV y x
 |_,_,.nil,_=>rfl
 |y::xs,u::us,.cons r t,f=>by
  rw[Y0,jI] at f;rw[Z7,Z7,zmX r f.1,zjW t f.2]
theorem zft{A:Qz}{s:jc}{x:V}{v:ja}(rx:RelV x v)(fx:zeP x=true):∀ {xs:List V} {us:List ja},Vals xs us->xs.all zeP=true->∀ u∈us,SeqAt.EqAt A s u v (eqU x u)
 |_,_,.nil,_=>fun u hu=>by cases hu
 |y::xs,u::us,.cons r t,f=>fun u' hu=>by
  rw[Y0,jI] at f;rcases jq.mp hu with rfl |hu
  ·rw[zmX r f.1]; exact ztf r rx f.1 fx
  ·exact zft rx fx t f.2 u' hu
def inV(x:V)(xs:List V):Bool:=xs.any fun y=>eqV y x
def rIn(K:j8)(neg:Bool):R2:=fun x y H Q=>∃ p xs,y=.ref p/\(SqL K H p xs∨SqT K H p xs)/\zeP x=true/\xs.all zeP=true/\Q (.bl (if neg then !inV x xs else inV x xs)) H
theorem zf5:OpR X (Zg .NotIn) (rIn X.K true):=by
 intro pins s σ H x y v u Q I rx ry h;obtain⟨p,xs,rfl,hq,fx,fs,q⟩:=h;cases ry;rcases hq with hq |hq
 ·obtain⟨its,r,pl,hz⟩:=I.list hq;refine SeqAt.notIn_listAt (eqU x) pl.isList (fun w hw=>zft rx fx r fs w (by simpa using hw)) ⟨.bl _,H,I,rfl,?_⟩
  rw[show its.toArray.any (eqU x)=its.any (eqU x) by simp,zjW r fs]
  exact q
 ·obtain⟨its,r,pl,hz⟩:=I.tuple hq;refine SeqAt.notIn_tupleAt (eqU x) pl (fun w hw=>zft rx fx r fs w (by simpa using hw)) ⟨.bl _,H,I,rfl,?_⟩
  rw[show its.toArray.any (eqU x)=its.any (eqU x) by simp,zjW r fs]
  exact q
theorem ziS:CallR X (.builtin "len") (fun xs H Q=>∃ p ys,xs=[.ref p]/\(SqL X.K H p ys∨SqT X.K H p ys)/\Q (.int ys.length) H):=by
 intro pins s σ H xs us Q I r h;obtain⟨p,ys,rfl,hq,q⟩:=h;obtain⟨u,rfl,rx⟩:=zj5 r;cases rx;have hn:=zg5;rcases hq with hq |hq
 ·obtain⟨its,r',pl,hz⟩:=I.list hq;have hlen:=r'.length;exact Calls.call_len_list pl.isList (by simp only[jp]<;>lia) ⟨.int ys.length,H,I.tok _,⟨s.toks+1,by rw[jp,hlen]⟩,q⟩
 ·obtain⟨its,r',pl,hz⟩:=I.tuple hq;have hlen:=r'.length;exact len_tuple pl (by simp only[jp]<;>lia) ⟨.int ys.length,H,I.tok _,⟨s.toks+1,by rw[jp,hlen]⟩,q⟩
theorem ziR:CallR X (.builtin "len") (fun xs H Q=>∃ z,xs=[.str z]/\z.length<=jh/\Q (.int z.length) H):=by
 intro pins s σ H xs us Q I r h;obtain⟨z,rfl,hz,q⟩:=h;obtain⟨u,rfl,t,rfl⟩:=zj5 r;have hn:=zg5;exact len_str (by lia) ⟨.int z.length,H,I.tok _,⟨_,rfl⟩,q⟩
theorem CallR.or{f:ja}{r r':List V->Hp->VK->Prop}(h:CallR X f r)(h':CallR X f r'):CallR X f (fun xs H Q=>r xs H Q∨r' xs H Q):=by
 intro pins s σ H xs us Q I rs q;rcases q with q |q
 ·exact h pins s σ H xs us Q I rs q
 ·exact h' pins s σ H xs us Q I rs q
theorem ziQ:CallR X (.type "list") (fun xs H Q=>∃ p ys,xs=[.ref p]/\(SqL X.K H p ys∨SqT X.K H p ys)/\∀ l,H l=none->Q (.ref l) (upd H l (.lst ys))):=by
 intro pins s σ H xs us Q I r h;obtain⟨p,ys,rfl,hq,q⟩:=h;obtain⟨u,rfl,rx⟩:=zj5 r;cases rx;have fin:∀(its:List ja),Vals ys its->ys.length<=jh->∀(h':Heap) (c':Nat),(∀ b o',s.heap.get? b=some o'->h'.get? b=some o')->
   h'.get? s.heap.objs.size=some { cls:=.type "list",dict:=none,data:=.seq its.toArray c',slots:=#[] }->EP X pins σ Q (.ref s.heap.objs.size) { s with heap:=h' }:=fun its r' hz h' c' kp e=>
  ⟨.ref s.heap.objs.size,_,I.laid (t':=s.toks) kp (jl _) (show ObjOk X.prog X.w _ h' _ (.lst ys) from ⟨hz,its,c',r',e⟩),rfl,q _ (I.hok.fresh (jl _))⟩
 rcases hq with hq |hq
 ·obtain⟨its,r',pl,hz⟩:=I.list hq;have hlen:=r'.length;obtain⟨o,ho,hc,n,hd⟩:=pl.isList;exact call_list_seq p (.inl rfl) ho hc hd (fun h' c' kp e=>fin its r' hz h' c' kp e) (by simp only[jp]<;>lia)
 ·obtain⟨its,r',pl,hz⟩:=I.tuple hq;have hlen:=r'.length;obtain⟨o,ho,hc,n,hd⟩:=pl;exact call_list_seq p (.inr rfl) ho hc hd (fun h' c' kp e=>fin its r' hz h' c' kp e) (by simp only[jp]<;>lia)
def tyV(K:j8)(T:String)(x:V)(H:Hp):Prop:=match x with
 |.str _=>T="str"
 |.int _=>T="int"
 |.ref p=>(T="list"/\∃ xs,SqL K H p xs)∨(T="tuple"/\∃ o,K.lookup p=some o/\o.cls=.type "tuple"/\o.dict=none) ∨
   (T="dict"/\((∃ kvs,H p=some (.dK kvs))∨∃ kvs,H p=some (.dT kvs)))∨(T="set"/\∃ S n,H p=some (.set S n))
 |_=>False
theorem zoC{pins:List (Addr × Obj)}{σ:St}{H:Hp}{s:jc}{T:String}{x:V}{v:ja}(I:Inv X pins σ H s)(r:RelV x v)(ty:tyV X.K T x H) :
  s.TypeIs v T/\∀ a,v=.ref a->∃ ob,s.heap.get? a=some ob/\ob.dict=none:=by
 cases x with
 |str z=>
  obtain⟨t,rfl⟩:=r;cases (show T="str" from ty);exact⟨Jh s z t,fun _ e=>nomatch e⟩
 |int i=>
  obtain⟨t,rfl⟩:=r;cases (show T="int" from ty);exact⟨typeIs_int s i t,fun _ e=>nomatch e⟩
 |ref p=>
  cases r;rcases ty with ⟨rfl,xs,hq⟩ |⟨rfl,o,hk,hc,hd⟩ |⟨rfl,hk⟩ |⟨rfl,S,n,hk⟩
  ·obtain⟨its,_,pl,_⟩:=I.list hq;refine⟨pl.isList.typeIs,fun a e=>?_⟩;cases e;obtain⟨o,n,e,c,hd,_⟩:=pl;exact⟨o,e,hd⟩
  ·refine⟨⟨o,I.kIn p o hk,hc⟩,fun a e=>?_⟩;cases e;exact⟨o,I.kIn _ o hk,hd⟩
  ·have z:∃ o,s.heap.get? p=some o/\o.ExactDict:=by
    rcases hk with ⟨kvs,hk⟩ |⟨kvs,hk⟩
    ·obtain⟨_,_,_,_,o,_,_,e,ex,_⟩:=I.hok p _ hk;exact⟨o,e,ex⟩
    ·obtain⟨_,_,_,_,o,_,_,e,ex,_⟩:=I.hok p _ hk;exact⟨o,e,ex⟩
   obtain⟨o,e,ex⟩:=z;refine⟨⟨o,e,ex.1⟩,fun a e2=>?_⟩;cases e2;exact⟨o,e,ex.2.1⟩
  ·obtain⟨o,_,_,_,e,ex,_⟩:=I.hok p _ hk;refine⟨⟨o,e,ex.1⟩,fun a e2=>?_⟩;cases e2;exact⟨o,e,ex.2.1⟩
 |_=>exact ZQ ty
def zrF(K:j8)(T:String)(r:V->List V->Hp->VK->Prop)(to:TE):TE:=fun σ H Q=>to σ H fun x H1=>tyV K T x H1/\r x [] H1 Q
def tBM(K:j8)(T:String)(r:V->List V->Hp->VK->Prop)(to:TE)(t:TA):TE:=fun σ H Q=>to σ H fun x H1=>tyV K T x H1/\t σ H1 fun xs H2=>r x xs H2 Q
variable {o e:Expr}{es:List Expr}{to:TE}{t:TA}{name:Str}{apos cpos:Pos}{T id:String}{r:V->List V->Hp->VK->Prop}
theorem zsx(pa:Wm T)(slot:Slot T name id)(hty:typeOf (.builtin id)=pure (.type "method_descriptor"))(hm:MtR X id r)(ho:PE X o to)
  (hbase:YU o name X.env (eval o X.env)=eval o X.env:=by rfl) (hline:(apos.endLine == cpos.line)=true:=by rfl):PE X (.Call (.Attribute o name apos) [] [] cpos) (zrF X.K T r to):=by
 intro pins s σ H Q I h;refine wpAny_Call_method0_late hbase hline (thn (ho pins s σ H _ I h) fun v s1 h_=>?_); obtain⟨x,H1,I1,r1,ty,q1⟩:=h_;obtain⟨h1,h2⟩:=zoC I1 r1 ty;exact⟨T,id,pa,slot,hty,h1,h2,Na rfl (PySem.evalArgs_none (hm pins s1 σ H1 x [] v [] Q I1 r1 .nil q1))⟩
theorem zsy(pa:Wm T)(slot:Slot T name id)(hty:typeOf (.builtin id)=pure (.type "method_descriptor"))(hm:MtR X id r)(ho:PE X o to)(ha:PA X (e::es) t)
  (hbase:YU o name X.env (eval o X.env)=eval o X.env:=by rfl)
  (hfew:((QB cpos (jb (e::es) X.env)).all (fun x=>!x.1)&&(backToKw cpos (keywordEach [] X.env)).all (fun x=>x.1.isSome)
   && decide ((e::es).length+([]:List Keyword).length+(if ([]:List Keyword).isEmpty then 0 else 1) < 30))=true:=by rfl)
  (hline:(apos.endLine == cpos.line)=true:=by rfl) (hs:jb (e::es) X.env=(false,eval e X.env)::jb es X.env:=by rfl) (hplain:(QB cpos (jb es X.env)).any (·.1)=false:=by rfl) :
  PE X (.Call (.Attribute o name apos) (e::es) [] cpos) (tBM X.K T r to t):=by
 intro pins s σ H Q I h;refine wpAny_Call_method_late hbase hfew hline rfl (thn (ho pins s σ H _ I h) fun v s1 h_=>?_); obtain⟨x,H1,I1,r1,ty,q1⟩:=h_;obtain⟨h1,h2⟩:=zoC I1 r1 ty;refine⟨T,id,pa,slot,hty,h1,h2,?_⟩;have hA:=ha cpos pins s1 σ H1 _ I1 q1;rw[hs] at hA ⊢;refine Na (by show (false||(QB cpos (jb es X.env)).any (·.1))=false; rw[hplain]<;>rfl) (Calls.evalArgs_plain ?_)
 exact thn hA fun us s2 ⟨vs,H2,I2,r2,q2⟩=>hm pins s2 σ H2 x vs v us Q I2 r1 r2 q2
end
def MtM(X:Cx)(id:String)(r:V->List V->Hp->VK->Prop):Prop:=
 ∀(pins:List (Addr × Obj)) (s:jc) (σ:St) (H:Hp) (x:V) (xs:List V) (v:ja) (us:List ja) (Q:VK),Inv X pins σ H s->RelV x v->Vals xs us->r x xs H Q->
  jH (jM X.prog X.w) X.A (call (.builtin id) (v::us)) (EP X pins σ Q) X.xe s
theorem Vals.one{x:V}{us:List ja}(h:Vals [x] us):∃ u,us=[u]/\RelV x u:=by
 cases h with
 |cons r t=>cases t; exact⟨_,rfl,r⟩
theorem Vals.zero:∀ {us:List ja},Vals [] us->us=[]
 |_,.nil=>rfl
theorem Vals.dropLast{xs:List V}{us:List ja}(h:Vals xs us):Vals xs.dropLast us.dropLast:=by
 induction h with
 |nil=>exact .nil
 |cons r t ih=>
  cases t with
  |nil=>exact .nil
  |cons q t'=>exact .cons r ih
theorem Vals.reverse{xs:List V}{us:List ja}(h:Vals xs us):Vals xs.reverse us.reverse:=by
 induction h with
 |nil=>exact .nil
 |cons r t ih=>rw[Z1,Z1]; exact Vals.append ih (.cons r .nil)
theorem zlj{α:Type}(l:List α):l.eraseIdx (l.length - 1)=l.dropLast:=by
 induction l with
 |nil=>rfl
 |cons a r ih=>
  cases r with
  |nil=>rfl
  |cons b r=>
   have e:(a::b::r).length - 1=((b::r).length - 1)+1:=by
    have h1:(a::b::r).length=r.length+2:=rfl;have h2:(b::r).length=r.length+1:=rfl;lia
   rw[e,YV,ih]
   all_goals rfl
section
variable {X:Cx}{pins:List (Addr × Obj)}{σ:St}{H:Hp}{s:jc}{l b:Addr}{xs ys zs:List V}
theorem Inv.lset{its its':List ja}{n:Nat}{f:Array ja->Array ja}{t':Nat}(I:Inv X pins σ H s)(hH:H l=some (.lst xs))
  (e:s.heap.get? l=some { cls:=.type "list",data:=.seq its.toArray n }) (hf:f its.toArray=its'.toArray) (hv:Vals ys its') (hz:ys.length<=jh) :
  Inv X pins σ (upd H l (.lst ys)) { s with heap:=s.heap.update l (NC f),toks:=t' }:=by
 have q:=PySem.IsL.update e f;rw[hf] at q;refine I.write (x:=l) (e:=l) (by rw[hH]; exact trivial) (.inl rfl) (fun b' u hb hu=>(N9 s.heap (NC f) (Zi hb)).trans hu) ⟨_,q⟩ ?_
 exact⟨hz,its',_,hv,q⟩
theorem Inv.lnew{its:List ja}{t':Nat}(I:Inv X pins σ H s)(hv:Vals ys its)(hz:ys.length<=jh) :
  Inv X pins σ (upd H s.heap.objs.size (.lst ys)) { s with heap:=s.heap.push { cls:=.type "list",data:=.seq its.toArray },toks:=t' }:=
 I.laid (fun _ _ q=>j7 _ q) (jl _) ⟨hz,its,0,hv,jw _ rfl⟩
theorem Inv.fresh(I:Inv X pins σ H s):H s.heap.objs.size=none:=I.hok.fresh (jl _)
theorem Inv.lstM(I:Inv X pins σ H s)(hH:H l=some (.lst xs)):xs.length<=jh/\∃(its:List ja) (n:Nat),Vals xs its/\xs.length=its.length/\s.heap.get? l=some { cls:=.type "list",data:=.seq its.toArray n }:=by
 obtain⟨z,its,n,r,e⟩:=I.hok l _ hH;exact⟨z,its,n,r,r.length,e⟩
theorem znU{n:Nat}(h:n<=jh):gh n=false:=by
 unfold gh;exact decide_eq_false (by lia)
end
section
variable {X:Cx}
def zho:V->List V->Hp->VK->Prop:=fun x vs H Q=>∃ l xs y,x=.ref l/\vs=[y]/\H l=some (.lst xs)/\xs.length < jh/\Q .non (upd H l (.lst (xs++[y])))
theorem zbs:MtM X "list.append" zho:=by
 intro pins s σ H x vs v us Q I rx rv h;obtain⟨l,xs,y,rfl,rfl,hH,hz,q⟩:=h;cases rx;obtain⟨u,rfl,ru⟩:=rv.one;obtain⟨z,its,n,r,hl,e⟩:=I.lstM hH;refine Wn F.slot_list_append ⟨_,e,rfl⟩ F.entry_list_append (F.args_list_append_2 _ _) (PySem.list_append l its.toArray n u (by rw[jp]; lia)) ⟨e,?_⟩
 refine⟨.non,_,I.lset (its':=its++[u]) hH e (by simp) (r.append (.cons ru .nil)) ?_,rfl,q⟩
 rw[ju,gG];lia
def zhm:V->List V->Hp->VK->Prop:=fun x vs H Q=>∃ l b xs zs,x=.ref l/\vs=[.ref b]/\H l=some (.lst xs)/\H b=some (.lst zs)/\xs.length+zs.length<=jh/\Q .non (upd H l (.lst (xs++zs)))
theorem zmu:MtM X "list.extend" zhm:=by
 intro pins s σ H x vs v us Q I rx rv h;obtain⟨l,b,xs,zs,rfl,rfl,hH,hB,hz,q⟩:=h;cases rx;obtain⟨u,rfl,ru⟩:=rv.one;cases ru;obtain⟨z,its,n,r,hl,e⟩:=I.lstM hH;obtain⟨z2,its2,n2,r2,hl2,e2⟩:=I.lstM hB;have hsz:its.toArray.size+its2.toArray.size<=jh:=by rw[jp,jp]; lia
 have hlong:¬ (!its.toArray.isEmpty&&gh (its.toArray.size+its2.toArray.size))=true:=by
  rw[znU hsz,Yu];exact jr
 refine Wn F.slot_list_extend ⟨_,e,rfl⟩ F.entry_list_extend (F.args_list_extend_2 _ _)
  (AutoSeq1.list_extend_list_list_0 l its.toArray n b its2.toArray n2 hlong (by rw[jp]; lia) (by lia)) ⟨e,e2,?_⟩
 refine⟨.non,_,I.lset (its':=its++its2) hH e (by simp) (r.append r2) ?_,rfl,q⟩
 rw[ju];lia
def ztP:V->List V->Hp->VK->Prop:=fun x vs H Q=>∃ l xs y,x=.ref l/\vs=[]/\H l=some (.lst xs)/\xs[xs.length - 1]?=some y/\Q y (upd H l (.lst xs.dropLast))
theorem zmt:MtM X "list.pop" ztP:=by
 intro pins s σ H x vs v us Q I rx rv h;obtain⟨l,xs,y,rfl,rfl,hH,hy,q⟩:=h;cases rx;have hus:=rv.zero;subst hus;obtain⟨z,its,n,r,hl,e⟩:=I.lstM hH;obtain⟨u,hu,ru⟩:=r.get hy;have hy':its.toArray[its.toArray.size - 1]?=some u:=by
  show its.toArray[its.length - 1]?=some u;rw[<-Array.getElem?_toList,<-hl];exact hu
 refine Wn F.slot_list_pop ⟨_,e,rfl⟩ F.entry_list_pop (F.args_list_pop_1 _) (MeetsSeq.list_pop_last l its.toArray n u hy' (by rw[jp]; lia)) ⟨e,?_⟩
 refine⟨y,_,I.lset (its':=its.dropLast) hH e ?_ r.dropLast ?_,ru,q⟩
 ·show its.toArray.eraseIdxIfInBounds (its.toArray.size - 1)=its.dropLast.toArray;rw[jp,List.eraseIdxIfInBounds_toArray,zlj]
 ·rw[List.length_dropLast];lia
def zwp:R2:=fun x y H Q=>∃ l b xs zs,x=.ref l/\y=.ref b/\H l=some (.lst xs)/\H b=some (.lst zs)/\xs.length+zs.length<=jh/\∀ p,H p=none->Q (.ref p) (upd H p (.lst (xs++zs)))
theorem zoV:OpR X (gY .Add) zwp:=by
 intro pins s σ H x y v u Q I rx ry h;obtain⟨l,b,xs,zs,rfl,rfl,hH,hB,hz,q⟩:=h;cases rx;cases ry;obtain⟨z,its,n,r,hl,e⟩:=I.lstM hH;obtain⟨z2,its2,n2,r2,hl2,e2⟩:=I.lstM hB;refine PySem.P.add_list e e2 ?_ (by rw[jp,jp]; lia)
 have ea:its.toArray++its2.toArray=(its++its2).toArray:=by simp
 rw[ea];exact⟨.ref _,_,I.lnew (t':=s.toks) (r.append r2) (by rw[ju]; lia),rfl,q _ I.fresh⟩
end
section
variable {κ:Type}[DecidableEq κ]
def ze7(kvs:List (κ × V))(k:κ):Option V:=(kvs.find? fun kv=>decide (kv.1=k)).map (·.2)
def zfh(kvs:List (κ × V))(k:κ)(v:V):List (κ × V):=
 if (kvs.any fun kv=>decide (kv.1=k))=true then kvs.map (fun kv=>if kv.1=k then (kv.1,v) else kv) else kvs++[(k,v)]
theorem zb8{p:κ × V}{r:List (κ × V)}{k:κ}(e:p.1=k):ze7 (p::r) k=some p.2:=by simp[ze7,QX,e]
theorem zb9{p:κ × V}{r:List (κ × V)}{k:κ}(e:¬ p.1=k):ze7 (p::r) k=ze7 r k:=by simp[ze7,QX,e]
theorem zfo(k:κ):∀ kvs:List (κ × V),(kvs.any fun kv=>decide (kv.1=k))=(ze7 kvs k).isSome
 |[]=>rfl
 |p::r=>by
  rw[Z7]
  by_cases e:p.1=k
  ·simp only[zb8 e,decide_eq_true e,Bool.true_or,Option.isSome_some]
  ·rw[zb9 e,decide_eq_false e,W5]; exact zfo k r
theorem zk2(k j:κ)(y:V):∀ kvs:List (κ × V),ze7 (kvs.map fun kv=>if kv.1=k then (kv.1,y) else kv) j=(ze7 kvs j).map fun x=>if j=k then y else x
 |[]=>rfl
 |p::r=>by
  have ih:=zk2 k j y r;rw[jj]
  by_cases h:p.1=k
  ·rw[if_pos h]
   by_cases e:p.1=j
   ·rw[zb8 (p:=(p.1,y)) e,zb8 e,jo,if_pos (e.symm.trans h)]
   ·rw[zb9 (p:=(p.1,y)) e,zb9 e,ih]
  ·rw[if_neg h]
   by_cases e:p.1=j
   ·rw[zb8 (p:=p) e,zb8 e,jo,if_neg (fun z=>h (e.trans z))]
   ·rw[zb9 (p:=p) e,zb9 e,ih]
theorem zi0(k j:κ)(y:V):∀ kvs:List (κ × V),ze7 kvs k=none->ze7 (kvs++[(k,y)]) j=if j=k then some y else ze7 kvs j
 |[],_=>by
  by_cases e:k=j
  ·rw[if_pos e.symm]; exact zb8 (p:=(k,y)) e
  ·rw[if_neg (fun z=>e z.symm)]; exact zb9 (p:=(k,y)) e
 |p::r,hn=>by
  rw[gO];have hk:¬ p.1=k:=fun z=>by rw[zb8 z] at hn; cases hn
  rw[zb9 hk] at hn;have ih:=zi0 k j y r hn
  by_cases e:p.1=j
  ·rw[zb8 e,zb8 e,if_neg (fun z=>hk (e.trans z))]
  ·rw[zb9 e,zb9 e,ih]
theorem zk1(kvs:List (κ × V))(k j:κ)(y:V):ze7 (zfh kvs k y) j=if j=k then some y else ze7 kvs j:=by
 unfold zfh
 by_cases a:(kvs.any fun kv=>decide (kv.1=k))=true
 ·rw[if_pos a,zk2];rw[zfo] at a
  by_cases e:j=k
  ·obtain⟨x,hx⟩:=YB.mp a;rw[if_pos e,e,hx,jo,if_pos rfl]
  ·rw[if_neg e];cases ze7 kvs j with
   |none=>rfl
   |some x=>rw[jo,if_neg e]
 ·rw[if_neg a];refine zi0 k j y kvs ?_;rw[zfo] at a;cases q:ze7 kvs k with
  |none=>rfl
  |some x=>rw[q] at a; exact(a rfl).elim
theorem zcZ(kvs:List (κ × V))(k:κ)(v:V):(zfh kvs k v).length<=kvs.length+1:=by
 unfold zfh;split
 ·rw[j6]; lia
 ·rw[ju,jm,Zm]; lia
theorem RelO.isSome_eq{o:Option V}{u:Option ja}(r:RelO o u):o.isSome=u.isSome:=by
 cases o with
 |none=>cases u with
  |none=>rfl
  |some _=>exact(show False from r).elim
 |some _=>cases u with
  |none=>exact(show False from r).elim
  |some _=>rfl
theorem KV.val{kvs:List (κ × V)}{vs:List (κ × ja)}(r:KV kvs vs)(k:κ):RelO (ze7 kvs k) (Wo vs k):=by
 unfold KV at r
 induction r with
 |nil=>exact ZS
 |@cons p q ps qs h t ih=>
  obtain⟨h1,h2⟩:=h
  by_cases e:p.1=k
  ·have e':q.1=k:=h1.symm.trans e;have b:Wo (q::qs) k=some q.2:=by simp[Wo,QX,e']
   rw[zb8 e,b]; exact h2
  ·have e':¬ q.1=k:=fun z=>e (h1.trans z);have b:Wo (q::qs) k=Wo qs k:=by simp[Wo,QX,e']
   rw[zb9 e,b]; exact ih
theorem KV.any{kvs:List (κ × V)}{vs:List (κ × ja)}(r:KV kvs vs)(k:κ):(kvs.any fun kv=>decide (kv.1=k))=vs.any fun kv=>decide (kv.1=k):=by
 unfold KV at r
 induction r with
 |nil=>rfl
 |cons h t ih=>rw[Z7,Z7,ih,h.1]
theorem KV.repl{kvs:List (κ × V)}{vs:List (κ × ja)}(r:KV kvs vs)(k:κ){y:V}{u:ja}(ry:RelV y u) :
  KV (kvs.map fun kv=>if kv.1=k then (kv.1,y) else kv) (vs.map fun kv=>if kv.1=k then (kv.1,u) else kv):=by
 unfold KV at r ⊢
 induction r with
 |nil=>exact .nil
 |@cons p q ps qs h t ih=>
  rw[jj,jj];refine .cons ?_ ih;obtain⟨h1,h2⟩:=h
  by_cases e:p.1=k
  ·rw[if_pos e,if_pos (h1.symm.trans e)]; exact⟨h1,ry⟩
  ·rw[if_neg e,if_neg (fun z=>e (h1.trans z))]; exact⟨h1,h2⟩
theorem KV.put{kvs:List (κ × V)}{vs:List (κ × ja)}(r:KV kvs vs)(k:κ){y:V}{u:ja}(ry:RelV y u):KV (zfh kvs k y) (stored vs k u):=by
 unfold zfh stored;rw[r.any k]
 by_cases e:(vs.any fun kv=>decide (kv.1=k))=true
 ·rw[if_pos e,if_pos e]; exact r.repl k ry
 ·rw[if_neg e,if_neg e]; exact JL r ⟨rfl,ry⟩
theorem KV.length{kvs:List (κ × V)}{vs:List (κ × ja)}(r:KV kvs vs):kvs.length=vs.length:=YO r
end
theorem zlb{P:jK}{w:Qj}{k:Key}{u:ja}(r:RelV (kV k) u):(zaz P w).is k u=true:=by
 cases k with
 |inl i=>obtain⟨t,e⟩:=(show ∃ t,u=WU i t from r); subst e; exact zjr P w i t
 |inr x=>obtain⟨t,e⟩:=(show ∃ t,u=ZA x t from r); subst e; exact zjq P w x t
theorem zix{P:jK}{w:Qj}:∀ {ks:List Key} {us:List ja},Vals (ks.map kV) us->ItemsAre (zaz P w) ks us
 |[],_,r=>by rw[Z3] at r; cases r; exact .nil
 |k::ks,_,r=>by
  rw[jj] at r;cases r with
  |cons h t=>exact .cons (zlb h) (zix t)
abbrev KT(H:Hp):List (List Key × V)->List (List Key × Addr × ja)->Prop:=Jy fun p q=>p.1=q.1/\H q.2.1=some (.tup (p.1.map kV))/\RelV p.2 q.2.2
theorem KT.val{H:Hp}{kvs:List (List Key × V)}{xs:List (List Key × Addr × ja)}(r:KT H kvs xs)(k:List Key):RelO (ze7 kvs k) ((JE xs k).map (·.2)):=by
 induction r with
 |nil=>exact ZS
 |@cons p q ps qs h t ih=>
  obtain⟨h1,_,h2⟩:=h
  by_cases e:p.1=k
  ·have e':q.1=k:=h1.symm.trans e;have b:JE (q::qs) k=some q.2:=by simp[JE,QX,e']
   rw[zb8 e,b]; exact h2
  ·have e':¬ q.1=k:=fun z=>e (h1.trans z);have b:JE (q::qs) k=JE qs k:=by simp[JE,QX,e']
   rw[zb9 e,b]; exact ih
theorem KT.repl{H:Hp}{kvs:List (List Key × V)}{xs:List (List Key × Addr × ja)}(r:KT H kvs xs)(k:List Key){y:V}{u:ja}(ry:RelV y u) :
  KT H (kvs.map fun kv=>if kv.1=k then (kv.1,y) else kv) (xs.map (putAt k u)):=by
 induction r with
 |nil=>exact .nil
 |@cons p q ps qs h t ih=>
  rw[jj,jj];refine .cons ?_ ih;obtain⟨h1,h2,h3⟩:=h;unfold putAt
  by_cases e:p.1=k
  ·rw[if_pos e,if_pos (h1.symm.trans e)]; exact⟨h1,h2,ry⟩
  ·rw[if_neg e,if_neg (fun z=>e (h1.trans z))]; exact⟨h1,h2,h3⟩
theorem KT.put{H:Hp}{kvs:List (List Key × V)}{xs:List (List Key × Addr × ja)}(r:KT H kvs xs)(k:List Key){b:Addr}{y:V}{u:ja}(hb:H b=some (.tup (k.map kV)))(ry:RelV y u) :
  KT H (zfh kvs k y) (storedH xs k b u):=by
 have e:(kvs.any fun kv=>decide (kv.1=k))=(JE xs k).isSome:=by
  rw[zfo,(r.val k).isSome_eq,gA]
 unfold zfh storedH;rw[e]
 by_cases q:(JE xs k).isSome=true
 ·rw[if_pos q,if_pos q]; exact r.repl k ry
 ·rw[if_neg q,if_neg q]; exact JL r ⟨rfl,hb,ry⟩
theorem KT.keeps{H H':Hp}{kvs:List (List Key × V)}{xs:List (List Key × Addr × ja)}(r:KT H kvs xs)(ht:∀ b ys,H b=some (.tup ys)->H' b=some (.tup ys)):KT H' kvs xs:=
 Paired.mapP r fun _ _ z=>⟨z.1,ht _ _ z.2.1,z.2.2⟩
section
variable {P:jK}{w:Qj}{H:Hp}{h:Heap}{a:Addr}
theorem zs3{u:HO}(ok:HOk P w H h)(e:Rd H a u):ObjOk P w H h a u:=e.ok ok
theorem zjI{kvs:List (Key × V)}(ok:HOk P w H h)(e:Rd H a (.dK kvs)):kvs.length<=jh/\(a == Z9)=false/\∃ vs,KV kvs vs/\h.DictOf (zaz P w) a vs:=
 show ObjOk P w H h a (.dK kvs) from zs3 ok e
theorem zqQ{kvs:List (Key × V)}(ok:HOk P w H h)(e:H a=some (.dK kvs)):kvs.length<=jh/\(a == Z9)=false/\∃ vs,KV kvs vs/\h.DictOf (zaz P w) a vs:=zjI ok (.inl e)
theorem ziw{ks:List Key}(ok:HOk P w H h)(e:H a=some (.tup (ks.map kV))):(NY (zaz P w)).is h ks a:=by
 obtain⟨_,its,r,o,h1,h2,n,h3⟩:=(show ObjOk P w H h a (.tup (ks.map kV)) from ok a _ e);exact⟨o,its.toArray,n,h1,h2,h3,by simpa using zix r⟩
theorem zn1{kvs:List (List Key × V)}(ok:HOk P w H h)(e:Rd H a (.dT kvs)):kvs.length<=jh/\(a == Z9)=false /\
  ∃ xs,KT H kvs xs/\h.DictOfH (NY (zaz P w)) a xs:=by
 obtain⟨z,y,xs,r,o,es,ep,h1,h2,h3,h4,h5⟩:=(show ObjOk P w H h a (.dT kvs) from zs3 ok e);refine⟨z,y,xs,r,o,es,ep,h1,h2,h3,h4,fun x hx=>?_,h5⟩;have all:∀ {l:List (List Key × V)} {m:List (List Key × Addr × ja)},KT H l m->∀ x∈m,(NY (zaz P w)).is h x.1 x.2.1:=by
  intro l m q
  induction q with
  |nil=>intro x hx; exact nomatch hx
  |@cons p q ps qs hq t ih=>
   intro x hx;rcases jq.mp hx with e |hx
   ·subst e;exact ziw ok (by rw[<-hq.1]; exact hq.2.1)
   ·exact ih x hx
 exact all r x hx
theorem zvW{kvs:List (List Key × V)}(ok:HOk P w H h)(e:H a=some (.dT kvs)):kvs.length<=jh/\(a == Z9)=false /\
  ∃ xs,KT H kvs xs/\h.DictOfH (NY (zaz P w)) a xs:=zn1 ok (.inl e)
end
def DGet(H:Hp)(a:Addr)(y:V)(r:Option V):Prop:=
 (∃ kvs k,Rd H a (.dK kvs)/\y=kV k/\r=ze7 kvs k)∨∃ kvs k b,Rd H a (.dT kvs)/\y=.ref b/\H b=some (.tup (k.map kV))/\r=ze7 kvs k
def DPut(H:Hp)(a:Addr)(y v:V)(H':Hp):Prop:=
 (∃ kvs k,H a=some (.dK kvs)/\y=kV k/\kvs.length < jh/\H'=upd H a (.dK (zfh kvs k v))) ∨
 ∃ kvs k b,H a=some (.dT kvs)/\y=.ref b/\H b=some (.tup (k.map kV))/\kvs.length < jh/\H'=upd H a (.dT (zfh kvs k v))
theorem DGet.k{H:Hp}{a:Addr}{kvs:List (Key × V)}{k:Key}(e:H a=some (.dK kvs)):DGet H a (kV k) (ze7 kvs k):=.inl ⟨kvs,k,.inl e,rfl,rfl⟩
theorem DPut.k{H:Hp}{a:Addr}{kvs:List (Key × V)}{k:Key}{v:V}(e:H a=some (.dK kvs))(hl:kvs.length < jh):DPut H a (kV k) v (upd H a (.dK (zfh kvs k v))):=.inl ⟨kvs,k,e,rfl,hl,rfl⟩
section
variable {X:Cx}{pins:List (Addr × Obj)}{σ:St}{H:Hp}{s:jc}{a:Addr}{y v:V}{u r:ja}{o:Option V}{A:Qz}{E:ja->jc->Prop}
theorem Inv.big(I:Inv X pins σ H s):Z9 < s.heap.objs.size:=by
 have h:jV < s.heap.objs.size:=(I.mod.glob.keeps I.bk).lt;exact Wz (by decide) h
theorem zn3{Q:ja->jc->Prop}(hu:A.units+1 < ZH)(I:Inv X pins σ H s)(g:DGet H a y (some v))(ry:RelV y u)(h:∀ w' s',Inv X pins σ H s'->RelV v w'->Q w' s') :
  jH (jM X.prog X.w) A (WX (.ref a) u) Q E s:=by
 rcases g with ⟨kvs,k,e,ey,l⟩ |⟨kvs,k,b,e,ey,eb,l⟩
 ·subst ey;obtain⟨z,hd,vs,rel,dd⟩:=zjI I.hok e;obtain⟨w',hw,rw'⟩:=RelO.some_of (v:=v) (o:=Wo vs k) (by rw[l]; exact rel.val k)
  exact wpAny_getItem_of (zlb ry) dd.mapOf hw (h w' _ (I.tok _) rw')
 ·subst ey;cases (show u=Qp b from ry);obtain⟨z,hd,xs,rel,dd⟩:=zn1 I.hok e;obtain⟨w',hw,rw'⟩:=RelO.some_of (v:=v) (o:=(JE xs k).map (·.2)) (by rw[l]; exact rel.val k)
  obtain⟨p,hp,hp2⟩:=Qm hw;refine wpAny_getItem_heap (gk hu) (ziw I.hok eb) dd hp ?_;rw[hp2];exact h w' _ (I.tok _) rw'
theorem zxT{Q:ja->jc->Prop}(hu:A.units+1 < ZH)(I:Inv X pins σ H s)(g:DGet H a y o)(ry:RelV y u)(h:∀ s',Inv X pins σ H s'->Q (.bool o.isSome) s') :
  jH (jM X.prog X.w) A (Zg .In u (.ref a)) Q E s:=by
 rcases g with ⟨kvs,k,e,ey,l⟩ |⟨kvs,k,b,e,ey,eb,l⟩
 ·subst ey;obtain⟨z,hd,vs,rel,dd⟩:=zjI I.hok e;refine wpAny_in_of (zlb ry) hd dd.mapOf ?_;rw[<-(rel.val k).isSome_eq,<-l];exact h _ (I.tok _)
 ·subst ey;cases (show u=Qp b from ry);obtain⟨z,hd,xs,rel,dd⟩:=zn1 I.hok e;refine wpAny_in_heap (gk hu) (ziw I.hok eb) hd dd ?_;have q:=(rel.val k).isSome_eq;rw[gA] at q;rw[<-q,<-l];exact h _ (I.tok _)
theorem zqS{Q:ja->jc->Prop}(hu:A.units+1 < ZH)(I:Inv X pins σ H s)(g:DGet H a y o)(ry:RelV y u)(h:∀ s',Inv X pins σ H s'->Q (.bool (!o.isSome)) s') :
  jH (jM X.prog X.w) A (Zg .NotIn u (.ref a)) Q E s:=by
 rcases g with ⟨kvs,k,e,ey,l⟩ |⟨kvs,k,b,e,ey,eb,l⟩
 ·subst ey;obtain⟨z,hd,vs,rel,dd⟩:=zjI I.hok e;refine wpAny_notIn_of (zlb ry) hd dd.mapOf ?_;rw[<-(rel.val k).isSome_eq,<-l];exact h _ (I.tok _)
 ·subst ey;cases (show u=Qp b from ry);obtain⟨z,hd,xs,rel,dd⟩:=zn1 I.hok e;refine wpAny_notIn_heap (gk hu) (ziw I.hok eb) hd dd ?_;have q:=(rel.val k).isSome_eq;rw[gA] at q;rw[<-q,<-l];exact h _ (I.tok _)
theorem zjK{h':Heap}{t':Nat}{ob:HO}(I:Inv X pins σ H s)(mu:Mut (H a))(hs:Q8 a s.heap h')(he:∃ q,h'.get? a=some q)(new:ObjOk X.prog X.w (upd H a ob) h' a ob) :
  Inv X pins σ (upd H a ob) { s with heap:=h',toks:=t' }:=
 I.write (x:=a) (e:=a) mu (.inl rfl) (fun b q hb z=>(hs.2 b hb).trans z) he new
theorem zp6{P:jK}{w:Qj}{H':Hp}{h':Heap}{kvs:List (Key × V)}{vs:List (Key × ja)}(z:kvs.length<=jh)(hd:(a == Z9)=false)(rel:KV kvs vs)(dd:h'.DictOf (zaz P w) a vs) :
  ObjOk P w H' h' a (.dK kvs):=⟨z,hd,vs,rel,dd⟩
theorem zn2{H':Hp}{Q:Unit->jc->Prop}(hu:A.units+1 < ZH)(I:Inv X pins σ H s)(g:DPut H a y v H')(ry:RelV y u)(rv:RelV v r)(h:∀ s',Inv X pins σ H' s'->Q () s') :
  jH (jM X.prog X.w) A (setItem (.ref a) u r) Q E s:=by
 rcases g with ⟨kvs,k,e,ey,l,eH⟩ |⟨kvs,k,b,e,ey,eb,l,eH⟩
 ·subst ey eH;obtain⟨z,hd,vs,rel,dd⟩:=zqQ I.hok e;have hz:vs.length<=jh:=by rw[<-rel.length]; exact z
  have hl:(zfh kvs k v).length<=jh:=by have:=zcZ kvs k v; lia
  refine wpAny_setItem_pairs (hsz:=hz) (zlb ry) dd fun h' dd' hs=>h _ ?_;have he:∃ q,h'.get? a=some q:=let ⟨q,_,_,hq,_⟩:=dd'; ⟨q,hq⟩
  exact zjK I (by rw[e]; exact ZS) hs he (zp6 hl hd (rel.put k rv) dd')
 ·subst ey eH;cases (show u=Qp b from ry);obtain⟨z,hd,xs,rel,dd⟩:=zvW I.hok e;have hz:xs.length<=jh:=by rw[<-YO rel]; exact z
  have hl:(zfh kvs k v).length<=jh:=by have:=zcZ kvs k v; lia
  refine wpAny_setItem_heap (hsz:=hz) (gk hu) (ziw I.hok eb) dd fun h' dd' hs=>h _ ?_;obtain⟨q,es,ep,hq,h2,h3,h4,_,h5⟩:=dd';refine zjK I (by rw[e]; exact ZS) hs ⟨q,hq⟩ ⟨hl,hd,_,(rel.put k eb rv).keeps fun c ys ec=>?_,q,es,ep,hq,h2,h3,h4,h5⟩
  rw[za5 (zvd ec e (fun z=>nomatch z))]
  exact ec
end
section
variable {X:Cx}{pins:List (Addr × Obj)}{σ:St}{H:Hp}{s:jc}{a:Addr}{kvs:List (Key × V)}{k:Key}{u:ja}{A:Qz}{E:ja->jc->Prop}
theorem zvX{Q:ja->jc->Prop}(I:Inv X pins σ H s)(e:Rd H a (.dK kvs))(h:∀ t s',Inv X pins σ H s'->Q (.int kvs.length t) s'):jH (jM X.prog X.w) A (call (.builtin "len") [.ref a]) Q E s:=by
 obtain⟨z,hd,vs,rel,dd⟩:=zjI I.hok e;refine call_len_dict hd dd (by rw[<-rel.length]; rw[gy] at z; lia) ?_
 rw[<-rel.length];exact h _ _ (I.tok _)
end
def ztX(i:Expr):Prop:=∀ ov iv,NQ i false ov iv=operate [ov,iv] (WX ov iv)
theorem zpx{prog:jK}{w:Qj}{A:Qz}{E:ja->jc->Prop}{s:jc}{env:Env}{value slice:Expr}{pos:Pos}{T id:String}{Q:ja->jc->Prop}
  (hl:typeLookup (.type T) "__getitem__"=pure (some (.builtin id))) (hs:ztX slice)
  (h:jH (jM prog w) A (eval value env) (fun o s₁=>jH (jM prog w) A (eval slice env) (fun i s₂=>s₂.TypeIs o T/\jH (jM prog w) A (WX o i) Q E s₂) E s₁) E s) :
  jH (jM prog w) A (eval (.Subscript value slice pos) env) Q E s:=by
 refine Wk (Qg h (fun o s₁ h₁=>Qg h₁ (fun i s₂ h₂=>?_) fun _ _ x=>x) fun _ _ x=>x);obtain⟨hT,h₂⟩:=h₂;unfold YT;refine j4 ?_;rw[getitemInPython_of_ne hT.not_modules];refine j4 (wpAny_specialOf hT hl ?_);have fin:jH (jM prog w) A (NQ slice false o i) (fun r s₃=>jH (jM prog w) A (letTemporaryGo value o r >>= fun _=>pure r) Q E s₃) E s₂:=by
  rw[hs o i];exact wpAny_operating (Qg h₂ (fun r s₃ h₃=>j4 (wpAny_letTemporaryGo (je h₃))) fun _ _ x=>x)
 first
  |exact je (j4 fin)
  |exact j4 (je (j4 fin))
  |exact j4 fin
theorem zjJ{X:Cx}{pins:List (Addr × Obj)}{σ:St}{H:Hp}{s:jc}{a:Addr}{y:V}{o:Option V}(I:Inv X pins σ H s)(g:DGet H a y o):s.TypeIs (.ref a) "dict":=by
 rcases g with ⟨kvs,k,e,_,_⟩ |⟨kvs,k,b,e,_,_,_⟩
 ·obtain⟨_,_,vs,_,dd⟩:=zjI I.hok e;exact dd.typeIs
 ·obtain⟨_,_,xs,_,dd⟩:=zn1 I.hok e;exact dd.typeIs
def zuN(td ty:TE):TE:=fun σ H Q=>td σ H fun x H1=>ty σ H1 fun y H2=>∃ a v,x=.ref a/\DGet H2 a y (some v)/\Q v H2
def zxo(ty td:TE):TE:=fun σ H Q=>ty σ H fun y H1=>td σ H1 fun x H2=>∃ a o,x=.ref a/\DGet H2 a y o/\Q (.bl o.isSome) H2
def zpw(ty td:TE):TE:=fun σ H Q=>ty σ H fun y H1=>td σ H1 fun x H2=>∃ a o,x=.ref a/\DGet H2 a y o/\Q (.bl (!o.isSome)) H2
def znv(td ty tv:TE):TS:=fun D σ H=>tv σ H fun v H1=>td σ H1 fun x H2=>ty σ H2 fun y H3=>∃ a H4,x=.ref a/\DPut H3 a y v H4/\D.nx σ H4
section
variable {X:Cx}{o i e value:Expr}{pos pos' tpos:Pos}{td ty tv:TE}
theorem zji(hu:X.A.units+1 < ZH)(ho:PE X o td)(hi:PE X i ty)(hs:ztX i):PE X (.Subscript o i pos) (zuN td ty):=by
 intro pins s σ H Q I h;refine zpx PySem.F.slot_dict_getitem.lookup hs (thn (ho pins s σ H _ I h) fun u s1 h_=>?_); obtain⟨x,H1,I1,rx,q1⟩:=h_; refine thn (hi pins s1 σ H1 _ I1 q1) fun iv s2 h_=>?_; obtain⟨y,H2,I2,ry,a,v,ex,g,q2⟩:=h_;subst ex;obtain rfl:u=Qp a:=rx;exact⟨zjJ I2 g,zn3 hu I2 g ry fun w' s3 I3 rw'=>⟨v,H2,I3,rw',q2⟩⟩
theorem zsA(hu:X.A.units+1 < ZH)(hi:PE X i ty)(ho:PE X o td):PC X .In i o (zxo ty td):=by
 intro pins s σ H Q I h;refine thn (hi pins s σ H _ I h) fun iv s1 h_=>?_; obtain⟨y,H1,I1,ry,q1⟩:=h_; refine thn (ho pins s1 σ H1 _ I1 q1) fun u s2 h_=>?_; obtain⟨x,H2,I2,rx,a,ov,ex,g,q2⟩:=h_;subst ex;obtain rfl:u=Qp a:=rx;exact zxT hu I2 g ry fun s3 I3=>⟨.bl ov.isSome,H2,I3,rfl,q2⟩
theorem zim(hu:X.A.units+1 < ZH)(hi:PE X i ty)(ho:PE X o td):PC X .NotIn i o (zpw ty td):=by
 intro pins s σ H Q I h;refine thn (hi pins s σ H _ I h) fun iv s1 h_=>?_; obtain⟨y,H1,I1,ry,q1⟩:=h_; refine thn (ho pins s1 σ H1 _ I1 q1) fun u s2 h_=>?_; obtain⟨x,H2,I2,rx,a,ov,ex,g,q2⟩:=h_;subst ex;obtain rfl:u=Qp a:=rx;exact zqS hu I2 g ry fun s3 I3=>⟨.bl (!ov.isSome),H2,I3,rfl,q2⟩
theorem zm8(hu:X.A.units+1 < ZH)(ho:PE X o td)(hi:PE X i ty)(hv:PE X value tv)(hs:ZV value (some (.Subscript o i pos')) pos.line X.env=pure false) :
  PS X (.Assign [.Subscript o i pos'] value pos) (znv td ty tv):=by
 intro pins s σ H D I h;refine wpAny_Assign_Subscript (thn (hv pins s σ H _ I h) fun r s1 ⟨v,H1,I1,rv,q1⟩=>thn (ho pins s1 σ H1 _ I1 q1) fun u s2 ⟨x,H2,I2,rx,q2⟩=>thn (hi pins s2 σ H2 _ I2 q2) fun iv s3 ⟨y,H3,I3,ry,a,H4,ex,g,q3⟩=>?_) hs;subst ex;obtain rfl:u=Qp a:=rx;exact zn2 hu I3 g ry rv fun s4 I4=>⟨σ,H4,I4,q3⟩
end
theorem zkC{P:jK}{w:Qj}{H:Hp}(h:Heap)(hb:Z9 < h.objs.size):ObjOk P w H (h.push { cls:=.type "dict",data:=.dict #[] }) h.objs.size (.dK []):=
 ⟨Zj _,beq_eq_false_iff_ne.mpr (Zi (jB hb)),[],.nil,Heap.DictOf.new h⟩
def zrE:TE:=fun _ H Q=>∀ p,H p=none->Q (.ref p) (upd H p (.dK []))
section
variable {X:Cx}{pos:Pos}
theorem zkk:PE X (.Dict [] [] pos) zrE:=fun pins s σ H Q I h=>
 wpAny_Dict_empty ⟨.ref s.heap.objs.size,_,I.laid (a:=s.heap.objs.size) (o:=.dK []) (t':=s.toks) (fun _ _ q=>j7 _ q) (jl _) (zkC s.heap I.big),rfl,h _ (I.hok.fresh (jl _))⟩
end
end L2
namespace Att
open PySem PySem.W PySem.Calls PyProof.Rows
theorem zga{P:Params}{h:Heap}:∀(ns:List Int) (vs:List ja),WellAll P h vs (ns.map WData.int)->WZ vs ns:=by
 intro ns
 induction ns with
 |nil=>
  intro vs w;rw[Z3] at w;cases w;exact .nil
 |cons n ns ih=>
  intro vs w;rw[jj] at w;cases w with
  |cons a b=>
   cases a;exact .cons _ _ (ih _ b)
theorem zic{l:OpenLaw}{n:Nat}(hn:l.most=some n){P:Params}{h:Heap}{args:List WData}{vals:List ja}
  (hpre:l.row.toRowW.claim.pre args=true) (hwl:WellAll P h vals args) :
  ∃ a vs ns,vals=[Qp a]/\args=[WData.list (ns.map WData.int)]/\h.get? a=some { cls:=.type "list",data:=.seq vs.toArray }/\WZ vs ns/\ns.length<=n:=by
 have hsh:WShape.hasAll [] args [.list .int]=true:=(pre_splitW hpre).1;have hc:l.pre.holds [] { args:=args }=true:=(pre_splitW hpre).2;obtain⟨d,r,rfl,h1,h2⟩:=hasAllW_cons hsh;obtain rfl:=hasAllW_nil h2;obtain⟨xs,rfl,h3⟩:=hasW_list h1;obtain⟨ns,rfl⟩:=items_int h3;have hlen:ns.length<=n:=by
  unfold OpenLaw.pre at hc;have h4:(WTm.not (.lt (.lit (.int (n:Int))) (.len (.arg 0)))).holds [] { args:=[.list (ns.map .int)] }=true:=by
   have h4:=(holds_andW hc).1;rw[hn] at h4;exact h4
  have h5:=condW_of h4 (w_not (w_lt w_lit (w_len_list (w_arg rfl))));rw[j6] at h5;refine WJ fun q=>?_;have q':(n:Int) < ((ns.length:Nat):Int):=by lia
  first
   |(rw[decide_eq_true q'] at h5; exact absurd h5 (by decide))
   |(simp at h5; lia)
 cases hwl with
 |cons w1 w2=>
  cases w2;cases w1 with
  |list ho hall=>exact⟨_,_,ns,rfl,rfl,ho,zga ns _ hall,hlen⟩
theorem zik(l:OpenLaw)(args:List WData):l.row.toRowW.claim.post args (.bool true) args=true:=
 postW_of (r:=l.row.toRowW) (X:=(true == true))
  (show JP [] (.bool true) .bool=true by first |rfl |decide |simp[JP,WShape.arms,WShape.armsAll])
  (show (WTm.eq .res (.lit (.bool true))).value [] { args:=args,res:=some (.bool true),after:=args }=some (.bool (true == true)) from w_eq_bool (w_res rfl) w_lit) rfl
theorem zwB{l:OpenLaw}{n:Nat}{q:jK}{loose:List Str}{XP:(Str->Option ja)->Heap->Prop}{YP:Qj->Heap->Prop}{d:DefRec}{x:Str}
  (hn:l.most=some n) (hdf:d.params.defaults=[])
  (hbind:∀ pm cd doc v:ja,gZ (docDef d.name d.params d.body d.scope pm cd doc) ⟨[v],[]⟩=pure [(x,v)])
  (hx:d.scope.names.lookup x=some .local∨d.scope.names.lookup x=some .cell)
  (hk:d.scope.kind=.function) (hco:d.scope.isCoroutine=false) (hgen:d.scope.isGenerator=false)
  (body:∀(w:Qj) (s₀ s₁ s:jc) (mg mb:Str->Option ja) (fa:Addr) (o:Obj) (pm cd doc:ja) (a:Addr) (vs:List ja) (ns:List Int),
   Ground q loose [] XP w s₀ mg mb s₁.heap->YP w s₁.heap->
   s₁.heap.get? fa=some o->o.data=.func (docDef d.name d.params d.body d.scope pm cd doc)->s₁.heap.CodeRec cd d.name->mg d.name=some (.ref fa)->
   s₁.heap.get? a=some { cls:=.type "list",data:=.seq vs.toArray }->WZ vs ns->ns.length<=n->
   s.gens=#[]->s.os=s₁.os->
   Fr s₁.heap s₁.heap.objs.size s.heap (JC (Y6 d.name d.scope s₁.heap.objs.size fa cd).kindOf [(x,.ref a)] fun _=>none)->
   Cl s₁.heap.objs.size (WW (s₁.heap.objs.size+1) d.scope.names []) s.heap (JD (Y6 d.name d.scope s₁.heap.objs.size fa cd).kindOf [(x,.ref a)] fun _=>none)->
   jH (jM l.prog w) (NR.deeper (Y6 d.name d.scope s₁.heap.objs.size fa cd)) (execs d.body (Y6 d.name d.scope s₁.heap.objs.size fa cd))
    (fun f s'=>f=.ret (.bool true)/\OldK s₁.heap s'.heap/\s'.os=s₁.os/\YQ s'.gens) (fun _ _=>False) s) :
  WalkO q loose XP YP l.row.toRowW d [] (fun f vs=>Wp f vs):=by
 intro w s₀ s₁ mg mb G Y fa o pm cd doc dV kV ho hd hcd hD hmg hg args vals as hpre hlay hrd hwl hlo;obtain rfl:dV=.none:=Dflts.none hD hdf;obtain rfl:kV=.none:=Dflts.noKw hD;obtain⟨a,vs,ns,rfl,rfl,hobj,hints,hlen⟩:=zic hn hpre hwl;refine enter_call ?_;refine call_cells_ret (o:=o) (by rw[depth_caller]; decide) ho (fd_plain hd) G.T.nolimit hcd (hbind pm cd doc (.ref a)) (fun y hy=>?_) (fun h₁ tk F X=>?_) hco hgen hk
 ·obtain rfl:y=(x,Qp a):=jG.mp hy;rcases hx with e |e
  ·exact .inl e
  ·exact .inr ⟨e,cellsFrom_some _ _ _ (.inl e)⟩
 ·refine Qg (body w s₀ s₁ { s₁ with heap:=h₁,toks:=tk } mg mb fa o pm cd doc a vs ns G Y ho (fd_plain hd) hcd hmg hobj hints hlen hg rfl F X) (fun f s' hq=>?_) (fun _ _ hq=>hq);obtain⟨rfl,h2,h3,h4⟩:=hq;exact⟨.inl ⟨.bool true,.bool true,[],rfl,fun _=>rfl,.bool true,zik l _,fun _=>⟨YE,fun _ hm=>(nomatch hm)⟩⟩,h2,h3,h4⟩
theorem attach_call{l:OpenLaw}{n:Nat}{q:jK}{loose:List Str}{XP:(Str->Option ja)->Heap->Prop}{YP:Qj->Heap->Prop}{d:DefRec}
  (hn:l.most=some n) (hdf:d.params.defaults=[])
  (call:∀(w:Qj) (s₀ s₁:jc) (mg mb:Str->Option ja) (fa:Addr) (o:Obj) (pm cd doc:ja) (a:Addr) (vs:List ja) (ns:List Int),
   Ground q loose [] XP w s₀ mg mb s₁.heap->YP w s₁.heap->
   s₁.heap.get? fa=some o->o.data=.func (docDef d.name d.params d.body d.scope pm cd doc)->s₁.heap.CodeRec cd d.name->mg d.name=some (.ref fa)->
   s₁.heap.get? a=some { cls:=.type "list",data:=.seq vs.toArray }->WZ vs ns->ns.length<=n->s₁.gens=#[]->
   Yt (jM l.prog w) NR (.call (.ref fa) ⟨[.ref a],[]⟩) (fun r s'=>r=.ok (.ret (.bool true))/\OldK s₁.heap s'.heap/\s'.os=s₁.os/\YQ s'.gens) s₁) :
  WalkO q loose XP YP l.row.toRowW d [] (fun f vs=>Wp f vs):=by
 intro w s₀ s₁ mg mb G Y fa o pm cd doc dV kV ho hd hcd hD hmg hg args vals as hpre hlay hrd hwl hlo;obtain rfl:dV=.none:=Dflts.none hD hdf;obtain rfl:kV=.none:=Dflts.noKw hD;obtain⟨a,vs,ns,rfl,rfl,hobj,hints,hlen⟩:=zic hn hpre hwl;refine enter_call (Yl (call w s₀ s₁ mg mb fa o pm cd doc a vs ns G Y ho (fd_plain hd) hcd hmg hobj hints hlen hg) fun r s' hq=>?_);obtain⟨rfl,h2,h3,h4⟩:=hq;exact⟨.inl ⟨.bool true,.bool true,[],rfl,fun _=>rfl,.bool true,zik l _,fun _=>⟨YE,fun _ hm=>(nomatch hm)⟩⟩,h2,h3,h4⟩
end Att
namespace L2
open PySem PySem.Spec PyProof.Rows
theorem zhZ:∀ {vs:List ja} {ns:List Int},WZ vs ns->Vals (ns.map V.int) vs
 |_,_,.nil=>.nil
 |_,_,.cons n t h=>.cons ⟨t,rfl⟩ (zhZ h)
def ztW(H:Hp):Prop:=∀ b,H b=none∨∃ o xs,H b=some (.frz o (.lst xs))
theorem znY{P:jK}{w:Qj}{K:j8}{mg mb:Str->Option ja}{CX:CXT}{k:Nat}{fa a:Addr}{fd:Q9}{x:Str}{sp:Sp}{s₁:jc}{vs:List ja}{ns:List Int}
  (KX:K.In s₁.heap) (hns:s₁.heap.Ns jV mg) (hb:s₁.heap.Ns Je mb) (hbb:∀ x:Str,x≠"__name__"->mb x=QK x) (hlim:s₁.heap.NoLimit) (hg:s₁.gens=#[])
  (ha:s₁.heap.get? a=some { cls:=.type "list",data:=.seq vs.toArray }) (hi:WZ vs ns) (hl:ns.length<=jh) (hr:Room k NR)
  (F:∀ base:Heap,K.In base->base.Ns jV mg->FnOk P w K mg base CX k fa fd [x] sp) (hbind:∀(s:jc) (u:ja),Wj s fd ⟨[u],[]⟩ [(x,u)])
  (hsp:∀ H:Hp,ztW H->SqL K H a (ns.map V.int)->sp [.ref a] H (fun v _=>v=.bl true) fun _ _ _=>False)
  (hCX:∀ H e s',CX [] H s₁ (fun _ _ _=>False) e s'->False) :
  Yt (jM P w) NR (.call (.ref fa) ⟨[.ref a],[]⟩) (fun r s'=>r=.ok (.ret (.bool true))/\OldK s₁.heap s'.heap/\s'.os=s₁.os/\YQ s'.gens) s₁:=by
 have rv:=zhZ hi;have lenV:=hi.length
 -- from an abstract heap in which nothing but the script may be tracked
 have core:∀ H:Hp,ztW H->SqL K H a (ns.map V.int)->HOk P w H s₁.heap->(∀ b,H b≠none->b=a)->(H a≠none->K.lookup a=none)->
   Yt (jM P w) NR (.call (.ref fa) ⟨[.ref a],[]⟩) (fun r s'=>r=.ok (.ret (.bool true))/\OldK s₁.heap s'.heap/\s'.os=s₁.os/\YQ s'.gens) s₁:=by
  intro H hO hS hok hA hK;have base_of:∀ {b:Addr} {o:Obj},s₁.heap.get? b=some o->H b=none->(zo5 s₁.heap H).get? b=some o:=fun e n=>zo4 e n;have noA:∀ {b:Addr} {o:Obj} {es:Array DictEntry} {ep:Nat},s₁.heap.get? b=some o->o.data=.dict es ep->H b=none:=fun {b o es ep} e d=>by
   cases q:H b with
   |none=>rfl
   |some u=>
    have e':b=a:=hA b (by rw[q]; simp)
    subst e';rw[ha] at e; cases e;have d':ND vs.toArray _=Data.dict es ep:=d;cases d'
  have nsK:∀ {b:Addr} {m:Str->Option ja},s₁.heap.Ns b m->(zo5 s₁.heap H).Ns b m:=fun {b m} ⟨o,es,ep,e,d,r⟩=>⟨o,es,ep,base_of e (noA e d),d,r⟩
  have hKb:K.In (zo5 s₁.heap H):=fun b o e=>base_of (KX b o e) (by
   cases q:H b with
   |none=>rfl
   |some u=>
    have e':b=a:=hA b (by rw[q]; simp)
    subst e'
    rw[hK (by rw[q]; simp)] at e; cases e)
  have hM:Mod K mg (zo5 s₁.heap H):=⟨hKb,nsK hns,⟨mb,nsK hb,hbb⟩,let ⟨mc,h1,h2⟩:=hlim; ⟨mc,nsK h1,h2⟩⟩
  have e0:Env0 P w K mg (zo5 s₁.heap H) NR [] s₁ H:=⟨rfl,hM,fun b o e=>zqi e,Nat.le_of_eq (zmK _ _),trivial,fun b hb=>absurd (show b∈([]:List Addr) from hb) (by simp),hok,.of_eq hg⟩
  refine Yl ((F _ hKb (nsK hns)).run NR [] s₁ H ⟨[.ref a],[]⟩ [.ref a] [.ref a] _ _ hr e0 (hbind s₁ (.ref a)) (.cons rfl .nil) (hsp H hO hS)) fun r s' h=>?_;cases r with
  |error e=>exact(hCX H e s' h).elim
  |ok fl=>
   cases fl with
   |next=>exact ZQ h
   |brk=>exact ZQ h
   |cont=>exact ZQ h
   |ret u=>
    obtain⟨v,H',os,bare,un,hok',r',q⟩:=h;have q':v=.bl true:=q;subst q';obtain rfl:u=Jc true:=r';refine⟨rfl,OldK.of_keep fun b o e=>?_,os,bare⟩;cases q:H b with
    |none=>exact un.keep b o e q (by intro z; exact absurd (show b∈([]:List Addr) from z) (by simp)) (by simp)
    |some u=>
     rcases hO b with z |⟨ob,xs,z⟩
     ·rw[q] at z; cases z
     ·have z2:=un.frzs b ob _ z;obtain⟨e1,_⟩:=hok b _ z;obtain⟨e2,_⟩:=hok' b _ z2;rw[e] at e1; cases e1;exact e2
 cases hk:K.lookup a with
 |some o=>
  -- the script is one of the module's own objects
  have e:=KX a o hk;rw[ha] at e;cases e;refine core (fun _=>none) (fun _=>.inl rfl) (.inr ⟨_,vs.toArray,_,hk,rfl,rfl,rfl,by rw[jp,lenV]; exact hl,by simpa using rv⟩) (fun b u z=>by have z':(none:Option HO)=some u:=z; cases z') (fun b z=>absurd rfl z) fun z=>absurd rfl z
 |none=>
  refine core (fun b=>if b=a then some (.frz { cls:=.type "list",data:=.seq vs.toArray } (.lst (ns.map V.int))) else none) (fun b=>?_) (.inl (.inr ⟨{ cls:=.type "list",data:=.seq vs.toArray },if_pos rfl⟩)) (fun b u z=>?_) (fun b z=>?_) fun _=>hk
  ·by_cases hb:b=a
   ·exact .inr ⟨_,_,if_pos hb⟩
   ·exact .inl (if_neg hb)
  ·by_cases hb:b=a
   ·have z':=(if_pos hb).symm.trans z;cases z';subst hb;exact⟨ha,by rw[j6]; exact hl,vs,_,rv,ha⟩
   ·have z':=(if_neg hb).symm.trans z;cases z'
  ·by_cases hb:b=a
   ·exact hb
   ·exact absurd (if_neg hb) z
theorem zph{l:Y7}{n k:Nat}{q:jK}{loose:List Str}{XP:(Str->Option ja)->Heap->Prop}{YP:Qj->Heap->Prop}{d:DefRec}{K:Params->j8}{CX:Qj->CXT}{sp:Qj->Sp}{x:Str}
  (hn:l.most=some n) (hn2:n<=jh) (hdf:d.params.defaults=[]) (hr:Room k NR)
  (hY:∀(w:Qj) (h:Heap),YP w h->(K w.params).In h)
  (F:∀(w:Qj) (mg:Str->Option ja) (fa:Addr) (h:Heap),(K w.params).In h->h.Ns jV mg->mg d.name=some (.ref fa)->
   ∃ fd:Q9,(∀(s:jc) (u:ja),Wj s fd ⟨[u],[]⟩ [(x,u)]) /\
    ∀ base:Heap,(K w.params).In base->base.Ns jV mg->FnOk l.prog w (K w.params) mg base (CX w) k fa fd [x] (sp w))
  (hsp:∀(w:Qj) (H:Hp) (a:Addr) (ns:List Int),ns.length<=n->ztW H->SqL (K w.params) H a (ns.map V.int)->sp w [.ref a] H (fun v _=>v=.bl true) fun _ _ _=>False)
  (hCX:∀(w:Qj) (H:Hp) (s:jc) (e:ja) (s':jc),CX w [] H s (fun _ _ _=>False) e s'->False) :
  Jo q loose XP YP l.row.toRowW d [] (fun f vs=>Wp f vs):=by
 refine Att.attach_call hn hdf fun w s₀ s₁ mg mb fa o pm cd doc a vs ns G Y ho hd hcd hmg hobj hints hlen hg=>?_;have KX:=hY w _ Y;obtain⟨fd,hb,hF⟩:=F w mg fa _ KX G.T.g hmg;exact znY KX G.T.g G.T.b G.T.builtins G.T.nolimit hg hobj hints (Q5 hlen hn2) hr hF hb (fun H hO hS=>hsp w H a ns hlen hO hS) fun H e s'=>hCX w H s₁ e s'
def zbi(s:Stmt):Arguments:=match s with
 |.FunctionDef _ a _ _ _ _ _ _ _ _=>a
 |_=>{ posonlyargs:=[],args:=[],vararg:=none,kwonlyargs:=[],kw_defaults:=[],kwarg:=none,defaults:=[] }
def zaK(s:Stmt):List Stmt:=match s with
 |.FunctionDef _ _ b _ _ _ _ _ _ _=>b
 |_=>[]
def za1(s:Stmt):gX:=match s with
 |.FunctionDef _ _ _ _ _ _ sc _ _ _=>sc
 |_=>{ kind:=.function,names:=[],isGenerator:=false,isCoroutine:=false }
abbrev CX0:CXT:=fun _ _ _ _ _ _=>False
abbrev E0:XK:=fun _ _ _=>False
theorem zme{X:Cx}:zne CX0 X E0:=fun _ _ _ _ _ _ _ h=>h.elim
structure Fun (K:j8) (x qual:Str) (st:Stmt) (f:Addr) (fd:Q9):Prop where
 ex:∃(oc:ja) (od:Option Addr) (kV doc pm:ja) (an:Option Addr) (cdv ct:ja) (osl:Array (Option ja)),
  fd=Qo x qual (zbi st) (zaK st) (za1 st) .none kV doc pm an cdv ct/\K.lookup f=some ⟨oc,od,.func fd,osl⟩/\ZY K cdv qual=true
 kp:jX K (.ref f)=true
section
variable {P:jK}{w:Qj}{K:j8}{mg:Str->Option ja}{base:Heap}
theorem Fun.ok{x qual:Str}{st:Stmt}{f:Addr}{fd:Q9}{N ps:List Str}{k:Nat}{sp:Sp}(F:Fun K x qual st f fd)(S:FnScope N ps (za1 st))(len:∀ vs H Q E,sp vs H Q E->vs.length=ps.length)
  (hbody:∀(cdv:ja) (A:Qz) (outer:List Env) (s:jc) (H:Hp) (vs:List V) (Q:VK) (E:XK),Room k (A.deeper (Y6 qual (za1 st) s.heap.objs.size f cdv))->sp vs H Q E->
   ∃ t,PSs (zoq CX0 P w K mg base N qual (za1 st) f cdv A outer s H E).nox (zaK st) t/\t { nx:=fun _ H'=>Q .non H',rt:=Q } (start N vs) H):FnOk P w K mg base CX0 (k+1) f fd ps sp:=by
 obtain⟨oc,od,kV,doc,pm,an,cdv,ct,osl,rfl,lk,hcd⟩:=F.ex;refine zvw lk hcd S len fun A outer s H vs Q E hr hsp=>?_;obtain⟨t,h,q⟩:=hbody cdv A outer s H vs Q E hr hsp;exact⟨t,h.nox,q⟩
theorem Fun.binds{x qual:Str}{st:Stmt}{f:Addr}{fd:Q9}{ps:List Str}(F:Fun K x qual st f fd)
  (h:∀(kV doc pm:ja) (an:Option Addr) (cdv ct:ja) (us:List ja),us.length=ps.length->gZ (Qo x qual (zbi st) (zaK st) (za1 st) .none kV doc pm an cdv ct) ⟨us,[]⟩=pure (ps.zip us)):Binds K fd ps []:=by
 obtain⟨oc,od,kV,doc,pm,an,cdv,ct,osl,rfl,lk,hcd⟩:=F.ex;exact .all (h kV doc pm an cdv ct)
theorem zp3{x qual:Str}{st:Stmt}{f:Addr}{oc:ja}{od an:Option Addr}{osl:Array (Option ja)}{kV doc pm cdv ct:ja}(l:K.lookup f=some ⟨oc,od,.func (Qo x qual (zbi st) (zaK st) (za1 st) .none kV doc pm an cdv ct),osl⟩)
  (c:ZY K cdv qual=true) (k:jX K (.ref f)=true):Fun K x qual st f (Qo x qual (zbi st) (zaK st) (za1 st) .none kV doc pm an cdv ct):=⟨⟨oc,od,kV,doc,pm,an,cdv,ct,osl,rfl,l,c⟩,k⟩
end
theorem zc7{A:Qz}{k:Nat}(hr:Room k A):A.units+1 < ZH:=W6 (Nat.add_le_add_left (by decide:1<=64) _) hr.units
theorem zi8{n:Nat}(h:n<=1000):n < jh:=W6 h (by decide)
section
variable {X:Cx}
theorem pv(i:Nat){x:Str}{pos:Pos}(hN:X.N[i]?=some x:=by rfl)(hv:Vis X.env.scope x:=by first |exact jE rfl |exact YF (jE rfl) |exact YF (YF rfl))(hd:(x == ("__debug__":Str))=false:=by decide)
  (hcd:(x == ("__classdict__":Str))=false:=by decide):PE X (.Name x pos) (zcT i):=zso hN hv hd hcd
end
theorem zxH{c A B:Prop}[Decidable c](h1:c->A)(h2:¬ c->B):if c then A else B:=by
 by_cases h:c
 ·rw[if_pos h];exact h1 h
 ·rw[if_neg h];exact h2 h
theorem Inv.forget{X:Cx}{pins:List (Addr × Obj)}{sg sg':St}{H:Hp}{s:jc}(I:Inv X pins sg H s)(hl:sg'.length=sg.length)(h:∀(i:Nat) (v:V),sg'[i]?=some (some v)->sg[i]?=some (some v)):Inv X pins sg' H s:=by
 obtain⟨m,hn,hm⟩:=I.loc;exact⟨I.ok,I.os,I.bare,I.base,⟨m,hn,fun i x v e1 e2 e3=>hm i x v e1 (h i v e2) e3⟩,I.cell,I.free,I.freeC,I.pin,I.hok,by rw[hl]; exact I.len⟩
def zas(X:Cx)(N:List Str)(scope:gX)(cl:List (Str × Addr))(C:Addr)(s0:jc)(H0:Hp)(fp:List Addr):Cx where
 prog:=X.prog
 w:=X.w
 K:=X.K
 mg:=X.mg
 base:=X.base
 A:=X.A
 N:=N
 s₀:=s0
 H₀:=H0
 env:=WQ scope cl C X.env
 outer:=X.stack
 stack:=X.stack
 ex:=fp
 fn:=fun _=>false
 calm:=X.calm
 pn:=[]
 xe:=fun _ _=>False
def capOk(N:List Str)(XN:List Str)(sc outer:gX)(caps:List (Option Nat)):Bool:=
 decide (caps.length=N.length)&&((jf caps.length).all fun i=>match caps[i]? with
  | some (some j)=>(match N[i]?,XN[j]? with
   |some x,some y=>x == y&&sc.names.lookup x == some .free&&(outer.names.lookup x == some .cell||outer.names.lookup x == some .free)
   | _,_=>false)
  | _=>true)
def zbj(caps:List (Option Nat))(sg:St):St:=caps.map fun o=>o.bind fun j=>(sg[j]?).join
theorem capOk.len{N XN:List Str}{sc outer:gX}{caps:List (Option Nat)}(h:capOk N XN sc outer caps=true):caps.length=N.length:=by
 unfold capOk at h;rw[jI] at h;exact of_decide_eq_true h.1
theorem capOk.get{N XN:List Str}{sc outer:gX}{caps:List (Option Nat)}(h:capOk N XN sc outer caps=true){i j:Nat}(e:caps[i]?=some (some j)) :
  ∃ x,N[i]?=some x/\XN[j]?=some x/\sc.names.lookup x=some .free/\(outer.names.lookup x=some .cell∨outer.names.lookup x=some .free):=by
 unfold capOk at h;rw[jI] at h;have hi:i < caps.length:=(j9.mp e).1;have q:=jt.mp h.2 i (jk.mpr hi);rw[e] at q;dsimp only at q;cases h1:N[i]? with
 |none=>rw[h1] at q; cases q
 |some x=>
  cases h2:XN[j]? with
  |none=>rw[h1,h2] at q; cases q
  |some y=>
   rw[h1,h2] at q;dsimp only at q;rw[jI,jI,Z4] at q;obtain⟨⟨q1,q2⟩,q3⟩:=q;have e1:x=y:=eq_of_beq q1;subst e1;exact⟨x,rfl,rfl,by simpa using q2,q3.imp (fun z=>by simpa using z) fun z=>by simpa using z⟩
theorem zeT{env:Env}:∀(names:List (Str × YS)) (acc:List (Str × Addr)),(∀ x,(x,Qr)∈names->∃ c,env.cells.lookup x=some c)->
  ∃ cl,(forIn (m:=Sem) names acc fun(p:Str × YS) cs=>(if p.2 == Qr then (do let c <-cellOf env p.1; pure (Qc ((p.1,c)::cs))) else pure (Qc cs)))=pure cl /\
   (∀ p∈cl,p∈acc∨env.cells.lookup p.1=some p.2)/\(∀ p∈acc,p∈cl)/\(∀ x,(x,Qr)∈names->∃ c,(x,c)∈cl)
 |[],acc,_=>⟨acc,rfl,fun p hp=>.inl hp,fun p hp=>hp,fun x hx=>nomatch hx⟩
 |(n,k)::r,acc,h=>by
  by_cases hk:k=.free
  ·subst hk;obtain⟨c,hc⟩:=h n Q0;obtain⟨cl,e,h1,h2,h3⟩:=zeT r ((n,c)::acc) fun x hx=>h x (jF _ hx);refine⟨cl,?_,fun p hp=>?_,fun p hp=>h2 p (jF _ hp),fun x hx=>?_⟩
   ·rw[Y8,if_pos (by rfl)]
    show (do let c <-cellOf env n; pure (Qc ((n,c)::acc)):Sem _) >>= _=_
    rw[cellOf,hc];exact e
   ·rcases h1 p hp with z |z
    ·rcases jq.mp z with z |z
     ·subst z; exact .inr hc
     ·exact .inl z
    ·exact .inr z
   ·rcases jq.mp hx with z |z
    ·injection z with z1 _;subst z1;exact⟨c,h2 _ Q0⟩
    ·exact h3 x z
  ·obtain⟨cl,e,h1,h2,h3⟩:=zeT r acc fun x hx=>h x (jF _ hx);refine⟨cl,?_,h1,h2,fun x hx=>?_⟩
   ·rw[Y8,if_neg (by simpa using hk)]
    exact e
   ·rcases jq.mp hx with z |z
    ·injection z with _ z2;exact absurd z2.symm hk
    ·exact h3 x z
theorem zcc{scope:gX}{env:Env}(h:∀ x,(x,Qr)∈scope.names->∃ c,env.cells.lookup x=some c) :
  ∃ cl,closureFor scope env=pure cl/\(∀ p∈cl,env.cells.lookup p.1=some p.2)/\(∀ x,(x,Qr)∈scope.names->∃ c,(x,c)∈cl):=by
 obtain⟨cl,e,h1,_,h3⟩:=zeT scope.names [] h;refine⟨cl,?_,fun p hp=>(h1 p hp).resolve_left (by simp),h3⟩
 have e2:closureFor scope env=((forIn (m:=Sem) scope.names ([]:List (Str × Addr)) fun(p:Str × YS) cs=>(if p.2 == Qr then (do let c <-cellOf env p.1; pure (Qc ((p.1,c)::cs))) else pure (Qc cs))) >>= fun cs=>pure cs):=rfl
 rw[e2,e];rfl
theorem zah{α β:Type}[BEq α][LawfulBEq α]{x:α}{y:β}:∀ {l:List (α × β)},l.lookup x=some y->(x,y)∈l
 |(a,b)::r,h=>by
  rw[ZC] at h;cases hx:x == a with
  |true=>
   rw[hx] at h;have e:b=y:=jd h;rw[eq_of_beq hx,e];exact Q0
  |false=>rw[hx] at h; exact jF _ (zah h)
theorem zb4{α β:Type}[BEq α][LawfulBEq α]{x:α}{y:β}:∀ {l:List (α × β)},(x,y)∈l->∃ z,l.lookup x=some z
 |(a,b)::r,h=>by
  rw[ZC];cases hx:x == a with
  |true=>exact⟨b,rfl⟩
  |false=>
   rcases jq.mp h with z |z
   ·injection z with z1 _;rw[z1] at hx;simp at hx
   ·exact zb4 z
theorem zii{scope:gX}{env:Env}(hcell:∀ y∈scope.names,y.2≠.cell){x:Str}(h:(Jp scope env).names.lookup x=some .cell∨(Jp scope env).names.lookup x=some .free):(x,Qr)∈scope.names:=by
 have key:∀ k,(x,k)∈(Jp scope env).names->k=.cell∨k=.free->(x,Qr)∈scope.names:=fun k hm hk=>by
  obtain⟨⟨n,k'⟩,hn,e⟩:=jy.mp hm;dsimp only at e;split at e
  ·rename_i hc;injection e with e1 e2;subst e1;have:k'=.free:=by
    simp only[jI] at hc;simpa using hc.1.1
   subst this;exact hn
  ·injection e with e1 e2;subst e1; subst e2;rcases hk with z |z
   ·subst z; exact absurd rfl (hcell _ hn)
   ·subst z; exact hn
 rcases h with h |h
 ·exact key _ (zah h) (.inl rfl)
 ·exact key _ (zah h) (.inr rfl)
theorem zfP{env:Env}{x:Str}:∀ {names:List (Str × YS)},names.lookup x=some .free->
  (names.map fun(n,k)=>if (k == Qr&&env.scope.kind == .function&&env.kindOf n == some .cell) then (n,Jq) else (n,k)).lookup x=some .cell ∨
  (names.map fun(n,k)=>if (k == Qr&&env.scope.kind == .function&&env.kindOf n == some .cell) then (n,Jq) else (n,k)).lookup x=some .free
 |(n,k)::r,h=>by
  rw[ZC] at h;rw[jj];cases hx:x == n with
  |true=>
   rw[hx] at h;have e:k=.free:=jd h;subst e;dsimp only;split
   ·left; rw[ZC,hx]
   ·right; rw[ZC,hx]
  |false=>
   rw[hx] at h;have ih:=zfP (env:=env) h;dsimp only;split<;>(rw[ZC,hx]; exact ih)
section
variable {X:Cx}{N:List Str}{scope:gX}{cl:List (Str × Addr)}{caps:List (Option Nat)}{pins:List (Addr × Obj)}{sg:St}{H:Hp}{s:jc}{fp:List Addr}{h1:Heap}{tk:Nat}{m0:Str->Option ja}
theorem zdA(hkind:scope.kind=.function)(hcell:∀ y∈scope.names,y.2≠.cell)(I:Inv X pins sg H s)
  (hcl1:∀ p∈cl,X.env.cells.lookup p.1=some p.2) (hcl2:∀ x,(x,Qr)∈scope.names->∃ c,(x,c)∈cl)
  (hf:∀ b∈fp,zj2 X pins H b) (hlt:∀ b∈fp,b < s.heap.objs.size):(zas X N scope cl s.heap.objs.size s H fp).Ok where
 mod:=I.ok.mod
 kind:=hkind
 glob:=I.ok.glob
 blt:=I.ok.blt
 above:=jl _
 inj:=fun x y c hx hy=>I.ok.inj x y c (hcl1 (x,c) (zah hx)) (hcl1 (y,c) (zah hy))
 has:=fun x hx=>by
  obtain⟨c,hc⟩:=hcl2 x (zii hcell hx);exact zb4 hc
 cab:=fun x c hx=>nomatch hx
 hd:=I.ok.hd
 frames:=I.ok.frames
 stk:=.inl rfl
 exf:=fun b hb=>⟨jB (hlt b hb),fun x c hx=>(hf b hb).2.2.2.2.1 x c (hcl1 (x,c) (zah hx))⟩
 bs:=I.bs
 bsz:=Q5 I.ok.bsz I.sz
 noex:=fun b o e hb=>by
  rcases(hf b hb).2.2.2.1 with z |z
  ·exact I.ok.noex b o e z
  ·exact absurd (jT (jg e) (Q5 I.ok.bsz z)) (Q4 _)
 exfs:=fun b hb z=>by
  rcases jq.mp (I.stkSub b z) with e |e
  ·exact(hf b hb).2.1 e
  ·exact(hf b hb).2.2.1 e
 funs:=I.stack
 frf:=I.stkFree
theorem zh5(hcap:capOk N X.N scope X.env.scope caps=true)(hkind:scope.kind=.function)(hcell:∀ y∈scope.names,y.2≠.cell)(I:Inv X pins sg H s)
  (hcl1:∀ p∈cl,X.env.cells.lookup p.1=some p.2) (hcl2:∀ x,(x,Qr)∈scope.names->∃ c,(x,c)∈cl)
  (hf:∀ b∈fp,zj2 X pins H b) (hlt:∀ b∈fp,b < s.heap.objs.size) (hk:∀ b u,s.heap.get? b=some u->h1.get? b=some u) (hns:h1.Ns s.heap.objs.size m0) :
  Inv (zas X N scope cl s.heap.objs.size s H fp) [] (zbj caps sg) H { s with heap:=h1,toks:=tk } where
 ok:=zdA hkind hcell I hcl1 hcl2 hf hlt
 os:=rfl
 bare:=I.bare
 base:=Un.kept hk
 loc:=by
  refine⟨m0,hns,fun i x v e1 e2 e3=>?_⟩;have e2':∃ j,caps[i]?=some (some j)/\sg[j]?=some (some v):=by
   unfold zbj at e2;rw[ji] at e2;cases hc:caps[i]? with
   |none=>rw[hc] at e2; simp at e2
   |some o=>
    rw[hc] at e2;cases o with
    |none=>simp at e2
    |some j=>
     refine⟨j,rfl,?_⟩;simp only[jo,j5,Option.some.injEq] at e2;cases hj:sg[j]? with
     |none=>rw[hj] at e2; simp at e2
     |some y=>rw[hj] at e2; simp at e2; rw[e2]
  obtain⟨j,hj1,hj2⟩:=e2';obtain⟨x',n1,n2,f1,f2⟩:=capOk.get hcap hj1;have e1':N[i]?=some x:=e1;rw[e1'] at n1;obtain rfl:x=x':=jd n1;obtain⟨m,hn,hm⟩:=I.loc;obtain⟨u,ru,l⟩:=hm j x v n2 hj2 (f2.elim (fun z=>.inr (.inl z)) fun z=>.inr (.inr z));refine⟨u,ru,.inr ⟨zfP f1,?_⟩⟩;rcases l with ⟨k,_⟩ |⟨_,c,hc,hcell⟩
  ·have k':X.env.scope.names.lookup x=some .local:=k;rcases f2 with z |z<;>(rw[k'] at z; cases z)
  ·obtain⟨c',hc'⟩:=hcl2 x (zah f1);obtain⟨c'',hc''⟩:=zb4 hc';have q:X.env.cells.lookup x=some c'':=hcl1 (x,c'') (zah hc'');rw[hc] at q;obtain rfl:c=c'':=jd q;obtain⟨o,ho,hd⟩:=hcell;exact⟨c,hc'',o,hk c o ho,hd⟩
 cell:=fun x c hx=>by
  obtain⟨v,o,ho,hd⟩:=I.cell x c (hcl1 (x,c) (zah hx));exact⟨v,o,hk c o ho,hd⟩
 free:=I.hok.fresh (jl _)
 freeC:=fun x c hx=>I.freeC x c (hcl1 (x,c) (zah hx))
 pin:=fun p hp=>nomatch hp
 hok:=I.hok.kept hk
 len:=by
  show (zbj caps sg).length=N.length;unfold zbj;rw[j6];exact capOk.len hcap
end
def PTs(X:Cx)(ifs:List Expr)(t:TT):Prop:=
 ∀(pins:List (Addr × Obj)) (s:jc) (sg:St) (H:Hp) (Q:Bool->Hp->Prop),Inv X pins sg H s->t sg H Q->
  jH (jM X.prog X.w) X.A (forIn ifs true fun c r=>if r=true then do let ok <-WV c X.env (eval c X.env); pure (Qc ok) else pure (Qc r)) (TP X pins sg Q) X.xe s
def zuP:TT:=fun _ H Q=>Q true H
theorem zq4{X:Cx}:PTs X [] zuP:=fun _ _ _ H _ I h=>wpAny_tests_nil ⟨H,I,h⟩
theorem zq3{X:Cx}{c:Expr}{t:TT}(h:PT X c t):PTs X [c] t:=fun pins s sg H Q I hq=>wpAny_tests_one (h pins s sg H Q I hq)
section
variable {prog:jK}{w:Qj}{A:Qz}{R:Jg->jc->Prop}{s:jc}
theorem ziN{elt target iter:Expr}{ifs:List Expr}{scope:gX}{pos:Pos}{it acc:ja}{env:Env}(I:Nat->jc->Prop)
  (turn:∀ n s,I n s->jH (jM prog w) A (NL it) (fun r s1=>match r with
   |none=>R (.ok .next) s1
   | some v=>jH (jM prog w) A (ZL target it v) (fun _ s1'=>jH (jM prog w) A (gF target env v) (fun _ s2=>
     jH (jM prog w) A (forIn ifs true fun c r=>if r=true then do let ok <-WV c env (eval c env); pure (Qc ok) else pure (Qc r)) (fun ok s3=>
      if ok=true then jH (jM prog w) A (eval elt env) (fun x s4=>
       jH (jM prog w) A (call (.builtin "list.append") [acc,x]) (fun _ s5=>∃ m,m < n/\I m s5) (fun _ _=>False) s4) (fun _ _=>False) s3
      else ∃ m,m < n/\I m s3) (fun _ _=>False) s2) (fun _ _=>False) s1') (fun _ _=>False) s1) (fun _ _=>False) s)
  (n:Nat) (h:I n s) :
  Yt (jM prog w) A (.compLoop (.ListComp elt [⟨target,iter,ifs,0⟩] scope pos) 0 it acc env) R s:=by
 refine codeAny_loop rfl I (fun n s hI=>?_) n h;show jH _ A ((compTurn (.ListComp elt [⟨target,iter,ifs,0⟩] scope pos) 0 it acc env).onRaise (fun x=>do noteFrame x env; theTreesLotGoes x)) _ _ s
 refine wpAny_noted ?_;rw[compTurn_list];refine j4 (ZR (j4 (Qg (turn n s hI) (fun r s1 h1=>?_) fun _ _ h'=>h'.elim)));cases r with
 |none=>exact je h1
 |some v=>
  refine j4 (Qg h1 (fun _ s1' h1'=>?_) fun _ _ h'=>h'.elim);refine j4 (Qg h1' (fun _ s2 h2=>j4 (Qg h2 (fun ok s3 h3=>?_) fun _ _ h'=>h'.elim)) fun _ _ h'=>h'.elim);cases ok with
  |false=>exact je ⟨rfl,h3⟩
  |true=>
   exact j4 (j4 (Qg h3 (fun x s4 h4=>j4 (Qg h4 (fun _ s5 h5=>je (je ⟨rfl,h5⟩)) fun _ _ h'=>h'.elim)) fun _ _ h'=>h'.elim))
end
def zex(caps:List (Option Nat))(g:TG):Prop:=∀(x:V) (sg:St) (H:Hp) (Q:St->Hp->Prop),g x sg H Q->g x sg H fun s2 H2=>Q s2 H2/\∀(j k:Nat),caps[j]?=some (some k)->s2[j]?=sg[j]?
def zkQ(caps:List (Option Nat))(g:TGs):Prop:=∀(x:List V) (sg:St) (H:Hp) (Q:St->Hp->Prop),g x sg H Q->g x sg H fun s2 H2=>Q s2 H2/\∀(j k:Nat),caps[j]?=some (some k)->s2[j]?=sg[j]?
theorem zbg{caps:List (Option Nat)}{i:Nat}(h:caps[i]?=some none:=by rfl):zex caps (zc8 i):=fun x sg H Q q=>⟨q,fun j k e=>by
 have:i≠j:=fun z=>by subst z; rw[h] at e; cases e
 exact jn this⟩
theorem zsO{caps:List (Option Nat)}:zkQ caps zqD:=fun x sg H Q ⟨e,q⟩=>⟨e,q,fun _ _ _=>rfl⟩
theorem zmB{caps:List (Option Nat)}{t:TG}{u:TGs}(mt:∀ x sg H (Q Q':St->Hp->Prop),(∀ a b,Q a b->Q' a b)->t x sg H Q->t x sg H Q')(mu:∀ x sg H (Q Q':St->Hp->Prop),(∀ a b,Q a b->Q' a b)->u x sg H Q->u x sg H Q')
  (h:zex caps t) (h2:zkQ caps u):zkQ caps (ziB t u):=fun x sg H Q ⟨v,r,e,q⟩=>
 ⟨v,r,e,mt _ _ _ _ _ (fun s2 H2 ⟨q2,k2⟩=>mu _ _ _ _ _ (fun s3 H3 ⟨q3,k3⟩=>⟨q3,fun j k e=>(k3 j k e).trans (k2 j k e)⟩) (h2 _ _ _ _ q2)) (h _ _ _ _ q)⟩
theorem zsN{caps:List (Option Nat)}{K:j8}{n:Nat}{t:TGs}(h:zkQ caps t):zex caps (zkw K n t):=fun x sg H Q ⟨a,xs,e,hq,hl,q⟩=>⟨a,xs,e,hq,hl,h _ _ _ _ q⟩
theorem zeK{i:Nat}:∀ x sg H (Q Q':St->Hp->Prop),(∀ a b,Q a b->Q' a b)->zc8 i x sg H Q->zc8 i x sg H Q':=fun _ _ _ _ _ h q=>h _ _ q
theorem ziA:∀ x sg H (Q Q':St->Hp->Prop),(∀ a b,Q a b->Q' a b)->zqD x sg H Q->zqD x sg H Q':=fun _ _ _ _ _ h q=>⟨q.1,h _ _ q.2⟩
theorem zlg{t:TG}{u:TGs}(mt:∀ x sg H (Q Q':St->Hp->Prop),(∀ a b,Q a b->Q' a b)->t x sg H Q->t x sg H Q')(mu:∀ x sg H (Q Q':St->Hp->Prop),(∀ a b,Q a b->Q' a b)->u x sg H Q->u x sg H Q') :
  ∀ x sg H (Q Q':St->Hp->Prop),(∀ a b,Q a b->Q' a b)->ziB t u x sg H Q->ziB t u x sg H Q':=fun _ _ _ _ _ h ⟨v,r,e,q⟩=>⟨v,r,e,mt _ _ _ _ _ (fun _ _ z=>mu _ _ _ _ _ h z) q⟩
theorem zmA{caps:List (Option Nat)}{K:j8}{i j:Nat}(h:caps[i]?=some none:=by rfl)(h2:caps[j]?=some none:=by rfl):zex caps (zkw K 2 (ziB (zc8 i) (ziB (zc8 j) zqD))):=
 zsN (zmB zeK (zlg zeK ziA) (zbg h) (zmB zeK ziA (zbg h2) zsO))
def lcW(J:It)(g:TG)(tt:TT)(te:TE)(sg':St)(Q:VK)(H1:Hp):Prop:=
 ∀ D,H1 D=none->∃ W:Nat->Nat->Hp->Prop,(∃ m,W 0 m (upd H1 D (.lst [])))/\∀ i m H,W i m H->
  (J.stop i H/\Q (.ref D) H)∨(J.go i H/\∀ x H',J.yld i H x H'->g x sg' H' fun s2 H2=>tt s2 H2 fun b H3=>if b=true then
   te s2 H3 fun y H4=>∃ xs,H4 D=some (.lst xs)/\xs.length < jh/\∃ m',m' < m/\W (i+1) m' (upd H4 D (.lst (xs++[y])))
   else ∃ m',m' < m/\W (i+1) m' H3)
section
variable {X:Cx}{N:List Str}{scope:gX}{caps:List (Option Nat)}{tg elt iter:Expr}{ifs:List Expr}{wi:TI}{g:TG}{tt:TT}{te:TE}{pos:Pos}
theorem zkq{pins:List (Addr × Obj)}{sg:St}{H:Hp}{s2:jc}{cl:List (Str × Addr)}{it:Addr}{fp:List Addr}{tn:Nat->Heap->Prop}{J:It}{Q:VK}{E:ja->jc->Prop}{RR:ja->Addr->Jg->jc->Prop}
  (hc:X.calm=true) (hcap:capOk N X.N scope X.env.scope caps=true) (hkind:scope.kind=.function) (hcell:∀ y∈scope.names,y.2≠.cell)
  (hg:∀ cl C s0 H0 fp,PG (zas X N scope cl C s0 H0 fp) tg g) (hgk:zex caps g) (ht:∀ cl C s0 H0 fp,PTs (zas X N scope cl C s0 H0 fp) ifs tt) (he:∀ cl C s0 H0 fp,PE (zas X N scope cl C s0 H0 fp) elt te)
  (hcl1:∀ p∈cl,X.env.cells.lookup p.1=some p.2) (hcl2:∀ x,(x,Qr)∈scope.names->∃ c,(x,c)∈cl)
  (I2:Inv X pins sg H s2) (T:Turn X.prog X.w X.K tg J fp it tn) (st2:tn 0 s2.heap) (f2:∀ b∈fp,zj2 X pins H b) (hw:lcW J g tt te (zbj caps sg) Q H)
  (hRR:∀(D C:Addr) (s':jc) (H':Hp) (m':Str->Option ja),Inv X pins sg H' s'->s'.heap.Ns C m'->H' C=none->s2.heap.objs.size<=C->(∀ x c,X.env.cells.lookup x=some c->c≠C)->(∀ p∈X.pn++pins,p.1≠C)->C≠X.env.locals->Q (.ref D) H'->RR (.ref D) C (.ok .next) s') :
  jH (jM X.prog X.w) X.A (newList []) (fun acc s3=>jH (jM X.prog X.w) X.A (newFunctionEnv scope X.env.globals cl [] X.env.qual none .none (some X.env)) (fun cenv s4=>
   Yt (jM X.prog X.w) X.A (.compStart (.ListComp elt [⟨tg,iter,ifs,0⟩] scope pos) 0 (.ref it) acc { cenv with scope:=Jp scope X.env }) (RR acc cenv.locals) s4) E s3) E s2:=by
 refine ZT ?_;have I3:Inv X pins sg (upd H s2.heap.objs.size (.lst [])) { s2 with heap:=s2.heap.push { cls:=.type "list",dict:=none,data:=.seq ([]:List ja).toArray } }:=
  I2.laid (t':=s2.toks) (fun b u e=>j7 _ e) (jl _) ⟨Zj _,[],0,.nil,jw _ rfl⟩
 have hfree:H s2.heap.objs.size=none:=I2.hok.fresh (jl _);obtain⟨W,⟨mm,w0⟩,turn⟩:=hw s2.heap.objs.size hfree;generalize hD:s2.heap.objs.size=D at *;generalize hs3:({ s2 with heap:=s2.heap.push { cls:=.type "list",dict:=none,data:=.seq ([]:List ja).toArray } }:jc)=s3 at *;have hlt3:∀ b o,s2.heap.get? b=some o->s3.heap.get? b=some o:=fun b o e=>by rw[<-hs3]; exact j7 _ e
 have hsz3:s3.heap.objs.size=D+1:=by rw[<-hs3,<-hD]; exact QQ ..
 have fpD:∀ b∈fp,b < D:=fun b hb=>by
  obtain⟨o,ho,_⟩:=T.obj 0 _ st2 b hb;rw[<-hD]; exact jg ho
 have f3:∀ b∈fp,zj2 X pins (upd H D (.lst [])) b:=fun b hb=>⟨by rw[za5 (jB (fpD b hb))]; exact(f2 b hb).1,(f2 b hb).2⟩
 have lt3:∀ b∈fp,b < s3.heap.objs.size:=fun b hb=>by rw[hsz3]; exact Za (fpD b hb)
 have st3:tn 0 s3.heap:=T.keep 0 _ _ st2 fun b _ o e=>hlt3 b o e;refine NH hcell (by intro y hy; simp at hy) (fun h1 hns1 hsb1=>?_) hkind
 try dsimp only at hns1 hsb1 ⊢
 have keep1:∀ b u,s3.heap.get? b=some u->h1.get? b=some u:=fun b u e=>hsb1.extBut b u (jB (jg e)) (j7 _ e);have I4:=zh5 (N:=N) (tk:=s3.toks+([]:List (Str × ja)).length) hcap hkind hcell I3 hcl1 hcl2 f3 lt3 keep1 hns1;have loop:Yt (jM X.prog X.w) X.A (.compLoop (.ListComp elt [⟨tg,iter,ifs,0⟩] scope pos) 0 (.ref it) (.ref D) (WQ scope cl s3.heap.objs.size X.env)) (RR (.ref D) s3.heap.objs.size) { s3 with heap:=h1,toks:=s3.toks+([]:List (Str × ja)).length }:=by
  generalize hX':zas X N scope cl s3.heap.objs.size s3 (upd H D (.lst [])) fp=X' at I4;have eP:X'.prog=X.prog:=by rw[<-hX']; rfl
  have ew:X'.w=X.w:=by rw[<-hX']; rfl
  have eK:X'.K=X.K:=by rw[<-hX']; rfl
  have eA:X'.A=X.A:=by rw[<-hX']; rfl
  have eE:X'.env=WQ scope cl s3.heap.objs.size X.env:=by rw[<-hX']; rfl
  have ex:X'.xe=fun _ _=>False:=by rw[<-hX']; rfl
  have ecalm:X'.calm=true:=by rw[<-hX']; exact hc
  have hg':PG X' tg g:=by rw[<-hX']; exact hg _ _ _ _ _
  have ht':PTs X' ifs tt:=by rw[<-hX']; exact ht _ _ _ _ _
  have he':PE X' elt te:=by rw[<-hX']; exact he _ _ _ _ _
  have stat:∀ {H':Hp},(∀ b∈fp,H' b=none)->∀ b∈fp,zj2 X' [] H' b:=fun {H'} hn b hb=>by
   refine⟨hn b hb,?_,?_,?_,?_,fun p hp=>?_⟩
   ·rw[<-hX']; exact jB (lt3 b hb)
   ·rw[<-hX'];exact fun z=>(zdA (N:=N) hkind hcell I3 hcl1 hcl2 f3 lt3).exfs b hb z
   ·rw[<-hX']; exact .inl hb
   ·rw[<-hX'];exact((zdA (N:=N) hkind hcell I3 hcl1 hcl2 f3 lt3).exf b hb).2
   ·rw[<-hX'] at hp; cases hp
  have out:∀ {sg':St} {H':Hp} {s':jc},Inv X' [] sg' H' s'->Inv X pins sg H' s':=fun {sg' H' s'} I'=>by
   have hb:=I'.base;rw[<-hX'] at hb;have ho:=I'.os;rw[<-hX'] at ho;have hk:=I'.hok;rw[eP,ew] at hk;exact I3.call' (ch:=fp) ho hb hk I'.bare fun b hb=>⟨(f3 b hb).2.2.2.1,(f3 b hb).2.1,(f3 b hb).2.2.2.2.1,(f3 b hb).2.2.2.2.2⟩
  rw[<-eE,<-eA,<-eP,<-ew];refine ziN (fun n s'=>∃ i H',Inv X' [] (zbj caps sg) H' s'/\tn i s'.heap/\(∀ b∈fp,H' b=none)/\W i n H') ?_ mm
   ⟨0,_,I4,T.keep 0 _ _ st3 fun b _ o e=>keep1 b o e,fun b hb=>(f3 b hb).1,w0⟩
  rintro n s5 ⟨i,H5,I5,st5,fr5,w5⟩;rcases turn i n H5 w5 with ⟨stop,q⟩ |⟨go,step⟩
  ·have z:=T.done X' eP ew eK ecalm i [] s5 _ H5 (fun _ _=>False) I5 (stat fr5) st5 stop;rw[<-eP,<-ew] at z;refine thn z fun r s6 h_=>?_; obtain⟨hr,I6⟩:=h_;subst hr;obtain⟨m',hn',_⟩:=I6.loc;have hfr:=I6.free;rw[eE] at hn' hfr;refine hRR D s3.heap.objs.size s6 H5 m' (out I6) hn' hfr (by rw[hsz3]; exact Y9 _) (fun x c e z=>?_) (fun p hp z=>?_) (fun z=>?_) q
   ·obtain⟨v,o,ho,_⟩:=I3.cell x c e;rw[z] at ho;exact absurd (jg ho) (Q4 _)
   ·have:=jg (I3.pin p hp).1;rw[z] at this;exact absurd this (Q4 _)
   ·have:=I3.lt;rw[<-z] at this;exact absurd this (Q4 _)
  ·have z:=T.item X' eP ew eK ecalm i [] s5 _ H5 (fun _ _=>False) I5 (stat fr5) st5 go;rw[<-eP,<-ew] at z;refine thn z fun r s6 h_=>?_; obtain⟨u,hr,h6⟩:=h_;subst hr;dsimp only;refine thn h6 fun _ s7 h_=>?_; obtain⟨x,H7,I7,r7,y7,st7,fr7⟩:=h_;have I7':=I7.pinned (stat fr7) (T.obj _ _ st7);have q7:=step x H7 y7;have a7:=hg' _ s7 (zbj caps sg) H7 x u _ I7' r7 (hgk _ _ _ _ q7);rw[ex] at a7;refine thn a7 fun _ s8 h_=>?_; obtain⟨sg8,H8,I8,q8,k8⟩:=h_;have k8':∀(j:Nat) (v:V),(zbj caps sg)[j]?=some (some v)->sg8[j]?=some (some v):=fun j v e=>by
    have e':=e;unfold zbj at e';rw[ji] at e';cases hc:caps[j]? with
    |none=>rw[hc] at e'; simp at e'
    |some o=>
     cases o with
     |none=>rw[hc] at e'; simp at e'
     |some k=>rw[k8 j k hc]; exact e
   have a8:=ht' _ s8 sg8 H8 _ I8 q8;rw[ex] at a8;refine thn a8 fun ok s9 h_=>?_; obtain⟨H9,I9,q9⟩:=h_;have JB:∀ {sg':St} {H':Hp} {s':jc} {m':Nat},Inv X' ([]++zgV fp s7.heap) sg' H' s'->(∀(j:Nat) (v:V),(zbj caps sg)[j]?=some (some v)->sg'[j]?=some (some v))->m' < n->W (i+1) m' H'->
     ∃ m,m < n/\∃ i H',Inv X' [] (zbj caps sg) H' s'/\tn i s'.heap/\(∀ b∈fp,H' b=none)/\W i m H':=fun {sg' H' s' m'} I' hs hm hw=>by
    refine⟨m',hm,i+1,H',I'.unpinned.forget (I4.len.trans I'.len.symm) hs,T.keep _ _ _ st7 fun b hb o e=>(I'.pin (b,o) (jC _ (jC _ (zcf hb e)))).1,fun b hb=>?_,hw⟩;obtain⟨o,e,d⟩:=T.obj _ _ st7 b hb;exact(I'.pin (b,o) (jC _ (jC _ (zcf hb e)))).2.1
   cases ok with
   |false=>
    obtain⟨m',hm,w9⟩:=q9;exact JB I9 k8' hm w9
   |true=>
    have a9:=he' _ s9 sg8 H9 _ I9 q9;rw[ex] at a9;refine thn a9 fun v s10 h_=>?_; obtain⟨y,H10,I10,r10,xs,hD',hz,m',hm,w10⟩:=h_;have a10:=zbs (X:=X') _ s10 sg8 H10 (.ref D) [y] (.ref D) [v] (fun _ H'=>W (i+1) m' H') I10 rfl (.cons r10 .nil) ⟨D,xs,y,rfl,rfl,hD',hz,w10⟩;rw[ex] at a10;exact thn a10 fun _ s11 ⟨_,H11,I11,_,w11⟩=>JB I11 k8' hm w11
 exact codeAny_compStart_list loop (T.self _ _ _ _ _ (T.keep 0 _ _ st3 fun b _ o e=>keep1 b o e) loop)
def tLC(caps:List (Option Nat))(wi:TI)(g:TG)(tt:TT)(te:TE):TE:=fun sg H Q=>wi sg H fun J H1=>lcW J g tt te (zbj caps sg) Q H1
theorem zfu{X:Cx}{scope:gX}(ok:X.Ok)(hfr:scope.names.all (fun p=>p.2 != .free||(X.env.scope.names.lookup p.1 == some .cell||X.env.scope.names.lookup p.1 == some .free))=true) :
  ∀ x,(x,Qr)∈scope.names->∃ c,X.env.cells.lookup x=some c:=fun x hx=>by
 have q:=jt.mp hfr (x,.free) hx;simp only[bne_self_eq_false,W5,Z4] at q;exact ok.has x (q.imp (fun z=>eq_of_beq z) fun z=>eq_of_beq z)
theorem zv8(hc:X.calm=true)(hi:PI X tg iter wi)(hg:∀ cl C s0 H0 fp,PG (zas X N scope cl C s0 H0 fp) tg g)(hgk:zex caps g)(ht:∀ cl C s0 H0 fp,PTs (zas X N scope cl C s0 H0 fp) ifs tt)(he:∀ cl C s0 H0 fp,PE (zas X N scope cl C s0 H0 fp) elt te)
  (hcap:capOk N X.N scope X.env.scope caps=true:=by rfl) (hkind:scope.kind=.function:=by rfl) (hcell:scope.names.all (fun p=>p.2 != .cell)=true:=by rfl)
  (hnames:scope.names.all (fun p=>p.2 != .local||scope.names.lookup p.1 == some .local)=true:=by rfl)
  (hfr:scope.names.all (fun p=>p.2 != .free||(X.env.scope.names.lookup p.1 == some .cell||X.env.scope.names.lookup p.1 == some .free))=true:=by rfl)
  (hs:∀ x,Qy iter X.env x=pure x:=by intro _; rfl):PE X (.ListComp elt [⟨tg,iter,ifs,0⟩] scope pos) (tLC caps wi g tt te):=by
 intro pins s sg H Q I h;have hcell':∀ y∈scope.names,y.2≠.cell:=fun y hy=>by simpa using jt.mp hcell y hy
 have hnames':∀ x∈scope.names,x.2=.local->scope.names.lookup x.1=some .local:=fun x hx e=>by
  have q:=jt.mp hnames x hx;rw[e] at q;simpa using q
 obtain⟨cl,hclos,hcl1,hcl2⟩:=zcc (scope:=scope) (env:=X.env) (zfu I.ok hfr);rw[eval_ListComp];refine Zn (use:=none) rfl hs hclos hkind hnames' (thn (hi pins s sg H _ I h) fun v s1 h1=>thn h1 fun itv s2 h2=>?_);obtain⟨it,fp,tn,J,H2,e,I2,T,st2,f2,hw⟩:=h2;subst e;refine zkq (RR:=fun acc C=>Jr (jM X.prog X.w) X.A X.xe none (EP X pins sg Q) acc C) hc hcap hkind hcell' hg hgk ht he hcl1 hcl2 I2 T st2 f2 hw ?_;intro D C s' H' m' I' hn hfree hCs hCc hCp hCl q;refine⟨m',hn,fun h' hs'=>⟨.ref D,H',?_,rfl,q⟩⟩;exact I'.turned (t':=s'.toks) (it:=C) (fun b o hb e=>(hs'.2 b hb).trans e) hfree hCl (.inr (Q5 I2.sz hCs)) hCc hCp
theorem znM{i:Nat}{y:Str}{py spos:Pos}(hN:X.N.Nodup)(hiy:X.N[i]?=some y)(hy:X.env.scope.names.lookup y=some .local)(hc:X.calm=true)(hi:PI X tg iter wi)(hg:∀ cl C s0 H0 fp,PG (zas X N scope cl C s0 H0 fp) tg g)(hgk:zex caps g)(ht:∀ cl C s0 H0 fp,PTs (zas X N scope cl C s0 H0 fp) ifs tt)(he:∀ cl C s0 H0 fp,PE (zas X N scope cl C s0 H0 fp) elt te)
  (hsw:ZV (.ListComp elt [⟨tg,iter,ifs,0⟩] scope pos) (some (.Name y py)) spos.line X.env=pure true:=by rfl)
  (hcap:capOk N X.N scope X.env.scope caps=true:=by rfl) (hkind:scope.kind=.function:=by rfl) (hcell:scope.names.all (fun p=>p.2 != .cell)=true:=by rfl)
  (hnames:scope.names.all (fun p=>p.2 != .local||scope.names.lookup p.1 == some .local)=true:=by rfl)
  (hfr:scope.names.all (fun p=>p.2 != .free||(X.env.scope.names.lookup p.1 == some .cell||X.env.scope.names.lookup p.1 == some .free))=true:=by rfl)
  (hs:∀ x,Qy iter X.env x=pure x:=by intro _; rfl):PS X (.Assign [.Name y py] (.ListComp elt [⟨tg,iter,ifs,0⟩] scope pos) spos) (ze8 (tLC caps wi g tt te) (zc8 i)):=by
 intro pins s sg H D0 I h;have hcell':∀ y∈scope.names,y.2≠.cell:=fun y hy=>by simpa using jt.mp hcell y hy
 have hnames':∀ x∈scope.names,x.2=.local->scope.names.lookup x.1=some .local:=fun x hx e=>by
  have q:=jt.mp hnames x hx;rw[e] at q;simpa using q
 obtain⟨cl,hclos,hcl1,hcl2⟩:=zcc (scope:=scope) (env:=X.env) (zfu I.ok hfr);rw[Nj _ _ _ _ hsw];refine j4 (ZR (j4 ?_));show jH _ X.A (do let _ <-comprehension (.ListComp elt [⟨tg,iter,ifs,0⟩] scope pos) scope X.env _ (newList []) false (eval iter X.env) (some (gF (.Name y py) X.env))) _ _ s
 refine j4 (Qg (Zn (use:=some (gF (.Name y py) X.env)) (Q:=fun _ s'=>SP X pins D0 .next s') rfl hs hclos hkind hnames'
  (thn (hi pins s sg H _ I h) fun v s1 h1=>thn h1 fun itv s2 h2=>?_)) (fun _ s' hq=>je (je hq)) fun _ _ e=>e)
 obtain⟨it,fp,tn,J,H2,e,I2,T,st2,f2,hw⟩:=h2;subst e;refine zkq (Q:=fun x H1=>zc8 i x sg H1 D0.nx) (RR:=fun acc C=>Jr (jM X.prog X.w) X.A X.xe (some (gF (.Name y py) X.env)) (fun _ s'=>SP X pins D0 .next s') acc C) hc hcap hkind hcell' hg hgk ht he hcl1 hcl2 I2 T st2 f2 hw ?_
 intro D C s' H' m' I' hn hfree hCs hCc hCp hCl q;show jH _ X.A (gF (.Name y py) X.env (.ref D)) _ _ _;refine YA (zfG I' hN hiy (.inl hy) (v:=.ref D) rfl (fun s3 I3 ⟨a,hs3,ha⟩=>?_) (.inr hy));have hCa:C≠a:=by
  rcases ha with z |z
  ·rw[z]; exact hCl
  ·exact fun z'=>hCc y a z z'.symm
 refine⟨m',hn.sameBut hs3 hCa,fun h' hs'=>?_⟩;exact⟨_,H',I3.turned (t':=s3.toks) (it:=C) (fun b o hb e=>(hs'.2 b hb).trans e) hfree hCl (.inr (Q5 I2.sz hCs)) hCc hCp,q⟩
end
section
variable {X:Cx}
def zxA:V->Option Int->Option Int->Hp->VK->Prop:=fun x lo hi H Q=>∃ z,x=.str z/\z.length<=jh/\Q (.str (W7 z lo hi)) H
theorem zrN:SlR X zxA:=by
 intro pins s sg H x v vl vu lo hi sl Q I rx hs pl pu h;obtain⟨z,rfl,hz,q⟩:=h;obtain⟨t,rfl⟩:=rx;refine⟨"str",_,F.slot_str_getitem.lookup,Jh _ _ _,?_⟩;have fin:∀ t' k,EP X pins sg Q (.str (W7 z lo hi) t') { s with toks:=k }:=fun t' k=>⟨.str _,H,I.tok _,⟨_,rfl⟩,q⟩;have le:=Q5 (Txt.slice_le z lo hi) hz;cases pl with
 |none=>
  cases pu with
  |none=>exact Zy (l:=none) (u:=none) (st:=none) hs rfl (Ya ⟨le,fin⟩)
  |int j uj=>exact Zy (l:=none) (u:=some (j,uj)) (st:=none) hs rfl (Ya ⟨le,fin⟩)
 |int i ui=>
  cases pu with
  |none=>exact Zy (l:=some (i,ui)) (u:=none) (st:=none) hs rfl (Ya ⟨le,fin⟩)
  |int j uj=>exact Zy (l:=some (i,ui)) (u:=some (j,uj)) (st:=none) hs rfl (Ya ⟨le,fin⟩)
theorem zgI:∀ {ys:List Str} {us:List ja},Vals (ys.map V.str) us->StrsAre us ys
 |[],_,.nil=>.nil
 |y::ys,_,.cons r t=>by
  obtain⟨t',rfl⟩:=r;exact .cons _ _ (zgI t)
def znB(K:j8):V->List V->Hp->VK->Prop:=fun x vs H Q=>∃ z a ys,x=.str z/\vs=[.ref a]/\SqL K H a (ys.map V.str)/\(ys.map (·.length)).sum+ys.length*z.length<=16777216/\Q (.str (WR z ys)) H
theorem zql:MtR X "str.join" (znB X.K):=by
 intro pins s sg H x xs v us Q I rx rv h;obtain⟨z,a,ys,rfl,rfl,ha,hz,q⟩:=h;obtain⟨t,rfl⟩:=rx;obtain⟨u,rfl,ru⟩:=rv.one;cases ru;obtain⟨its,r,pl,hz'⟩:=I.list ha;exact join_list pl.isList (by simpa using zgI r) hz fun t' k=>⟨.str _,H,I.tok _,⟨_,rfl⟩,q⟩
end
section
variable {X:Cx}{es:List Expr}{te:TE}{t:TA}
theorem zqe{n:Str}{p:Pos}(ha:PE X (.Name n p) te)(hr:PA X es t):PA X (.Name n p::es) (zde te t):=zbf ha hr
end
section
variable {X:Cx}{K:j8}
theorem zqc{es:List Expr}{k:Nat}{t:TGs}{n:Nat}{pos:Pos}(hK:X.K=K)(hc:X.calm=true)(h:PGs X es t)
  (hn:(Qn es X.env).length=n:=by rfl) (hst:(Qn es X.env).findIdx? (·.1)=none:=by rfl):PG X (.Tuple es k pos) (zkw K n t):=by subst hK; exact zmd hc h hn hst
end
theorem zpd:QK "int"=some (.type "int"):=by decide +kernel
theorem zjT:QK "list"=some (.type "list"):=by decide +kernel
theorem zqY:QK "bool"=some (.type "bool"):=by decide +kernel
theorem zhP:QK "isinstance"=some (.builtin "isinstance"):=by decide +kernel
theorem ziT:QK "enumerate"=some (.type "enumerate"):=by decide +kernel
section
variable {X:Cx}
theorem op_isF:OpR X (Zg .Is) (fun x y H Q=>∃ c d,x=.bl c/\y=.bl d/\Q (.bl (c == d)) H):=by
 intro pins s sg H x y v u Q I rx ry h;obtain⟨c,d,rfl,rfl,q⟩:=h;cases rx; cases ry;exact is_bool ⟨.bl _,H,I,rfl,q⟩
theorem op_isnotF:OpR X (Zg .IsNot) (fun x y H Q=>∃ c d,x=.bl c/\y=.bl d/\Q (.bl (c != d)) H):=by
 intro pins s sg H x y v u Q I rx ry h;obtain⟨c,d,rfl,rfl,q⟩:=h;cases rx; cases ry;exact isnot_bool ⟨.bl _,H,I,rfl,q⟩
end
section
variable {prog:jK}{w:Qj}{A:Qz}{E:ja->jc->Prop}
theorem ziK{it t:Addr}{items:Array ja}(hne:t≠it):∀(n i:Nat) (s:jc) (Q:List ja->jc->Prop),s.heap.IsListIter it t i->s.heap.IsList t items->i+n<=items.size->
  (∀ h':Heap,h'.IsListIter it t (i+n)->Q8 it s.heap h'->Q ((items.toList.drop i).take n) { s with heap:=h' })->jH (jM prog w) A (draw (.ref it) n) Q E s
 |0,i,s,Q,hit,_,_,hQ=>by
  show jH _ _ (pure []) Q E s;exact je (by simpa using hQ s.heap hit (Heap.SameBut.refl ..))
 |n+1,i,s,Q,hit,ht,hle,hQ=>by
  have hlt:i < items.size:=by lia
  show jH _ _ (NL (.ref it) >>= _) Q E s;refine j4 (N6 hit ht (x:=items[i]) (by simp[hlt]) fun h1 hit1 hs1=>?_)
  refine j4 (Qq (ziK hne n (i+1) _ _ hit1 (ht.extBut hs1.extBut hne) (by lia) fun h2 hit2 hs2=>je ?_))
  have hd:items.toList.drop i=items[i]::items.toList.drop (i+1):=by simp[Zk,hlt]
  have:=hQ h2 (by rw[show i+(n+1)=i+1+n by lia]; exact hit2) (hs1.trans hs2)
  rw[hd,List.take_succ_cons] at this;exact this
theorem zfb{s:jc}{t:Addr}{items:Array ja}{Q:List ja->jc->Prop}(hh:A.handled=none)(ht:s.heap.IsList t items)
  (hQ:∀ h',Yb s.heap.objs.size s.heap h'->Q items.toList { s with heap:=h' }):jH (jM prog w) A (unpackItems (.ref t) items.size none) Q E s:=by
 have hlt:t≠s.heap.objs.size:=by obtain⟨o,ho,_⟩:=ht; exact jB (jg ho)
 unfold unpackItems;refine j4 ?_
 ·unfold notIterableAtAll;refine j4 (wpAny_specialOf ht.typeIs slot_list_iter.lookup ?_);refine je ?_;simp only[QC,if_false];refine j4 (Qq (gx ht ?_));refine j4 (Qq (ziK hlt items.size 0 _ _ ⟨_,jw _ rfl,rfl,rfl⟩ (ht.push _) (by lia) fun h1 hit1 hs1=>?_))
  have hall:List.take items.size (List.drop 0 items.toList)=items.toList:=by
   rw[J7]; exact QD (by simp)
  rw[hall];rw[if_neg (by simp)]
  have ht1:h1.IsList t items:=(ht.push _).extBut hs1.extBut hlt;refine j4 (Qq (Nf hh hit1 ht1 (by simp) fun h2 he2=>?_))
  simp only[Option.isSome_none,QC,if_false];refine je (hQ h2 fun b o hb e=>he2 b o hb (hs1.extBut b o hb (j7 _ e)))
theorem zeU{s:jc}{env:Env}{elts:List Expr}{x1}{pos:Pos}{t:Addr}{items:Array ja}{Q:Unit->jc->Prop}(hh:A.handled=none)(ht:s.heap.IsList t items)
  (hn:(Qn elts env).length=items.size) (hstar:(Qn elts env).findIdx? (·.1)=none)
  (h:∀ h',Yb s.heap.objs.size s.heap h'->jH (jM prog w) A (assignInOrder ((Qn elts env).map (·.2)) items.toList) Q E { s with heap:=h' }) :
  jH (jM prog w) A (gF (.Tuple elts x1 pos) env (.ref t)) Q E s:=by
 rw[PyProof.Rows.assign_Tuple];refine j4 (ZR ?_);unfold unpack;rw[hn,hstar];exact j4 (Qq (zfb hh ht fun h' hx=>h h' hx))
end
section
variable {X:Cx}{pos:Pos}
def ztR(K:j8)(n:Nat)(t:TGs):TG:=fun v sg H Q=>∃ a xs,v=.ref a/\SqL K H a xs/\xs.length=n/\t xs sg H Q
theorem zsl{es:List Expr}{k:Nat}{t:TGs}{n:Nat}(hc:X.calm=true)(h:PGs X es t)
  (hn:(Qn es X.env).length=n:=by rfl) (hst:(Qn es X.env).findIdx? (·.1)=none:=by rfl):PG X (.Tuple es k pos) (ztR X.K n t):=by
 intro pins s sg H v u Q I r hw;obtain⟨a,xs,e1,hq,hl,hw⟩:=hw;subst e1;cases r;obtain⟨its,rv,ht,hz⟩:=I.list hq;refine zeU (I.ok.hd hc) ht.isList (by simp[hn,<-hl,rv.length]) hst fun h' hx=>?_
 have I1:Inv X pins sg H { s with heap:=h' }:=I.kept (t':=s.toks) fun b o e=>hx b o (jB (jg e)) e;exact h pins _ sg H xs _ Q I1 (by simpa using rv) hw
def Ite(K:j8)(a:Addr):It:=
 ⟨fun i H=>∃ xs x,SqL K H a xs/\xs[i]?=some x,fun i H v H'=>∃ p x,v=.ref p/\H p=none/\H'=upd H p (.tup [.int i,x])/\∀ xs,SqL K H a xs->xs[i]?=some x,fun i H=>∃ xs,SqL K H a xs/\xs.length<=i⟩
theorem zlG{P:jK}{w:Qj}{K:j8}{elts:List Expr}{x1:Nat}{tp:Pos}(a it e:Addr)(hne:e≠it) :
  Turn P w K (.Tuple elts x1 tp) (Ite K a) [e,it] e (fun i h=>(∃ old,IsEnum h e it i old)/\h.IsListIter it a i) where
 mem:=by simp
 obj:=fun i h st b hb=>by
  obtain⟨⟨old,he⟩,o,ho,hc,hd⟩:=st;rcases jq.mp hb with z |z
  ·subst z
   exact⟨_,he,fun v z=>by
    have z':YR _=ZW v:=z
    cases z'⟩
  ·have z':b=it:=by simpa using z
   subst z';exact⟨o,ho,fun v z=>by rw[hd] at z; cases z⟩
 keep:=fun i h h' st k=>by
  obtain⟨⟨old,he⟩,hi⟩:=st;exact⟨⟨old,k e (by simp) _ he⟩,hi.at fun o q=>k it (by simp) o q⟩
 item:=by
  intro X hP hw hK hc i pins s sg H E I hf st hg;subst hP hw hK;obtain⟨⟨old,he⟩,hit⟩:=st;obtain⟨xs,x,hq,hx⟩:=hg;obtain⟨its,rv,p,hz⟩:=I.list hq;obtain⟨u,hu,ru⟩:=rv.get hx;obtain⟨f0,f1,f2,f3,f4,f5⟩:=hf e (by simp)
  obtain⟨g0,g1,g2,g3,g4,g5⟩:=hf it (by simp)
  refine wpAny_pyNext_enum_item he hit p.isList (x:=u) (by simpa using hu) hne fun h1 eo hit1 htup hsz keep1=>?_
  refine⟨_,rfl,wpAny_letOwnedTupleGo_enum eo fun h2 en sb=>?_⟩;have hn:H s.heap.objs.size=none:=I.hok.fresh (jl _);have elt:e < s.heap.objs.size:=jg he;have keep2:∀ b o,b≠e->b≠it->s.heap.get? b=some o->h2.get? b=some o:=fun b o n1 n2 q=>(sb.2 b n1).trans (keep1 b o n1 n2 q);have tup2:h2.get? s.heap.objs.size=some { cls:=.type "tuple",data:=.seq #[.int i s.toks,u] }:=(sb.2 _ (Zt elt)).trans htup;have nH:∀ b v,H b=some v->b≠e/\b≠it/\b≠s.heap.objs.size:=fun b v q=>⟨(fun z=>by rw[z,f0] at q; cases q),(fun z=>by rw[z,g0] at q; cases q),za6 q hn⟩
  have I2:Inv X pins sg (upd H s.heap.objs.size (.tup [.int i,x])) { s with heap:=h2,toks:=s.toks+1 }:=by
   refine I.step (g':=s.gens) (d':=s.drawn) (ch:=[e,it]) (fun b hb=>?_) (fun b o _ _ hc q _=>keep2 b o (fun z=>hc (by simp[z])) (fun z=>hc (by simp[z])) q)
    (fun b o _ _ hc q _=>⟨o.slots,keep2 b o (fun z=>hc (by simp[z])) (fun z=>hc (by simp[z])) q⟩) (fun b o hc q n=>by rw[za5 (jB (jg q))]; exact n)
    (fun b o hc q=>⟨o,keep2 b o (fun z=>hc (by simp[z])) (fun z=>hc (by simp[z])) q⟩) (fun b ys q=>by rw[za5 (nH b _ q).2.2]; exact q) (fun b o v q=>by rw[za5 (nH b _ q).2.2]; exact q)
    (fun b ps q=>⟨#[],by rw[za5 (nH b _ q).2.2,q]; simp⟩) (fun m hm=>?_) (fun b v q=>?_) I.bare
   ·rcases jq.mp hb with z |z
    ·subst z; exact⟨f3,f1,f4,f5⟩
    ·have z':b=it:=by simpa using z
     subst z'; exact⟨g3,g1,g4,g5⟩
   ·obtain⟨o,es,ep,ho,r⟩:=hm;exact⟨o,es,ep,keep2 _ o (Zi f1) (Zi g1) ho,r⟩
   ·by_cases hb:b=s.heap.objs.size
    ·subst hb;rw[zae] at q;cases q;exact⟨by show 2<=jh; decide,[.int i s.toks,u],.cons ⟨_,rfl⟩ (.cons ru .nil),_,tup2,rfl,_,rfl⟩
    ·rw[za5 hb] at q;refine(I.hok b v q).stay (fun c v' hc q'=>?_) (fun c q'=>by rw[za5 (nH c _ q').2.2]; exact q') fun c ys q'=>by rw[za5 (nH c _ q').2.2]; exact q'
     rcases hc with z |z
     ·exact keep2 c v' (by rw[z]; exact(nH b v q).1) (by rw[z]; exact(nH b v q).2.1) q'
     ·exact keep2 c v' (nH c _ z).1 (nH c _ z).2.1 q'
  refine⟨.ref s.heap.objs.size,_,I2,rfl,⟨s.heap.objs.size,x,rfl,hn,rfl,fun ys hy=>by rw[I.list_inj hy hq]; exact hx⟩,⟨⟨_,en⟩,?_⟩,fun b hb=>?_⟩
  ·obtain⟨o,ho,r⟩:=hit1;exact⟨o,(sb.2 it (Zi hne)).trans ho,r⟩
  ·rcases jq.mp hb with z |z
   ·subst z; rw[za5 (jB elt)]; exact f0
   ·have z':b=it:=by simpa using z
    subst z';obtain⟨o,ho,_⟩:=hit;rw[za5 (jB (jg ho))]; exact g0
 done:=by
  intro X hP hw hK hc i pins s sg H E I hf st hg;subst hP hw hK;obtain⟨⟨old,he⟩,hit⟩:=st;obtain⟨xs,hq,hx⟩:=hg;obtain⟨its,rv,p,hz⟩:=I.list hq;obtain⟨g0,g1,g2,g3,g4,g5⟩:=hf it (by simp)
  have hl:=rv.length;exact wpAny_pyNext_enum_end (I.ok.hd hc) he hit p.isList (by simp; lia) fun h' eb=>⟨rfl,I.turned (t':=s.toks) (fun b o hb q=>eb b o hb q) g0 g1 g3 g4 g5⟩
 self:=fun _ _ _ _ _ st h=>by
  obtain⟨⟨old,he⟩,_⟩:=st;exact Wq he h
def zvs(K:j8)(ta:TA):TI:=fun sg H R=>ta sg H fun vs H1=>∃ a,vs=[.ref a]/\(∃ xs,SqL K H1 a xs)/\R (Ite K a) H1
theorem zmb{elts:List Expr}{x1:Nat}{tp:Pos}{a:Expr}{ta:TA}{p pos:Pos}(hg:Gl X "enumerate")(hm:X.mg "enumerate"=none)(ha:PA X [a] ta)(hs:jb [a] X.env=[(false,eval a X.env)]:=by rfl) :
  PI X (.Tuple elts x1 tp) (.Call (.Name "enumerate" p) [a] [] pos) (zvs X.K ta):=by
 intro pins s sg H R I h;refine Call_ (zg9 I hg hm ziT (QU (thn (ha pos pins s sg H _ I h) fun us s1 ⟨vs,H1,I1,r1,q1⟩=>?_) hs rfl));obtain⟨a',rfl,⟨xs,hq⟩,q⟩:=q1;obtain⟨u,rfl,ru⟩:=zj5 r1;cases ru;obtain⟨its,rv,pl,hz⟩:=I1.list hq;refine call_enumerate_list pl.isList fun h' en il hsz kp=>?_;refine Wq en ?_;have I2:Inv X pins sg H1 { s1 with heap:=h' }:=I1.kept (t':=s1.toks) kp;refine⟨s1.heap.objs.size+1,[s1.heap.objs.size+1,s1.heap.objs.size],_,_,H1,rfl,I2,zlG a' s1.heap.objs.size (s1.heap.objs.size+1) (Nat.succ_ne_self _),⟨⟨_,en⟩,il⟩,fun b hb=>?_,q⟩;rcases jq.mp hb with z |z
 ·subst z; exact I1.fpOk (Y9 _) (I1.hok.fresh (Y9 _))
 ·have z':b=s1.heap.objs.size:=by simpa using z
  subst z'; exact I1.fpOk (jl _) (I1.hok.fresh (jl _))
theorem zo8{K:j8}{a:Addr}{xs:List V}{g:TG}{tb:TS}{D:Ends}{sg:St}{H:Hp}(Pv:Nat->St->Hp->Prop)(h0:Pv 0 sg H)(hl:∀ i sg H,i<=xs.length->Pv i sg H->SqL K H a xs)
  (hs:∀ i x sg H p,xs[i]?=some x->Pv i sg H->H p=none->g (.ref p) sg (upd H p (.tup [.int i,x])) fun s2 H2=>tb { D with nx:=Pv (i+1),ct:=Pv (i+1),bk:=D.nx } s2 H2) (hd:∀ sg H,Pv xs.length sg H->D.nx sg H) :
  ∃ W:Nat->Nat->St->Hp->Prop,(∃ m,W 0 m sg H)/\∀ i m sg H,W i m sg H->
   ((Ite K a).stop i H/\D.nx sg H)∨((Ite K a).go i H/\∃ N:St->Hp->Prop,(∀ s' H',N s' H'->∃ m',m' < m/\W (i+1) m' s' H')/\∀ x H',(Ite K a).yld i H x H'->g x sg H' fun s2 H2=>tb { D with nx:=N,ct:=N,bk:=D.nx } s2 H2):=by
 refine⟨fun i m sg H=>m=xs.length - i/\i<=xs.length/\Pv i sg H,⟨xs.length,by simp,Zj _,h0⟩,?_⟩
 rintro i m sg H ⟨rfl,hi,p⟩;have q:=hl i sg H hi p
 by_cases hlt:i < xs.length
 ·refine .inr ⟨⟨xs,xs[i],q,by simp[hlt]⟩,Pv (i+1),fun s' H' p'=>⟨xs.length - (i+1),by lia,rfl,hlt,p'⟩,fun x H' y=>?_⟩
  obtain⟨p',x',rfl,hp',rfl,y⟩:=y;exact hs i x' sg H p' (y xs q) p hp'
 ·have e:i=xs.length:=by lia
  subst e;exact .inl ⟨⟨xs,q,jl _⟩,hd sg H p⟩
end
section
variable {X:Cx}
def zwo(K:j8):List V->Hp->VK->Prop:=fun xs H Q=>∃ x c t k,xs=[x,.ty c]/\TyOf K H x t/\NN K t (.type c)=some k/\Q (.bl k) H
theorem zou:CallR X (.builtin "isinstance") (zwo X.K):=by
 intro pins s sg H xs us Q I r h;obtain⟨x,c,t,k,rfl,ty,e,q⟩:=h;obtain⟨u,u2,rfl,ru,ru2⟩:=zur r;cases ru2;exact zmF I ru ty e fun tk=>⟨.bl k,H,I.tok _,rfl,q⟩
end
section
variable {prog:jK}{w:Qj}{A:Qz}{R:Jg->jc->Prop}{s:jc}
theorem zhM{kx vx target iter:Expr}{ifs:List Expr}{scope:gX}{pos:Pos}{it:ja}{D:Addr}{env:Env}(I:Nat->jc->Prop)
  (turn:∀ n s,I n s->jH (jM prog w) A (NL it) (fun r s1=>match r with
   |none=>R (.ok .next) s1
   | some v=>jH (jM prog w) A (ZL target it v) (fun _ s1'=>jH (jM prog w) A (gF target env v) (fun _ s2=>
     jH (jM prog w) A (forIn ifs true fun c r=>if r=true then do let ok <-WV c env (eval c env); pure (Qc ok) else pure (Qc r)) (fun ok s3=>
      if ok=true then jH (jM prog w) A (eval kx env) (fun kv s4=>jH (jM prog w) A (eval vx env) (fun vv s5=>
       jH (jM prog w) A (dictSet D kv vv) (fun _ s6=>∃ m,m < n/\I m s6) (fun _ _=>False) s5) (fun _ _=>False) s4) (fun _ _=>False) s3
      else ∃ m,m < n/\I m s3) (fun _ _=>False) s2) (fun _ _=>False) s1') (fun _ _=>False) s1) (fun _ _=>False) s)
  (n:Nat) (h:I n s) :
  Yt (jM prog w) A (.compLoop (.DictComp kx vx [⟨target,iter,ifs,0⟩] scope pos) 0 it (.ref D) env) R s:=by
 refine codeAny_loop rfl I (fun n s hI=>?_) n h;show jH _ A ((compTurn (.DictComp kx vx [⟨target,iter,ifs,0⟩] scope pos) 0 it (.ref D) env).onRaise (fun x=>do noteFrame x env; theTreesLotGoes x)) _ _ s
 refine wpAny_noted ?_;rw[compTurn_dict];refine j4 (ZR (j4 (Qg (turn n s hI) (fun r s1 h1=>?_) fun _ _ h'=>h'.elim)));cases r with
 |none=>exact je h1
 |some v=>
  refine j4 (Qg h1 (fun _ s1' h1'=>?_) fun _ _ h'=>h'.elim);refine j4 (Qg h1' (fun _ s2 h2=>j4 (Qg h2 (fun ok s3 h3=>?_) fun _ _ h'=>h'.elim)) fun _ _ h'=>h'.elim);cases ok with
  |false=>exact je ⟨rfl,h3⟩
  |true=>
   exact j4 (j4 (Qg h3 (fun kv s4 h4=>j4 (Qq (Qg h4 (fun vv s5 h5=>j4 (ZR (Qq (Qg h5 (fun _ s6 h6=>je ⟨rfl,h6⟩) fun _ _ h'=>h'.elim)))) fun _ _ h'=>h'.elim))) fun _ _ h'=>h'.elim))
end
def dcW(J:It)(g:TG)(tt:TT)(tk tv:TE)(sg':St)(Q:VK)(H1:Hp):Prop:=
 ∀ D,H1 D=none->∃ W:Nat->Nat->Hp->Prop,(∃ m,W 0 m (upd H1 D (.dK [])))/\∀ i m H,W i m H->
  (J.stop i H/\Q (.ref D) H)∨(J.go i H/\∀ x H',J.yld i H x H'->g x sg' H' fun s2 H2=>tt s2 H2 fun b H3=>if b=true then
   tk s2 H3 fun y H4=>tv s2 H4 fun z H5=>∃ kvs k,H5 D=some (.dK kvs)/\y=kV k/\kvs.length < jh/\∃ m',m' < m/\W (i+1) m' (upd H5 D (.dK (zfh kvs k z)))
   else ∃ m',m' < m/\W (i+1) m' H3)
section
variable {X:Cx}{N:List Str}{scope:gX}{caps:List (Option Nat)}{tg kx vx iter:Expr}{ifs:List Expr}{wi:TI}{g:TG}{tt:TT}{tk tv:TE}{pos:Pos}
theorem zkE{pins:List (Addr × Obj)}{sg:St}{H:Hp}{s2:jc}{cl:List (Str × Addr)}{it:Addr}{fp:List Addr}{tn:Nat->Heap->Prop}{J:It}{Q:VK}{E:ja->jc->Prop}{RR:ja->Addr->Jg->jc->Prop}
  (hc:X.calm=true) (hcap:capOk N X.N scope X.env.scope caps=true) (hkind:scope.kind=.function) (hcell:∀ y∈scope.names,y.2≠.cell)
  (hg:∀ cl C s0 H0 fp,PG (zas X N scope cl C s0 H0 fp) tg g) (hgk:zex caps g) (ht:∀ cl C s0 H0 fp,PTs (zas X N scope cl C s0 H0 fp) ifs tt) (hk:∀ cl C s0 H0 fp,PE (zas X N scope cl C s0 H0 fp) kx tk) (he:∀ cl C s0 H0 fp,PE (zas X N scope cl C s0 H0 fp) vx tv)
  (hcl1:∀ p∈cl,X.env.cells.lookup p.1=some p.2) (hcl2:∀ x,(x,Qr)∈scope.names->∃ c,(x,c)∈cl)
  (I2:Inv X pins sg H s2) (T:Turn X.prog X.w X.K tg J fp it tn) (st2:tn 0 s2.heap) (f2:∀ b∈fp,zj2 X pins H b) (hw:dcW J g tt tk tv (zbj caps sg) Q H)
  (hRR:∀(D C:Addr) (s':jc) (H':Hp) (m':Str->Option ja),Inv X pins sg H' s'->s'.heap.Ns C m'->H' C=none->s2.heap.objs.size<=C->(∀ x c,X.env.cells.lookup x=some c->c≠C)->(∀ p∈X.pn++pins,p.1≠C)->C≠X.env.locals->Q (.ref D) H'->RR (.ref D) C (.ok .next) s') :
  jH (jM X.prog X.w) X.A (newDict) (fun acc s3=>jH (jM X.prog X.w) X.A (newFunctionEnv scope X.env.globals cl [] X.env.qual none .none (some X.env)) (fun cenv s4=>
   Yt (jM X.prog X.w) X.A (.compStart (.DictComp kx vx [⟨tg,iter,ifs,0⟩] scope pos) 0 (.ref it) acc { cenv with scope:=Jp scope X.env }) (RR acc cenv.locals) s4) E s3) E s2:=by
 refine ZT ?_;have I3:Inv X pins sg (upd H s2.heap.objs.size (.dK [])) { s2 with heap:=s2.heap.push { cls:=.type "dict",dict:=none,data:=.dict #[] } }:=
  I2.laid (t':=s2.toks) (fun b u e=>j7 _ e) (jl _) (zkC s2.heap I2.big)
 have hfree:H s2.heap.objs.size=none:=I2.hok.fresh (jl _);obtain⟨W,⟨mm,w0⟩,turn⟩:=hw s2.heap.objs.size hfree;generalize hD:s2.heap.objs.size=D at *;generalize hs3:({ s2 with heap:=s2.heap.push { cls:=.type "dict",dict:=none,data:=.dict #[] } }:jc)=s3 at *;have hlt3:∀ b o,s2.heap.get? b=some o->s3.heap.get? b=some o:=fun b o e=>by rw[<-hs3]; exact j7 _ e
 have hsz3:s3.heap.objs.size=D+1:=by rw[<-hs3,<-hD]; exact QQ ..
 have fpD:∀ b∈fp,b < D:=fun b hb=>by
  obtain⟨o,ho,_⟩:=T.obj 0 _ st2 b hb;rw[<-hD]; exact jg ho
 have f3:∀ b∈fp,zj2 X pins (upd H D (.dK [])) b:=fun b hb=>⟨by rw[za5 (jB (fpD b hb))]; exact(f2 b hb).1,(f2 b hb).2⟩
 have lt3:∀ b∈fp,b < s3.heap.objs.size:=fun b hb=>by rw[hsz3]; exact Za (fpD b hb)
 have st3:tn 0 s3.heap:=T.keep 0 _ _ st2 fun b _ o e=>hlt3 b o e;refine NH hcell (by intro y hy; simp at hy) (fun h1 hns1 hsb1=>?_) hkind
 try dsimp only at hns1 hsb1 ⊢
 have keep1:∀ b u,s3.heap.get? b=some u->h1.get? b=some u:=fun b u e=>hsb1.extBut b u (jB (jg e)) (j7 _ e);have I4:=zh5 (N:=N) (tk:=s3.toks+([]:List (Str × ja)).length) hcap hkind hcell I3 hcl1 hcl2 f3 lt3 keep1 hns1;have loop:Yt (jM X.prog X.w) X.A (.compLoop (.DictComp kx vx [⟨tg,iter,ifs,0⟩] scope pos) 0 (.ref it) (.ref D) (WQ scope cl s3.heap.objs.size X.env)) (RR (.ref D) s3.heap.objs.size) { s3 with heap:=h1,toks:=s3.toks+([]:List (Str × ja)).length }:=by
  generalize hX':zas X N scope cl s3.heap.objs.size s3 (upd H D (.dK [])) fp=X' at I4;have eP:X'.prog=X.prog:=by rw[<-hX']; rfl
  have ew:X'.w=X.w:=by rw[<-hX']; rfl
  have eK:X'.K=X.K:=by rw[<-hX']; rfl
  have eA:X'.A=X.A:=by rw[<-hX']; rfl
  have eE:X'.env=WQ scope cl s3.heap.objs.size X.env:=by rw[<-hX']; rfl
  have ex:X'.xe=fun _ _=>False:=by rw[<-hX']; rfl
  have ecalm:X'.calm=true:=by rw[<-hX']; exact hc
  have hg':PG X' tg g:=by rw[<-hX']; exact hg _ _ _ _ _
  have ht':PTs X' ifs tt:=by rw[<-hX']; exact ht _ _ _ _ _
  have hk':PE X' kx tk:=by rw[<-hX']; exact hk _ _ _ _ _
  have he':PE X' vx tv:=by rw[<-hX']; exact he _ _ _ _ _
  have stat:∀ {H':Hp},(∀ b∈fp,H' b=none)->∀ b∈fp,zj2 X' [] H' b:=fun {H'} hn b hb=>by
   refine⟨hn b hb,?_,?_,?_,?_,fun p hp=>?_⟩
   ·rw[<-hX']; exact jB (lt3 b hb)
   ·rw[<-hX'];exact fun z=>(zdA (N:=N) hkind hcell I3 hcl1 hcl2 f3 lt3).exfs b hb z
   ·rw[<-hX']; exact .inl hb
   ·rw[<-hX'];exact((zdA (N:=N) hkind hcell I3 hcl1 hcl2 f3 lt3).exf b hb).2
   ·rw[<-hX'] at hp; cases hp
  have out:∀ {sg':St} {H':Hp} {s':jc},Inv X' [] sg' H' s'->Inv X pins sg H' s':=fun {sg' H' s'} I'=>by
   have hb:=I'.base;rw[<-hX'] at hb;have ho:=I'.os;rw[<-hX'] at ho;have hk:=I'.hok;rw[eP,ew] at hk;exact I3.call' (ch:=fp) ho hb hk I'.bare fun b hb=>⟨(f3 b hb).2.2.2.1,(f3 b hb).2.1,(f3 b hb).2.2.2.2.1,(f3 b hb).2.2.2.2.2⟩
  rw[<-eE,<-eA,<-eP,<-ew];refine zhM (fun n s'=>∃ i H',Inv X' [] (zbj caps sg) H' s'/\tn i s'.heap/\(∀ b∈fp,H' b=none)/\W i n H') ?_ mm
   ⟨0,_,I4,T.keep 0 _ _ st3 fun b _ o e=>keep1 b o e,fun b hb=>(f3 b hb).1,w0⟩
  rintro n s5 ⟨i,H5,I5,st5,fr5,w5⟩;rcases turn i n H5 w5 with ⟨stop,q⟩ |⟨go,step⟩
  ·have z:=T.done X' eP ew eK ecalm i [] s5 _ H5 (fun _ _=>False) I5 (stat fr5) st5 stop;rw[<-eP,<-ew] at z;refine thn z fun r s6 h_=>?_; obtain⟨hr,I6⟩:=h_;subst hr;obtain⟨m',hn',_⟩:=I6.loc;have hfr:=I6.free;rw[eE] at hn' hfr;refine hRR D s3.heap.objs.size s6 H5 m' (out I6) hn' hfr (by rw[hsz3]; exact Y9 _) (fun x c e z=>?_) (fun p hp z=>?_) (fun z=>?_) q
   ·obtain⟨v,o,ho,_⟩:=I3.cell x c e;rw[z] at ho;exact absurd (jg ho) (Q4 _)
   ·have:=jg (I3.pin p hp).1;rw[z] at this;exact absurd this (Q4 _)
   ·have:=I3.lt;rw[<-z] at this;exact absurd this (Q4 _)
  ·have z:=T.item X' eP ew eK ecalm i [] s5 _ H5 (fun _ _=>False) I5 (stat fr5) st5 go;rw[<-eP,<-ew] at z;refine thn z fun r s6 h_=>?_; obtain⟨u,hr,h6⟩:=h_;subst hr;dsimp only;refine thn h6 fun _ s7 h_=>?_; obtain⟨x,H7,I7,r7,y7,st7,fr7⟩:=h_;have I7':=I7.pinned (stat fr7) (T.obj _ _ st7);have q7:=step x H7 y7;have a7:=hg' _ s7 (zbj caps sg) H7 x u _ I7' r7 (hgk _ _ _ _ q7);rw[ex] at a7;refine thn a7 fun _ s8 h_=>?_; obtain⟨sg8,H8,I8,q8,k8⟩:=h_;have k8':∀(j:Nat) (v:V),(zbj caps sg)[j]?=some (some v)->sg8[j]?=some (some v):=fun j v e=>by
    have e':=e;unfold zbj at e';rw[ji] at e';cases hc:caps[j]? with
    |none=>rw[hc] at e'; simp at e'
    |some o=>
     cases o with
     |none=>rw[hc] at e'; simp at e'
     |some k=>rw[k8 j k hc]; exact e
   have a8:=ht' _ s8 sg8 H8 _ I8 q8;rw[ex] at a8;refine thn a8 fun ok s9 h_=>?_; obtain⟨H9,I9,q9⟩:=h_;have JB:∀ {sg':St} {H':Hp} {s':jc} {m':Nat},Inv X' ([]++zgV fp s7.heap) sg' H' s'->(∀(j:Nat) (v:V),(zbj caps sg)[j]?=some (some v)->sg'[j]?=some (some v))->m' < n->W (i+1) m' H'->
     ∃ m,m < n/\∃ i H',Inv X' [] (zbj caps sg) H' s'/\tn i s'.heap/\(∀ b∈fp,H' b=none)/\W i m H':=fun {sg' H' s' m'} I' hs hm hw=>by
    refine⟨m',hm,i+1,H',I'.unpinned.forget (I4.len.trans I'.len.symm) hs,T.keep _ _ _ st7 fun b hb o e=>(I'.pin (b,o) (jC _ (jC _ (zcf hb e)))).1,fun b hb=>?_,hw⟩;obtain⟨o,e,d⟩:=T.obj _ _ st7 b hb;exact(I'.pin (b,o) (jC _ (jC _ (zcf hb e)))).2.1
   cases ok with
   |false=>
    obtain⟨m',hm,w9⟩:=q9;exact JB I9 k8' hm w9
   |true=>
    have a9:=hk' _ s9 sg8 H9 _ I9 q9;rw[ex] at a9;refine thn a9 fun kv s10 h_=>?_; obtain⟨y,H10,I10,r10,q10⟩:=h_;have a10:=he' _ s10 sg8 H10 _ I10 q10;rw[ex] at a10;refine thn a10 fun vv s11 h_=>?_; obtain⟨z,H11,I11,r11,kvs,k,hD',ey,hz,m',hm,w11⟩:=h_;subst ey;obtain⟨zz,hdd,vs,rel,dd⟩:=zqQ I11.hok hD';have hvz:vs.length<=jh:=by rw[<-rel.length]; exact zz
    have hl:(zfh kvs k z).length<=jh:=by have:=zcZ kvs k z; lia
    refine wpAny_dictSet_pairs (hsz:=hvz) (zlb r10) dd fun h' dd' hs=>?_;have he2:∃ q,h'.get? D=some q:=let ⟨q,_,_,hq,_⟩:=dd'; ⟨q,hq⟩
    have I12:=zjK (t':=s11.toks+1) I11 (by rw[hD']; exact ZS) hs he2 (zp6 hl hdd (rel.put k r11) dd')
    exact JB I12 k8' hm w11
 exact codeAny_compStart_dict loop (T.self _ _ _ _ _ (T.keep 0 _ _ st3 fun b _ o e=>keep1 b o e) loop)
def tDC(caps:List (Option Nat))(wi:TI)(g:TG)(tt:TT)(tk tv:TE):TE:=fun sg H Q=>wi sg H fun J H1=>dcW J g tt tk tv (zbj caps sg) Q H1
theorem zv9(hc:X.calm=true)(hi:PI X tg iter wi)(hg:∀ cl C s0 H0 fp,PG (zas X N scope cl C s0 H0 fp) tg g)(hgk:zex caps g)(ht:∀ cl C s0 H0 fp,PTs (zas X N scope cl C s0 H0 fp) ifs tt)(hk:∀ cl C s0 H0 fp,PE (zas X N scope cl C s0 H0 fp) kx tk)(he:∀ cl C s0 H0 fp,PE (zas X N scope cl C s0 H0 fp) vx tv)
  (hcap:capOk N X.N scope X.env.scope caps=true:=by rfl) (hkind:scope.kind=.function:=by rfl) (hcell:scope.names.all (fun p=>p.2 != .cell)=true:=by rfl)
  (hnames:scope.names.all (fun p=>p.2 != .local||scope.names.lookup p.1 == some .local)=true:=by rfl)
  (hfr:scope.names.all (fun p=>p.2 != .free||(X.env.scope.names.lookup p.1 == some .cell||X.env.scope.names.lookup p.1 == some .free))=true:=by rfl)
  (hs:∀ x,Qy iter X.env x=pure x:=by intro _; rfl):PE X (.DictComp kx vx [⟨tg,iter,ifs,0⟩] scope pos) (tDC caps wi g tt tk tv):=by
 intro pins s sg H Q I h;have hcell':∀ y∈scope.names,y.2≠.cell:=fun y hy=>by simpa using jt.mp hcell y hy
 have hnames':∀ x∈scope.names,x.2=.local->scope.names.lookup x.1=some .local:=fun x hx e=>by
  have q:=jt.mp hnames x hx;rw[e] at q;simpa using q
 obtain⟨cl,hclos,hcl1,hcl2⟩:=zcc (scope:=scope) (env:=X.env) (zfu I.ok hfr);rw[arm_eval_DictComp];refine Zn (use:=none) rfl hs hclos hkind hnames' (thn (hi pins s sg H _ I h) fun v s1 h1=>thn h1 fun itv s2 h2=>?_);obtain⟨it,fp,tn,J,H2,e,I2,T,st2,f2,hw⟩:=h2;subst e;refine zkE (RR:=fun acc C=>Jr (jM X.prog X.w) X.A X.xe none (EP X pins sg Q) acc C) hc hcap hkind hcell' hg hgk ht hk he hcl1 hcl2 I2 T st2 f2 hw ?_;intro D C s' H' m' I' hn hfree hCs hCc hCp hCl q;refine⟨m',hn,fun h' hs'=>⟨.ref D,H',?_,rfl,q⟩⟩;exact I'.turned (t':=s'.toks) (it:=C) (fun b o hb e=>(hs'.2 b hb).trans e) hfree hCl (.inr (Q5 I2.sz hCs)) hCc hCp
theorem znN{i:Nat}{y:Str}{py spos:Pos}(hN:X.N.Nodup)(hiy:X.N[i]?=some y)(hy:X.env.scope.names.lookup y=some .local)(hc:X.calm=true)(hi:PI X tg iter wi)(hg:∀ cl C s0 H0 fp,PG (zas X N scope cl C s0 H0 fp) tg g)(hgk:zex caps g)(ht:∀ cl C s0 H0 fp,PTs (zas X N scope cl C s0 H0 fp) ifs tt)(hk:∀ cl C s0 H0 fp,PE (zas X N scope cl C s0 H0 fp) kx tk)(he:∀ cl C s0 H0 fp,PE (zas X N scope cl C s0 H0 fp) vx tv)
  (hsw:ZV (.DictComp kx vx [⟨tg,iter,ifs,0⟩] scope pos) (some (.Name y py)) spos.line X.env=pure true:=by rfl)
  (hcap:capOk N X.N scope X.env.scope caps=true:=by rfl) (hkind:scope.kind=.function:=by rfl) (hcell:scope.names.all (fun p=>p.2 != .cell)=true:=by rfl)
  (hnames:scope.names.all (fun p=>p.2 != .local||scope.names.lookup p.1 == some .local)=true:=by rfl)
  (hfr:scope.names.all (fun p=>p.2 != .free||(X.env.scope.names.lookup p.1 == some .cell||X.env.scope.names.lookup p.1 == some .free))=true:=by rfl)
  (hs:∀ x,Qy iter X.env x=pure x:=by intro _; rfl):PS X (.Assign [.Name y py] (.DictComp kx vx [⟨tg,iter,ifs,0⟩] scope pos) spos) (ze8 (tDC caps wi g tt tk tv) (zc8 i)):=by
 intro pins s sg H D0 I h;have hcell':∀ y∈scope.names,y.2≠.cell:=fun y hy=>by simpa using jt.mp hcell y hy
 have hnames':∀ x∈scope.names,x.2=.local->scope.names.lookup x.1=some .local:=fun x hx e=>by
  have q:=jt.mp hnames x hx;rw[e] at q;simpa using q
 obtain⟨cl,hclos,hcl1,hcl2⟩:=zcc (scope:=scope) (env:=X.env) (zfu I.ok hfr);rw[Nj _ _ _ _ hsw];refine j4 (ZR (j4 ?_));show jH _ X.A (do let _ <-comprehension (.DictComp kx vx [⟨tg,iter,ifs,0⟩] scope pos) scope X.env _ (newDict) false (eval iter X.env) (some (gF (.Name y py) X.env))) _ _ s
 refine j4 (Qg (Zn (use:=some (gF (.Name y py) X.env)) (Q:=fun _ s'=>SP X pins D0 .next s') rfl hs hclos hkind hnames'
  (thn (hi pins s sg H _ I h) fun v s1 h1=>thn h1 fun itv s2 h2=>?_)) (fun _ s' hq=>je (je hq)) fun _ _ e=>e)
 obtain⟨it,fp,tn,J,H2,e,I2,T,st2,f2,hw⟩:=h2;subst e;refine zkE (Q:=fun x H1=>zc8 i x sg H1 D0.nx) (RR:=fun acc C=>Jr (jM X.prog X.w) X.A X.xe (some (gF (.Name y py) X.env)) (fun _ s'=>SP X pins D0 .next s') acc C) hc hcap hkind hcell' hg hgk ht hk he hcl1 hcl2 I2 T st2 f2 hw ?_
 intro D C s' H' m' I' hn hfree hCs hCc hCp hCl q;show jH _ X.A (gF (.Name y py) X.env (.ref D)) _ _ _;refine YA (zfG I' hN hiy (.inl hy) (v:=.ref D) rfl (fun s3 I3 ⟨a,hs3,ha⟩=>?_) (.inr hy));have hCa:C≠a:=by
  rcases ha with z |z
  ·rw[z]; exact hCl
  ·exact fun z'=>hCc y a z z'.symm
 refine⟨m',hn.sameBut hs3 hCa,fun h' hs'=>?_⟩;exact⟨_,H',I3.turned (t':=s3.toks) (it:=C) (fun b o hb e=>(hs'.2 b hb).trans e) hfree hCl (.inr (Q5 I2.sz hCs)) hCc hCp,q⟩
end
section
variable {X:Cx}
theorem zhk{k:Key}{v:ja}(h:zjw k v=true):RelV (kV k) v:=by
 rcases zaF h with ⟨i,t,rfl,rfl⟩ |⟨x,t,rfl,rfl⟩
 ·exact⟨t,rfl⟩
 ·exact⟨t,rfl⟩
theorem zj4:∀ {xs:List V} {us:List ja},xs.length=us.length->(∀(j:Nat) x u,xs[j]?=some x->us[j]?=some u->RelV x u)->Vals xs us:=by
 intro xs
 induction xs with
 |nil=>
  intro us hl _;cases us with
  |nil=>exact .nil
  |cons _ _=>cases hl
 |cons x xs ih=>
  intro us hl h;cases us with
  |nil=>cases hl
  |cons u us=>exact .cons (h 0 x u rfl rfl) (ih (WA hl) fun j y v e1 e2=>h (j+1) y v e1 e2)
theorem zks{κ:Type}{kvs:List (κ × V)}{vs:List (κ × ja)}{j:Nat}{p:κ × V}(h:KV kvs vs):kvs[j]?=some p->∃ q,vs[j]?=some q/\p.1=q.1/\RelV p.2 q.2:=by
 induction h generalizing j with
 |nil=>intro e; cases e
 |cons r t ih=>
  intro e;cases j with
  |zero=>obtain rfl:=jd e; exact⟨_,rfl,r⟩
  |succ j=>exact ih (j:=j) e
theorem zgE(hc:X.calm=true):CallR X (.type "list") (fun xs H Q=>∃ a kvs,xs=[V.ref a]/\Rd H a (.dK kvs)/\∀ l,H l=none->Q (.ref l) (upd H l (.lst (kvs.map fun kv=>kV kv.1)))):=by
 intro pins s σ H xs us Q I rv h;obtain⟨a,kvs,rfl,e,q⟩:=h;obtain⟨u,rfl,ru⟩:=rv.one;cases ru;obtain⟨z,hd,vs,rel,dd⟩:=zjI I.hok e;have hl:vs.length<=jh:=by rw[<-rel.length]; exact z
 obtain⟨ep,da⟩:=dd.dictAt;refine PySem.W.kdl_call (PySem.W.kdl_dict (knd:=zaz X.prog X.w) (kvs:=vs) (ep:=ep) hd) (I.ok.hd hc) da hl fun h' tk acc c hk hnew hit=>?_;have hv:Vals (kvs.map fun kv=>kV kv.1) acc.toList:=by
  refine zj4 (by have h1:=hit.1; have h2:=rel.length; simp only[j6,Z0]; lia) fun j x u e1 e2=>?_
  rw[ji] at e1;obtain⟨p,h1,h2⟩:=Qm e1;obtain⟨k,y,h3,h4⟩:=hit.2 j u (by simpa using e2)
  obtain⟨w,h5,h6⟩:=zks rel h1;rw[h3] at h5;injection h5 with h5;subst h5 h2;rw[h6.1];exact zhk h4
 exact⟨.ref _,_,I.laid (a:=s.heap.objs.size) (o:=.lst (kvs.map fun kv=>kV kv.1)) (t':=tk) hk (jl _) ⟨by rw[j6]; exact z,acc.toList,c,hv,by rw[hnew]⟩,rfl,q _ (I.hok.fresh (jl _))⟩
end
section
variable {X:Cx}{e:Expr}{te:TE}{pos p2:Pos}
def zxi(K:j8)(te:TE)(ts:TO):TE:=fun σ H Q=>te σ H fun x H1=>ts σ H1 fun k H2=>k=some (-1)/\∃ a xs,x=.ref a/\SqL K H2 a xs/\∀ p,H2 p=none->Q (.ref p) (upd H2 p (.lst xs.reverse))
theorem zsr{st:Expr}{ts:TO}(he:PE X e te)(hs:PO X (some st) ts):PE X (.Subscript e (.Slice none none (some st) p2) pos) (zxi X.K te ts):=by
 intro pins s σ H Q I h;refine Wk (thn (he pins s σ H _ I h) fun v s1 h_=>?_); obtain⟨x,H1,I1,r1,q1⟩:=h_;refine wpAny_Slice ?_;rw[W3];refine je (je (thn (hs pins s1 σ H1 _ I1 q1) fun vk s3 h_=>?_)); obtain⟨k,H3,I3,pk,q3⟩:=h_;obtain⟨rfl,a,xs,rfl,hx,q⟩:=q3;cases r1;have I4:Inv X pins σ H3 { s3 with heap:=s3.heap.push { cls:=.type "slice",data:=.fields #[.none,.none,vk] } }:=I3.kept (t':=s3.toks) fun b ob q=>j7 _ q;obtain⟨its,r,ht,hz⟩:=I4.list hx;have hlen:=r.length;show jH (jM X.prog X.w) X.A (YT e (.Slice none none (some st) p2) (.ref a) (.ref s3.heap.objs.size)) (EP X pins σ Q) X.xe { s3 with heap:=s3.heap.push { cls:=.type "slice",data:=.fields #[.none,.none,vk] } };refine tail_any (ops:=[.ref a,.ref s3.heap.objs.size]) ht.isList.typeIs YC.lookup ?_ (by with_unfolding_all rfl)
 refine YD ht.isList (W4 ..) .none .none pk (by decide) ?_ (by rw[jp]<;>lia)
 rw[PySem.W.krv_pick];refine⟨.ref _,_,I4.laid (t':=s3.toks) (o:=.lst xs.reverse) (fun b ob q=>j7 _ q) (jl _) ?_,rfl,q _ (I4.hok.fresh (jl _))⟩;exact⟨by rw[NS]; exact hz,_,0,r.reverse,jw _ rfl⟩
end
end L2
namespace Dw
open PySem PySem.Spec PyProof.Rows L2
def Sx(l:List Nat):Str:=⟨l.toArray⟩
theorem ziZ(l:List Nat):(Sx l).cps.toList=l:=by simp[Sx]
theorem zfa(l:List Nat):(Sx l).length=l.length:=by simp[Sx,Str.length]
theorem ztH{l m:List Nat}(h:Sx l=Sx m):l=m:=by
 have:=congrArg (fun x=>x.cps.toList) h;simpa[Sx] using this
theorem zkP(l m:List Nat):Sx l++Sx m=Sx (l++m):=by
 show Str.mk _=_;simp[Sx]
theorem ztG(l:List Nat){j:Int}(h0:0<=j)(h:j<=l.length):W7 (Sx l) none (some j)=Sx (l.take j.toNat):=by
 have:=slice_closes_to (x:=Sx l) (j:=j) ⟨h0,by rw[ziZ]; exact h⟩
 rw[eq_of_beq this,ziZ];simp[Sx]
theorem zr4(l:List Nat){j:Int}(h0:0<=j)(h:j<=l.length):W7 (Sx l) (some j) none=Sx (l.drop j.toNat):=by
 have:=slice_closes_from (x:=Sx l) (i:=j) ⟨h0,by rw[ziZ]; exact h⟩
 rw[eq_of_beq this,ziZ,QD (by rw[QH]; lia)]
 rfl
theorem zr3:∀(l:List Nat),WR (Zu "") (l.map fun c=>(⟨#[c]⟩:Str))=Sx l:=by
 intro l;show Builtin.Str.glued _ _=_;rw[StrLaws.glued_eq_join];have e:Zu ""=Sx []:=by decide +kernel
 rw[e]
 induction l with
 |nil=>decide +kernel
 |cons c r ih=>
  cases r with
  |nil=>rfl
  |cons d r=>
   show (⟨#[c]⟩:Str)++Sx []++Str.join (Sx []) ((d::r).map fun c=>(⟨#[c]⟩:Str))=_;rw[ih];show Sx [c]++Sx []++Sx (d::r)=_;rw[zkP,zkP];rfl
def zj1(x:Str):Prop:=1<=x.length/\x.length<=8/\∀ c∈x.cps.toList,97<=c/\c<=122
abbrev letters:Str:="abcdefghijklmnopqrstuvwxyz"
theorem zh0{i:Int}(h0:0<=i)(h:i < 26):atI letters.cps.toList i=some (97+i.toNat):=by
 have key:∀ j:Nat,j < 26->letters.cps.toList[j]?=some (97+j):=by decide +kernel
 have ek:i=((i.toNat:Nat):Int):=by lia
 have q:=zr0 (key i.toNat (by lia))
 rw[<-ek] at q;exact q
theorem zg7:letters.length<=jh:=by decide +kernel
def zfl(stem:List Nat)(at_ one other:Nat)(short:Bool)(k:Nat):List Nat:=
 if short=true/\k < 5 then stem.take (k+1) else stem.take at_++[97+(one+k)%26,97+(other+k / 26)%26]++stem.drop at_
theorem znW{stem:List Nat}{at_ one other:Nat}{short:Bool}{k:Nat}(hs:stem.length<=6)(hsh:short=true->stem.length=6)(ha:at_<=stem.length)(hl:∀ c∈stem,97<=c/\c<=122):zj1 (Sx (zfl stem at_ one other short k)):=by
 unfold zj1;rw[zfa,ziZ];unfold zfl;split
 ·rename_i h;have:=hsh h.1;refine⟨?_,?_,fun c hc=>hl c (NI hc)⟩
  ·rw[jQ]; lia
  ·rw[jQ]; lia
 ·refine⟨?_,?_,fun c hc=>?_⟩
  ·simp only[ju,jQ,QH,jm,Zm]; lia
  ·simp only[ju,jQ,QH,jm,Zm]; lia
  ·simp only[jz,jq,ZD,or_false] at hc;rcases hc with (hc |hc |hc) |hc
   ·exact hl c (NI hc)
   ·lia
   ·lia
   ·exact hl c (List.mem_of_mem_drop hc)
theorem zmp{stem:List Nat}{at_ one other:Nat}{short:Bool}{j k:Nat}(hs:stem.length<=6)(hsh:short=true->stem.length=6)(ha:at_<=stem.length)(hj:j < 31)(hk:k < 31)(h:zfl stem at_ one other short j=zfl stem at_ one other short k):j=k:=by
 have hlen:=congrArg ge h;unfold zfl at h hlen;have lenA:∀ i:Nat,short=true->i < 5->(stem.take (i+1)).length=i+1:=fun i h1 h2=>by rw[jQ,hsh h1]; lia
 have lenB:∀ i:Nat,(stem.take at_++[97+(one+i)%26,97+(other+i / 26)%26]++stem.drop at_).length=stem.length+2:=fun i=>by
  simp only[ju,jQ,QH,jm,Zm]; lia
 by_cases c1:short=true/\j < 5
 ·by_cases c2:short=true/\k < 5
  ·rw[if_pos c1,if_pos c2,lenA j c1.1 c1.2,lenA k c2.1 c2.2] at hlen;lia
  ·rw[if_pos c1,if_neg c2,lenA j c1.1 c1.2,lenB k,hsh c1.1] at hlen;lia
 ·by_cases c2:short=true/\k < 5
  ·rw[if_neg c1,if_pos c2,lenA k c2.1 c2.2,lenB j,hsh c2.1] at hlen;lia
  ·rw[if_neg c1,if_neg c2] at h;rw[jZ,jZ] at h;have h2:=List.append_cancel_left h;simp only[gO,Zb,List.cons.injEq] at h2;lia
def zaG(stem:List Nat)(at_ one other:Nat)(short:Bool)(n:Nat):List Str:=(jf n).map fun k=>Sx (zfl stem at_ one other short k)
theorem zjp(stem:List Nat)(at_ one other:Nat)(short:Bool)(n:Nat):zaG stem at_ one other short (n+1)=zaG stem at_ one other short n++[Sx (zfl stem at_ one other short n)]:=by
 unfold zaG;rw[gm,jA];rfl
theorem zis{stem:List Nat}{at_ one other:Nat}{short:Bool}{n:Nat}(hs:stem.length<=6)(hsh:short=true->stem.length=6)(ha:at_<=stem.length)(hn:n<=31):(zaG stem at_ one other short n).Nodup:=by
 unfold zaG;rw[List.nodup_iff_pairwise_ne,Zo];refine Zp (fun {a b} ha' hb' hab=>?_) gP;intro e;exact hab (zmp hs hsh ha (by have:=jk.mp ha'; lia) (by have:=jk.mp hb'; lia) (ztH e))
structure Pairing (ps:List Nat) (n:Nat):Prop where
 len:ps.length=2*n
 lt:∀ k∈ps,k < n
 two:∀ k,k < n->ps.count k=2
structure Half (pl:List (Option Nat)) (n i:Nat):Prop where
 len:pl.length=2*n
 lt:∀ k,some k∈pl->k < i
 two:∀ k,k < i->pl.count (some k)=2
 free:pl.count none+2*i=2*n
theorem Half.start(n:Nat):Half (ZX (2*n) none) n 0:=by
 refine⟨Nh ..,fun k hk=>?_,fun k hk=>absurd hk (Yc k),?_⟩
 ·have:=YG hk;cases this
 ·rw[List.count_replicate_self]; lia
theorem zd7{α β:Type}[BEq α][LawfulBEq α][BEq β][LawfulBEq β]{f:α->β}(hf:∀ a b,f a=f b->a=b)(x:α):∀ l:List α,(l.map f).count (f x)=l.count x
 |[]=>rfl
 |a::r=>by
  rw[jj,Zq,Zq,zd7 hf x r]
  by_cases e:a=x
  ·subst e; simp
  ·have e1:(a == x)=false:=by simpa using e
   have e2:(f a == f x)=false:=by simpa using fun z=>e (hf _ _ z)
   rw[e1,e2]
theorem zhD{l:List Str}{k:Nat}(h:k < l.length):l.getD k jS=l[k]:=by
 simp[List.getD,j3 h]
def zaw(pl:List (Option Nat)):List Nat:=(jf pl.length).filter fun j=>decide (pl[j]?=some none)
theorem zlh:∀(pl:List (Option Nat)),(zaw pl).length=pl.count none:=by
 intro pl;unfold zaw
 induction pl with
 |nil=>rfl
 |cons o r ih=>
  rw[jm,ZI,Qk,gq,Zq];have e:((jf r.length).filter ((fun j=>decide ((o::r)[j]?=some none))∘JN))=(jf r.length).filter fun j=>decide (r[j]?=some none):=rfl;rw[e];cases o with
  |none=>
   rw[if_pos (by rfl),jm,j6,ih]
   rfl
  |some j=>
   rw[if_neg (by simp),j6,ih]
   rfl
theorem zh3{pl:List (Option Nat)}{j:Nat}(h:j∈zaw pl):j < pl.length/\pl[j]?=some none:=by
 have:=jR.mp h;exact⟨jk.mp this.1,of_decide_eq_true this.2⟩
theorem ziD(pl:List (Option Nat)):(zaw pl).Nodup:=Nk (NT) gP
theorem Half.next{pl:List (Option Nat)}{n i f0 f1:Nat}(h:Half pl n i)(hi:i < n)(h0:pl[f0]?=some none)(h1:pl[f1]?=some none)(hne:f0≠f1):Half ((pl.set f1 (some i)).set f0 (some i)) n (i+1):=by
 obtain⟨l1,e1⟩:=j9.mp h1;have h0':(pl.set f1 (some i))[f0]?=some none:=by rw[jn (Zi hne)]; exact h0
 obtain⟨l0,e0⟩:=j9.mp h0';have ci:pl.count (some i)=0:=by
  refine gr.mpr fun hm=>?_;exact absurd (h.lt i hm) (Q4 _)
 have cn:=h.free;have key:∀ x,((pl.set f1 (some i)).set f0 (some i)).count x=pl.count x - (if (none:Option Nat) == x then 1 else 0)+(if some i == x then 1 else 0) - (if (none:Option Nat) == x then 1 else 0)+(if some i == x then 1 else 0):=fun x=>by
  rw[J8 l0,e0,J8 l1,e1]
 refine⟨by rw[Q2,Q2]; exact h.len,fun k hk=>?_,fun k hk=>?_,?_⟩
 ·rcases Yv hk with z |z
  ·rcases Yv z with z |z
   ·exact Za (h.lt k z)
   ·cases z; exact gc _
  ·cases z; exact gc _
 ·rw[key]
  by_cases e:k=i
  ·subst e;rw[ci];simp
  ·have:(some i == some k)=false:=by simpa using fun z=>e z.symm
   rw[this];simpa using h.two k (by lia)
 ·rw[key];have:(some i == (none:Option Nat))=false:=rfl;rw[this];have:((none:Option Nat) == none)=true:=rfl;rw[this];simp only[if_true,QC,if_false];lia
theorem Half.done{pl:List (Option Nat)}{n:Nat}(h:Half pl n n):∃ ps:List Nat,Pairing ps n/\pl=ps.map some:=by
 have hz:pl.count none=0:=by have:=h.free; lia
 have hn:none∉pl:=gr.mp hz;obtain⟨ps,rfl⟩:∃ ps:List Nat,pl=ps.map some:=by
  clear h hz
  induction pl with
  |nil=>exact⟨[],rfl⟩
  |cons o r ih=>
   obtain⟨ps,rfl⟩:=ih fun z=>hn (jF _ z);cases o with
   |none=>exact absurd Q0 hn
   |some j=>exact⟨j::ps,rfl⟩
 refine⟨ps,⟨by have:=h.len; rwa [j6] at this,fun k hk=>h.lt k (List.mem_map_of_mem hk),fun k hk=>?_⟩,rfl⟩
 have:=h.two k hk
 rwa [zd7 (fun a b z=>jd z)] at this
theorem Pairing.put{ps sh:List Nat}{n m t:Nat}(h:Pairing ps n)(hs:Pairing sh m):Pairing (ps.take t++(sh.map fun k=>n+k)++ps.drop t) (n+m):=by
 have perm:JF (ps.take t++(sh.map fun k=>n+k)++ps.drop t) (ps++sh.map fun k=>n+k):=by
  rw[jZ];have:JF (ps.take t++((sh.map fun k=>n+k)++ps.drop t)) (ps.take t++(ps.drop t++(sh.map fun k=>n+k))):=Nl _ Nm;refine this.trans ?_;rw[<-jZ,QL]
 refine⟨?_,fun k hk=>?_,fun k hk=>?_⟩
 ·rw[perm.length_eq,ju,j6,h.len,hs.len]; lia
 ·rcases jz.mp (perm.mem_iff.mp hk) with z |z
  ·have:=h.lt k z; lia
  ·obtain⟨j,hj,rfl⟩:=jy.mp z;have:=hs.lt j hj; lia
 ·rw[perm.count_eq,List.count_append]
  by_cases c:k < n
  ·rw[h.two k c];have:(sh.map fun k=>n+k).count k=0:=gr.mpr fun hm=>by
    obtain⟨j,_,e⟩:=jy.mp hm;lia
   rw[this]
  ·have e1:ps.count k=0:=gr.mpr fun hm=>c (h.lt k hm);obtain⟨j,rfl⟩:∃ j,k=n+j:=⟨k - n,by lia⟩
   rw[e1,zd7 (f:=fun k=>n+k) (fun a b (z:n+a=n+b)=>by lia) j sh,hs.two j (by lia)]
theorem Pairing.nil:Pairing [] 0:=⟨rfl,(fun k hk=>by cases hk),fun k hk=>absurd hk (Yc k)⟩
theorem Pairing.of_dec{ps:List Nat}{n:Nat}(h1:ps.length=2*n)(h2:ps.all (fun k=>decide (k < n))=true)(h3:(jf n).all (fun k=>decide (ps.count k=2))=true):Pairing ps n:=
 ⟨h1,fun k hk=>of_decide_eq_true (jt.mp h2 k hk),fun k hk=>of_decide_eq_true (jt.mp h3 k (jk.mpr hk))⟩
structure GoodWord (wd:List Str):Prop where
 name:∀ x∈wd,zj1 x
 two:∀ x∈wd,wd.count x=2
 len:wd.length<=60
theorem zgb{names:List Str}{ps:List Nat}{n:Nat}(hn:n<=30)(hl:names.length=n)(hd:names.Nodup)(hN:∀ x∈names,zj1 x)(hp:Pairing ps n):GoodWord (ps.map fun k=>names.getD k jS):=by
 have inj:∀ j k,j < n->k < n->names.getD j jS=names.getD k jS->j=k:=fun j k hj hk e=>by
  rw[zhD (by lia),zhD (by lia)] at e
  exact(ZB hd).mp e
 have memn:∀ k,k < n->names.getD k jS∈names:=fun k hk=>by
  rw[zhD (by lia)]
  exact Qa _
 have cnt:∀(l:List Nat),(∀ k∈l,k < n)->∀ k,k < n->(l.map fun k=>names.getD k jS).count (names.getD k jS)=l.count k:=by
  intro l
  induction l with
  |nil=>intro _ _ _; rfl
  |cons j r ih=>
   intro hl' k hk;rw[jj,Zq,Zq,ih (fun k hk=>hl' k (jF _ hk)) k hk]
   by_cases e:j=k
   ·subst e; simp
   ·have e1:(j == k)=false:=by simpa using e
    have e2:(names.getD j jS == names.getD k jS)=false:=by
     simp only[beq_eq_false_iff_ne,ne_eq];exact fun z=>e (inj j k (hl' j Q0) hk z)
    rw[e1,e2]
 refine⟨fun x hx=>?_,fun x hx=>?_,?_⟩
 ·obtain⟨k,hk,rfl⟩:=jy.mp hx;exact hN _ (memn k (hp.lt k hk))
 ·obtain⟨k,hk,rfl⟩:=jy.mp hx;rw[cnt ps hp.lt k (hp.lt k hk),hp.two k (hp.lt k hk)]
 ·rw[j6,hp.len]; lia
def zaa(wd:List Str)(x:Str):List Nat:=(jf wd.length).filter fun j=>decide (wd[j]?=some x)
theorem zdp(wd:List Str)(x:Str):(zaa wd x).length=wd.count x:=by
 unfold zaa
 induction wd with
 |nil=>rfl
 |cons o r ih=>
  rw[jm,ZI,Qk,gq,Zq];have e:((jf r.length).filter ((fun j=>decide ((o::r)[j]?=some x))∘JN))=(jf r.length).filter fun j=>decide (r[j]?=some x):=rfl;rw[e]
  by_cases h:o=x
  ·subst h;rw[if_pos (by simp),jm,j6,ih]
   simp
  ·rw[if_neg (by simpa using h),j6,ih]
   simp[h]
theorem zaT{wd:List Str}{x:Str}{i j:Nat}(h:zaa wd x=[i,j]):i < j/\j < wd.length:=by
 have hs:(zaa wd x).Pairwise (· < ·):=Nk NT Zd
 rw[h] at hs;have hm:j∈zaa wd x:=by rw[h]; simp
 refine⟨?_,jk.mp (jR.mp hm).1⟩;simpa using hs
theorem GoodWord.places{wd:List Str}(g:GoodWord wd){x:Str}(hx:x∈wd):∃ i j,zaa wd x=[i,j]:=by
 have hl:=zdp wd x;rw[g.two x hx] at hl
 match h:zaa wd x,hl with
 |[i,j],_=>exact⟨i,j,rfl⟩
def zkL(wd:List Str)(i j:Nat):List Str:=(wd.drop (i+1)).take (j - (i+1))
def stp(acc:List Str)(x:Str):List Str:=if x∈acc then acc else acc++[x]
def za0(wd:List Str):List Str:=wd.foldl stp []
theorem ze2{wd:List Str}{i:Nat}{x:Str}(h:wd[i]?=some x):za0 (wd.take (i+1))=stp (za0 (wd.take i)) x:=by
 unfold za0;rw[ZG,h,W8,Wr];rfl
theorem zh4:∀(wd acc:List Str),(wd.foldl stp acc).length<=acc.length+wd.length
 |[],acc=>by simp
 |x::wd,acc=>by
  rw[Zr];have:=zh4 wd (stp acc x);have h:(stp acc x).length<=acc.length+1:=by unfold stp; split<;>simp
  rw[jm];lia
end Dw
namespace L3
open PySem PySem.Spec PyProof.Rows L2
class TheK where
 K:j8
variable [TheK]
inductive T where
 |non |bl (b:Bool) |int (i:Int) |str (x:Str)
 |lst (xs:List T) |tup (xs:List T) |dct (kvs:List (Key × T)) |set (S:Int->Bool) (n:Nat)
 /-- a dict that will not be changed any more: it may be walked -/
 |fd (kvs:List (Key × T))
 /-- the script -/
 |scr (ns:List Int)
 /-- nothing is known -/
 |any
abbrev Sg:=List (Option T)
inductive Rep (C:Addr->Prop) (H:Hp):V->T->Prop
 |non:Rep C H .non .non
 |bl (b:Bool):Rep C H (.bl b) (.bl b)
 |int (i:Int):Rep C H (.int i) (.int i)
 |str (x:Str):Rep C H (.str x) (.str x)
 |lst {a:Addr} {vs:List V} {ts:List T} (c:C a) (r:H a=some (.lst vs)) (l:vs.length=ts.length) (h:∀(i:Nat) v t,vs[i]?=some v->ts[i]?=some t->Rep C H v t):Rep C H (.ref a) (.lst ts)
 |tup {a:Addr} {vs:List V} {ts:List T} (c:C a) (r:H a=some (.tup vs)) (l:vs.length=ts.length) (h:∀(i:Nat) v t,vs[i]?=some v->ts[i]?=some t->Rep C H v t):Rep C H (.ref a) (.tup ts)
 |dct {a:Addr} {kvs:List (Key × V)} {ts:List (Key × T)} (c:C a) (r:H a=some (.dK kvs)) (l:kvs.map (·.1)=ts.map (·.1)) (h:∀(i:Nat) v t,kvs[i]?=some v->ts[i]?=some t->Rep C H v.2 t.2):Rep C H (.ref a) (.dct ts)
 |set {a:Addr} {S:Int->Bool} {n:Nat} (c:C a) (r:H a=some (.set S n)):Rep C H (.ref a) (.set S n)
 |fd {a:Addr} {o:Obj} {kvs:List (Key × V)} {ts:List (Key × T)} (c:C a) (r:H a=some (.frz o (.dK kvs))) (l:kvs.map (·.1)=ts.map (·.1)) (h:∀(i:Nat) v t,kvs[i]?=some v->ts[i]?=some t->Rep C H v.2 t.2):Rep C H (.ref a) (.fd ts)
 |scr {a:Addr} {ns:List Int} {o:Obj} (c:C a) (r:H a=some (.frz o (.lst (ns.map V.int)))):Rep C H (.ref a) (.scr ns)
 /-- the script,as an object of the module -/
 |scrK {a:Addr} {ns:List Int} (r:∀ H',SqL TheK.K H' a (ns.map V.int)):Rep C H (.ref a) (.scr ns)
 |any {v:V}:Rep C H v .any
def Reps(C:Addr->Prop)(H:Hp)(vs:List V)(ts:List T):Prop:=vs.length=ts.length/\∀(i:Nat) v t,vs[i]?=some v->ts[i]?=some t->Rep C H v t
def RepK(C:Addr->Prop)(H:Hp)(vs:List (Key × V))(ts:List (Key × T)):Prop:=vs.map (·.1)=ts.map (·.1)/\∀(i:Nat) v t,vs[i]?=some v->ts[i]?=some t->Rep C H v.2 t.2
section
variable {C C':Addr->Prop}{H H':Hp}{v:V}{t:T}{vs:List V}{ts:List T}
theorem Rep.mono(h:Rep C H v t)(hc:∀ a,C a->C' a)(hh:∀ a o,C a->H a=some o->H' a=some o):Rep C' H' v t:=by
 induction h with
 |non=>exact .non
 |bl b=>exact .bl b
 |int i=>exact .int i
 |str x=>exact .str x
 |lst c r l h ih=>exact .lst (hc _ c) (hh _ _ c r) l ih
 |tup c r l h ih=>exact .tup (hc _ c) (hh _ _ c r) l ih
 |dct c r l h ih=>exact .dct (hc _ c) (hh _ _ c r) l ih
 |set c r=>exact .set (hc _ c) (hh _ _ c r)
 |fd c r l h ih=>exact .fd (hc _ c) (hh _ _ c r) l ih
 |scr c r=>exact .scr (hc _ c) (hh _ _ c r)
 |scrK r=>exact .scrK r
 |any=>exact .any
theorem Rep.there(h:Rep C H v t):Rep (fun a=>C a/\H a≠none) H v t:=by
 induction h with
 |non=>exact .non
 |bl b=>exact .bl b
 |int i=>exact .int i
 |str x=>exact .str x
 |lst c r l h ih=>exact .lst ⟨c,by rw[r]; simp⟩ r l ih
 |tup c r l h ih=>exact .tup ⟨c,by rw[r]; simp⟩ r l ih
 |dct c r l h ih=>exact .dct ⟨c,by rw[r]; simp⟩ r l ih
 |set c r=>exact .set ⟨c,by rw[r]; simp⟩ r
 |fd c r l h ih=>exact .fd ⟨c,by rw[r]; simp⟩ r l ih
 |scr c r=>exact .scr ⟨c,by rw[r]; simp⟩ r
 |scrK r=>exact .scrK r
 |any=>exact .any
theorem Reps.mono(h:Reps C H vs ts)(hc:∀ a,C a->C' a)(hh:∀ a o,C a->H a=some o->H' a=some o):Reps C' H' vs ts:=⟨h.1,fun i v t e1 e2=>(h.2 i v t e1 e2).mono hc hh⟩
theorem RepK.mono{ks:List (Key × V)}{kt:List (Key × T)}(h:RepK C H ks kt)(hc:∀ a,C a->C' a)(hh:∀ a o,C a->H a=some o->H' a=some o):RepK C' H' ks kt:=⟨h.1,fun i v t e1 e2=>(h.2 i v t e1 e2).mono hc hh⟩
theorem Reps.there(h:Reps C H vs ts):Reps (fun a=>C a/\H a≠none) H vs ts:=⟨h.1,fun i v t e1 e2=>(h.2 i v t e1 e2).there⟩
theorem RepK.there{ks:List (Key × V)}{kt:List (Key × T)}(h:RepK C H ks kt):RepK (fun a=>C a/\H a≠none) H ks kt:=⟨h.1,fun i v t e1 e2=>(h.2 i v t e1 e2).there⟩
theorem Reps.nil:Reps C H [] []:=⟨rfl,fun i v t e=>by simp at e⟩
theorem Reps.cons(h:Rep C H v t)(hs:Reps C H vs ts):Reps C H (v::vs) (t::ts):=by
 refine⟨by simp[hs.1],fun i v' t' e1 e2=>?_⟩
 cases i with
 |zero=>simp at e1 e2; subst e1 e2; exact h
 |succ i=>exact hs.2 i v' t' (by simpa using e1) (by simpa using e2)
theorem Reps.head(hs:Reps C H (v::vs) (t::ts)):Rep C H v t:=hs.2 0 v t rfl rfl
theorem Reps.tail(hs:Reps C H (v::vs) (t::ts)):Reps C H vs ts:=⟨by simpa using hs.1,fun i v' t' e1 e2=>hs.2 (i+1) v' t' (by simpa using e1) (by simpa using e2)⟩
theorem Reps.get{i:Nat}(hs:Reps C H vs ts)(e:ts[i]?=some t):∃ v,vs[i]?=some v/\Rep C H v t:=by
 have hi:i < ts.length:=(j9.mp e).1;have hv:i < vs.length:=by rw[hs.1]; exact hi
 exact⟨vs[i],j3 hv,hs.2 i _ t (j3 hv) e⟩
theorem Reps.append{vs':List V}{ts':List T}(h:Reps C H vs ts)(h':Reps C H vs' ts'):Reps C H (vs++vs') (ts++ts'):=by
 refine⟨by simp[h.1,h'.1],fun i v t e1 e2=>?_⟩
 by_cases hi:i < vs.length
 ·rw[Q6 hi] at e1;rw[Q6 (by rw[<-h.1]; exact hi)] at e2
  exact h.2 i v t e1 e2
 ·rw[Qh (by lia)] at e1
  rw[Qh (by rw[<-h.1]; lia),<-h.1] at e2
  exact h'.2 _ v t e1 e2
theorem Reps.drop(n:Nat)(h:Reps C H vs ts):Reps C H (vs.drop n) (ts.drop n):=⟨by simp[h.1],fun i v t e1 e2=>h.2 (n+i) v t (by simpa using e1) (by simpa using e2)⟩
theorem Reps.take(n:Nat)(h:Reps C H vs ts):Reps C H (vs.take n) (ts.take n):=⟨by simp[h.1],fun i v t e1 e2=>by
 rw[Yn] at e1 e2;split at e1
 ·rename_i hi;rw[if_pos hi] at e2;exact h.2 i v t e1 e2
 ·cases e1⟩
theorem Reps.set(n:Nat)(h:Reps C H vs ts)(r:Rep C H v t):Reps C H (vs.set n v) (ts.set n t):=⟨by simp[h.1],fun i v' t' e1 e2=>by
 rw[Ws] at e1 e2
 by_cases hi:n=i
 ·rw[if_pos hi] at e1 e2;split at e1
  ·split at e2
   ·cases e1; cases e2; exact r
   ·cases e2
  ·cases e1
 ·rw[if_neg hi] at e1 e2
  exact h.2 i v' t' e1 e2⟩
inductive Live (C:Addr->Prop) (H:Hp):Addr->T->Prop
 |lst {a:Addr} {vs:List V} {ts:List T} (r:H a=some (.lst vs)) (h:Reps C H vs ts):Live C H a (.lst ts)
 |dct {a:Addr} {kvs:List (Key × V)} {ts:List (Key × T)} (r:H a=some (.dK kvs)) (h:RepK C H kvs ts):Live C H a (.dct ts)
 |set {a:Addr} {S:Int->Bool} {n:Nat} (r:H a=some (.set S n)):Live C H a (.set S n)
 |any {a:Addr} {o:HO} (r:H a=some o):Live C H a .any
variable {a:Addr}
theorem Live.mono(h:Live C H a t)(hc:∀ a,C a->C' a)(hh:∀ a o,C a->H a=some o->H' a=some o)(ha:∀ o,H a=some o->H' a=some o):Live C' H' a t:=by
 cases h with
 |lst r h=>exact .lst (ha _ r) (h.mono hc hh)
 |dct r h=>exact .dct (ha _ r) (h.mono hc hh)
 |set r=>exact .set (ha _ r)
 |any r=>exact .any (ha _ r)
theorem Live.there(h:Live C H a t):Live (fun a=>C a/\H a≠none) H a t:=by
 cases h with
 |lst r h=>exact .lst r h.there
 |dct r h=>exact .dct r h.there
 |set r=>exact .set r
 |any r=>exact .any r
theorem Live.ne(h:Live C H a t):H a≠none:=by
 cases h with
 |lst r h=>rw[r]; simp
 |dct r h=>rw[r]; simp
 |set r=>rw[r]; simp
 |any r=>rw[r]; simp
theorem Live.rep(h:Live C H a t)(hc:∀ b,C b->C' b)(ha:C' a):Rep C' H (.ref a) t:=by
 cases h with
 |lst r h=>exact .lst ha r h.1 fun i v t e1 e2=>(h.2 i v t e1 e2).mono hc fun _ _ _ e=>e
 |dct r h=>exact .dct ha r h.1 fun i v t e1 e2=>(h.2 i v t e1 e2).mono hc fun _ _ _ e=>e
 |set r=>exact .set ha r
 |any r=>exact .any
end
structure Fr where
 H0:Hp
 C0:Addr->Prop
 D:Addr->Prop
 adr:Nat->Addr
def Free(F:Fr)(O:Addr->Prop):Addr->Prop:=fun a=>¬ O a/\(F.C0 a∨F.H0 a=none)
theorem Free.weak{F:Fr}{O O':Addr->Prop}{a:Addr}(h:∀ b,O' b->O b)(x:Free F O a):Free F O' a:=⟨fun z=>x.1 (h _ z),x.2⟩
structure Rel (F:Fr) (O:Addr->Prop) (M:List Nat) (s:Sg) (σ:L2.St) (H:Hp):Prop where
 len:s.length=σ.length
 val:∀(i:Nat) t,s[i]?=some (some t)->i∉M->∃ v,σ[i]?=some (some v)/\Rep (Free F O) H v t
 own:∀(i:Nat) t,s[i]?=some (some t)->i∈M->∃ a,σ[i]?=some (some (.ref a))/\Live (Free F O) H a t
 ow:∀(i:Nat) a,i∈M->σ[i]?=some (some (.ref a))->O a
 dis:∀(i j:Nat) a,i∈M->j∈M->σ[i]?=some (some (.ref a))->σ[j]?=some (some (.ref a))->i=j
 keep:∀ b o,¬ F.D b->F.H0 b=some o->H b=some o
 dom:∀ b,H b=none->F.H0 b=none
 fresh:∀ a,O a->F.D a∨F.H0 a=none
 inD:∀ a,F.D a->O a
 al:∀ a,O a->H a≠none
structure Step (σ:L2.St) (M:List Nat) (H H':Hp):Prop where
 keep:∀ b o,(∀(i:Nat),i∈M->σ[i]?≠some (some (.ref b)))->H b=some o->H' b=some o
 dom:∀ b,H' b=none->H b=none
section
variable {F:Fr}{O:Addr->Prop}{M:List Nat}{s s':Sg}{σ:L2.St}{H H' H'':Hp}{v:V}{t:T}{a:Addr}
theorem Step.refl:Step σ M H H:=⟨fun _ _ _ h=>h,fun _ h=>h⟩
theorem Step.trans(x:Step σ M H H')(y:Step σ M H' H''):Step σ M H H'':=⟨fun b o n h=>y.keep b o n (x.keep b o n h),fun b h=>x.dom b (y.dom b h)⟩
theorem Step.new(h:H a=none)(o:HO):Step σ M H (upd H a o):=⟨fun b u _ q=>by rw[za5 (za6 q h)]; exact q,fun b h'=>by
 unfold upd at h';split at h'
 ·cases h'
 ·exact h'⟩
theorem Rel.notOwned(R:Rel F O M s σ H)(h:¬ O a):∀(i:Nat),i∈M->σ[i]?≠some (some (.ref a)):=fun i hi e=>h (R.ow i a hi e)
theorem Rel.stay(R:Rel F O M s σ H)(S:Step σ M H H')(h:Rep (Free F O) H v t):Rep (Free F O) H' v t:=
 h.mono (fun _ c=>c) fun a o c e=>S.keep a o (R.notOwned c.1) e
theorem Rel.less{O':Addr->Prop}(R:Rel F O M s σ H)(h:∀ b,O' b->O b)(hw:∀(i:Nat) a,i∈M->σ[i]?=some (some (.ref a))->O' a)(hD:∀ a,F.D a->O' a):Rel F O' M s σ H where
 len:=R.len
 val:=fun i t e n=>by
  obtain⟨v,h1,h2⟩:=R.val i t e n;exact⟨v,h1,h2.mono (fun _ c=>c.weak h) fun _ _ _ e=>e⟩
 own:=fun i t e n=>by
  obtain⟨a,h1,h2⟩:=R.own i t e n;exact⟨a,h1,h2.mono (fun _ c=>c.weak h) (fun _ _ _ e=>e) fun _ e=>e⟩
 ow:=hw
 dis:=R.dis
 keep:=R.keep
 dom:=R.dom
 fresh:=fun a z=>R.fresh a (h a z)
 inD:=hD
 al:=fun a z=>R.al a (h a z)
theorem Rel.new(R:Rel F O M s σ H)(h:H a=none)(o:HO):Rel F (fun b=>O b∨b=a) M s σ (upd H a o):=by
 have k:∀ b u,H b=some u->upd H a o b=some u:=fun b u q=>by rw[za5 (za6 q h)]; exact q
 have fr:∀ b,Free F O b/\H b≠none->Free F (fun b=>O b∨b=a) b:=fun b c=>⟨fun z=>z.elim c.1.1 fun z=>c.2 (z▸h),c.1.2⟩;refine⟨R.len,fun i t e n=>?_,fun i t e n=>?_,fun i b hi e=>.inl (R.ow i b hi e),R.dis,fun b u n e=>k _ _ (R.keep b u n e),fun b e=>?_,fun b z=>?_,fun b z=>.inl (R.inD b z),fun b z=>?_⟩
 ·obtain⟨v,h1,h2⟩:=R.val i t e n;exact⟨v,h1,h2.there.mono fr fun b u _ e=>k b u e⟩
 ·obtain⟨b,h1,h2⟩:=R.own i t e n;exact⟨b,h1,h2.there.mono fr (fun b u _ e=>k b u e) fun u e=>k b u e⟩
 ·refine R.dom b ?_;unfold upd at e;split at e
  ·cases e
  ·exact e
 ·rcases z with z |z
  ·exact R.fresh b z
  ·subst z; exact .inr (R.dom _ h)
 ·rcases z with z |z
  ·intro e;refine R.al b z ?_;unfold upd at e;split at e
   ·cases e
   ·exact e
  ·subst z; rw[zae]; simp
end
end L3
namespace L3
open PySem PySem.Spec PyProof.Rows L2
variable [TheK]
inductive Kd where
 |e |b |n
def BRep(C:Addr->Prop)(H:Hp)(v:V)(t:T):Prop:=Rep C H v t∨∃ a,v=.ref a/\Live C H a t
def Post(k:Kd)(F:Fr)(O:Addr->Prop)(M:List Nat)(σ:L2.St)(H:Hp)(s':Sg)(t:T)(v:V)(H':Hp):Prop:=match k with
 |.e=>Rel F O M s' σ H'/\Rep (Free F O) H' v t
 |.b=>Rel F O M s' σ H'/\(Rep (Free F O) H' v t∨∃ i:Nat,i∈M/\σ[i]?=some (some v)/\s'[i]?=some (some t))
 |.n=>∃ a,v=.ref a/\H a=none/\Rel F (fun b=>O b∨b=a) M s' σ H'/\Live (Free F (fun b=>O b∨b=a)) H' a t
abbrev DE:=Sg->Option (T × Sg)
abbrev DT:=Sg->Option (Bool × Sg)
abbrev DA:=Sg->Option (List T × Sg)
def cE(k:Kd)(M:List Nat)(f:DE):TE:=fun σ H Q=>∃ F O s t s',Rel F O M s σ H/\f s=some (t,s')/\∀ v H',Step σ M H H'->Post k F O M σ H s' t v H'->Q v H'
theorem cE_{k:Kd}{M:List Nat}{f:DE}{σ:L2.St}{H:Hp}{Q:VK}(h:cE k M f σ H Q){G:Prop}(g:∀ F O s t s',Rel F O M s σ H->f s=some (t,s')->(∀ v H',Step σ M H H'->Post k F O M σ H s' t v H'->Q v H')->G):G:=by
 obtain⟨F,O,s,t,s',R,hf,q⟩:=h;exact g F O s t s' R hf q
def cT(M:List Nat)(f:DT):TT:=fun σ H Q=>∃ F O s b s',Rel F O M s σ H/\f s=some (b,s')/\∀ H',Step σ M H H'->Rel F O M s' σ H'->Q b H'
theorem cT_{M:List Nat}{f:DT}{σ:L2.St}{H:Hp}{Q:Bool->Hp->Prop}(h:cT M f σ H Q){G:Prop}(g:∀ F O s b s',Rel F O M s σ H->f s=some (b,s')->(∀ H',Step σ M H H'->Rel F O M s' σ H'->Q b H')->G):G:=by
 obtain⟨F,O,s,b,s',R,hf,q⟩:=h;exact g F O s b s' R hf q
def cA(M:List Nat)(f:DA):TA:=fun σ H Q=>∃ F O s ts s',Rel F O M s σ H/\f s=some (ts,s')/\∀ vs H',Step σ M H H'->Rel F O M s' σ H'->Reps (Free F O) H' vs ts->Q vs H'
theorem weak{X:Cx}{e:Expr}{t t':TE}(h:PE X e t)(hw:∀ σ H Q,t' σ H Q->t σ H Q):PE X e t':=fun pins s σ H Q I q=>h pins s σ H Q I (hw _ _ _ q)
theorem zfD{X:Cx}{e:Expr}{t t':TT}(h:PT X e t)(hw:∀ σ H Q,t' σ H Q->t σ H Q):PT X e t':=fun pins s σ H Q I q=>h pins s σ H Q I (hw _ _ _ q)
theorem zra{X:Cx}{e:Expr}{t t':TT}(h:PW X e t)(hw:∀ σ H Q,t' σ H Q->t σ H Q):PW X e t':=fun wh pins s σ H Q I q=>h wh pins s σ H Q I (hw _ _ _ q)
theorem zrc{X:Cx}{es:List Expr}{t t':TA}(h:PA X es t)(hw:∀ σ H Q,t' σ H Q->t σ H Q):PA X es t':=fun pos pins s σ H Q I q=>h pos pins s σ H Q I (hw _ _ _ q)
theorem zdL{X:Cx}{e:Stmt}{t t':TS}(h:PS X e t)(hw:∀ D σ H,t' D σ H->t D σ H):PS X e t':=fun pins s σ H D I q=>h pins s σ H D I (hw _ _ _ q)
theorem zlz{X:Cx}{e:List Stmt}{t t':TS}(h:PSs X e t)(hw:∀ D σ H,t' D σ H->t D σ H):PSs X e t':=fun pins s σ H D I q=>h pins s σ H D I (hw _ _ _ q)
section
variable {F:Fr}{O:Addr->Prop}{M:List Nat}{s s':Sg}{σ:L2.St}{H H':Hp}{v:V}{t:T}{a:Addr}
theorem Post.ne(R:Rel F O M s σ H)(h:Post .n F O M σ H s' t v H'):Post .e F O M σ H s' t v H':=by
 obtain⟨a,rfl,h0,R',L⟩:=h;have w:∀ b,O b->(O b∨b=a):=fun b z=>.inl z;refine⟨R'.less w R.ow R.inD,L.rep (fun b c=>c.weak w) ⟨fun z=>R.al a z h0,.inr (R.dom a h0)⟩⟩
theorem Post.eb(h:Post .e F O M σ H s' t v H'):Post .b F O M σ H s' t v H':=⟨h.1,.inl h.2⟩
theorem Post.view(h:Post .b F O M σ H s' t v H'):BRep (Free F O) H' v t:=by
 rcases h.2 with h2 |⟨i,hi,e1,e2⟩
 ·exact .inl h2
 ·obtain⟨a,e3,L⟩:=h.1.own i t e2 hi;rw[e1] at e3;exact .inr ⟨a,by injection e3 with e3; injection e3,L⟩
theorem Post.mkN(R:Rel F O M s σ H)(R1:Rel F O M s' σ H')(S:Step σ M H H'){p:Addr}{o:HO}(hp:H' p=none)(L:∀ C:Addr->Prop,(∀ b,Free F O b/\H' b≠none->C b)->Live C (upd H' p o) p t):Post .n F O M σ H s' t (.ref p) (upd H' p o):=
 ⟨p,rfl,S.dom p hp,R1.new hp o,L _ fun b c=>⟨fun z=>z.elim c.1.1 fun z=>c.2 (z▸hp),c.1.2⟩⟩
theorem Post.mkE(R1:Rel F O M s' σ H'){p:Addr}{o:HO}(hp:H' p=none)(L:∀ C:Addr->Prop,(∀ b,Free F O b/\H' b≠none->C b)->C p->Rep C (upd H' p o) (.ref p) t):Post .e F O M σ H s' t (.ref p) (upd H' p o):=by
 have w:∀ b,O b->(O b∨b=p):=fun b z=>.inl z;exact⟨(R1.new hp o).less w R1.ow R1.inD,L _ (fun b c=>c.1) ⟨fun z=>R1.al p z hp,.inr (R1.dom p hp)⟩⟩
end
section
variable {X:Cx}{M:List Nat}{e a b:Expr}{fa fb:DE}
theorem ne(h:PE X e (cE .n M fa)):PE X e (cE .e M fa):=weak h fun σ H Q h_=>cE_ h_ fun F O s t s' R hf q=>⟨F,O,s,t,s',R,hf,fun v H' S p=>q v H' S (p.ne R)⟩
theorem eb(h:PE X e (cE .e M fa)):PE X e (cE .b M fa):=weak h fun σ H Q h_=>cE_ h_ fun F O s t s' R hf q=>⟨F,O,s,t,s',R,hf,fun v H' S p=>q v H' S p.eb⟩
theorem nb(h:PE X e (cE .n M fa)):PE X e (cE .b M fa):=eb (ne h)
def dV(i:Nat):DE:=fun s=>(s[i]?).join.map fun t=>(t,s)
def dC(t:T):DE:=fun s=>some (t,s)
theorem zag{α:Type}{o:Option (Option α)}{x:α}(h:o.join=some x):o=some (some x):=by
 cases o with
 |none=>cases h
 |some o=>cases o with
  |none=>cases h
  |some y=>injection h with h; rw[h]
theorem zjM{i:Nat}{s s':Sg}{t:T}(h:dV i s=some (t,s')):s[i]?=some (some t)/\s'=s:=by
 unfold dV at h;cases e:(s[i]?).join with
 |none=>rw[e] at h; cases h
 |some x=>
  rw[e] at h;injection h with h;injection h with h1 h2;subst h1 h2;exact⟨zag e,rfl⟩
theorem zvx{i:Nat}(hi:M.contains i=false)(h:PE X e (zcT i)):PE X e (cE .e M (dV i)):=weak h fun σ H Q h_=>cE_ h_ fun F O s t s' R hf q=>by
 obtain⟨e1,rfl⟩:=zjM hf;obtain⟨v,h1,h2⟩:=R.val i t e1 (by simpa using hi)
 exact⟨v,h1,q v H .refl ⟨R,h2⟩⟩
theorem zvF{i:Nat}(hi:M.contains i=true)(h:PE X e (zcT i)):PE X e (cE .b M (dV i)):=weak h fun σ H Q h_=>cE_ h_ fun F O s t s' R hf q=>by
 obtain⟨e1,rfl⟩:=zjM hf;obtain⟨a,h1,h2⟩:=R.own i t e1 (by simpa using hi)
 exact⟨_,h1,q _ H .refl ⟨R,.inr ⟨i,by simpa using hi,h1,e1⟩⟩⟩
theorem zoi{v:V}{t:T}(hr:∀ C H,Rep C H v t)(h:PE X e (tC v)):PE X e (cE .e M (dC t)):=weak h fun σ H Q h_=>cE_ h_ fun F O s t' s' R hf q=>by
 injection hf with hf;injection hf with h1 h2;subst h1 h2;exact q v H .refl ⟨R,hr _ _⟩
theorem zvQ{i j pos}:PE X (.Constant (.int i) j pos) (cE .e M (dC (.int i))):=zoi (fun _ _=>.int i) zsv
theorem zxS{i j pos}:PE X (.Constant (.bool i) j pos) (cE .e M (dC (.bl i))):=zoi (fun _ _=>.bl i) zva
theorem zvA{i j pos}:PE X (.Constant (.str i) j pos) (cE .e M (dC (.str i))):=zoi (fun _ _=>.str i) zsq
theorem zvI{j pos}:PE X (.Constant .none j pos) (cE .e M (dC .non)):=zoi (fun _ _=>.non) zst
def d2(g:T->T->Option T)(fa fb:DE):DE:=fun s=>(fa s).bind fun p=>(fb p.2).bind fun q=>(g p.1 q.1).map fun t=>(t,q.2)
def d2v(g:T->T->Option T)(i:Nat)(fb:DE):DE:=fun s=>(s[i]?).join.bind fun _=>(fb s).bind fun q=>(q.2[i]?).join.bind fun x=>(g x q.1).map fun t=>(t,q.2)
theorem zhL{g:T->T->Option T}{s s':Sg}{t:T}(h:d2 g fa fb s=some (t,s')):∃ x s1 y,fa s=some (x,s1)/\fb s1=some (y,s')/\g x y=some t:=by
 unfold d2 at h;cases e:fa s with
 |none=>rw[e] at h; cases h
 |some p=>
  rw[e] at h;cases e2:fb p.2 with
  |none=>simp[e2] at h
  |some q=>
   simp only[j5,e2] at h;cases e3:g p.1 q.1 with
   |none=>rw[e3] at h; cases h
   |some u=>
    rw[e3] at h;injection h with h;injection h with h1 h2;subst h1 h2;exact⟨p.1,p.2,q.1,rfl,by rw[e2],e3⟩
theorem zhK{g:T->T->Option T}{i:Nat}{s s':Sg}{t:T}(h:d2v g i fb s=some (t,s')):∃ x0 x y,s[i]?=some (some x0)/\fb s=some (y,s')/\s'[i]?=some (some x)/\g x y=some t:=by
 unfold d2v at h;cases e0:(s[i]?).join with
 |none=>rw[e0] at h; cases h
 |some x0=>
 rw[e0] at h;simp only[j5] at h;cases e:fb s with
 |none=>rw[e] at h; cases h
 |some q=>
  simp only[e,j5] at h;cases e2:(q.2[i]?).join with
  |none=>rw[e2] at h; cases h
  |some x=>
   simp only[e2,j5] at h;cases e3:g x q.1 with
   |none=>rw[e3] at h; cases h
   |some u=>
    rw[e3] at h;injection h with h;injection h with h1 h2;subst h1 h2;exact⟨x0,x,q.1,zag e0,rfl,zag e2,e3⟩
def S2E(r:R2)(g:T->T->Option T):Prop:=∀(C:Addr->Prop) (H:Hp) x y tx ty t (Q:VK),BRep C H x tx->BRep C H y ty->g tx ty=some t->(∀ v,Rep C H v t->Q v H)->r x y H Q
def S2N(r:R2)(g:T->T->Option T):Prop:=∀(C:Addr->Prop) (H:Hp) x y tx ty t (Q:VK),BRep C H x tx->BRep C H y ty->g tx ty=some t->
 (∀ p o,H p=none->(∀ C':Addr->Prop,(∀ b,C b/\H b≠none->C' b)->Live C' (upd H p o) p t)->Q (.ref p) (upd H p o))->r x y H Q
theorem zcU{r:R2}{g:T->T->Option T}(h:S2E r g):∀ σ H Q,cE .e M (d2 g fa fb) σ H Q->tOp r (cE .e M fa) (cE .b M fb) σ H Q:=by
 intro σ H Q h_;refine cE_ h_ fun F O s t s' R hf q=>?_;obtain⟨x,s1,y,h1,h2,h3⟩:=zhL hf;refine⟨F,O,s,x,s1,R,h1,fun v H1 S1 p1=>?_⟩;refine⟨F,O,s1,y,s',p1.1,h2,fun u H2 S2 p2=>?_⟩;exact h (Free F O) H2 v u x y t Q (.inl (p1.1.stay S2 p1.2)) p2.view h3 fun w rw=>q w H2 (S1.trans S2) ⟨p2.1,rw⟩
theorem zuH{r:R2}{g:T->T->Option T}(h:S2N r g):∀ σ H Q,cE .n M (d2 g fa fb) σ H Q->tOp r (cE .e M fa) (cE .b M fb) σ H Q:=by
 intro σ H Q h_;refine cE_ h_ fun F O s t s' R hf q=>?_;obtain⟨x,s1,y,h1,h2,h3⟩:=zhL hf;refine⟨F,O,s,x,s1,R,h1,fun v H1 S1 p1=>?_⟩;refine⟨F,O,s1,y,s',p1.1,h2,fun u H2 S2 p2=>?_⟩;exact h (Free F O) H2 v u x y t Q (.inl (p1.1.stay S2 p1.2)) p2.view h3 fun p o hp L=>q _ _ ((S1.trans S2).trans (.new hp o)) (.mkN R p2.1 (S1.trans S2) hp L)
theorem zhl{F:Fr}{O:Addr->Prop}{s s':Sg}{σ:L2.St}{H H':Hp}{i:Nat}{t0 t:T}(hi:i∈M)(R:Rel F O M s σ H)(R':Rel F O M s' σ H')(e0:s[i]?=some (some t0))(e:s'[i]?=some (some t)):∃ v,σ[i]?=some (some v)/\BRep (Free F O) H' v t:=by
 obtain⟨a,h1,_⟩:=R.own i t0 e0 hi;obtain⟨b,h2,L⟩:=R'.own i t e hi;rw[h1] at h2;injection h2 with h2;injection h2 with h2;injection h2 with h2;subst h2;exact⟨_,h1,.inr ⟨a,rfl,L⟩⟩
theorem zoD{r:R2}{g:T->T->Option T}{i:Nat}(hi:M.contains i=true)(h:S2E r g):∀ σ H Q,cE .e M (d2v g i fb) σ H Q->tOp r (zcT i) (cE .b M fb) σ H Q:=by
 intro σ H Q h_;refine cE_ h_ fun F O s t s' R hf q=>?_;obtain⟨x0,x,y,h0,h1,h2,h3⟩:=zhK hf;have hi':i∈M:=by simpa using hi
 obtain⟨a,e1,_⟩:=R.own i x0 h0 hi';refine⟨_,e1,F,O,s,y,s',R,h1,fun u H2 S2 p2=>?_⟩;obtain⟨v,e2,B⟩:=zhl hi' R p2.1 h0 h2;rw[e1] at e2;injection e2 with e2;injection e2 with e2;subst e2;exact h (Free F O) H2 _ u x y t Q B p2.view h3 fun w rw=>q w H2 S2 ⟨p2.1,rw⟩
theorem zry{r:R2}{g:T->T->Option T}{i:Nat}(hi:M.contains i=true)(h:S2N r g):∀ σ H Q,cE .n M (d2v g i fb) σ H Q->tOp r (zcT i) (cE .b M fb) σ H Q:=by
 intro σ H Q h_;refine cE_ h_ fun F O s t s' R hf q=>?_;obtain⟨x0,x,y,h0,h1,h2,h3⟩:=zhK hf;have hi':i∈M:=by simpa using hi
 obtain⟨a,e1,_⟩:=R.own i x0 h0 hi';refine⟨_,e1,F,O,s,y,s',R,h1,fun u H2 S2 p2=>?_⟩;obtain⟨v,e2,B⟩:=zhl hi' R p2.1 h0 h2;rw[e1] at e2;injection e2 with e2;injection e2 with e2;subst e2;exact h (Free F O) H2 _ u x y t Q B p2.view h3 fun p o hp L=>q _ _ (S2.trans (.new hp o)) (.mkN R p2.1 S2 hp L)
end
section
variable {C:Addr->Prop}{H:Hp}{v:V}
theorem BRep.non(h:BRep C H v .non):v=.non:=by
 rcases h with h |⟨a,rfl,h⟩<;>cases h
 rfl
theorem BRep.bl{b:Bool}(h:BRep C H v (.bl b)):v=.bl b:=by
 rcases h with h |⟨a,rfl,h⟩<;>cases h
 rfl
theorem BRep.int{i:Int}(h:BRep C H v (.int i)):v=.int i:=by
 rcases h with h |⟨a,rfl,h⟩<;>cases h
 rfl
theorem BRep.str{x:Str}(h:BRep C H v (.str x)):v=.str x:=by
 rcases h with h |⟨a,rfl,h⟩<;>cases h
 rfl
theorem BRep.lst{ts:List T}(h:BRep C H v (.lst ts)):∃ a vs,v=.ref a/\H a=some (.lst vs)/\Reps C H vs ts:=by
 rcases h with h |⟨a,rfl,h⟩
 ·cases h with |lst c r l h=>exact⟨_,_,rfl,r,l,h⟩
 ·cases h with |lst r h=>exact⟨_,_,rfl,r,h⟩
theorem BRep.tup{ts:List T}(h:BRep C H v (.tup ts)):∃ a vs,v=.ref a/\H a=some (.tup vs)/\Reps C H vs ts:=by
 rcases h with h |⟨a,rfl,h⟩
 ·cases h with |tup c r l h=>exact⟨_,_,rfl,r,l,h⟩
 ·cases h
theorem BRep.dct{ts:List (Key × T)}(h:BRep C H v (.dct ts)):∃ a kvs,v=.ref a/\H a=some (.dK kvs)/\RepK C H kvs ts:=by
 rcases h with h |⟨a,rfl,h⟩
 ·cases h with |dct c r l h=>exact⟨_,_,rfl,r,l,h⟩
 ·cases h with |dct r h=>exact⟨_,_,rfl,r,h⟩
theorem BRep.fd{ts:List (Key × T)}(h:BRep C H v (.fd ts)):∃ a o kvs,v=.ref a/\H a=some (.frz o (.dK kvs))/\RepK C H kvs ts/\C a:=by
 rcases h with h |⟨a,rfl,h⟩
 ·cases h with |fd c r l h=>exact⟨_,_,_,rfl,r,⟨l,h⟩,c⟩
 ·cases h
theorem BRep.scr{ns:List Int}(h:BRep C H v (.scr ns)):∃ a,v=.ref a/\SqL TheK.K H a (ns.map V.int):=by
 rcases h with h |⟨a,rfl,h⟩
 ·cases h with
  |scr c r=>exact⟨_,rfl,.inl (.inr ⟨_,r⟩)⟩
  |scrK r=>exact⟨_,rfl,r H⟩
 ·cases h
end
def ziC:T->T->Option T
 |.int i,.int j=>some (.int (i+j))
 |.str x,.str y=>if x.length+y.length<=jh then some (.str (x++y)) else none
 |_,_=>none
def zls:T->T->Option T
 |.lst a,.lst b=>if a.length+b.length<=jh then some (.lst (a++b)) else none
 |_,_=>none
def gI(C:Int->Int->Bool)(g:Int->Int->Int):T->T->Option T
 |.int i,.int j=>if C i j=true then some (.int (g i j)) else none
 |_,_=>none
def zlw(i j:Int):Bool:=decide (-(2 ^ 64) < i/\i < 2 ^ 64)||decide (-(2 ^ 64) < j/\j < 2 ^ 64)
def zpe(i j:Int):Bool:=decide (0 < j/\j < 1073741824)
def zqZ(i j:Int):Bool:=decide (0 < j)
def gSb:=gI (fun _ _=>true) fun i j=>i - j
def zdt:=gI zlw fun i j=>i*j
def zhE:=gI zpe fun i j=>i / j
def ze9:=gI zqZ fun i j=>i%j
def zo7(p:Int->Int->Bool)(ps:Str->Str->Bool):T->T->Option T
 |.int i,.int j=>some (.bl (p i j))
 |.str i,.str j=>some (.bl (ps i j))
 |_,_=>none
section
variable {X:Cx}
theorem zv0:S2E (fun x y H Q=>rI0 (fun i j=>.int (i+j)) x y H Q∨∃ i j,x=.str i/\y=.str j/\i.length+j.length<=jh/\Q (.str (i++j)) H) ziC:=by
 intro C H x y tx ty t Q bx by' hg q;unfold ziC at hg;split at hg
 ·injection hg with hg; subst hg;exact .inl ⟨_,_,bx.int,by'.int,q _ (.int _)⟩
 ·split at hg
  ·rename_i h;injection hg with hg; subst hg;exact .inr ⟨_,_,bx.str,by'.str,h,q _ (.str _)⟩
  ·cases hg
 ·cases hg
theorem zs0:S2N zwp zls:=by
 intro C H x y tx ty t Q bx by' hg q;unfold zls at hg;split at hg
 ·split at hg
  ·rename_i h;injection hg with hg; subst hg;obtain⟨a,vs,rfl,ha,ra⟩:=bx.lst;obtain⟨b,us,rfl,hb,rb⟩:=by'.lst;refine⟨a,b,vs,us,rfl,rfl,ha,hb,by rw[ra.1,rb.1]; exact h,fun p hp=>q p _ hp fun C' hC=>?_⟩
   exact .lst zae ((ra.append rb).there.mono hC fun c o hc e=>by rw[za5 (za6 e hp)]; exact e)
  ·cases hg
 ·cases hg
theorem s_I{P:Int->Int->Prop}{C:Int->Int->Bool}{g:Int->Int->Int}(hC:∀ i j,C i j=true->P i j):S2E (rI P fun i j=>.int (g i j)) (gI C g):=by
 intro C' H x y tx ty t Q bx by' hg q;unfold gI at hg;split at hg
 ·split at hg
  ·rename_i h;injection hg with hg; subst hg;exact⟨_,_,bx.int,by'.int,hC _ _ h,q _ (.int _)⟩
  ·cases hg
 ·cases hg
theorem zxz{g:Int->Int->Int}:S2E (rI0 fun i j=>.int (g i j)) (gI (fun _ _=>true) g):=by
 intro C' H x y tx ty t Q bx by' hg q;unfold gI at hg;split at hg
 ·split at hg
  ·injection hg with hg; subst hg;exact⟨_,_,bx.int,by'.int,q _ (.int _)⟩
  ·cases hg
 ·cases hg
theorem zuY{p:Int->Int->Bool}{ps:Str->Str->Bool}:S2E (fun x y H Q=>rI0 (fun i j=>.bl (p i j)) x y H Q∨∃ i j,x=.str i/\y=.str j/\Q (.bl (ps i j)) H) (zo7 p ps):=by
 intro C H x y tx ty t Q bx by' hg q;unfold zo7 at hg;split at hg
 ·injection hg with hg; subst hg;exact .inl ⟨_,_,bx.int,by'.int,q _ (.bl _)⟩
 ·injection hg with hg; subst hg;exact .inr ⟨_,_,bx.str,by'.str,q _ (.bl _)⟩
 ·cases hg
variable {M:List Nat}{a b:Expr}{fa fb:DE}{pos:Pos}
theorem zvV(ha:PE X a (cE .e M fa))(hb:PE X b (cE .b M fb)):PE X (.BinOp a .Add b pos) (cE .e M (d2 ziC fa fb)):=weak (zil (op_add.or zl1) ha hb) (zcU zv0)
theorem zvT(ha:PE X a (cE .e M fa))(hb:PE X b (cE .b M fb)):PE X (.BinOp a .Add b pos) (cE .n M (d2 zls fa fb)):=weak (zil zoV ha hb) (zuH zs0)
theorem ztl{i:Nat}(hi:M.contains i=true)(ha:PE X a (zcT i))(hb:PE X b (cE .b M fb)):PE X (.BinOp a .Add b pos) (cE .n M (d2v zls i fb)):=weak (zil zoV ha hb) (zry hi zs0)
theorem zvz(ha:PE X a (cE .e M fa))(hb:PE X b (cE .b M fb)):PE X (.BinOp a .Sub b pos) (cE .e M (d2 gSb fa fb)):=weak (zil zsB ha hb) (zcU zxz)
theorem zvK(ha:PE X a (cE .e M fa))(hb:PE X b (cE .b M fb)):PE X (.BinOp a .Mult b pos) (cE .e M (d2 zdt fa fb)):=weak (zil zsC ha hb) (zcU (s_I fun i j h=>by
 unfold zlw at h;rw[Z4,decide_eq_true_iff,decide_eq_true_iff] at h
 exact h))
theorem zvS(ha:PE X a (cE .e M fa))(hb:PE X b (cE .b M fb)):PE X (.BinOp a .FloorDiv b pos) (cE .e M (d2 zhE fa fb)):=weak (zil zqg ha hb) (zcU (s_I fun i j h=>of_decide_eq_true (p:=0 < j/\j < 1073741824) h))
theorem zvL(ha:PE X a (cE .e M fa))(hb:PE X b (cE .b M fb)):PE X (.BinOp a .Mod b pos) (cE .e M (d2 ze9 fa fb)):=weak (zil zsD ha hb) (zcU (s_I fun i j h=>of_decide_eq_true h))
end
def scE:T->T->Option Bool
 |.non,.non=>some true |.non,.bl _=>some false |.non,.int _=>some false |.non,.str _=>some false
 |.bl a,.bl b=>some (a == b) |.bl _,.non=>some false |.bl a,.int b=>some ((if a then 1 else 0) == b) |.bl _,.str _=>some false
 |.int a,.int b=>some (a == b) |.int _,.non=>some false |.int a,.bl b=>some (a == (if b then 1 else 0)) |.int _,.str _=>some false
 |.str a,.str b=>some (a == b) |.str _,.non=>some false |.str _,.bl _=>some false |.str _,.int _=>some false
 |_,_=>none
def zjX(f:T->T->Option Bool):List T->List T->Option Bool
 |x::xs,y::ys=>(f x y).bind fun b=>(zjX f xs ys).map fun c=>b&&c
 |_,_=>some true
def eqD:Nat->T->T->Option Bool
 |n+1,.lst xs,.lst ys=>if xs.length=ys.length then zjX (eqD n) xs ys else some false
 |n+1,.tup xs,.tup ys=>(zjX (eqD n) xs ys).map fun b=>b&&xs.length == ys.length
 |_+1,.lst _,.tup _=>some false
 |_+1,.tup _,.lst _=>some false
 |_,x,y=>scE x y
def eqS(n:Nat)(x y:T):Option Bool:=match x,y with
 |.lst xs,.lst ys=>if xs.length=ys.length then zjX (eqD n) xs ys else some false
 |.tup xs,.tup ys=>(zjX (eqD n) xs ys).map fun b=>b&&xs.length == ys.length
 |.lst _,.tup _=>some false
 |.tup _,.lst _=>some false
 |x,y=>scE x y
theorem zob(n:Nat)(x y:T):eqD (n+1) x y=eqS n x y:=by cases x<;>cases y<;>rfl
theorem zfA{f:T->T->Option Bool}:∀ {xs ys:List T} {b:Bool},zjX f xs ys=some b->∃ e:Nat->Bool,(∀ j x y,xs[j]?=some x->ys[j]?=some y->f x y=some (e j))/\b=(jf (min xs.length ys.length)).all e
 |[],_,b,h=>⟨fun _=>true,fun j x y e=>by simp at e,by unfold zjX at h; simp at h; simp[h]⟩
 |x::xs,[],b,h=>⟨fun _=>true,fun j x y _ e=>by simp at e,by unfold zjX at h; simp at h; simp[h]⟩
 |x::xs,y::ys,b,h=>by
  unfold zjX at h;cases h1:f x y with
  |none=>rw[h1] at h; cases h
  |some c=>
   rw[h1,j5] at h;cases h2:zjX f xs ys with
   |none=>rw[h2] at h; cases h
   |some d=>
    rw[h2] at h;injection h with h;obtain⟨e,he,hd⟩:=zfA h2;refine⟨fun j=>match j with |0=>c |j+1=>e j,fun j x' y' e1 e2=>?_,?_⟩
    ·cases j with
     |zero=>simp at e1 e2; subst e1 e2; exact h1
     |succ j=>exact he j x' y' (by simpa using e1) (by simpa using e2)
    ·rw[<-h,hd,jm,jm,Nat.succ_min_succ,ZI,Y0,List.all_map];rfl
theorem znx{C:Addr->Prop}{H:Hp}:∀(n:Nat) {v:V} {t t':T} {b:Bool},Rep C H v t->Rep C H v t'->eqD n t t'=some b->b=true:=by
 have sc:∀ {v:V} {t t':T} {b:Bool},Rep C H v t->Rep C H v t'->scE t t'=some b->b=true:=by
  intro v t t' b h h' e;cases h<;>cases h'<;>simp[scE] at e<;>(try subst e)<;>simp
 intro n
 induction n with
 |zero=>intro v t t' b h h' e; unfold eqD at e; exact sc h h' e
 |succ n ih=>
  intro v t t' b h h' e;have lists:∀ {vs:List V} {xs ys:List T} {b:Bool},Reps C H vs xs->Reps C H vs ys->zjX (eqD n) xs ys=some b->b=true:=by
   intro vs xs ys b hx hy h;obtain⟨e,he,rfl⟩:=zfA h;refine jt.mpr fun j hj=>?_;have hj':=jk.mp hj;have h1:j < xs.length:=by lia
   have h2:j < ys.length:=by lia
   have h3:j < vs.length:=by rw[hx.1]; exact h1
   have q1:=hx.2 j _ _ (j3 h3) (j3 h1);have q2:=hy.2 j _ _ (j3 h3) (j3 h2);exact ih q1 q2 (he j _ _ (j3 h1) (j3 h2))
  cases h with
  |lst c r l hc=>
   cases h' with
   |lst c' r' l' hc'=>
    rw[r] at r'; cases r';unfold eqD at e;split at e
    ·exact lists ⟨l,hc⟩ ⟨l',hc'⟩ e
    ·lia
   |tup c' r' l' hc'=>rw[r] at r'; cases r'
   |dct c' r' l' hc'=>simp[eqD,scE] at e
   |set c' r'=>simp[eqD,scE] at e
   |fd c' r' l' hc'=>simp[eqD,scE] at e
   |scr c' r'=>simp[eqD,scE] at e
   |scrK r'=>simp[eqD,scE] at e
   |any=>simp[eqD,scE] at e
  |tup c r l hc=>
   cases h' with
   |tup c' r' l' hc'=>
    rw[r] at r'; cases r';unfold eqD at e;cases h2:zjX (eqD n) _ _ with
    |none=>rw[h2] at e; cases e
    |some d=>
     rw[h2] at e;injection e with e;subst e;rw[lists ⟨l,hc⟩ ⟨l',hc'⟩ h2,<-l,<-l'];simp
   |lst c' r' l' hc'=>rw[r] at r'; cases r'
   |dct c' r' l' hc'=>simp[eqD,scE] at e
   |set c' r'=>simp[eqD,scE] at e
   |fd c' r' l' hc'=>simp[eqD,scE] at e
   |scr c' r'=>simp[eqD,scE] at e
   |scrK r'=>simp[eqD,scE] at e
   |any=>simp[eqD,scE] at e
  |non=>exact sc .non h' (by cases h'<;>simpa[eqD] using e)
  |bl x=>exact sc (.bl x) h' (by cases h'<;>simpa[eqD] using e)
  |int x=>exact sc (.int x) h' (by cases h'<;>simpa[eqD] using e)
  |str x=>exact sc (.str x) h' (by cases h'<;>simpa[eqD] using e)
  |dct c r l hc=>cases h'<;>simp[eqD,scE] at e
  |set c r=>cases h'<;>simp[eqD,scE] at e
  |fd c r l hc=>cases h'<;>simp[eqD,scE] at e
  |scr c r=>cases h'<;>simp[eqD,scE] at e
  |scrK r=>cases h'<;>simp[eqD,scE] at e
  |any=>cases t'<;>simp[eqD,scE] at e
open PySem.SeqAt
section
variable {X:Cx}{pins:List (Addr × Obj)}{σ:L2.St}{H:Hp}{s:jc}{C:Addr->Prop}
theorem zrQ{A:Qz}{x y:V}{tx ty:T}{b:Bool}{u w:ja}(hx:Rep C H x tx)(hy:Rep C H y ty)(rx:RelV x u)(ry:RelV y w)(h:scE tx ty=some b):EqAt A s u w b/\RcAt A s u w b/\RcNeAt A s u w (!b):=by
 cases hx with
 |non=>
  cases rx;cases hy with
  |non=>cases ry; injection h with h; subst h; exact⟨.same _,.none_none,.none_none⟩
  |bl y=>cases ry; injection h with h; subst h; exact⟨.none_bool _,.none_bool _,.none_bool _⟩
  |int y=>obtain⟨t,rfl⟩:=ry; injection h with h; subst h; exact⟨.none_int _ _,.none_int _ _,.none_int _ _⟩
  |str y=>obtain⟨t,rfl⟩:=ry; injection h with h; subst h; exact⟨.none_str _ _,.none_str _ _,.none_str _ _⟩
  |_=>cases h
 |bl x=>
  cases rx;cases hy with
  |non=>cases ry; injection h with h; subst h; exact⟨.bool_none _,.bool_none _,.bool_none _⟩
  |bl y=>cases ry; injection h with h; subst h; exact⟨.bool_bool _ _,.bool_bool _ _,.bool_bool _ _⟩
  |int y=>obtain⟨t,rfl⟩:=ry; injection h with h; subst h; exact⟨.bool_int _ _ _,.bool_int _ _ _,.bool_int _ _ _⟩
  |str y=>obtain⟨t,rfl⟩:=ry; injection h with h; subst h; exact⟨.bool_str _ _ _,.bool_str _ _ _,.bool_str _ _ _⟩
  |_=>cases h
 |int x=>
  obtain⟨t0,rfl⟩:=rx;cases hy with
  |non=>cases ry; injection h with h; subst h; exact⟨.int_none _ _,.int_none _ _,.int_none _ _⟩
  |bl y=>cases ry; injection h with h; subst h; exact⟨.int_bool _ _ _,.int_bool _ _ _,.int_bool _ _ _⟩
  |int y=>obtain⟨t,rfl⟩:=ry; injection h with h; subst h; exact⟨.int_int _ _ _ _,.int_int _ _ _ _,.int_int _ _ _ _⟩
  |str y=>obtain⟨t,rfl⟩:=ry; injection h with h; subst h; exact⟨.int_str _ _ _ _,.int_str _ _ _ _,.int_str _ _ _ _⟩
  |_=>cases h
 |str x=>
  obtain⟨t0,rfl⟩:=rx;cases hy with
  |non=>cases ry; injection h with h; subst h; exact⟨.str_none _ _,.str_none _ _,.str_none _ _⟩
  |bl y=>cases ry; injection h with h; subst h; exact⟨.str_bool _ _ _,.str_bool _ _ _,.str_bool _ _ _⟩
  |int y=>obtain⟨t,rfl⟩:=ry; injection h with h; subst h; exact⟨.str_int _ _ _ _,.str_int _ _ _ _,.str_int _ _ _ _⟩
  |str y=>obtain⟨t,rfl⟩:=ry; injection h with h; subst h; exact⟨.str_str _ _ _ _,.str_str _ _ _ _,.str_str _ _ _ _⟩
  |_=>cases h
 |_=>cases ty<;>simp[scE] at h
theorem zte(I:Inv X pins σ H s):∀(n:Nat) (A:Qz) {x y:V} {tx ty:T} {b:Bool} {u w:ja},A.units+n < ZH->Rep C H x tx->Rep C H y ty->RelV x u->RelV y w->eqD n tx ty=some b->EqAt A s u w b/\RcAt A s u w b/\RcNeAt A s u w (!b):=by
 intro n
 induction n with
 |zero=>intro A x y tx ty b u w hu hx hy rx ry h; unfold eqD at h; exact zrQ hx hy rx ry h
 |succ n ih=>
  intro A x y tx ty b u w hu hx hy rx ry h;have hu':A.units < ZH:=by lia
  have hin:A.in1.units+n < ZH:=by
   have:A.in1.units=A.units+1:=rfl;lia
  have parts:∀ {vs us:List V} {xs ys:List T} {its its2:List ja} {e:Nat->Bool},Reps C H vs xs->Reps C H us ys->Vals vs its->Vals us its2->(∀ j x y,xs[j]?=some x->ys[j]?=some y->eqD n x y=some (e j))->
    ∀ j (h1:j < its.toArray.size) (h2:j < its2.toArray.size),EqAt A.in1 s its.toArray[j] its2.toArray[j] (e j):=by
   intro vs us xs ys its its2 e hvs hus r r2 he j h1 h2;rw[jp] at h1 h2;have v1:j < vs.length:=by rw[r.length]; exact h1
   have v2:j < us.length:=by rw[r2.length]; exact h2
   have x1:j < xs.length:=by rw[<-hvs.1]; exact v1
   have y1:j < ys.length:=by rw[<-hus.1]; exact v2
   obtain⟨w1,e1,q1⟩:=r.get (j3 v1);obtain⟨w2,e2,q2⟩:=r2.get (j3 v2);rw[j3 h1] at e1;rw[j3 h2] at e2;injection e1 with e1;injection e2 with e2;simp only[List.getElem_toArray,e1,e2];exact(ih A.in1 hin (hvs.2 j _ _ (j3 v1) (j3 x1)) (hus.2 j _ _ (j3 v2) (j3 y1)) q1 q2 (he j _ _ (j3 x1) (j3 y1))).1
  have refs:∀ {p q:Addr},x=.ref p->y=.ref q->RcAt A s (.ref p) (.ref q) b->EqAt A s (.ref p) (.ref q) b:=by
   intro p q ep eq hr
   by_cases hpq:p=q
   ·subst hpq;have:b=true:=znx (n+1) (v:=.ref p) (ep▸hx) (eq▸hy) h;rw[this];exact .same _
   ·exact .of_refs hpq hr
  have scs:scE tx ty=some b->EqAt A s u w b/\RcAt A s u w b/\RcNeAt A s u w (!b):=zrQ hx hy rx ry;rw[zob] at h;unfold eqS at h;split at h
  ·rename_i xs ys;obtain⟨p,vs,rfl,hp,rp⟩:=BRep.lst (.inl hx);obtain⟨q,us,rfl,hq,rq⟩:=BRep.lst (.inl hy);cases rx; cases ry;obtain⟨its,r,pl,_⟩:=I.list (SqL.of hp);obtain⟨its2,r2,pl2,_⟩:=I.list (SqL.of hq);have l1:=r.length;have l2:=r2.length;have l3:=rp.1;have l4:=rq.1;split at h
   ·rename_i hl;obtain⟨e,he,hb⟩:=zfA h;have sz:its.toArray.size=its2.toArray.size:=by rw[jp,jp]; lia
    have rc:=RcAt.lists pl.isList pl2.isList sz hu' (parts rp rq r r2 he);have rn:=RcNeAt.lists pl.isList pl2.isList sz hu' (parts rp rq r r2 he);have hb':b=(jf its.toArray.size).all e:=by rw[hb,jp,hl,Nat.min_self,show its.length=ys.length by lia]
    rw[<-hb'] at rc rn;exact⟨refs rfl rfl rc,rc,rn⟩
   ·rename_i hl;injection h with h;subst h;have sz:(its.toArray.size != its2.toArray.size)=true:=by simp; lia
    have rc:=RcAt.lists_lengths pl.isList pl2.isList sz hu';exact⟨refs rfl rfl rc,rc,RcNeAt.lists_lengths pl.isList pl2.isList sz hu'⟩
  ·rename_i xs ys;obtain⟨p,vs,rfl,hp,rp⟩:=BRep.tup (.inl hx);obtain⟨q,us,rfl,hq,rq⟩:=BRep.tup (.inl hy);cases rx; cases ry;obtain⟨its,r,pl,_⟩:=I.tuple (SqT.of hp);obtain⟨its2,r2,pl2,_⟩:=I.tuple (SqT.of hq);have l1:=r.length;have l2:=r2.length;have l3:=rp.1;have l4:=rq.1;cases h2:zjX (eqD n) xs ys with
   |none=>rw[h2] at h; cases h
   |some d=>
    rw[h2] at h;injection h with h;obtain⟨e,he,hb⟩:=zfA h2;have rc:=RcAt.tuples pl pl2 hu' (parts rp rq r r2 he);have rn:=RcNeAt.tuples pl pl2 hu' (parts rp rq r r2 he);have hb':b=((jf (min its.toArray.size its2.toArray.size)).all e&&its.toArray.size == its2.toArray.size):=by
     rw[<-h,hb,jp,jp,show its.length=xs.length by lia,show its2.length=ys.length by lia]
    rw[<-hb'] at rc rn;exact⟨refs rfl rfl rc,rc,rn⟩
  ·obtain⟨p,vs,rfl,hp,rp⟩:=BRep.lst (.inl hx);obtain⟨q,us,rfl,hq,rq⟩:=BRep.tup (.inl hy);cases rx; cases ry;obtain⟨its,r,pl,_⟩:=I.list (SqL.of hp);obtain⟨its2,r2,pl2,_⟩:=I.tuple (SqT.of hq);injection h with h;subst h;exact⟨.list_tuple pl.isList pl2 hu',.list_tuple pl.isList pl2 hu',.list_tuple pl.isList pl2 hu'⟩
  ·obtain⟨p,vs,rfl,hp,rp⟩:=BRep.tup (.inl hx);obtain⟨q,us,rfl,hq,rq⟩:=BRep.lst (.inl hy);cases rx; cases ry;obtain⟨its,r,pl,_⟩:=I.tuple (SqT.of hp);obtain⟨its2,r2,pl2,_⟩:=I.list (SqL.of hq);injection h with h;subst h;exact⟨.tuple_list pl pl2.isList hu',.tuple_list pl pl2.isList hu',.tuple_list pl pl2.isList hu'⟩
  ·exact scs h
end
end L3
namespace L3
open PySem PySem.Spec PyProof.Rows L2
variable [TheK]
theorem BRep.all{C:Addr->Prop}{H:Hp}{v:V}{t:T}(h:BRep C H v t):Rep (fun _=>True) H v t:=by
 rcases h with h |⟨a,rfl,h⟩
 ·exact h.mono (fun _ _=>trivial) fun _ _ _ e=>e
 ·exact h.rep (fun _ _=>trivial) trivial
def gEq(x y:T):Option T:=(eqD 8 x y).map .bl
def gNe(x y:T):Option T:=(eqD 8 x y).map fun b=>.bl (!b)
def ztQ(neg:Bool):R2:=fun x y H Q=>∃ tx ty b,Rep (fun _=>True) H x tx/\Rep (fun _=>True) H y ty/\eqD 8 tx ty=some b/\Q (.bl (if neg then !b else b)) H
theorem zoU{X:Cx}(hu:X.A.units+8 < ZH):OpR X (Zg .Eq) (ztQ false):=by
 intro pins s sg H x y v u Q I rx ry h;obtain⟨tx,ty,b,hx,hy,e,q⟩:=h;exact(zte I 8 X.A hu hx hy rx ry e).2.1 _ _ _ _ ⟨.bl b,H,I,rfl,q⟩
theorem zoT{X:Cx}(hu:X.A.units+8 < ZH):OpR X (Zg .NotEq) (ztQ true):=by
 intro pins s sg H x y v u Q I rx ry h;obtain⟨tx,ty,b,hx,hy,e,q⟩:=h;exact(zte I 8 X.A hu hx hy rx ry e).2.2 _ _ _ _ ⟨.bl (!b),H,I,rfl,q⟩
theorem zwj:S2E (ztQ false) gEq:=by
 intro C H x y tx ty t Q bx by' hg q;unfold gEq at hg;cases e:eqD 8 tx ty with
 |none=>rw[e] at hg; cases hg
 |some b=>
  rw[e] at hg;injection hg with hg; subst hg;exact⟨tx,ty,b,bx.all,by'.all,e,q _ (.bl b)⟩
theorem zwh:S2E (ztQ true) gNe:=by
 intro C H x y tx ty t Q bx by' hg q;unfold gNe at hg;cases e:eqD 8 tx ty with
 |none=>rw[e] at hg; cases hg
 |some b=>
  rw[e] at hg;injection hg with hg; subst hg;exact⟨tx,ty,b,bx.all,by'.all,e,q _ (.bl (!b))⟩
def gLt:=zo7 (fun i j=>decide (i < j)) fun i j=>decide (i.cps.toList < j.cps.toList)
def gI1(p:Int->Int->Bool):T->T->Option T
 |.int i,.int j=>some (.bl (p i j))
 |_,_=>none
def gLe:=gI1 fun i j=>decide (i<=j)
def gGt:=gI1 fun i j=>decide (j < i)
def gGe:=gI1 fun i j=>decide (j<=i)
theorem zxy{p:Int->Int->Bool}:S2E (rI0 (fun i j=>.bl (p i j))) (gI1 p):=by
 intro C H x y tx ty t Q bx by' hg q;unfold gI1 at hg;split at hg
 ·injection hg with hg; subst hg;exact⟨_,_,bx.int,by'.int,q _ (.bl _)⟩
 ·cases hg
def isN:T->Option Bool
 |.non=>some true |.bl _=>some false |.int _=>some false |.str _=>some false |.lst _=>some false |.tup _=>some false |.dct _=>some false |.set _ _=>some false |.scr _=>some false
 |.fd _=>some false
 |.any=>none
def gIs(x y:T):Option T:=match x,y with
 |.bl a,.bl b=>some (.bl (a == b))
 |x,.non=>(isN x).map .bl
 |_,_=>none
def zbm(x y:T):Option T:=match x,y with
 |.bl a,.bl b=>some (.bl (a != b))
 |x,.non=>(isN x).map fun b=>.bl (!b)
 |_,_=>none
theorem zp0{C:Addr->Prop}{H:Hp}{v:V}{t:T}{b:Bool}(h:BRep C H v t)(e:isN t=some b):b=decide (v=.non):=by
 rcases h with h |⟨a,rfl,h⟩
 ·cases h<;>simp[isN] at e<;>simp[<-e]
 ·cases h<;>simp[isN] at e<;>simp[<-e]
theorem zxu:S2E (fun x y H Q=>(∃ c d,x=.bl c/\y=.bl d/\Q (.bl (c == d)) H)∨(y=.non/\Q (.bl (decide (x=.non))) H)) gIs:=by
 intro C H x y tx ty t Q bx by' hg q;unfold gIs at hg;split at hg
 ·injection hg with hg; subst hg;exact .inl ⟨_,_,bx.bl,by'.bl,q _ (.bl _)⟩
 ·obtain⟨b,e,rfl⟩:=Qm hg;have z:=zp0 bx e;refine .inr ⟨by'.non,?_⟩;rw[<-z];exact q _ (.bl _)
 ·cases hg
theorem zpL:S2E (fun x y H Q=>(∃ c d,x=.bl c/\y=.bl d/\Q (.bl (c != d)) H)∨(y=.non/\Q (.bl (!decide (x=.non))) H)) zbm:=by
 intro C H x y tx ty t Q bx by' hg q;unfold zbm at hg;split at hg
 ·injection hg with hg; subst hg;exact .inl ⟨_,_,bx.bl,by'.bl,q _ (.bl _)⟩
 ·obtain⟨b,e,rfl⟩:=Qm hg;have z:=zp0 bx e;refine .inr ⟨by'.non,?_⟩;rw[<-z];exact q _ (.bl _)
 ·cases hg
def toV:T->Option V
 |.non=>some .non |.bl b=>some (.bl b) |.int i=>some (.int i) |.str x=>some (.str x) |_=>none
def zk4:List T->Option (List V)
 |[]=>some []
 |t::ts=>(toV t).bind fun v=>(zk4 ts).map fun vs=>v::vs
theorem zlI{C:Addr->Prop}{H:Hp}{v u:V}{t:T}(h:BRep C H v t)(e:toV t=some u):u=v/\zeP v=true:=by
 cases t<;>simp[toV] at e
 ·exact⟨by rw[h.non,<-e],by rw[h.non]; rfl⟩
 ·exact⟨by rw[h.bl,<-e],by rw[h.bl]; rfl⟩
 ·exact⟨by rw[h.int,<-e],by rw[h.int]; rfl⟩
 ·exact⟨by rw[h.str,<-e],by rw[h.str]; rfl⟩
theorem zj6{C:Addr->Prop}{H:Hp}:∀ {vs us:List V} {ts:List T},Reps C H vs ts->zk4 ts=some us->us=vs/\vs.all zeP=true
 |[],us,[],_,e=>by unfold zk4 at e; injection e with e; exact⟨e.symm,rfl⟩
 |v::vs,us,[],h,_=>by have:=h.1; simp at this
 |[],us,t::ts,h,_=>by have:=h.1; simp at this
 |v::vs,us,t::ts,h,e=>by
  unfold zk4 at e;cases e1:toV t with
  |none=>rw[e1] at e; cases e
  |some a=>
   rw[e1,j5] at e;cases e2:zk4 ts with
   |none=>rw[e2] at e; cases e
   |some as=>
    rw[e2] at e;injection e with e;obtain⟨q1,q2⟩:=zlI (.inl h.head) e1;obtain⟨q3,q4⟩:=zj6 h.tail e2;exact⟨by rw[<-e,q1,q3],by rw[Y0,q2,q4]; rfl⟩
def zbt(kvs:List (Key × T))(k:Key):Option T:=(kvs.find? fun kv=>decide (kv.1=k)).map (·.2)
theorem zl8(p:Key × T)(r:List (Key × T))(k:Key):zbt (p::r) k=if p.1=k then some p.2 else zbt r k:=by
 unfold zbt;rw[QX]
 by_cases h:p.1=k
 ·rw[if_pos h,decide_eq_true h]; rfl
 ·rw[if_neg h,decide_eq_false h]
theorem RepK.tail{C:Addr->Prop}{H:Hp}{p:Key × V}{q:Key × T}{vs:List (Key × V)}{ts:List (Key × T)}(h:RepK C H (p::vs) (q::ts)):p.1=q.1/\Rep C H p.2 q.2/\RepK C H vs ts:=by
 have h1:=h.1;rw[jj,jj] at h1;injection h1 with a b;exact⟨a,h.2 0 p q rfl rfl,b,fun i v t e1 e2=>h.2 (i+1) v t (by simpa using e1) (by simpa using e2)⟩
theorem RepK.cons{C:Addr->Prop}{H:Hp}{p:Key × V}{q:Key × T}{vs:List (Key × V)}{ts:List (Key × T)}(e:p.1=q.1)(r:Rep C H p.2 q.2)(h:RepK C H vs ts):RepK C H (p::vs) (q::ts):=by
 refine⟨by rw[jj,jj,e,h.1],fun i v t e1 e2=>?_⟩
 cases i with
 |zero=>simp at e1 e2; subst e1 e2; exact r
 |succ i=>exact h.2 i v t (by simpa using e1) (by simpa using e2)
theorem RepK.look{C:Addr->Prop}{H:Hp}(k:Key):∀ {vs:List (Key × V)} {ts:List (Key × T)},RepK C H vs ts->(ze7 vs k=none/\zbt ts k=none)∨∃ v t,ze7 vs k=some v/\zbt ts k=some t/\Rep C H v t
 |[],[],_=>.inl ⟨rfl,rfl⟩
 |p::vs,[],h=>by have:=h.1; simp at this
 |[],q::ts,h=>by have:=h.1; simp at this
 |p::vs,q::ts,h=>by
  obtain⟨e,r,h'⟩:=h.tail;rw[zl8]
  by_cases hk:q.1=k
  ·rw[if_pos hk,zb8 (e.trans hk)];exact .inr ⟨_,_,rfl,rfl,r⟩
  ·rw[if_neg hk,zb9 (fun z=>hk (e.symm.trans z))];exact RepK.look k h'
def zh1:T->Option Key
 |.int i=>some (.inl i)
 |.str x=>some (.inr x)
 |_=>none
theorem zeI{C:Addr->Prop}{H:Hp}{v:V}{t:T}{k:Key}(h:BRep C H v t)(e:zh1 t=some k):v=kV k:=by
 cases t<;>simp[zh1] at e
 ·rw[h.int,<-e]; rfl
 ·rw[h.str,<-e]; rfl
def zqE(x y:T):Option Bool:=match y with
 |.lst ys=>(toV x).bind fun v=>(zk4 ys).map fun vs=>inV v vs
 |.tup ys=>(toV x).bind fun v=>(zk4 ys).map fun vs=>inV v vs
 |_=>none
def gIn(x y:T):Option T:=(zqE x y).map .bl
def ziz(x y:T):Option T:=(zqE x y).map fun b=>.bl (!b)
def zqG(x y:T):Option Bool:=match y with
 |.dct kvs=>(zh1 x).map fun k=>(zbt kvs k).isSome
 |.fd kvs=>(zh1 x).map fun k=>(zbt kvs k).isSome
 |_=>none
def zxK(x y:T):Option T:=(zqG x y).map .bl
def zjB(x y:T):Option T:=(zqG x y).map fun b=>.bl (!b)
theorem zrX{K:j8}{neg:Bool}:S2E (rIn K neg) fun x y=>(zqE x y).map fun b=>.bl (if neg then !b else b):=by
 intro C H x y tx ty t Q bx by' hg q;obtain⟨b,e,rfl⟩:=Qm hg;have fin:∀ {p vs ys},y=.ref p->(SqL K H p vs∨SqT K H p vs)->Reps C H vs ys->((toV tx).bind fun v=>(zk4 ys).map fun vs=>inV v vs)=some b->rIn K neg x y H Q:=by
  intro p vs ys e1 e2 r e5;obtain⟨v,e3,e5⟩:=Qb e5;obtain⟨us,e4,rfl⟩:=Qm e5;obtain⟨q1,q2⟩:=zlI bx e3;obtain⟨q3,q4⟩:=zj6 r e4;subst q1 q3;exact⟨p,_,e1,e2,q2,q4,q _ (.bl _)⟩
 cases ty with
 |lst ys=>
  obtain⟨p,vs,e1,e2,r⟩:=by'.lst;exact fin e1 (.inl (SqL.of e2)) r e
 |tup ys=>
  obtain⟨p,vs,e1,e2,r⟩:=by'.tup;exact fin e1 (.inr (SqT.of e2)) r e
 |_=>cases e
theorem zrZ{neg:Bool}:S2E (fun y x H Q=>∃ a o,x=.ref a/\DGet H a y o/\Q (.bl (if neg then !o.isSome else o.isSome)) H) fun x y=>(zqG x y).map fun b=>.bl (if neg then !b else b):=by
 intro C H x y tx ty t Q bx by' hg q;obtain⟨b,e,rfl⟩:=Qm hg;cases ty with
 |dct kts=>
  obtain⟨p,kvs,rfl,e2,r⟩:=by'.dct;obtain⟨k,e3,rfl⟩:=Qm (show (zh1 tx).map (fun k=>(zbt kts k).isSome)=some b from e);obtain rfl:=zeI bx e3;refine⟨p,_,rfl,DGet.k e2,?_⟩;have:(zbt kts k).isSome=(ze7 kvs k).isSome:=by
   rcases r.look k with ⟨h1,h2⟩ |⟨_,_,h1,h2,_⟩<;>rw[h1,h2]<;>rfl
  rw[<-this];exact q _ (.bl _)
 |fd kts=>
  obtain⟨p,ob,kvs,rfl,e2,r,_⟩:=by'.fd;obtain⟨k,e3,rfl⟩:=Qm (show (zh1 tx).map (fun k=>(zbt kts k).isSome)=some b from e);obtain rfl:=zeI bx e3;refine⟨p,_,rfl,.inl ⟨kvs,k,.inr ⟨ob,e2⟩,rfl,rfl⟩,?_⟩;have:(zbt kts k).isSome=(ze7 kvs k).isSome:=by
   rcases r.look k with ⟨h1,h2⟩ |⟨_,_,h1,h2,_⟩<;>rw[h1,h2]<;>rfl
  rw[<-this];exact q _ (.bl _)
 |_=>cases e
def gIx:T->T->Option T
 |.lst xs,.int i=>atI xs i
 |.tup xs,.int i=>atI xs i
 |.str x,.int i=>if x.length<=jh then (atI x.cps.toList i).map fun c=>.str ⟨#[c]⟩ else none
 |.scr ns,.int i=>(atI ns i).map .int
 |_,_=>none
def zqF(x y:T):Option T:=match x with
 |.dct kvs=>(zh1 y).bind fun k=>zbt kvs k
 |.fd kvs=>(zh1 y).bind fun k=>zbt kvs k
 |_=>none
theorem Reps.at{C:Addr->Prop}{H:Hp}{vs:List V}{ts:List T}{i:Int}{t:T}(h:Reps C H vs ts)(e:atI ts i=some t):∃ v,atI vs i=some v/\Rep C H v t:=by
 unfold atI at e ⊢;rw[h.1];cases e1:ixN ts.length i with
 |none=>rw[e1] at e; cases e
 |some j=>
  rw[e1] at e;exact h.get e
theorem zwi:S2E (rIx TheK.K) gIx:=by
 intro C H x y tx ty t Q bx by' hg q;unfold gIx at hg;split at hg
 ·obtain⟨p,vs,rfl,e2,r⟩:=bx.lst;obtain⟨v,h1,h2⟩:=r.at hg;exact .inl ⟨p,vs,_,v,rfl,by'.int,SqL.of e2,h1,q v h2⟩
 ·obtain⟨p,vs,rfl,e2,r⟩:=bx.tup;obtain⟨v,h1,h2⟩:=r.at hg;exact .inr (.inl ⟨p,vs,_,v,rfl,by'.int,SqT.of e2,h1,q v h2⟩)
 ·split at hg
  ·rename_i hl;obtain⟨c,h1,h2⟩:=Qm hg;subst h2;exact .inr (.inr ⟨_,_,c,bx.str,by'.int,hl,h1,q _ (.str _)⟩)
  ·cases hg
 ·obtain⟨p,rfl,e2⟩:=bx.scr;obtain⟨c,h1,h2⟩:=Qm hg;subst h2;refine .inl ⟨p,_,_,.int c,rfl,by'.int,e2,?_,q _ (.int c)⟩;unfold atI at h1 ⊢;rw[j6];cases e1:ixN _ _ with
  |none=>rw[e1] at h1; cases h1
  |some j=>
   rw[e1,j5] at h1;rw[j5,ji,h1];rfl
 ·cases hg
theorem zrY:S2E (fun x y H Q=>∃ a v,x=.ref a/\DGet H a y (some v)/\Q v H) zqF:=by
 intro C H x y tx ty t Q bx by' hg q;unfold zqF at hg;split at hg
 ·obtain⟨p,kvs,rfl,e2,r⟩:=bx.dct;cases e3:zh1 ty with
  |none=>rw[e3] at hg; cases hg
  |some k=>
   rw[e3,j5] at hg;obtain rfl:=zeI by' e3;rcases r.look k with ⟨h1,h2⟩ |⟨v,t',h1,h2,h3⟩
   ·rw[h2] at hg; cases hg
   ·rw[h2] at hg;injection hg with hg; subst hg;exact⟨p,v,rfl,h1▸DGet.k e2,q v h3⟩
 ·obtain⟨p,ob,kvs,rfl,e2,r,_⟩:=bx.fd;cases e3:zh1 ty with
  |none=>rw[e3] at hg; cases hg
  |some k=>
   rw[e3,j5] at hg;obtain rfl:=zeI by' e3;rcases r.look k with ⟨h1,h2⟩ |⟨v,t',h1,h2,h3⟩
   ·rw[h2] at hg; cases hg
   ·rw[h2] at hg;injection hg with hg; subst hg;exact⟨p,v,rfl,.inl ⟨kvs,k,.inr ⟨ob,e2⟩,rfl,h1.symm⟩,q v h3⟩
 ·cases hg
section
variable {X:Cx}{M:List Nat}{a b:Expr}{fa fb:DE}{pos:Pos}
theorem zxQ(hu:X.A.units+8 < ZH)(ha:PE X a (cE .e M fa))(hb:PE X b (cE .b M fb)):PE X (.Compare a [.Eq] [b] pos) (cE .e M (d2 gEq fa fb)):=weak (zjj (zoU hu) ha hb (zf6 _)) (zcU zwj)
theorem zxM(hu:X.A.units+8 < ZH)(ha:PE X a (cE .e M fa))(hb:PE X b (cE .b M fb)):PE X (.Compare a [.NotEq] [b] pos) (cE .e M (d2 gNe fa fb)):=weak (zjj (zoT hu) ha hb (zf6 _)) (zcU zwh)
theorem zqJ(ha:PE X a (cE .e M fa))(hb:PE X b (cE .b M fb))(hm:Qi .NotIn b=false):PE X (.Compare a [.NotIn] [b] pos) (cE .e M (d2 ziz fa fb)):=weak (zjj zf5 ha hb hm) (zcU (zrX (neg:=true)))
theorem zoh(hu:X.A.units+1 < ZH)(ha:PE X a (cE .e M fa))(hb:PE X b (cE .b M fb))(hm:Qi .NotIn b=false):PE X (.Compare a [.NotIn] [b] pos) (cE .e M (d2 zjB fa fb)):=weak (zsw (zim hu ha hb) hm) fun σ H Q h=>zcU (zrZ (neg:=true)) σ H Q h
theorem zxO(hK:X.K=TheK.K)(ha:PE X a (cE .e M fa))(hb:PE X b (cE .b M fb))(hs:ze6 b):PE X (.Subscript a b pos) (cE .e M (d2 gIx fa fb)):=weak (zsu (hK▸zoY) ha hb hs) (zcU zwi)
theorem zvO{i:Nat}(hK:X.K=TheK.K)(hi:M.contains i=true)(ha:PE X a (zcT i))(hb:PE X b (cE .b M fb))(hs:ze6 b):PE X (.Subscript a b pos) (cE .e M (d2v gIx i fb)):=weak (zsu (hK▸zoY) ha hb hs) (zoD hi zwi)
theorem zvR(hu:X.A.units+1 < ZH)(ha:PE X a (cE .e M fa))(hb:PE X b (cE .b M fb))(hs:ztX b):PE X (.Subscript a b pos) (cE .e M (d2 zqF fa fb)):=weak (zji hu ha hb hs) fun σ H Q h=>zcU zrY σ H Q h
theorem ztj{i:Nat}(hi:M.contains i=true)(hu:X.A.units+1 < ZH)(ha:PE X a (zcT i))(hb:PE X b (cE .b M fb))(hs:ztX b):PE X (.Subscript a b pos) (cE .e M (d2v zqF i fb)):=weak (zji hu ha hb hs) fun σ H Q h=>zoD hi zrY σ H Q h
end
def dB(f:DE):DT:=fun s=>(f s).bind fun p=>match p.1 with
 |.bl b=>some (b,p.2)
 |_=>none
theorem zjN{f:DE}{s s':Sg}{b:Bool}(h:dB f s=some (b,s')):f s=some (.bl b,s'):=by
 obtain⟨p,h1,h2⟩:=Qb h;obtain⟨t,s1⟩:=p;cases t<;>simp at h2
 rw[h1,h2.1,h2.2]
theorem tst{M:List Nat}{f:DE}{t:TE}(h:∀ σ H Q,cE .e M f σ H Q->t σ H Q):∀ σ H Q,cT M (dB f) σ H Q->zrC t σ H Q:=by
 intro σ H Q h_;refine cT_ h_ fun F O s b s' R hf q=>?_;exact h σ H _ ⟨F,O,s,.bl b,s',R,zjN hf,fun v H' S p=>⟨b,BRep.bl (.inl p.2),q H' S p.1⟩⟩
def tru:T->Option Bool
 |.non=>some false |.bl b=>some b |.int i=>some (i != 0)
 |.str x=>if x.length<=jh then some ((x.length:Int) != 0) else none
 |.lst xs=>some (!xs.isEmpty) |.tup xs=>some (!xs.isEmpty) |.dct xs=>some (!xs.isEmpty)
 |_=>none
theorem zg8{α β:Type}{xs:List α}{ys:List β}(h:xs.length=ys.length):(!ys.isEmpty)=!xs.isEmpty:=by
 cases xs<;>cases ys<;>simp at h<;>rfl
theorem zps{K:j8}{C:Addr->Prop}{H:Hp}{v:V}{t:T}{b:Bool}(h:BRep C H v t)(e:tru t=some b):zw2 K v H b:=by
 cases t with
 |non=>rw[h.non]; injection e with e; exact e.symm
 |bl x=>rw[h.bl]; injection e with e; exact e.symm
 |int x=>rw[h.int]; injection e with e; exact e.symm
 |str x=>
  rw[h.str]
  by_cases hl:x.length<=jh
  ·have e':(if x.length<=jh then some ((x.length:Int) != 0) else none)=some b:=e
   rw[if_pos hl] at e';injection e' with e';exact⟨hl,e'.symm⟩
  ·have e':(if x.length<=jh then some ((x.length:Int) != 0) else none)=some b:=e
   rw[if_neg hl] at e';cases e'
 |lst xs=>
  obtain⟨p,vs,rfl,e2,r⟩:=h.lst;injection e with e;exact .inl ⟨vs,SqL.of e2,by rw[<-e]; exact zg8 r.1⟩
 |tup xs=>
  obtain⟨p,vs,rfl,e2,r⟩:=h.tup;injection e with e;exact .inr (.inl ⟨vs,SqT.of e2,by rw[<-e]; exact zg8 r.1⟩)
 |dct xs=>
  obtain⟨p,vs,rfl,e2,r⟩:=h.dct;injection e with e;have l:vs.length=xs.length:=by simpa using congrArg ge r.1
  exact .inr (.inr ⟨vs,e2,by rw[<-e]; exact zg8 l⟩)
 |_=>cases e
def zgm(f:DE):DT:=fun s=>(f s).bind fun p=>(tru p.1).map fun b=>(b,p.2)
def ziL(f g:DT):DT:=fun s=>(f s).bind fun p=>if p.1 then g p.2 else some (false,p.2)
def dOr(f g:DT):DT:=fun s=>(f s).bind fun p=>if p.1 then some (true,p.2) else g p.2
def znl(f:DT):DT:=fun s=>(f s).map fun p=>(!p.1,p.2)
def zjO(f g:DE):DE:=fun s=>(dB f s).bind fun p=>if p.1 then g p.2 else some (.bl false,p.2)
def dIf(c:DT)(f g:DE):DE:=fun s=>(c s).bind fun p=>if p.1 then f p.2 else g p.2
section
variable {X:Cx}{M:List Nat}{a b c:Expr}{fa fb:DE}{ft fu:DT}{pos:Pos}{k:Kd}
theorem zuI(h:PE X a (cE .b M fa))(he:∀ whole,WV a X.env whole=(do let v <-whole; Jm a.pos; Y5 [v] (truthy v)):=by intro _; rfl):PT X a (cT M (zgm fa)):=zfD (znK h he) (by
 intro σ H Q h_;refine cT_ h_ fun F O s b s' R hf q=>?_;obtain⟨p,h1,h2⟩:=Qb hf;obtain⟨b',h3,h4⟩:=Qm h2;injection h4 with h4 h5;subst h4 h5
 exact⟨F,O,s,p.1,p.2,R,h1,fun v H' S po=>⟨b',zps po.view h3,q H' S po.1⟩⟩)
theorem zxf(hu:X.A.units+8 < ZH)(ha:PE X a (cE .e M fa))(hb:PE X b (cE .b M fb)):PT X (.Compare a [.Eq] [b] pos) (cT M (dB (d2 gEq fa fb))):=zfD (zdZ (zoU hu) ha hb (zf6 _)) (tst (zcU zwj))
theorem zxb(hu:X.A.units+8 < ZH)(ha:PE X a (cE .e M fa))(hb:PE X b (cE .b M fb)):PT X (.Compare a [.NotEq] [b] pos) (cT M (dB (d2 gNe fa fb))):=zfD (zdZ (zoT hu) ha hb (zf6 _)) (tst (zcU zwh))
theorem zxc(ha:PE X a (cE .e M fa))(hb:PE X b (cE .b M fb)):PT X (.Compare a [.Lt] [b] pos) (cT M (dB (d2 gLt fa fb))):=zfD (zdZ (op_lt.or zmj) ha hb (zf6 _)) (tst (zcU zuY))
theorem zxe(ha:PE X a (cE .e M fa))(hb:PE X b (cE .b M fb)):PT X (.Compare a [.Gt] [b] pos) (cT M (dB (d2 gGt fa fb))):=zfD (zdZ zvb ha hb (zf6 _)) (tst (zcU zxy))
theorem zxd(ha:PE X a (cE .e M fa))(hb:PE X b (cE .b M fb)):PT X (.Compare a [.Is] [b] pos) (cT M (dB (d2 gIs fa fb))):=zfD (zdZ (op_isF.or zsE) ha hb (zf6 _)) (tst (zcU zxu))
theorem zpu(ha:PE X a (cE .e M fa))(hb:PE X b (cE .b M fb)):PT X (.Compare a [.IsNot] [b] pos) (cT M (dB (d2 zbm fa fb))):=zfD (zdZ (op_isnotF.or zqf) ha hb (zf6 _)) (tst (zcU zpL))
theorem zpt(ha:PE X a (cE .e M fa))(hb:PE X b (cE .b M fb))(hm:Qi .NotIn b=false):PT X (.Compare a [.NotIn] [b] pos) (cT M (dB (d2 ziz fa fb))):=zfD (zdZ zf5 ha hb hm) (tst (zcU (zrX (neg:=true))))
theorem znr(hu:X.A.units+1 < ZH)(ha:PE X a (cE .e M fa))(hb:PE X b (cE .b M fb))(hm:Qi .NotIn b=false):PT X (.Compare a [.NotIn] [b] pos) (cT M (dB (d2 zjB fa fb))):=zfD (zoO (zim hu ha hb) hm) fun σ H Q h=>tst (zcU (zrZ (neg:=true))) σ H Q h
theorem zuJ(h:PT X a (cT M ft)):PT X (.UnaryOp .Not a pos) (cT M (znl ft)):=zfD (zsg h) (by
 intro σ H Q h_;refine cT_ h_ fun F O s b s' R hf q=>?_;obtain⟨p,h1,h2⟩:=Qm hf;injection h2 with h2 h3;subst h2 h3
 exact⟨F,O,s,p.1,p.2,R,h1,fun H' S R'=>q H' S R'⟩)
theorem zrd(h:PT X a (cT M ft)):PW X (.BoolOp .And [a] pos) (cT M ft):=zq1 h
theorem zu2(h:PT X a (cT M ft)):PW X (.BoolOp .Or [a] pos) (cT M ft):=zsd h
theorem zu3{rest:List Expr}(ha:PT X a (cT M ft))(hb:PW X (.BoolOp .And (b::rest) pos) (cT M fu)):PW X (.BoolOp .And (a::b::rest) pos) (cT M (ziL ft fu)):=zra (zse ha hb) (by
 intro σ H Q h_;refine cT_ h_ fun F O s b s' R hf q=>?_;obtain⟨p,h1,h2⟩:=Qb hf;refine⟨F,O,s,p.1,p.2,R,h1,fun H' S R'=>?_⟩;split at h2
 ·rename_i hp;rw[if_pos hp];exact⟨F,O,p.2,b,s',R',h2,fun H2 S2 R2=>q H2 (S.trans S2) R2⟩
 ·rename_i hp;rw[if_neg hp];injection h2 with h2;injection h2 with h2 h3;subst h2 h3
  exact q H' S R')
theorem zwJ{rest:List Expr}(ha:PT X a (cT M ft))(hb:PW X (.BoolOp .Or (b::rest) pos) (cT M fu)):PW X (.BoolOp .Or (a::b::rest) pos) (cT M (dOr ft fu)):=zra (zv5 ha hb) (by
 intro σ H Q h_;refine cT_ h_ fun F O s b s' R hf q=>?_;obtain⟨p,h1,h2⟩:=Qb hf;refine⟨F,O,s,p.1,p.2,R,h1,fun H' S R'=>?_⟩;split at h2
 ·rename_i hp;rw[if_pos hp];injection h2 with h2;injection h2 with h2 h3;subst h2 h3;exact q H' S R'
 ·rename_i hp;rw[if_neg hp]
  exact⟨F,O,p.2,b,s',R',h2,fun H2 S2 R2=>q H2 (S.trans S2) R2⟩)
theorem zvH{op}(h:PE X a (cE .e M fa)):PE X (.BoolOp op [a] pos) (cE .e M fa):=zss h
theorem zvU{rest:List Expr}(ha:PE X a (cE .e M fa))(hb:PE X (.BoolOp .And (b::rest) pos) (cE .e M fb)):PE X (.BoolOp .And (a::b::rest) pos) (cE .e M (zjO fa fb)):=weak (zsz ha hb) (by
 intro σ H Q h_;refine cE_ h_ fun F O s t s' R hf q=>?_;obtain⟨p,h1,h2⟩:=Qb hf;refine⟨F,O,s,.bl p.1,p.2,R,zjN h1,fun v H' S po=>⟨p.1,BRep.bl (.inl po.2),?_⟩⟩;split at h2
 ·rename_i hp;rw[if_pos hp];exact⟨F,O,p.2,t,s',po.1,h2,fun w H2 S2 p2=>q w H2 (S.trans S2) p2⟩
 ·rename_i hp;rw[if_neg hp];injection h2 with h2;injection h2 with h2 h3;subst h2 h3
  exact q _ H' S ⟨po.1,.bl false⟩)
theorem zxP(hc:PT X c (cT M ft))(ha:PE X a (cE .e M fa))(hb:PE X b (cE .e M fb)):PE X (.IfExp c a b pos) (cE .e M (dIf ft fa fb)):=weak (znR hc ha hb) (by
 intro σ H Q h_;refine cE_ h_ fun F O s t s' R hf q=>?_;obtain⟨p,h1,h2⟩:=Qb hf;refine⟨F,O,s,p.1,p.2,R,h1,fun H' S R'=>?_⟩;split at h2
 ·rename_i hp;rw[if_pos hp];exact⟨F,O,p.2,t,s',R',h2,fun w H2 S2 p2=>q w H2 (S.trans S2) p2⟩
 ·rename_i hp;rw[if_neg hp]
  exact⟨F,O,p.2,t,s',R',h2,fun w H2 S2 p2=>q w H2 (S.trans S2) p2⟩)
end
def dAn:DA:=fun s=>some ([],s)
def dAc(f:DE)(g:DA):DA:=fun s=>(f s).bind fun p=>(g p.2).map fun q=>(p.1::q.1,q.2)
def zdO(f:DA):DE:=fun s=>(f s).bind fun p=>if p.1.length<=jh then some (.lst p.1,p.2) else none
def zlu(f:DA):DE:=fun s=>(f s).bind fun p=>if p.1.length<=jh then some (.tup p.1,p.2) else none
section
variable {X:Cx}{M:List Nat}{e:Expr}{es:List Expr}{fe:DE}{fa:DA}{pos:Pos}
theorem zw1:PA X [] (cA M dAn):=zrc zdb (by
 rintro σ H Q ⟨F,O,s,ts,s',R,hf,q⟩;injection hf with hf;injection hf with h1 h2;subst h1 h2
 exact q [] H .refl R .nil)
theorem ztD(h:PE X e (cE .e M fe))(ha:PA X es (cA M fa))(hs:jb (e::es) X.env=(false,eval e X.env)::jb es X.env:=by rfl):PA X (e::es) (cA M (dAc fe fa)):=zrc (zbf h ha hs) (by
 rintro σ H Q ⟨F,O,s,ts,s',R,hf,q⟩;obtain⟨p,h1,h2⟩:=Qb hf;obtain⟨r,h3,h4⟩:=Qm h2;injection h4 with h4 h5;subst h4 h5;refine⟨F,O,s,p.1,p.2,R,h1,fun v H1 S1 p1=>⟨F,O,p.2,r.1,r.2,p1.1,h3,fun vs H2 S2 R2 rs=>?_⟩⟩
 exact q _ H2 (S1.trans S2) R2 (.cons (p1.1.stay S2 p1.2) rs))
theorem zvM(h:PA X es (cA M fa)):PE X (.List es pos) (cE .n M (zdO fa)):=weak (zoR h) (by
 intro σ H Q h_;refine cE_ h_ fun F O s t s' R hf q=>?_;obtain⟨p,h1,h2⟩:=Qb hf;split at h2
 ·rename_i hl;injection h2 with h2;injection h2 with h2 h3;subst h2 h3;refine⟨F,O,s,p.1,p.2,R,h1,fun vs H1 S1 R1 rs=>⟨by rw[rs.1]; exact hl,fun a ha=>?_⟩⟩
  exact q _ _ (S1.trans (.new ha _)) (.mkN R R1 S1 ha fun C hC=>.lst zae (rs.there.mono hC fun c o _ e=>by rw[za5 (za6 e ha)]; exact e))
 ·cases h2)
theorem zvy{x1}(h:PA X es (cA M fa)):PE X (.Tuple es x1 pos) (cE .e M (zlu fa)):=weak (zsp h) (by
 intro σ H Q h_;refine cE_ h_ fun F O s t s' R hf q=>?_;obtain⟨p,h1,h2⟩:=Qb hf;split at h2
 ·rename_i hl;injection h2 with h2;injection h2 with h2 h3;subst h2 h3;refine⟨F,O,s,p.1,p.2,R,h1,fun vs H1 S1 R1 rs=>⟨by rw[rs.1]; exact hl,fun a ha=>?_⟩⟩
  refine q _ _ (S1.trans (.new ha _)) (.mkE R1 ha fun C hC hp=>?_);have:=rs.there.mono (C':=C) (H':=upd H1 a (.tup vs)) hC fun c o _ e=>by rw[za5 (za6 e ha)]; exact e
  exact .tup hp zae this.1 this.2
 ·cases h2)
def zln:DE:=fun s=>some (.dct [],s)
theorem ztk:PE X (.Dict [] [] pos) (cE .n M zln):=weak zkk (by
 intro σ H Q h_;refine cE_ h_ fun F O s t s' R hf q=>?_;injection hf with hf;injection hf with h1 h2;subst h1 h2;intro a ha
 exact q _ _ (.new ha _) (.mkN R R .refl ha fun C hC=>.dct zae ⟨rfl,fun i v t e=>by simp at e⟩))
end
abbrev DO:=Sg->Option (Option Int × Sg)
def cO(M:List Nat)(f:DO):TO:=fun σ H Q=>∃ F O s t s',Rel F O M s σ H/\f s=some (t,s')/\∀ H',Step σ M H H'->Rel F O M s' σ H'->Q t H'
def dOn:DO:=fun s=>some (none,s)
def dOs(f:DE):DO:=fun s=>(f s).bind fun p=>match p.1 with
 |.int i=>some (some i,p.2)
 |_=>none
def zkF{α:Type}(xs:List α)(lo hi:Option Int):List α:=(xs.drop (HT.sIx xs.length 0 lo)).take (HT.sIx xs.length xs.length hi - HT.sIx xs.length 0 lo)
def gSl(t:T)(lo hi:Option Int):Option T:=match t with
 |.lst xs=>some (.lst (zkF xs lo hi))
 |.scr ns=>some (.lst ((zkF ns lo hi).map .int))
 |_=>none
def zqC(t:T)(lo hi:Option Int):Option T:=match t with
 |.str x=>if x.length<=jh then some (.str (W7 x lo hi)) else none
 |_=>none
def dSl(g:T->Option Int->Option Int->Option T)(f:DE)(l h:DO):DE:=fun s=>(f s).bind fun p=>(l p.2).bind fun q=>(h q.2).bind fun r=>(g p.1 q.1 r.1).map fun t=>(t,r.2)
def zp7(g:T->Option Int->Option Int->Option T)(i:Nat)(l h:DO):DE:=fun s=>(s[i]?).join.bind fun _=>(l s).bind fun q=>(h q.2).bind fun r=>(r.2[i]?).join.bind fun x=>(g x q.1 r.1).map fun t=>(t,r.2)
theorem Reps.cut{C:Addr->Prop}{H:Hp}{vs:List V}{ts:List T}(h:Reps C H vs ts)(lo hi:Option Int):Reps C H (zpa vs lo hi) (zkF ts lo hi):=by
 unfold zpa zkF;rw[h.1];exact(h.drop _).take _
theorem zej{C:Addr->Prop}{H:Hp}:∀(ns:List Int),Reps C H (ns.map V.int) (ns.map T.int)
 |[]=>.nil
 |n::ns=>.cons (.int n) (zej ns)
def S3N(r:V->Option Int->Option Int->Hp->VK->Prop)(g:T->Option Int->Option Int->Option T):Prop:=∀(C:Addr->Prop) (H:Hp) x lo hi tx t (Q:VK),BRep C H x tx->g tx lo hi=some t->
 (∀ p o,H p=none->(∀ C':Addr->Prop,(∀ b,C b/\H b≠none->C' b)->Live C' (upd H p o) p t)->Q (.ref p) (upd H p o))->r x lo hi H Q
theorem zwg:S3N (zwk TheK.K) gSl:=by
 intro C H x lo hi tx t Q bx hg q;cases tx<;>simp[gSl] at hg
 ·subst hg;obtain⟨a,vs,rfl,ha,ra⟩:=bx.lst;refine⟨a,vs,rfl,SqL.of ha,fun p hp=>q p _ hp fun C' hC=>?_⟩;exact .lst zae ((ra.cut lo hi).there.mono hC fun c o _ e=>by rw[za5 (za6 e hp)]; exact e)
 ·rename_i ns;subst hg;obtain⟨a,rfl,ha⟩:=bx.scr;refine⟨a,_,rfl,ha,fun p hp=>q p _ hp fun C' hC=>.lst zae ?_⟩;have:zpa (ns.map V.int) lo hi=(zkF ns lo hi).map V.int:=by
   unfold zpa zkF;rw[j6,<-YW,<-YX]
  rw[this];exact zej _
section
variable {X:Cx}{M:List Nat}{e:Expr}{lo hi:Option Expr}{fe:DE}{fl fh:DO}{pos p2:Pos}
theorem zsI:PO X none (cO M dOn):=fun pins s σ H Q I h=>by
 obtain⟨F,O,s',t,s'',R,hf,q⟩:=h;injection hf with hf;injection hf with h1 h2;subst h1 h2;exact zq7 pins s σ H Q I (q H .refl R)
theorem zsH(h:PE X e (cE .e M fe)):PO X (some e) (cO M (dOs fe)):=fun pins s σ H Q I hw=>by
 obtain⟨F,O,s',t,s'',R,hf,q⟩:=hw;obtain⟨⟨t',s1⟩,h1,h2⟩:=Qb hf;cases t'<;>simp at h2
 rename_i i;obtain⟨h2,h3⟩:=h2;subst h2 h3;exact zq6 h pins s σ H Q I ⟨F,O,s',.int i,s1,R,h1,fun v H' S p=>⟨i,BRep.int (.inl p.2),q H' S p.1⟩⟩
theorem zxq{g:T->Option Int->Option Int->Option T}{r:V->Option Int->Option Int->Hp->VK->Prop}(hs:S3N r g):∀ σ H Q,cE .n M (dSl g fe fl fh) σ H Q->tSl r (cE .e M fe) (cO M fl) (cO M fh) σ H Q:=by
 intro σ H Q h_;refine cE_ h_ fun F O s t s' R hf q=>?_;obtain⟨p,h1,h2⟩:=Qb hf;obtain⟨l,h3,h4⟩:=Qb h2;obtain⟨u,h5,h6⟩:=Qb h4;obtain⟨t',h7,h8⟩:=Qm h6;injection h8 with h8 h9;subst h8 h9;refine⟨F,O,s,p.1,p.2,R,h1,fun v H1 S1 p1=>⟨F,O,p.2,l.1,l.2,p1.1,h3,fun H2 S2 R2=>⟨F,O,l.2,u.1,u.2,R2,h5,fun H3 S3 R3=>?_⟩⟩⟩;have S:=(S1.trans S2).trans S3;exact hs (Free F O) H3 v l.1 u.1 p.1 t' Q (.inl (R2.stay S3 (p1.1.stay S2 p1.2))) h7 fun a o ha L=>q _ _ (S.trans (.new ha o)) (.mkN R R3 S ha L)
theorem zuQ{g:T->Option Int->Option Int->Option T}{r:V->Option Int->Option Int->Hp->VK->Prop}{i:Nat}(hi:M.contains i=true)(hs:S3N r g):∀ σ H Q,cE .n M (zp7 g i fl fh) σ H Q->tSl r (zcT i) (cO M fl) (cO M fh) σ H Q:=by
 intro σ H Q h_;refine cE_ h_ fun F O s t s' R hf q=>?_;obtain⟨x0,h0,hf⟩:=Qb hf;obtain⟨l,h3,h4⟩:=Qb hf;obtain⟨u,h5,h6⟩:=Qb h4;obtain⟨x,h6',h6⟩:=Qb h6;obtain⟨t',h7,h8⟩:=Qm h6;injection h8 with h8 h9;subst h8 h9;have hi':i∈M:=by simpa using hi
 obtain⟨a,e1,_⟩:=R.own i x0 (zag h0) hi';refine⟨_,e1,F,O,s,l.1,l.2,R,h3,fun H2 S2 R2=>⟨F,O,l.2,u.1,u.2,R2,h5,fun H3 S3 R3=>?_⟩⟩;have S:=S2.trans S3;obtain⟨v,e2,B⟩:=zhl hi' R R3 (zag h0) (zag h6');rw[e1] at e2;injection e2 with e2;injection e2 with e2;subst e2;exact hs (Free F O) H3 _ l.1 u.1 x t' Q B h7 fun a o ha L=>q _ _ (S.trans (.new ha o)) (.mkN R R3 S ha L)
theorem zxL(hK:X.K=TheK.K)(he:PE X e (cE .e M fe))(hl:PO X lo (cO M fl))(hu:PO X hi (cO M fh)):PE X (.Subscript e (.Slice lo hi none p2) pos) (cE .n M (dSl gSl fe fl fh)):=weak (zhu (hK▸zlN) he hl hu) (zxq zwg)
theorem zvB{i:Nat}(hK:X.K=TheK.K)(hi':M.contains i=true)(he:PE X e (zcT i))(hl:PO X lo (cO M fl))(hu:PO X hi (cO M fh)):PE X (.Subscript e (.Slice lo hi none p2) pos) (cE .n M (zp7 gSl i fl fh)):=weak (zhu (hK▸zlN) he hl hu) (zuQ hi' zwg)
theorem zvC(he:PE X e (cE .e M fe))(hl:PO X lo (cO M fl))(hu:PO X hi (cO M fh)):PE X (.Subscript e (.Slice lo hi none p2) pos) (cE .e M (dSl zqC fe fl fh)):=weak (zhu zrN he hl hu) (by
 intro σ H Q h_;refine cE_ h_ fun F O s t s' R hf q=>?_;obtain⟨p,h1,h2⟩:=Qb hf;obtain⟨l,h3,h4⟩:=Qb h2;obtain⟨u,h5,h6⟩:=Qb h4;obtain⟨t',h7,h8⟩:=Qm h6;injection h8 with h8 h9;subst h8 h9;refine⟨F,O,s,p.1,p.2,R,h1,fun v H1 S1 p1=>⟨F,O,p.2,l.1,l.2,p1.1,h3,fun H2 S2 R2=>⟨F,O,l.2,u.1,u.2,R2,h5,fun H3 S3 R3=>?_⟩⟩⟩;have S:=(S1.trans S2).trans S3;obtain⟨pt,ps⟩:=p;cases pt<;>simp[zqC] at h7
 rename_i x;obtain⟨h7,h8⟩:=h7
 exact⟨x,BRep.str (.inl p1.2),h7,q _ _ S ⟨R3,by rw[<-h8]; exact .str _⟩⟩)
end
inductive Fl where
 |nx (s:Sg) |rt (t:T) (s:Sg) |bk (s:Sg) |ct (s:Sg)
abbrev DS:=Sg->Option Fl
structure Ios (F:Fr) (io M:List Nat) (σ:L2.St):Prop where
 at_:∀(i:Nat),i∈io->i∈M/\σ[i]?=some (some (.ref (F.adr i)))
 D:∀ a,F.D a->∃ j,j∈io/\a=F.adr j
def KeepO(O:Addr->Prop)(H:Hp)(O':Addr->Prop)(H':Hp):Prop:=(∀ b o,¬ O b->H b=some o->H' b=some o/\¬ O' b)/\∀ b,H' b=none->H b=none
def C1(F:Fr):Addr->Prop:=fun b=>¬ F.D b/\(F.C0 b∨F.H0 b=none)
structure RetOk (F:Fr) (rk:Kd) (io:List Nat) (s':Sg) (t:T) (v:V) (H':Hp):Prop where
 keep:∀ b o,¬ F.D b->F.H0 b=some o->H' b=some o
 dom:∀ b,H' b=none->F.H0 b=none
 res:match rk with
  |.n=>∃ r,v=.ref r/\F.H0 r=none/\¬ F.D r/\Live (fun b=>C1 F b/\b≠r) H' r t/\∀(i:Nat),i∈io->∃ t',s'[i]?=some (some t')/\Live (fun b=>C1 F b/\b≠r) H' (F.adr i) t'
  |.b=>Rep (fun b=>F.H0 b=none) H' v t
  |.e=>Rep (C1 F) H' v t/\∀(i:Nat),i∈io->∃ t',s'[i]?=some (some t')/\Live (C1 F) H' (F.adr i) t'
def EndOk(F:Fr)(rk:Kd)(io M' Mb:List Nat)(O:Addr->Prop)(H:Hp)(D:Ends):Fl->Prop
 |.nx s'=>∀ O' σ' H',KeepO O H O' H'->Rel F O' M' s' σ' H'->Ios F io M' σ'->D.nx σ' H'
 |.bk s'=>∀ O' σ' H',KeepO O H O' H'->Rel F O' Mb s' σ' H'->Ios F io Mb σ'->D.bk σ' H'
 |.ct s'=>∀ O' σ' H',KeepO O H O' H'->Rel F O' Mb s' σ' H'->Ios F io Mb σ'->D.ct σ' H'
 |.rt t s'=>∀ v H',RetOk F rk io s' t v H'->D.rt v H'
def cS(rk:Kd)(io M M' Mb:List Nat)(d:DS):TS:=fun D σ H=>∃ F O s r,Rel F O M s σ H/\Ios F io M σ/\d s=some r/\EndOk F rk io M' Mb O H D r
theorem cS_{rk:Kd}{io M M' Mb:List Nat}{d:DS}{D:_}{σ:L2.St}{H:Hp}(h:cS rk io M M' Mb d D σ H){G:Prop}(g:∀ F O s r,Rel F O M s σ H->Ios F io M σ->d s=some r->EndOk F rk io M' Mb O H D r->G):G:=by
 obtain⟨F,O,s,r,R,I,hd,q⟩:=h;exact g F O s r R I hd q
section
variable {F:Fr}{O O' O'':Addr->Prop}{io M M' Mb:List Nat}{s s':Sg}{σ:L2.St}{H H' H'':Hp}{v:V}{t:T}{a:Addr}{rk:Kd}
theorem KeepO.refl:KeepO O H O H:=⟨fun _ _ n h=>⟨h,n⟩,fun _ h=>h⟩
theorem KeepO.trans(x:KeepO O H O' H')(y:KeepO O' H' O'' H''):KeepO O H O'' H'':=⟨fun b o n h=>by
 obtain⟨h1,n1⟩:=x.1 b o n h
 exact y.1 b o n1 h1,fun b h=>x.2 b (y.2 b h)⟩
theorem Step.keepO(S:Step σ M H H')(R:Rel F O M s σ H):KeepO O H O H':=⟨fun b o n h=>⟨S.keep b o (R.notOwned n) h,n⟩,S.dom⟩
theorem EndOk.more{D:Ends}{r:Fl}(h:EndOk F rk io M' Mb O H D r)(k:KeepO O H O' H'):EndOk F rk io M' Mb O' H' D r:=by
 cases r with
 |nx s'=>exact fun O2 σ2 H2 k2=>h O2 σ2 H2 (k.trans k2)
 |bk s'=>exact fun O2 σ2 H2 k2=>h O2 σ2 H2 (k.trans k2)
 |ct s'=>exact fun O2 σ2 H2 k2=>h O2 σ2 H2 (k.trans k2)
 |rt t s'=>exact h
theorem Rel.freeze(R:Rel F O M s σ H)(I:Ios F io M σ)(hM:∀ i,i∈M'->i∈M)(hio:∀ i,i∈io->i∈M'):∃ O',(∀ b,O' b->O b)/\Rel F O' M' s σ H/\Ios F io M' σ:=by
 refine⟨fun b=>O b/\¬ ∃ j:Nat,j∈M/\j∉M'/\σ[j]?=some (some (.ref b)),fun b z=>z.1,?_,⟨fun i hi=>⟨hio i hi,(I.at_ i hi).2⟩,I.D⟩⟩;have w:∀ b,(O b/\¬ ∃ j:Nat,j∈M/\j∉M'/\σ[j]?=some (some (.ref b)))->O b:=fun b z=>z.1;have notD:∀(i:Nat) b,i∈M->i∉M'->σ[i]?=some (some (.ref b))->¬ F.D b:=fun i b hi hi' e z=>by
  obtain⟨j,hj,rfl⟩:=I.D b z;obtain⟨h1,h2⟩:=I.at_ j hj;have:=R.dis i j _ hi h1 e h2;subst this;exact hi' (hio i hj)
 refine⟨R.len,fun i t e n=>?_,fun i t e n=>?_,fun i b hi e=>⟨R.ow i b (hM i hi) e,fun⟨j,h1,h2,h3⟩=>?_⟩,fun i j b hi hj=>R.dis i j b (hM i hi) (hM j hj),R.keep,R.dom,fun b z=>R.fresh b z.1,fun b z=>⟨R.inD b z,fun⟨j,h1,h2,h3⟩=>notD j b h1 h2 h3 z⟩,fun b z=>R.al b z.1⟩
 ·by_cases hi:i∈M
  ·obtain⟨b,h1,L⟩:=R.own i t e hi;refine⟨_,h1,L.rep (fun c z=>z.weak w) ⟨fun z=>z.2 ⟨i,hi,n,h1⟩,?_⟩⟩;rcases R.fresh b (R.ow i b hi h1) with z |z
   ·exact absurd z (notD i b hi n h1)
   ·exact .inr z
  ·obtain⟨v,h1,h2⟩:=R.val i t e hi;exact⟨v,h1,h2.mono (fun _ c=>c.weak w) fun _ _ _ e=>e⟩
 ·obtain⟨b,h1,h2⟩:=R.own i t e (hM i n);exact⟨b,h1,h2.mono (fun _ c=>c.weak w) (fun _ _ _ e=>e) fun _ e=>e⟩
 ·have:=R.dis j i b h1 (hM i hi) h3 e;subst this;exact h2 hi
theorem zcJ{A B:List Nat}(h:A.all (B.contains ·)=true):∀ i,i∈A->i∈B:=fun i hi=>by simpa using jt.mp h i hi
theorem zuU{X:Cx}{st:Stmt}{d:DS}{Mx:List Nat}(h:PS X st (cS rk io M' Mx Mb d))(hM:M'.all (M.contains ·)=true:=by rfl)(hio:io.all (M'.contains ·)=true:=by rfl):PS X st (cS rk io M Mx Mb d):=zdL h (by
 intro D σ H h_;refine cS_ h_ fun F O s r R I hd q=>?_;obtain⟨O',w,R',I'⟩:=R.freeze I (zcJ hM) (zcJ hio)
 exact⟨F,O',s,r,R',I',hd,q.more ⟨fun b o n h=>⟨h,fun z=>n (w b z)⟩,fun _ h=>h⟩⟩)
theorem zod{D:Ends}{r:Fl}{Mx:List Nat}(hM:∀ i,i∈Mx->i∈M')(hio:∀ i,i∈io->i∈Mx)(h:EndOk F rk io Mx Mb O H D r):EndOk F rk io M' Mb O H D r:=by
 cases r with
 |nx s'=>
  intro O' σ' H' k R I;obtain⟨O2,w,R',I'⟩:=R.freeze I hM hio;exact h O2 σ' H' (k.trans ⟨fun b o n h=>⟨h,fun z=>n (w b z)⟩,fun _ h=>h⟩) R' I'
 |bk s'=>exact h
 |ct s'=>exact h
 |rt t s'=>exact h
theorem zpy{X:Cx}{st:List Stmt}{d:DS}{Mx:List Nat}(h:PSs X st (cS rk io M M' Mb d))(hM:Mx.all (M'.contains ·)=true:=by rfl)(hio:io.all (Mx.contains ·)=true:=by rfl):PSs X st (cS rk io M Mx Mb d):=zlz h (by
 intro D σ H h_;refine cS_ h_ fun F O s r R I hd q=>?_
 exact⟨F,O,s,r,R,I,hd,zod (zcJ hM) (zcJ hio) q⟩)
theorem Rel.write{i:Nat}{t0 t':T}{o:HO}(R:Rel F O M s σ H)(hi:i∈M)(e:σ[i]?=some (some (.ref a)))(hs:s[i]?=some (some t0))(L:∀ H1,(∀ b u,Free F O b->H b=some u->H1 b=some u)->H1 a=some o->Live (Free F O) H1 a t'):Rel F O M (s.set i (some t')) σ (upd H a o):=by
 have oa:=R.ow i a hi e;have k:∀ b u,Free F O b->H b=some u->upd H a o b=some u:=fun b u c q=>(za5 (fun z:b=a=>c.1 (z▸oa))).trans q;have hl:i < s.length:=(j9.mp hs).1;refine⟨by rw[Q2]; exact R.len,fun j t e' n=>?_,fun j t e' n=>?_,R.ow,R.dis,fun b u n q=>?_,fun b q=>?_,R.fresh,R.inD,fun b z=>?_⟩
 ·have hij:i≠j:=fun z=>n (z▸hi);rw[jn hij] at e';obtain⟨v,h1,h2⟩:=R.val j t e' n;exact⟨v,h1,h2.mono (fun _ c=>c) k⟩
 ·by_cases hij:i=j
  ·subst hij;rw[jP hl] at e';injection e' with e';injection e' with e';subst e';exact⟨a,e,L _ k zae⟩
  ·rw[jn hij] at e';obtain⟨b,h1,h2⟩:=R.own j t e' n;have hne:b≠a:=fun z=>hij (R.dis i j a hi n e (z▸h1));exact⟨b,h1,h2.mono (fun _ c=>c) k fun u q=>by rw[za5 hne]; exact q⟩
 ·refine(za5 (fun z=>?_)).trans (R.keep b u n q);subst z;rcases R.fresh b oa with z |z
  ·exact n z
  ·rw[z] at q; cases q
 ·refine R.dom b ?_;unfold upd at q;split at q
  ·cases q
  ·exact q
 ·intro q;refine R.al b z ?_;unfold upd at q;split at q
  ·cases q
  ·exact q
theorem Step.write{i:Nat}{o:HO}(hi:i∈M)(e:σ[i]?=some (some (.ref a)))(_:H a≠none):Step σ M H (upd H a o):=⟨fun b u n q=>by
 exact(za5 (fun z:b=a=>n i hi (z▸e))).trans q,fun b q=>by
 unfold upd at q;split at q
 ·cases q
 ·exact q⟩
theorem Rel.setE{i:Nat}(R:Rel F O M s σ H)(hM:∀ j,j∈M'->j∈M/\j≠i)(hk:∀ j,j∈M->j∈M'∨j=i)(hi:i < s.length)(r:Rep (Free F O) H v t):Rel F O M' (s.set i (some t)) (σ.set i (some v)) H:=by
 have hi2:i < σ.length:=by rw[<-R.len]; exact hi
 refine⟨by rw[Q2,Q2]; exact R.len,fun j t' e n=>?_,fun j t' e n=>?_,fun j b hj e=>?_,fun j k b hj hk e1 e2=>?_,R.keep,R.dom,R.fresh,R.inD,R.al⟩
 ·by_cases hij:i=j
  ·subst hij;rw[jP hi] at e;injection e with e;injection e with e;subst e;exact⟨v,jP hi2,r⟩
  ·rw[jn hij] at e;rw[jn hij];exact R.val j t' e fun z=>(hk j z).elim n fun z=>hij z.symm
 ·obtain⟨h1,h2⟩:=hM j n;rw[jn (Zi h2)] at e;rw[jn (Zi h2)];exact R.own j t' e h1
 ·obtain⟨h1,h2⟩:=hM j hj;rw[jn (Zi h2)] at e;exact R.ow j b h1 e
 ·obtain⟨h1,h2⟩:=hM j hj;obtain⟨h3,h4⟩:=hM k hk;rw[jn (Zi h2)] at e1;rw[jn (Zi h4)] at e2;exact R.dis j k b h1 h3 e1 e2
theorem Rel.setN{i:Nat}(R:Rel F O M s σ H)(hM:∀ j,j∈M'->j=i∨j∈M)(hk:∀ j,j∈M->j∈M')(hi:i < s.length)(him:i∈M')(oa:O a)(nw:∀ j,j∈M->j≠i->σ[j]?≠some (some (.ref a)))(L:Live (Free F O) H a t):Rel F O M' (s.set i (some t)) (σ.set i (some (.ref a))) H:=by
 have hi2:i < σ.length:=by rw[<-R.len]; exact hi
 refine⟨by rw[Q2,Q2]; exact R.len,fun j t' e n=>?_,fun j t' e n=>?_,fun j b hj e=>?_,fun j k b hj hk' e1 e2=>?_,R.keep,R.dom,R.fresh,R.inD,R.al⟩
 ·have hij:i≠j:=fun z=>n (z▸him);rw[jn hij] at e;rw[jn hij];exact R.val j t' e fun z=>n (hk j z)
 ·by_cases hij:i=j
  ·subst hij;rw[jP hi] at e;injection e with e;injection e with e;subst e;exact⟨a,jP hi2,L⟩
  ·rw[jn hij] at e;rw[jn hij];exact R.own j t' e ((hM j n).resolve_left fun z=>hij z.symm)
 ·by_cases hij:i=j
  ·subst hij;rw[jP hi2] at e;injection e with e;injection e with e;injection e with e;exact e▸oa
  ·rw[jn hij] at e;exact R.ow j b ((hM j hj).resolve_left fun z=>hij z.symm) e
 ·by_cases hij:i=j
  ·by_cases hik:i=k
   ·exact hij.symm.trans hik
   ·subst hij;rw[jP hi2] at e1;rw[jn hik] at e2;injection e1 with e1;injection e1 with e1;injection e1 with e1;subst e1;exact absurd e2 (nw k ((hM k hk').resolve_left fun z=>hik z.symm) (Zi hik))
  ·rw[jn hij] at e1
   by_cases hik:i=k
   ·subst hik;rw[jP hi2] at e2;injection e2 with e2;injection e2 with e2;injection e2 with e2;subst e2;exact absurd e1 (nw j ((hM j hj).resolve_left fun z=>hij z.symm) (Zi hij))
   ·rw[jn hik] at e2;exact R.dis j k b ((hM j hj).resolve_left fun z=>hij z.symm) ((hM k hk').resolve_left fun z=>hik z.symm) e1 e2
theorem Ios.set{i:Nat}{x:Option V}(I:Ios F io M σ)(hio:i∉io)(hM:∀ j,j∈io->j∈M'):Ios F io M' (σ.set i x):=⟨fun j hj=>by
 refine⟨hM j hj,?_⟩;rw[jn (fun z:i=j=>hio (z▸hj))]
 exact(I.at_ j hj).2,I.D⟩
end
def zao(f g:DS):DS:=fun s=>(f s).bind fun r=>match r with
 |.nx s'=>g s'
 |r=>some r
def zaD:DS:=fun s=>some (.nx s)
def zay(i:Nat)(f:DE):DS:=fun s=>(f s).bind fun p=>if i < p.2.length then some (.nx (p.2.set i (some p.1))) else none
def zcb(c:DT)(f g:DS):DS:=fun s=>(c s).bind fun p=>if p.1 then f p.2 else g p.2
def dDo(f:DE):DS:=fun s=>(f s).map fun p=>.nx p.2
section
variable {X:Cx}{rk:Kd}{io M M' M'' Mb:List Nat}{st:Stmt}{sts:List Stmt}{e c:Expr}{a b:List Stmt}{d d':DS}{fe:DE}{ft:DT}{pos pos':Pos}
theorem zrJ:PSs X [] (cS rk io M M Mb zaD):=zlz zq5 (by
 intro D σ H h_;refine cS_ h_ fun F O s r R I hd q=>?_;injection hd with hd;subst hd
 exact q O σ H .refl R I)
theorem zrI(h:PS X st (cS rk io M M' Mb d)):PSs X [st] (cS rk io M M' Mb d):=zfY h
theorem zpz(h:PS X st (cS rk io M M' Mb d))(h2:PSs X sts (cS rk io M' M'' Mb d')):PSs X (st::sts) (cS rk io M M'' Mb (zao d d')):=zlz (zhr h h2) (by
 intro D σ H h_;refine cS_ h_ fun F O s r R I hd q=>?_;obtain⟨r1,h1,h2⟩:=Qb hd;refine⟨F,O,s,r1,R,I,h1,?_⟩;cases r1 with
 |nx s1=>exact fun O1 σ1 H1 k1 R1 I1=>⟨F,O1,s1,r,R1,I1,h2,q.more k1⟩
 |bk s1=>injection h2 with h2; subst h2; exact q
 |ct s1=>injection h2 with h2; subst h2; exact q
 | rt t s1=>injection h2 with h2; subst h2; exact q)
theorem zxv(hc:PT X c (cT M ft))(ha:PSs X a (cS rk io M M' Mb d))(hb:PSs X b (cS rk io M M' Mb d')):PS X (.If c a b pos) (cS rk io M M' Mb (zcb ft d d')):=zdL (zsh hc ha hb) (by
 intro D σ H h_;refine cS_ h_ fun F O s r R I hd q=>?_;obtain⟨p,h1,h2⟩:=Qb hd;refine⟨F,O,s,p.1,p.2,R,h1,fun H1 S1 R1=>?_⟩;have k:=S1.keepO R;dsimp only;split at h2
 ·rename_i hp;rw[if_pos hp];exact⟨F,O,p.2,r,R1,I,h2,q.more k⟩
 ·rename_i hp;rw[if_neg hp]
  exact⟨F,O,p.2,r,R1,I,h2,q.more k⟩)
def zpF(M M' io:List Nat)(i:Nat):Bool:=M'.all (fun j=>M.contains j&&j != i)&&M.all (fun j=>M'.contains j||j == i)&&!io.contains i&&io.all (M'.contains ·)
def zpE(M M' io:List Nat)(i:Nat):Bool:=M'.all (fun j=>j == i||M.contains j)&&M.all (M'.contains ·)&&M'.contains i&&!io.contains i&&io.all (M'.contains ·)
theorem zrT{i:Nat}(h:PS X st (ze8 (cE .e M fe) (zc8 i)))(hM:zpF M M' io i=true:=by rfl):PS X st (cS rk io M M' Mb (zay i fe)):=zdL h (by
 unfold zpF at hM;rw[jI,jI,jI] at hM;obtain⟨⟨⟨m1,m2⟩,m3⟩,m4⟩:=hM;intro D σ H h_;refine cS_ h_ fun F O s r R I hd q=>?_;obtain⟨p,h1,h2⟩:=Qb hd;split at h2
 ·rename_i hi;injection h2 with h2;subst h2;refine⟨F,O,s,p.1,p.2,R,h1,fun v H1 S1 p1=>?_⟩;refine q O _ H1 (S1.keepO R) (p1.1.setE (fun j hj=>?_) (fun j hj=>?_) hi p1.2) (I.set (by simpa using m3) (zcJ m4))
  ·simpa using jt.mp m1 j hj
  ·simpa using jt.mp m2 j hj
 ·cases h2)
theorem zrR{i:Nat}(h:PS X st (ze8 (cE .n M fe) (zc8 i)))(hM:zpE M M' io i=true:=by rfl):PS X st (cS rk io M M' Mb (zay i fe)):=zdL h (by
 unfold zpE at hM;rw[jI,jI,jI,jI] at hM;obtain⟨⟨⟨⟨m1,m2⟩,m5⟩,m3⟩,m4⟩:=hM;intro D σ H h_;refine cS_ h_ fun F O s r R I hd q=>?_;obtain⟨p,h1,h2⟩:=Qb hd;split at h2
 ·rename_i hi;injection h2 with h2;subst h2;refine⟨F,O,s,p.1,p.2,R,h1,fun v H1 S1 p1=>?_⟩;obtain⟨a,rfl,h0,R1,L⟩:=p1;have k:KeepO O H (fun b=>O b∨b=a) H1:=⟨fun b o n h=>⟨S1.keep b o (R.notOwned n) h,fun z=>z.elim n fun z=>by rw[z,h0] at h; cases h⟩,S1.dom⟩
  refine q _ _ H1 k (R1.setN (fun j hj=>?_) (fun j hj=>?_) hi (by simpa using m5) (.inr rfl) (fun j hj _ e=>R.al a (R.ow j a hj e) h0) L) (I.set (by simpa using m3) (zcJ m4))
  ·simpa using jt.mp m1 j hj
  ·simpa using jt.mp m2 j hj
 ·cases h2)
theorem zxw{k:Kd}(hk:k=.e∨k=.b)(he:PE X e (cE k M fe))(hs:ZV e none pos.line X.env=pure false:=by rfl):PS X (.Expr e pos) (cS rk io M M Mb (dDo fe)):=zdL (zm7 he hs) (by
 intro D σ H h_;refine cS_ h_ fun F O s r R I hd q=>?_;obtain⟨p,h1,h2⟩:=Qm hd;subst h2;refine⟨F,O,s,p.1,p.2,R,h1,fun v H1 S1 p1=>?_⟩;rcases hk with rfl |rfl
 ·exact q O σ H1 (S1.keepO R) p1.1 I
 ·exact q O σ H1 (S1.keepO R) p1.1 I)
theorem Free.c1{F:Fr}{O:Addr->Prop}{M:List Nat}{s:Sg}{σ:L2.St}{H:Hp}(R:Rel F O M s σ H){b:Addr}(c:Free F O b):C1 F b:=⟨fun z=>c.1 (R.inD b z),c.2⟩
theorem zv2{F:Fr}{O:Addr->Prop}{s:Sg}{σ:L2.St}{H:Hp}{v:V}{t:T}(R:Rel F O M s σ H)(I:Ios F io M σ)(hio:∀ i,i∈io->∃ t,s[i]?=some (some t))(r:Rep (Free F O) H v t):RetOk F .e io s t v H:=by
 refine⟨R.keep,R.dom,r.mono (fun _ c=>c.c1 R) (fun _ _ _ e=>e),fun i hi=>?_⟩;obtain⟨t',ht⟩:=hio i hi;obtain⟨h1,h2⟩:=I.at_ i hi;obtain⟨a,h3,L⟩:=R.own i t' ht h1;rw[h2] at h3;injection h3 with h3;injection h3 with h3;injection h3 with h3;subst h3;exact⟨t',ht,L.mono (fun _ c=>c.c1 R) (fun _ _ _ e=>e) fun _ e=>e⟩
theorem zs2{F:Fr}{O:Addr->Prop}{s:Sg}{σ:L2.St}{H:Hp}{t:T}{a:Addr}(R:Rel F O M s σ H)(I:Ios F io M σ)(hio:∀ i,i∈io->∃ t,s[i]?=some (some t))(oa:O a)(h0:F.H0 a=none)(nd:¬ F.D a)(L:Live (Free F O) H a t):RetOk F .n io s t (.ref a) H:=by
 have w:∀ b,Free F O b->C1 F b/\b≠a:=fun b c=>⟨c.c1 R,fun z=>c.1 (z▸oa)⟩;refine⟨R.keep,R.dom,a,rfl,h0,nd,L.mono w (fun _ _ _ e=>e) fun _ e=>e,fun i hi=>?_⟩;obtain⟨t',ht⟩:=hio i hi;obtain⟨h1,h2⟩:=I.at_ i hi;obtain⟨b,h3,L⟩:=R.own i t' ht h1;rw[h2] at h3;injection h3 with h3;injection h3 with h3;injection h3 with h3;subst h3;exact⟨t',ht,L.mono w (fun _ _ _ e=>e) fun _ e=>e⟩
def hasAll(io:List Nat)(s:Sg):Bool:=io.all fun i=>(s[i]?).join.isSome
theorem hasAll.get{io:List Nat}{s:Sg}(h:hasAll io s=true):∀ i,i∈io->∃ t,s[i]?=some (some t):=fun i hi=>by
 have:=jt.mp h i hi;cases e:(s[i]?).join with
 |none=>rw[e] at this; cases this
 |some t=>exact⟨t,zag e⟩
def zai(io:List Nat)(f:DE):DS:=fun s=>(f s).bind fun p=>if hasAll io p.2 then some (.rt p.1 p.2) else none
theorem zrW(he:PE X e (cE .e M fe)):PS X (.Return (some e) pos) (cS .e io M M' Mb (zai io fe)):=zdL (zkj he) (by
 intro D σ H h_;refine cS_ h_ fun F O s r R I hd q=>?_;obtain⟨p,h1,h2⟩:=Qb hd;split at h2
 ·rename_i hh;injection h2 with h2;subst h2;exact⟨F,O,s,p.1,p.2,R,h1,fun v H1 S1 p1=>q v H1 (zv2 p1.1 I (hasAll.get hh) p1.2)⟩
 ·cases h2)
theorem zrV(he:PE X e (cE .n M fe)):PS X (.Return (some e) pos) (cS .n io M M' Mb (zai io fe)):=zdL (zkj he) (by
 intro D σ H h_;refine cS_ h_ fun F O s r R I hd q=>?_;obtain⟨p,h1,h2⟩:=Qb hd;split at h2
 ·rename_i hh;injection h2 with h2;subst h2;refine⟨F,O,s,p.1,p.2,R,h1,fun v H1 S1 p1=>?_⟩;obtain⟨a,rfl,h0,R1,L⟩:=p1;exact q _ H1 (zs2 R1 I (hasAll.get hh) (.inr rfl) (R.dom a h0) (fun z=>R.al a (R.inD a z) h0) L)
 ·cases h2)
theorem zrU{i:Nat}(hi:M.contains i=true)(hn:io.contains i=false)(he:PE X e (zcT i)):PS X (.Return (some e) pos) (cS .n io M M' Mb (zai io (dV i))):=zdL (zkj he) (by
 intro D σ H h_;refine cS_ h_ fun F O s r R I hd q=>?_;obtain⟨p,h1,h2⟩:=Qb hd;obtain⟨t,s1⟩:=p;obtain⟨h3,h4⟩:=zjM h1;subst h4;split at h2
 ·rename_i hh;injection h2 with h2;subst h2;have hi':i∈M:=by simpa using hi
  obtain⟨a,e1,L⟩:=R.own i t h3 hi';have nd:¬ F.D a:=fun z=>by
   obtain⟨j,hj,rfl⟩:=I.D a z;obtain⟨h5,h6⟩:=I.at_ j hj;have:=R.dis i j _ hi' h5 e1 h6;subst this;have:io.contains i=true:=by simpa using hj
   rw[hn] at this; cases this
  refine⟨_,e1,q _ H (zs2 R I (hasAll.get hh) (R.ow i a hi' e1) ?_ nd L)⟩;rcases R.fresh a (R.ow i a hi' e1) with z |z
  ·exact absurd z nd
  ·exact z
 ·cases h2)
end
def ziy:T->Bool
 |.lst _=>true
 |_=>false
def SM(r:V->List V->Hp->VK->Prop)(g:T->List T->Option (T × T)):Prop:=∀(C:Addr->Prop) (H:Hp) a tx vs ts t' tr (Q:VK),¬ C a->Live C H a tx->Reps C H vs ts->g tx ts=some (t',tr)->
 (∀ o v,(∀ H1,(∀ b u,C b->H b=some u->H1 b=some u)->H1 a=some o->Live C H1 a t')->Rep C H v tr->Q v (upd H a o))->r (.ref a) vs H Q
def zgn(g:T->List T->Option (T × T))(i:Nat)(fa:DA):DE:=fun s=>(s[i]?).join.bind fun t0=>if ziy t0 then (fa s).bind fun p=>(p.2[i]?).join.bind fun t=>(g t p.1).map fun q=>(q.2,p.2.set i (some q.1)) else none
def zgZ:T->List T->Option (T × T)
 |.lst xs,[t]=>if xs.length < jh then some (.lst (xs++[t]),.non) else none
 |_,_=>none
def zqn:T->List T->Option (T × T)
 |.lst xs,[.lst ys]=>if xs.length+ys.length<=jh then some (.lst (xs++ys),.non) else none
 |_,_=>none
def znX:T->List T->Option (T × T)
 |.lst xs,[]=>(xs[xs.length - 1]?).map fun y=>(.lst xs.dropLast,y)
 |_,_=>none
def zws:T->List T->Option (T × T)
 |.lst xs,[.int i]=>if 0<=i/\i<=1000000 then (xs[i.toNat]?).map fun y=>(.lst (xs.eraseIdx i.toNat),y) else none
 |_,_=>none
theorem Live.lst'{C:Addr->Prop}{H:Hp}{a:Addr}{ts:List T}(h:Live C H a (.lst ts)):∃ vs,H a=some (.lst vs)/\Reps C H vs ts:=by
 cases h with |lst r h=>exact⟨_,r,h⟩
theorem Reps.one{C:Addr->Prop}{H:Hp}{vs:List V}{t:T}(h:Reps C H vs [t]):∃ v,vs=[v]/\Rep C H v t:=by
 obtain⟨v,rfl⟩:=ZJ.mp (show vs.length=1 from h.1);exact⟨v,rfl,h.head⟩
theorem Reps.none{C:Addr->Prop}{H:Hp}{vs:List V}(h:Reps C H vs []):vs=[]:=List.length_eq_zero_iff.mp h.1
theorem Reps.snoc{C:Addr->Prop}{H:Hp}{vs:List V}{ts:List T}{v:V}{t:T}(h:Reps C H vs ts)(r:Rep C H v t):Reps C H (vs++[v]) (ts++[t]):=h.append (.cons r .nil)
theorem zvg:SM zho zgZ:=by
 intro C H a tx vs ts t' tr Q hn L R hg q;unfold zgZ at hg;split at hg
 ·split at hg
  ·rename_i hl;injection hg with hg;injection hg with h1 h2;subst h1 h2;obtain⟨us,h1,h2⟩:=L.lst';obtain⟨v,rfl,rv⟩:=R.one;refine⟨a,us,v,rfl,rfl,h1,by rw[h2.1]; exact hl,q _ _ (fun H1 k e=>.lst e ?_) .non⟩
   exact(h2.snoc rv).mono (fun _ c=>c) k
  ·cases hg
 ·cases hg
theorem zvf:SM zhm zqn:=by
 intro C H a tx vs ts t' tr Q hn L R hg q;unfold zqn at hg;split at hg
 ·split at hg
  ·rename_i hl;injection hg with hg;injection hg with h1 h2;subst h1 h2;obtain⟨us,h1,h2⟩:=L.lst';obtain⟨v,rfl,rv⟩:=R.one;obtain⟨b,ws,rfl,h3,h4⟩:=BRep.lst (.inl rv);refine⟨a,b,us,ws,rfl,rfl,h1,h3,by rw[h2.1,h4.1]; exact hl,q _ _ (fun H1 k e=>.lst e ?_) .non⟩
   exact(h2.append h4).mono (fun _ c=>c) k
  ·cases hg
 ·cases hg
theorem Reps.dropLast{C:Addr->Prop}{H:Hp}{vs:List V}{ts:List T}(h:Reps C H vs ts):Reps C H vs.dropLast ts.dropLast:=by
 rw[Nn,Nn,h.1];exact h.take _
theorem Reps.rev{C:Addr->Prop}{H:Hp}:∀ {vs:List V} {ts:List T},Reps C H vs ts->Reps C H vs.reverse ts.reverse
 |[],[],_=>.nil
 |v::vs,[],h=>by have:=h.1; simp at this
 |[],t::ts,h=>by have:=h.1; simp at this
 |v::vs,t::ts,h=>by
  rw[Z1,Z1];exact(Reps.rev h.tail).snoc h.head
theorem zve:SM ztP znX:=by
 intro C H a tx vs ts t' tr Q hn L R hg q;unfold znX at hg;split at hg
 ·obtain⟨y,hy,h0⟩:=Qm hg;injection h0 with h1 h2;subst h1 h2;obtain⟨us,h1,h2⟩:=L.lst';obtain rfl:=R.none;obtain⟨v,hv,rv⟩:=h2.get hy;exact⟨a,us,v,rfl,rfl,h1,by rw[h2.1]; exact hv,q _ _ (fun H1 k e=>.lst e (h2.dropLast.mono (fun _ c=>c) k)) rv⟩
 ·cases hg
section
variable {X:Cx}{M:List Nat}{fa:DA}
theorem zqk{r:V->List V->Hp->VK->Prop}{g:T->List T->Option (T × T)}{i:Nat}(hi:M.contains i=true)(hs:SM r g):∀ σ H Q,cE .e M (zgn g i fa) σ H Q->tBM X.K "list" r (zcT i) (cA M fa) σ H Q:=by
 intro σ H Q h_;refine cE_ h_ fun F O s t s' R hf q=>?_;have hi':i∈M:=by simpa using hi
 obtain⟨t0,h0,hf⟩:=Qb hf;split at hf
 ·rename_i hl;obtain⟨p,h1,hf⟩:=Qb hf;obtain⟨t1,h2,hf⟩:=Qb hf;obtain⟨w,h3,h4⟩:=Qm hf;injection h4 with h4 h5;subst h4 h5;obtain⟨a,e1,L0⟩:=R.own i t0 (zag h0) hi';refine⟨_,e1,?_,F,O,s,p.1,p.2,R,h1,fun vs H1 S1 R1 rs=>?_⟩
  ·cases L0 with
   |lst r h=>exact .inl ⟨rfl,_,SqL.of r⟩
   |_=>cases hl
  obtain⟨b,e2,L⟩:=R1.own i t1 (zag h2) hi';rw[e1] at e2;injection e2 with e2;injection e2 with e2;injection e2 with e2;subst e2;refine hs (Free F O) H1 a t1 vs p.1 w.1 w.2 Q (fun z=>z.1 (R1.ow i a hi' e1)) L rs h3 fun o v hL rv=>?_;have R2:=R1.write (o:=o) hi' e1 (zag h2) hL;refine q v _ (S1.trans (.write hi' e1 L.ne)) ⟨R2,?_⟩;exact R1.stay (.write hi' e1 L.ne) rv
 ·cases hf
theorem zsJ{r:V->List V->Hp->VK->Prop}{g:T->List T->Option (T × T)}{i:Nat}(hi:M.contains i=true)(hs:SM r g):∀ σ H Q,cE .e M (zgn g i dAn) σ H Q->zrF X.K "list" r (zcT i) σ H Q:=by
 rintro σ H Q h;obtain⟨v,e,ty,F,O,s,ts,s',R,hf,q⟩:=zqk (X:=X) hi hs σ H Q h;injection hf with hf;injection hf with h1 h2;subst h1 h2;exact⟨v,e,ty,q [] H .refl R .nil⟩
end
def zfg(kvs:List (Key × T))(k:Key)(v:T):List (Key × T):=
 if kvs.any fun kv=>decide (kv.1=k) then kvs.map fun kv=>if kv.1=k then (kv.1,v) else kv else kvs++[(k,v)]
theorem RepK.any{C:Addr->Prop}{H:Hp}(k:Key):∀ {vs:List (Key × V)} {ts:List (Key × T)},RepK C H vs ts->(vs.any fun kv=>decide (kv.1=k))=ts.any fun kv=>decide (kv.1=k)
 |[],[],_=>rfl
 |p::vs,[],h=>by have:=h.1; simp at this
 |[],q::ts,h=>by have:=h.1; simp at this
 |p::vs,q::ts,h=>by
  obtain⟨e,r,h'⟩:=h.tail;rw[Z7,Z7,RepK.any k h',e]
theorem RepK.mapPut{C:Addr->Prop}{H:Hp}{k:Key}{v:V}{t:T}(r:Rep C H v t):∀ {vs:List (Key × V)} {ts:List (Key × T)},RepK C H vs ts->RepK C H (vs.map fun kv=>if kv.1=k then (kv.1,v) else kv) (ts.map fun kv=>if kv.1=k then (kv.1,t) else kv)
 |[],[],h=>h
 |p::vs,[],h=>by have:=h.1; simp at this
 |[],q::ts,h=>by have:=h.1; simp at this
 |p::vs,q::ts,h=>by
  obtain⟨e,r',h'⟩:=h.tail;rw[jj,jj]
  by_cases hk:q.1=k
  ·rw[if_pos hk,if_pos (e.trans hk)];exact .cons e r (RepK.mapPut r h')
  ·rw[if_neg hk,if_neg (fun z=>hk (e.symm.trans z))];exact .cons e r' (RepK.mapPut r h')
theorem RepK.append{C:Addr->Prop}{H:Hp}:∀ {vs ws:List (Key × V)} {ts us:List (Key × T)},RepK C H vs ts->RepK C H ws us->RepK C H (vs++ws) (ts++us)
 |[],_,[],_,_,h=>h
 |p::vs,_,[],_,h,_=>by have:=h.1; simp at this
 |[],_,q::ts,_,h,_=>by have:=h.1; simp at this
 |p::vs,_,q::ts,_,h,h2=>by
  obtain⟨e,r',h'⟩:=h.tail;exact .cons e r' (RepK.append h' h2)
theorem RepK.put{C:Addr->Prop}{H:Hp}{k:Key}{v:V}{t:T}{vs:List (Key × V)}{ts:List (Key × T)}(h:RepK C H vs ts)(r:Rep C H v t):RepK C H (zfh vs k v) (zfg ts k t):=by
 unfold zfh zfg;rw[h.any k];split
 ·exact RepK.mapPut r h
 ·exact RepK.append h (.cons rfl r ⟨rfl,fun i v t e=>by simp at e⟩)
theorem RepK.len{C:Addr->Prop}{H:Hp}{vs:List (Key × V)}{ts:List (Key × T)}(h:RepK C H vs ts):vs.length=ts.length:=by simpa using congrArg ge h.1
def zp8(i:Nat)(fk fv:DE):DS:=fun s=>(fv s).bind fun p=>(p.2[i]?).join.bind fun _=>(fk p.2).bind fun q=>(q.2[i]?).join.bind fun t=>match t with
 |.dct kvs=>(zh1 q.1).bind fun k=>if kvs.length < jh then some (.nx (q.2.set i (some (.dct (zfg kvs k p.1))))) else none
 |_=>none
def zfn(i:Nat)(fk fv:DE):DS:=fun s=>(fv s).bind fun p=>(p.2[i]?).join.bind fun _=>(fk p.2).bind fun q=>(q.2[i]?).join.bind fun t=>match t,q.1 with
 |.lst xs,.int k=>(ixN xs.length k).map fun j=>.nx (q.2.set i (some (.lst (xs.set j p.1))))
 |_,_=>none
section
variable {X:Cx}{rk:Kd}{io M M' Mb:List Nat}{st:Stmt}{fk fv:DE}
theorem zuT{i:Nat}(hi:M.contains i=true)(h:PS X st (znv (zcT i) (cE .e M fk) (cE .e M fv))):PS X st (cS rk io M M Mb (zp8 i fk fv)):=zdL h (by
 intro D σ H h_;refine cS_ h_ fun F O s r R I hd q=>?_;have hi':i∈M:=by simpa using hi
 obtain⟨p,h1,hd⟩:=Qb hd;obtain⟨t0,h0,hd⟩:=Qb hd;obtain⟨w,h2,hd⟩:=Qb hd;obtain⟨t1,h3,hd⟩:=Qb hd;obtain⟨kvs,rfl⟩:∃ kvs,t1=.dct kvs:=by cases t1<;>first |exact⟨_,rfl⟩ |cases hd
 have hd:((zh1 w.1).bind fun k=>if kvs.length < jh then some (Fl.nx (w.2.set i (some (.dct (zfg kvs k p.1))))) else none)=some r:=hd
 obtain⟨k,h4,hd⟩:=Qb hd;split at hd
 case isFalse=>cases hd
 rename_i h5;injection hd with h6;subst h6;refine⟨F,O,s,p.1,p.2,R,h1,fun v H1 S1 p1=>?_⟩;obtain⟨a,e1,_⟩:=p1.1.own i t0 (zag h0) hi';refine⟨_,e1,F,O,p.2,w.1,w.2,p1.1,h2,fun y H2 S2 p2=>?_⟩;obtain⟨b,e2,L⟩:=p2.1.own i _ (zag h3) hi';rw[e1] at e2;injection e2 with e2;injection e2 with e2;injection e2 with e2;subst e2;have ne:=L.ne;cases L with
 |dct hr hk=>
  obtain rfl:=zeI (.inl p2.2) h4;refine⟨a,_,rfl,DPut.k hr (by rw[hk.len]; exact h5),?_⟩
  have rv:=p1.1.stay S2 p1.2;have R2:=p2.1.write (t':=.dct (zfg kvs k p.1)) hi' e1 (zag h3) (fun Hx kx ex=>.dct ex ((hk.put rv).mono (fun _ c=>c) kx))
  exact q O σ _ (((S1.trans S2).trans (.write hi' e1 ne)).keepO R) R2 I)
theorem zrS{i:Nat}(hi:M.contains i=true)(h:PS X st (ze8 (cE .e M fv) (ztS (zcT i) (cE .e M fk) zpQ))):PS X st (cS rk io M M Mb (zfn i fk fv)):=zdL h (by
 intro D σ H h_;refine cS_ h_ fun F O s r R I hd q=>?_;have hi':i∈M:=by simpa using hi
 obtain⟨p,h1,hd⟩:=Qb hd;obtain⟨t0,h0,hd⟩:=Qb hd;obtain⟨⟨w1,w2⟩,h2,hd⟩:=Qb hd;obtain⟨t1,h3,hd⟩:=Qb hd;obtain⟨xs,rfl⟩:∃ xs,t1=.lst xs:=by cases t1<;>first |exact⟨_,rfl⟩ |cases hd
 obtain⟨k,rfl⟩:∃ k,w1=.int k:=by cases w1<;>first |exact⟨_,rfl⟩ |cases hd
 obtain⟨j,h4,h6⟩:=Qm (show (ixN xs.length k).map (fun j=>Fl.nx (w2.set i (some (.lst (xs.set j p.1)))))=some r from hd);subst h6;refine⟨F,O,s,p.1,p.2,R,h1,fun v H1 S1 p1=>?_⟩;obtain⟨a,e1,_⟩:=p1.1.own i t0 (zag h0) hi';refine⟨_,e1,F,O,p.2,_,_,p1.1,h2,fun y H2 S2 p2=>?_⟩;obtain⟨b,e2,L⟩:=p2.1.own i _ (zag h3) hi';rw[e1] at e2;injection e2 with e2;injection e2 with e2;injection e2 with e2;subst e2;have ne:=L.ne;obtain⟨vs,hr,hk⟩:=L.lst';obtain rfl:y=.int k:=BRep.int (.inl p2.2);refine⟨a,vs,k,j,rfl,rfl,hr,by rw[hk.1]; exact h4,?_⟩
 have rv:=p1.1.stay S2 p1.2;have R2:=p2.1.write (t':=.lst (xs.set j p.1)) hi' e1 (zag h3) (fun Hx kx ex=>.lst ex ((hk.set j rv).mono (fun _ c=>c) kx))
 exact q O σ _ (((S1.trans S2).trans (.write hi' e1 ne)).keepO R) R2 I)
def zts(i:Nat)(f:DE):DS:=fun s=>(s[i]?).join.bind fun x=>(f s).bind fun p=>match x,p.1 with
 |.int a,.int b=>some (.nx (p.2.set i (some (.int (a+b)))))
 |_,_=>none
theorem zuZ{i:Nat}{fe:DE}(hi:M.contains i=false)(h:PS X st (ztO i (cE .e M fe) (ipI fun i j=>i+j)))(hio:io.all (M.contains ·)=true:=by rfl):PS X st (cS rk io M M Mb (zts i fe)):=zdL h (by
 intro D σ H h_;refine cS_ h_ fun F O s r R I hd q=>?_;have hi':i∉M:=by simpa using hi
 obtain⟨x,h0,hd⟩:=Qb hd;obtain⟨⟨p1,p2⟩,h1,hd⟩:=Qb hd;obtain⟨a,rfl⟩:∃ a,x=.int a:=by cases x<;>first |exact⟨_,rfl⟩ |cases hd
 obtain⟨b,rfl⟩:∃ b,p1=.int b:=by cases p1<;>first |exact⟨_,rfl⟩ |cases hd
 injection hd with hd;subst hd;obtain⟨v,e1,r1⟩:=R.val i _ (zag h0) hi';obtain rfl:v=.int a:=BRep.int (.inl r1);refine⟨_,e1,F,O,s,_,_,R,h1,fun y H1 S1 po=>?_⟩;obtain rfl:y=.int b:=BRep.int (.inl po.2);have hl:i < s.length:=(j9.mp (zag h0)).1;have hl2:i < p2.length:=by rw[po.1.len,<-R.len]; exact hl
 refine⟨a,b,rfl,rfl,q O _ H1 (S1.keepO R) (po.1.setE (fun j hj=>⟨hj,fun z=>hi' (z▸hj)⟩) (fun j hj=>.inl hj) hl2 (.int _)) (I.set (fun z=>hi' ((zcJ hio) i z)) (zcJ hio))⟩)
def gsN:List Nat->TGs
 |[]=>zqD
 |i::r=>ziB (zc8 i) (gsN r)
def zbA:List Nat->List T->Sg->Option Sg
 |[],[],s=>some s
 |i::is,t::ts,s=>if i < s.length then zbA is ts (s.set i (some t)) else none
 |_,_,_=>none
theorem zhd{F:Fr}{O:Addr->Prop}{H:Hp}{Q:L2.St->Hp->Prop}:∀ {is:List Nat} {ts:List T} {vs:List V} {s s':Sg} {σ:L2.St},Rel F O M s σ H->Ios F io M σ->(∀ i,i∈is->i∉M)->(∀ i,i∈io->i∈M)->Reps (Free F O) H vs ts->zbA is ts s=some s'->
  (∀ σ',Rel F O M s' σ' H->Ios F io M σ'->Q σ' H)->gsN is vs σ H Q
 |[],[],vs,s,s',σ,R,I,_,_,h,e,q=>by
  injection e with e;subst e;exact⟨h.none,q σ R I⟩
 |[],t::ts,vs,s,s',σ,R,I,_,_,h,e,q=>by cases e
 |i::is,[],vs,s,s',σ,R,I,_,_,h,e,q=>by cases e
 |i::is,t::ts,[],s,s',σ,R,I,_,_,h,e,q=>by have:=h.1; simp at this
 |i::is,t::ts,v::vs,s,s',σ,R,I,hm,hio,h,e,q=>by
  unfold zbA at e;split at e
  ·rename_i hl;have hi:i∉M:=hm i Q0;exact⟨v,vs,rfl,zhd (R.setE (fun j hj=>⟨hj,fun z=>hi (z▸hj)⟩) (fun j hj=>.inl hj) hl h.head) (I.set (fun z=>hi (hio i z)) hio) (fun j hj=>hm j (jF _ hj)) hio h.tail e q⟩
  ·cases e
def zkt:T->Option (List T)
 |.lst xs=>some xs
 |.tup xs=>some xs
 |_=>none
def dUn(is:List Nat)(f:DE):DS:=fun s=>(f s).bind fun p=>(zkt p.1).bind fun ts=>(zbA is ts p.2).map .nx
theorem zuS{is:List Nat}{n:Nat}{K:j8}{fe:DE}(h:PS X st (ze8 (cE .e M fe) (fun v σ H Q=>ztR K n (gsN is) v σ H Q∨zkw K n (gsN is) v σ H Q)))(hn:is.length=n)(hm:is.all (fun i=>!M.contains i)=true)(hio:io.all (M.contains ·)=true):PS X st (cS rk io M M Mb (dUn is fe)):=zdL h (by
 intro D σ H h_;refine cS_ h_ fun F O s r R I hd q=>?_;obtain⟨⟨p1,p2⟩,h1,hd⟩:=Qb hd;obtain⟨ts,h2,hd⟩:=Qb hd;obtain⟨s2,h3,hd⟩:=Qm hd;subst hd;have hl:∀ {is:List Nat} {ts:List T} {s s':Sg},zbA is ts s=some s'->ts.length=is.length:=by
  intro is
  induction is with
  |nil=>intro ts s s' e; cases ts with
   |nil=>rfl
   |cons=>cases e
  |cons i is ih=>intro ts s s' e; cases ts with
   |nil=>cases e
   |cons t ts=>
    unfold zbA at e;split at e
    ·rw[jm,jm,ih e]
    ·cases e
 have hmm:∀ i,i∈is->i∉M:=fun i hi=>by simpa using jt.mp hm i hi
 refine⟨F,O,s,p1,p2,R,h1,fun v H1 S1 po=>?_⟩;cases p1<;>simp[zkt] at h2
 ·subst h2;obtain⟨a,vs,rfl,ha,ra⟩:=BRep.lst (.inl po.2);exact .inl ⟨a,vs,rfl,SqL.of ha,by rw[ra.1,hl h3,hn],zhd po.1 I hmm (zcJ hio) ra h3 fun σ' R' I'=>q O σ' H1 (S1.keepO R) R' I'⟩
 ·subst h2;obtain⟨a,vs,rfl,ha,ra⟩:=BRep.tup (.inl po.2)
  exact .inr ⟨a,vs,rfl,SqT.of ha,by rw[ra.1,hl h3,hn],zhd po.1 I hmm (zcJ hio) ra h3 fun σ' R' I'=>q O σ' H1 (S1.keepO R) R' I'⟩)
end
def zr9(F:Fr)(O:Addr->Prop)(its:List T)(J:It)(H1:Hp):Prop:=∀ H2,(∀ b o,Free F O b->H1 b=some o->H2 b=some o)->
 ∀ i:Nat,(∀ t,its[i]?=some t->J.go i H2/\∀ x H3,J.yld i H2 x H3->(H3=H2∨∃ p o,H2 p=none/\H3=upd H2 p o)/\Rep (fun b=>(Free F O b/\H1 b≠none)∨H2 b=none) H3 x t)/\(its.length<=i->J.stop i H2)
abbrev DI:=Sg->Option (List T × Sg)
def cI(M:List Nat)(f:DI):TI:=fun σ H R=>∃ F O s its s',Rel F O M s σ H/\f s=some (its,s')/\∀ J H',Step σ M H H'->Rel F O M s' σ H'->zr9 F O its J H'->R J H'
theorem cI_{M:List Nat}{f:DI}{σ:L2.St}{H:Hp}{R:_}(h:cI M f σ H R){G:Prop}(g:∀ F O s its s',Rel F O M s σ H->f s=some (its,s')->(∀ J H',Step σ M H H'->Rel F O M s' σ H'->zr9 F O its J H'->R J H')->G):G:=by
 obtain⟨F,O,s,its,s',Rl,hf,q⟩:=h;exact g F O s its s' Rl hf q
theorem zh9{X:Cx}{tg e:Expr}{t t':TI}(h:PI X tg e t)(hw:∀ σ H R,t' σ H R->t σ H R):PI X tg e t':=fun pins s σ H R I q=>h pins s σ H R I (hw _ _ _ q)
def dIt(f:DE):DI:=fun s=>(f s).bind fun p=>match p.1 with
 |.lst xs=>some (xs,p.2)
 |.scr ns=>some (ns.map .int,p.2)
 |_=>none
def zwy(f:DE):DI:=fun s=>(f s).bind fun p=>match p.1 with
 |.tup xs=>some (xs,p.2)
 |_=>none
def zaR(lo:Int)(n:Nat):List T:=(jf n).map fun(i:Nat)=>T.int (lo+i)
def znh(j:Int):Bool:=(j+2000).natAbs.ble 4000
theorem znw{j:Int}(h:znh j=true):-(2 ^ 62)<=j/\j < 2 ^ 62:=by
 unfold znh at h;have:=Nat.le_of_ble_eq_true h;lia
def zhV(f:DA):DI:=fun s=>(f s).bind fun p=>match p.1 with
 |[.int j]=>if znh j=true then some (zaR 0 j.toNat,p.2) else none
 |_=>none
def zjH(xs:List T):List T:=(jf xs.length).map fun(i:Nat)=>T.tup [.int i,xs.getD i .non]
def dEn(f:DA):DI:=fun s=>(f s).bind fun p=>match p.1 with
 |[.lst xs]=>some (zjH xs,p.2)
 |_=>none
section
variable {X:Cx}{M:List Nat}{tg e:Expr}{fe:DE}{fa:DA}
theorem zqt{F:Fr}{O:Addr->Prop}{H1:Hp}{a:Addr}{vs:List V}{ts:List T}{K:j8}(fr:Free F O a)(ha:H1 a=some (.lst vs))(r:Reps (Free F O) H1 vs ts):zr9 F O ts (Itl K a) H1:=by
 intro H2 k i;have h2:=k a _ fr ha;refine⟨fun t ht=>?_,fun hl=>⟨vs,SqL.of h2,by rw[r.1]; exact hl⟩⟩
 obtain⟨v,hv,rv⟩:=r.get ht;refine⟨⟨vs,v,SqL.of h2,hv⟩,fun x H3 ⟨e1,e2⟩=>⟨.inl e1,?_⟩⟩;have:=e2 vs (SqL.of h2);rw[hv] at this;obtain rfl:v=x:=jd this;subst e1;exact rv.there.mono (fun b c=>.inl c) fun b o c e=>k b o c.1 e
theorem zoZ{F:Fr}{O:Addr->Prop}{H1:Hp}{a:Addr}{ns:List Int}{K:j8}(h:∀ H2,(∀ b o,Free F O b->H1 b=some o->H2 b=some o)->SqL K H2 a (ns.map V.int)):zr9 F O (ns.map T.int) (Itl K a) H1:=by
 intro H2 k i;have h2:=h H2 k;refine⟨fun t ht=>?_,fun hl=>⟨_,h2,by simpa using hl⟩⟩
 obtain⟨v,hv,rv⟩:=(zej (C:=fun b=>(Free F O b/\H1 b≠none)∨H2 b=none) (H:=H2) ns).get ht;refine⟨⟨_,v,h2,hv⟩,fun x H3 ⟨e1,e2⟩=>⟨.inl e1,?_⟩⟩;have:=e2 _ h2;rw[hv] at this;obtain rfl:v=x:=jd this;subst e1;exact rv
theorem zt2(hK:X.K=TheK.K)(h:PE X e (cE .e M fe)):PI X tg e (cI M (dIt fe)):=zh9 (t:=zt5 TheK.K (cE .e M fe)) (hK▸zqa h) (by
 intro σ H R h_;refine cI_ h_ fun F O s its s' Rl hf q=>?_;obtain⟨⟨p1,p2⟩,h1,h2⟩:=Qb hf;refine⟨F,O,s,p1,p2,Rl,h1,fun v H1 S1 po=>?_⟩;cases p1<;>simp at h2
 ·obtain⟨h3,h4⟩:=h2;subst h3 h4;have po2:=po.2;cases po2 with
  |lst c r l h=>
   exact⟨_,rfl,⟨_,SqL.of r⟩,q _ H1 S1 po.1 (zqt c r ⟨l,h⟩)⟩
 ·obtain⟨h3,h4⟩:=h2;subst h3 h4;have po2:=po.2;cases po2 with
  |@scr a ns o c r=>
   refine⟨a,rfl,⟨_,.inl (.inr ⟨o,r⟩)⟩,q _ H1 S1 po.1 ?_⟩;exact zoZ fun H2 k=>.inl (.inr ⟨o,k a _ c r⟩)
  |@scrK a ns r=>
   refine⟨a,rfl,⟨_,r H1⟩,q _ H1 S1 po.1 ?_⟩
   exact zoZ fun H2 k=>r H2)
theorem zvn(h:PE X e (cE .e M fe)):PI X tg e (cI M (zwy fe)):=zh9 (zsk h) (by
 intro σ H R h_;refine cI_ h_ fun F O s its s' Rl hf q=>?_;obtain⟨⟨p1,p2⟩,h1,h2⟩:=Qb hf;refine⟨F,O,s,p1,p2,Rl,h1,fun v H1 S1 po=>?_⟩;cases p1<;>simp at h2
 obtain⟨h3,h4⟩:=h2;subst h3 h4;have po2:=po.2;cases po2 with
 |tup c r l h=>
  rename_i a vs;refine⟨a,rfl,⟨vs,SqT.of r⟩,q _ H1 S1 po.1 ?_⟩;intro H2 k i;have h2:=k a _ c r;refine⟨fun t ht=>?_,fun hl=>⟨vs,SqT.of h2,by rw[l]; exact hl⟩⟩
  obtain⟨v,hv,rv⟩:=Reps.get (⟨l,h⟩:Reps (Free F O) H1 vs _) ht;refine⟨⟨vs,v,SqT.of h2,hv⟩,fun x H3 ⟨e1,e2⟩=>⟨.inl e1,?_⟩⟩;have:=e2 vs (SqT.of h2);rw[hv] at this;obtain rfl:v=x:=jd this;subst e1
  exact rv.there.mono (fun b c=>.inl c) fun b o c e=>k b o c.1 e)
theorem zo1{F:Fr}{O:Addr->Prop}{H1:Hp}{lo:Int}{n:Nat}:zr9 F O (zaR lo n) (Itr lo n) H1:=by
 intro H2 k i;unfold zaR;refine⟨fun t ht=>?_,fun hl=>by show n<=i; simpa using hl⟩
 rw[ji] at ht;obtain⟨j,hj,e⟩:=Qm ht;have hi:i < n:=by simpa using (j9.mp hj).1
 rw[gf hi] at hj;obtain rfl:i=j:=jd hj;refine⟨hi,fun x H3 ⟨e1,e2⟩=>⟨.inl e1,?_⟩⟩;subst e1 e2 e;exact .int _
theorem zo3{a:Expr}{p pos:Pos}(hg:Gl X "range")(hm:X.mg "range"=none)(ha:PA X [a] (cA M fa))(hs:jb [a] X.env=[(false,eval a X.env)]:=by rfl):PI X tg (.Call (.Name "range" p) [a] [] pos) (cI M (zhV fa)):=zh9 (zma hg hm ha hs) (by
 intro σ H R h_;refine cI_ h_ fun F O s its s' Rl hf q=>?_;obtain⟨⟨p1,p2⟩,h1,h2⟩:=Qb hf;refine⟨F,O,s,p1,p2,Rl,h1,fun vs H1 S1 R1 rs=>?_⟩;dsimp only at h2;split at h2
 case h_2=>cases h2
 ·rename_i j;have h2:(if znh j=true then some (zaR 0 j.toNat,p2) else none)=some (its,s'):=h2
  split at h2
  ·rename_i hj;have hj:=znw hj;injection h2 with h2;injection h2 with h3 h4;subst h3 h4;obtain⟨v,rfl,rv⟩:=rs.one;obtain rfl:v=.int j:=BRep.int (.inl rv);exact⟨j,rfl,hj.1,hj.2,q _ H1 S1 R1 zo1⟩
  ·cases h2)
theorem zt3{elts:List Expr}{x1:Nat}{tp:Pos}{a:Expr}{p pos:Pos}(hg:Gl X "enumerate")(hm:X.mg "enumerate"=none)(ha:PA X [a] (cA M fa))(hs:jb [a] X.env=[(false,eval a X.env)]:=by rfl):PI X (.Tuple elts x1 tp) (.Call (.Name "enumerate" p) [a] [] pos) (cI M (dEn fa)):=zh9 (zmb hg hm ha hs) (by
 intro σ H R h_;refine cI_ h_ fun F O s its s' Rl hf q=>?_;obtain⟨⟨p1,p2⟩,h1,h2⟩:=Qb hf;refine⟨F,O,s,p1,p2,Rl,h1,fun vs H1 S1 R1 rs=>?_⟩;dsimp only at h2;split at h2
 case h_2=>cases h2
 ·rename_i xs;injection h2 with h2;injection h2 with h3 h4;subst h3 h4;obtain⟨v,rfl,rv⟩:=rs.one;cases rv with
  |@lst a us _ c r l h=>
   refine⟨a,rfl,⟨us,SqL.of r⟩,q _ H1 S1 R1 ?_⟩;intro H2 k i;have h2:=k a _ c r;have hlen:(zjH xs).length=us.length:=by unfold zjH; rw[j6,QM,l]
   refine⟨fun t ht=>?_,fun hl=>⟨us,SqL.of h2,by rw[<-hlen]; exact hl⟩⟩
   have hi:i < us.length:=by rw[<-hlen]; exact(j9.mp ht).1
   have hx:i < xs.length:=by rw[<-l]; exact hi
   have et:t=.tup [.int i,xs[i]]:=by
    unfold zjH at ht;rw[ji,gf hx] at ht;have:=jd ht;rw[<-this];simp[List.getD,j3 hx]
   subst et;refine⟨⟨us,us[i],SqL.of h2,j3 hi⟩,fun x H3 ⟨p',x',e1,e2,e3,e4⟩=>⟨.inr ⟨p',_,e2,e3⟩,?_⟩⟩;have:=e4 us (SqL.of h2);rw[j3 hi] at this;obtain rfl:us[i]=x':=jd this;subst e1 e3;have ri:=h i _ _ (j3 hi) (j3 hx);have ri2:Rep (fun b=>(Free F O b/\H1 b≠none)∨H2 b=none) (upd H2 p' (.tup [.int i,us[i]])) us[i] xs[i]:=
    ri.there.mono (fun b c=>.inl c) fun b o c e=>by rw[za5 (za6 (k b o c.1 e) e2)]; exact k b o c.1 e
   have rr:Reps (fun b=>(Free F O b/\H1 b≠none)∨H2 b=none) (upd H2 p' (.tup [.int i,us[i]])) [.int i,us[i]] [.int i,xs[i]]:=.cons (.int _) (.cons ri2 .nil)
   exact .tup (.inr e2) zae rr.1 rr.2)
end
abbrev DG:=T->Sg->Option Sg
def cG(io M:List Nat)(g:DG):TG:=fun v σ H Q=>∃ F O s t s',Rel F O M s σ H/\Ios F io M σ/\Rep (Free F O) H v t/\g t s=some s'/\∀ σ',Rel F O M s' σ' H->Ios F io M σ'->Q σ' H
def dGn(i:Nat):DG:=fun t s=>if i < s.length then some (s.set i (some t)) else none
def dGt(is:List Nat):DG:=fun t s=>match t with
 |.tup ts=>zbA is ts s
 |_=>none
theorem zrb{X:Cx}{e:Expr}{t t':TG}(h:PG X e t)(hw:∀ v σ H Q,t' v σ H Q->t v σ H Q):PG X e t':=fun pins s σ H v u Q I r q=>h pins s σ H v u Q I r (hw _ _ _ _ q)
section
variable {X:Cx}{rk:Kd}{io M M' Mb:List Nat}{tg iter:Expr}{body:List Stmt}{fi:DI}{g:DG}{db:DS}{pos:Pos}
theorem gn{i:Nat}(hi:M.contains i=false)(hio:io.all (M.contains ·)=true):∀ v σ H Q,cG io M (dGn i) v σ H Q->zc8 i v σ H Q:=by
 rintro v σ H Q ⟨F,O,s,t,s',R,I,r,hg,q⟩;have hi':i∉M:=by simpa using hi
 unfold dGn at hg;split at hg
 ·rename_i hl;injection hg with hg;subst hg;exact q _ (R.setE (fun j hj=>⟨hj,fun z=>hi' (z▸hj)⟩) (fun j hj=>.inl hj) hl r) (I.set (fun z=>hi' (zcJ hio i z)) (zcJ hio))
 ·cases hg
theorem gt{is:List Nat}{n:Nat}{K:j8}(hn:is.length=n)(hm:is.all (fun i=>!M.contains i)=true)(hio:io.all (M.contains ·)=true):∀ v σ H Q,cG io M (dGt is) v σ H Q->zkw K n (gsN is) v σ H Q:=by
 rintro v σ H Q ⟨F,O,s,t,s',R,I,r,hg,q⟩;obtain⟨ts,rfl⟩:∃ ts,t=.tup ts:=by cases t<;>first |exact⟨_,rfl⟩ |cases hg
 have hg:zbA is ts s=some s':=hg;have hl:∀ {is:List Nat} {ts:List T} {s s':Sg},zbA is ts s=some s'->ts.length=is.length:=by
  intro is
  induction is with
  |nil=>intro ts s s' e; cases ts with
   |nil=>rfl
   |cons=>cases e
  |cons i is ih=>intro ts s s' e; cases ts with
   |nil=>cases e
   |cons t ts=>
    unfold zbA at e;split at e
    ·rw[jm,jm,ih e]
    ·cases e
 obtain⟨a,vs,rfl,ha,ra⟩:=BRep.tup (.inl r);exact⟨a,vs,rfl,SqT.of ha,by rw[ra.1,hl hg,hn],zhd R I (fun i hi=>by simpa using jt.mp hm i hi) (zcJ hio) ra hg q⟩
theorem zt6{i:Nat}(h:PG X tg (zc8 i))(hi:M.contains i=false:=by rfl)(hio:io.all (M.contains ·)=true:=by rfl):PG X tg (cG io M (dGn i)):=zrb h (gn hi hio)
theorem zvu{is:List Nat}{n:Nat}{K:j8}(h:PG X tg (zkw K n (gsN is)))(hn:is.length=n:=by rfl)(hm:is.all (fun i=>!M.contains i)=true:=by rfl)(hio:io.all (M.contains ·)=true:=by rfl):PG X tg (cG io M (dGt is)):=zrb h (gt hn hm hio)
def zdd(g:DG)(db:DS):List T->Sg->Option Fl
 |[],s=>some (.nx s)
 |x::xs,s=>(g x s).bind fun s1=>(db s1).bind fun r=>match r with
  |.nx s2=>zdd g db xs s2
  |.ct s2=>zdd g db xs s2
  |.bk s2=>some (.nx s2)
  |.rt t s2=>some (.rt t s2)
def zf9(fi:DI)(g:DG)(db:DS):DS:=fun s=>(fi s).bind fun p=>zdd g db p.1 p.2
theorem zlV{F:Fr}{O O1:Addr->Prop}{s:Sg}{σ:L2.St}{H1 H2 H3:Hp}{x:V}{t:T}(k:KeepO O H1 O1 H2)(R:Rel F O1 M s σ H2)(hy:H3=H2∨∃ p o,H2 p=none/\H3=upd H2 p o)(r:Rep (fun b=>(Free F O b/\H1 b≠none)∨H2 b=none) H3 x t) :
  Rel F O1 M s σ H3/\KeepO O1 H2 O1 H3/\Rep (Free F O1) H3 x t:=by
 have fr:∀ b,((Free F O b/\H1 b≠none)∨H2 b=none)->Free F O1 b:=fun b c=>by
  rcases c with ⟨c,n⟩ |n
  ·cases e:H1 b with
   |none=>exact absurd e n
   |some o=>exact⟨(k.1 b o c.1 e).2,c.2⟩
  ·exact⟨fun z=>R.al b z n,.inr (R.dom b n)⟩
 refine⟨?_,?_,r.mono fr fun _ _ _ e=>e⟩
 ·rcases hy with rfl |⟨p,o,hp,rfl⟩
  ·exact R
  ·exact(R.new hp o).less (fun b z=>.inl z) R.ow R.inD
 ·rcases hy with rfl |⟨p,o,hp,rfl⟩
  ·exact .refl
  ·exact⟨fun b u n e=>⟨by rw[za5 (za6 e hp)]; exact e,n⟩,fun b e=>by
    unfold upd at e;split at e
    ·cases e
    ·exact e⟩
theorem zt9:∀ D σ H,cS rk io M M Mb (zf9 fi g db) D σ H->zrD (cI M fi) (cG io M g) (cS rk io M M M db) D σ H:=by
 intro D σ H h_;refine cS_ h_ fun F O s r R I hd q=>?_;obtain⟨⟨its,s1⟩,h1,h2⟩:=Qb hd;refine⟨F,O,s,its,s1,R,h1,fun J H1 S1 R1 IT=>?_⟩;have k1:KeepO O H O H1:=S1.keepO R;refine⟨fun i m σ' H'=>m=its.length - i/\i<=its.length/\∃ O' s',KeepO O H1 O' H'/\Rel F O' M s' σ' H'/\Ios F io M σ'/\zdd g db (its.drop i) s'=some r,⟨its.length,by simp,Zj _,O,s1,.refl,R1,I,h2⟩,?_⟩
 rintro i m σ2 H2 ⟨rfl,hi,O2,s2,k2,R2,I2,hl⟩;have it:=IT H2 (fun b o c e=>(k2.1 b o c.1 e).1) i
 by_cases hlt:i < its.length
 ·refine .inr ?_;obtain⟨go,yl⟩:=it.1 its[i] (j3 hlt);rw[Zk hlt] at hl;unfold zdd at hl;obtain⟨s3,hg,hl⟩:=Qb hl;obtain⟨r1,hb,hl⟩:=Qb hl;refine⟨go,fun σ' H'=>∃ O' s',KeepO O H1 O' H'/\Rel F O' M s' σ' H'/\Ios F io M σ'/\zdd g db (its.drop (i+1)) s'=some r,fun σ' H' ⟨O',s',h⟩=>⟨its.length - (i+1),by lia,rfl,hlt,O',s',h⟩,fun x H3 hy=>?_⟩
  obtain⟨y1,y2⟩:=yl x H3 hy;obtain⟨R3,k3,rx⟩:=zlV k2 R2 y1 y2;have k13:=k2.trans k3;refine⟨F,O2,s2,its[i],s3,R3,I2,rx,hg,fun σ4 R4 I4=>⟨F,O2,s3,r1,R4,I4,hb,?_⟩⟩;cases r1 with
  |nx s5=>exact fun O5 σ5 H5 k5 R5 I5=>⟨O5,s5,k13.trans k5,R5,I5,hl⟩
  |ct s5=>exact fun O5 σ5 H5 k5 R5 I5=>⟨O5,s5,k13.trans k5,R5,I5,hl⟩
  |bk s5=>
   injection hl with hl;subst hl;exact fun O5 σ5 H5 k5 R5 I5=>q O5 σ5 H5 (k1.trans (k13.trans k5)) R5 I5
  |rt t s5=>
   injection hl with hl;subst hl;exact q
 ·have e:i=its.length:=by lia
  subst e;rw[N1] at hl;injection hl with hl;subst hl;exact .inl ⟨it.2 (jl _),q O2 σ2 H2 (k1.trans k2) R2 I2⟩
theorem zuX(h:PS X (.For tg iter body [] pos) (zrD (cI M fi) (cG io M g) (cS rk io M M M db))):PS X (.For tg iter body [] pos) (cS rk io M M Mb (zf9 fi g db)):=zdL h zt9
def zbN(ft:DT)(db:DS):Nat->Sg->Option Fl
 |0,_=>none
 |n+1,s=>(ft s).bind fun p=>if p.1 then (db p.2).bind fun r=>match r with
  |.nx s2=>zbN ft db n s2
  |.ct s2=>zbN ft db n s2
  |.bk s2=>some (.nx s2)
  |.rt t s2=>some (.rt t s2)
  else some (.nx p.2)
theorem zno{ft:DT}{n:Nat}:∀ D σ H,cS rk io M M Mb (zbN ft db n) D σ H->zoG (cT M ft) (cS rk io M M M db) D σ H:=by
 intro D σ H h_;refine cS_ h_ fun F O s r R I hd q=>?_;refine⟨fun m σ' H'=>∃ O' s',KeepO O H O' H'/\Rel F O' M s' σ' H'/\Ios F io M σ'/\zbN ft db m s'=some r,⟨n,O,s,.refl,R,I,hd⟩,?_⟩;rintro m σ2 H2 ⟨O2,s2,k2,R2,I2,hl⟩;cases m with
 |zero=>cases hl
 |succ m=>
  unfold zbN at hl;obtain⟨⟨b,s3⟩,h1,h2⟩:=Qb hl;refine⟨F,O2,s2,b,s3,R2,h1,fun H3 S3 R3=>?_⟩;have k3:=k2.trans (S3.keepO R2);cases b with
  |true=>
   obtain⟨r1,hb,hl⟩:=Qb h2;refine⟨fun σ' H'=>∃ O' s',KeepO O H O' H'/\Rel F O' M s' σ' H'/\Ios F io M σ'/\zbN ft db m s'=some r,fun σ' H' z=>⟨m,gc m,z⟩,F,O2,s3,r1,R3,I2,hb,?_⟩;cases r1 with
   |nx s5=>exact fun O5 σ5 H5 k5 R5 I5=>⟨O5,s5,k3.trans k5,R5,I5,hl⟩
   |ct s5=>exact fun O5 σ5 H5 k5 R5 I5=>⟨O5,s5,k3.trans k5,R5,I5,hl⟩
   |bk s5=>
    injection hl with hl;subst hl;exact fun O5 σ5 H5 k5 R5 I5=>q O5 σ5 H5 (k3.trans k5) R5 I5
   |rt t s5=>
    injection hl with hl;subst hl;exact q
  |false=>
   injection h2 with h2;subst h2;exact q O2 σ2 H3 k3 R3 I2
theorem zpH{c:Expr}{ft:DT}(n:Nat)(hp:W0 (jM X.prog X.w) X.A X.env X.xe)(hc:PT X c (cT M ft))(hb:PSs X body (cS rk io M M M db)):PS X (.While c body [] pos) (cS rk io M M Mb (zbN ft db n)):=zdL (znL hp hc hb) zno
end
structure CallP (rk:Kd) (C:Addr->Prop) (H:Hp) (t:T) (v:V) (H':Hp):Prop where
 keep:∀ b o,H b=some o->H' b=some o
 dom:∀ b,H' b=none->H b=none
 res:match rk with
  |.n=>∃ r,v=.ref r/\H r=none/\Live (fun b=>(C b∨H b=none)/\b≠r) H' r t
  |_=>Rep (fun b=>C b∨H b=none) H' v t
def spP(rk:Kd)(np:Nat)(fn:List T->Option T):Sp:=fun vs H Q _=>∃ C ts t,ts.length=np/\Reps C H vs ts/\fn ts=some t/\∀ v H',CallP rk C H t v H'->Q v H'
structure CallI (rk:Kd) (C:Addr->Prop) (a:Addr) (H:Hp) (t t0:T) (v:V) (H':Hp):Prop where
 keep:∀ b o,b≠a->H b=some o->H' b=some o
 dom:∀ b,H' b=none->H b=none
 res:match rk with
  |.n=>∃ r,v=.ref r/\H r=none/\Live (fun b=>(b≠a/\(C b∨H b=none))/\b≠r) H' r t/\Live (fun b=>(b≠a/\(C b∨H b=none))/\b≠r) H' a t0
  |_=>Rep (fun b=>b≠a/\(C b∨H b=none)) H' v t/\Live (fun b=>b≠a/\(C b∨H b=none)) H' a t0
def spI(rk:Kd)(np:Nat)(fn:List T->Option (T × T)):Sp:=fun vs H Q _=>∃ C a us t0 ts t t1,(t0::ts).length=np/\vs=.ref a::us/\¬ C a/\Live C H a t0/\Reps C H us ts/\fn (t0::ts)=some (t,t1)/\∀ v H',CallI rk C a H t t1 v H'->Q v H'
def zaB(n:Nat)(ts:List T):Sg:=ts.map some++ZX (n - ts.length) none
def fnP(n:Nat)(d:DS):List T->Option T:=fun ts=>match d (zaB n ts) with
 |some (.rt t _)=>some t
 |some (.nx _)=>some .non
 |_=>none
def zni(n:Nat)(d:DS):List T->Option T:=fun ts=>match d (zaB n ts) with
 |some (.rt t _)=>some t
 |_=>none
def fnI(n:Nat)(d:DS):List T->Option (T × T):=fun ts=>match d (zaB n ts) with
 |some (.rt t s)=>(s[0]?).join.map fun u=>(t,u)
 |_=>none
theorem zi7{N:List Str}{vs:List V}{ts:List T}{C:Addr->Prop}{H:Hp}(r:Reps C H vs ts)(hl:ts.length<=N.length):(zaB N.length ts).length=(L2.start N vs).length/\∀(i:Nat) t,(zaB N.length ts)[i]?=some (some t)->∃ v,(L2.start N vs)[i]?=some (some v)/\ts[i]?=some t/\vs[i]?=some v/\Rep C H v t:=by
 have rl:=r.1;unfold zaB L2.start;refine⟨by simp[rl],fun i t e=>?_⟩
 by_cases hi:i < ts.length
 ·rw[Q6 (by rw[j6]; exact hi),ji] at e
  obtain⟨t',h1,h2⟩:=Qm e;injection h2 with h2;subst h2;obtain⟨v,hv,rv⟩:=r.get h1;refine⟨v,?_,h1,hv,rv⟩;rw[Q6 (by rw[j6,rl]; exact hi),ji,hv]
  rfl
 ·rw[Qh (by rw[j6]; lia)] at e
  have:=jJ e;have:=YG this;cases this
section
variable {rk:Kd}{M' Mb:List Nat}{d:DS}{N:List Str}{np:Nat}
theorem zpO{fn:List T->Option T}(hfn:∀ ts t,fn ts=some t->(∃ s',d (zaB N.length ts)=some (.rt t s'))∨(rk=.e/\t=.non/\∃ s',d (zaB N.length ts)=some (.nx s')))(hrk:rk=.e∨rk=.n)(hN:np<=N.length){vs:List V}{H:Hp}{Q:VK}{E:XK}(h:spP rk np fn vs H Q E) :
  cS rk [] [] M' Mb d { nx:=fun _ H'=>Q .non H',rt:=Q } (L2.start N vs) H:=by
 obtain⟨C,ts,t,hl,r,hf,q⟩:=h;obtain⟨l1,l2⟩:=zi7 (N:=N) r (by lia)
 have w:∀ b,C b->Free ⟨H,C,fun _=>False,fun _=>0⟩ (fun _=>False) b:=fun b c=>⟨fun z=>z,.inl c⟩;have R:Rel ⟨H,C,fun _=>False,fun _=>0⟩ (fun _=>False) [] (zaB N.length ts) (L2.start N vs) H:=by
  refine⟨l1,fun i t e _=>?_,fun i t e n=>by simp at n,fun i a n=>by simp at n,fun i j a n=>by simp at n,fun b o _ e=>e,fun b e=>e,fun a z=>z.elim,fun a z=>z,fun a z=>z.elim⟩
  obtain⟨v,h1,_,_,rv⟩:=l2 i t e;exact⟨v,h1,rv.mono w fun _ _ _ e=>e⟩
 have I:Ios ⟨H,C,fun _=>False,fun _=>0⟩ [] [] (L2.start N vs):=⟨fun i hi=>by simp at hi,fun a z=>z.elim⟩
 rcases hfn ts t hf with ⟨s',hd⟩ |⟨e1,e2,s',hd⟩
 ·refine⟨_,_,_,_,R,I,hd,fun v H' ro=>q v H' ⟨fun b o e=>ro.keep b o (fun z=>z) e,ro.dom,?_⟩⟩;rcases hrk with rfl |rfl
  ·exact ro.res.1.mono (fun b c=>c.2) fun _ _ _ e=>e
  ·obtain⟨r,h1,h2,_,h3,_⟩:=ro.res;exact⟨r,h1,h2,h3.mono (fun b c=>⟨c.1.2,c.2⟩) (fun _ _ _ e=>e) fun _ e=>e⟩
 ·subst e1 e2;refine⟨_,_,_,_,R,I,hd,fun O' σ' H' k R' I'=>q .non H' ⟨fun b o e=>R'.keep b o (fun z=>z) e,R'.dom,.non⟩⟩
theorem zv1(hrk:rk=.e∨rk=.n)(hN:np<=N.length){vs:List V}{H:Hp}{Q:VK}{E:XK}(h:spI rk np (fnI N.length d) vs H Q E) :
  cS rk [0] [0] M' Mb d { nx:=fun _ H'=>Q .non H',rt:=Q } (L2.start N vs) H:=by
 obtain⟨C,a,us,t0,ts,t,t1,hl,rfl,na,L,r,hf,q⟩:=h;have hlu:us.length+1<=N.length:=by rw[r.1]; simpa using Q5 (Nat.le_of_eq hl) hN
 have r':Reps (fun b=>C b∨b=a) H (.ref a::us) (t0::ts):=.cons (L.rep (fun b c=>.inl c) (.inr rfl)) (r.mono (fun b c=>.inl c) fun _ _ _ e=>e);obtain⟨l1,l2⟩:=zi7 (N:=N) r' (by rw[hl]; exact hN)
 have w:∀ b,C b->Free ⟨H,C,fun b=>b=a,fun _=>a⟩ (fun b=>b=a) b:=fun b c=>⟨fun z=>na (z▸c),.inl c⟩;have e0:(L2.start N (.ref a::us))[0]?=some (some (.ref a)):=rfl;have R:Rel ⟨H,C,fun b=>b=a,fun _=>a⟩ (fun b=>b=a) [0] (zaB N.length (t0::ts)) (L2.start N (.ref a::us)) H:=by
  refine⟨l1,fun i t e n=>?_,fun i t e n=>?_,fun i b n e=>?_,fun i j b n m _ _=>?_,fun b o _ e=>e,fun b e=>e,fun b z=>.inl z,fun b z=>z,fun b z=>z▸L.ne⟩
  ·obtain⟨v,h1,h2,h3,_⟩:=l2 i t e;cases i with
   |zero=>simp at n
   |succ i=>
    have rv:=r.2 i v t (by simpa using h3) (by simpa using h2)
    exact⟨v,h1,rv.mono w fun _ _ _ e=>e⟩
  ·obtain rfl:i=0:=by simpa using n
   obtain⟨v,h1,h2,h3,_⟩:=l2 0 t e;have:t0=t:=by simpa using h2
   subst this;exact⟨a,e0,L.mono w (fun _ _ _ e=>e) fun _ e=>e⟩
  ·obtain rfl:i=0:=by simpa using n
   rw[e0] at e;injection e with e;injection e with e;injection e with e;exact e.symm
  ·have h1:i=0:=by simpa using n
   have h2:j=0:=by simpa using m
   rw[h1,h2]
 have I:Ios ⟨H,C,fun b=>b=a,fun _=>a⟩ [0] [0] (L2.start N (.ref a::us)):=⟨fun i hi=>by
  obtain rfl:i=0:=by simpa using hi
  exact⟨by simp,e0⟩,fun b z=>⟨0,by simp,z⟩⟩
 unfold fnI at hf;cases hd:d (zaB N.length (t0::ts)) with
 |none=>rw[hd] at hf; cases hf
 |some r1=>
  rw[hd] at hf;cases r1 with
  |rt t' s'=>
   obtain⟨u,h1,h2⟩:=Qm hf;injection h2 with h2 h3;subst h2 h3;refine⟨_,_,_,_,R,I,hd,fun v H' ro=>q v H' ⟨fun b o n e=>ro.keep b o n e,ro.dom,?_⟩⟩;rcases hrk with rfl |rfl
   ·obtain⟨h2,h3⟩:=ro.res;obtain⟨t2,h4,h5⟩:=h3 0 (by simp)
    rw[zag h1] at h4;injection h4 with h4;injection h4 with h4;subst h4;exact⟨h2,h5⟩
   ·obtain⟨r,h2,h3,_,h4,h5⟩:=ro.res;obtain⟨t2,h6,h7⟩:=h5 0 (by simp)
    rw[zag h1] at h6;injection h6 with h6;injection h6 with h6;subst h6;exact⟨r,h2,h3,h4,h7⟩
  |nx s'=>cases hf
  |bk s'=>cases hf
  |ct s'=>cases hf
end
section
variable {F:Fr}{O:Addr->Prop}{M:List Nat}{s:Sg}{σ:L2.St}{H H':Hp}
theorem Rel.ext(R:Rel F O M s σ H)(k:∀ b o,H b=some o->H' b=some o)(dm:∀ b,H' b=none->H b=none):Rel F O M s σ H' where
 len:=R.len
 val:=fun i t e n=>by
  obtain⟨v,h1,h2⟩:=R.val i t e n;exact⟨v,h1,h2.mono (fun _ c=>c) fun b o _ e=>k b o e⟩
 own:=fun i t e n=>by
  obtain⟨a,h1,h2⟩:=R.own i t e n;exact⟨a,h1,h2.mono (fun _ c=>c) (fun b o _ e=>k b o e) fun o e=>k a o e⟩
 ow:=R.ow
 dis:=R.dis
 keep:=fun b o n e=>k b o (R.keep b o n e)
 dom:=fun b e=>R.dom b (dm b e)
 fresh:=R.fresh
 inD:=R.inD
 al:=fun a z e=>R.al a z (dm a e)
theorem Rel.extN{r:Addr}(R:Rel F O M s σ H)(k:∀ b o,H b=some o->H' b=some o)(dm:∀ b,H' b=none->H b=none)(hr:H r=none)(hr':H' r≠none):Rel F (fun b=>O b∨b=r) M s σ H':=by
 have R':=R.ext k dm;have fr:∀ b,Free F O b/\H b≠none->Free F (fun b=>O b∨b=r) b:=fun b c=>⟨fun z=>z.elim c.1.1 fun z=>c.2 (z▸hr),c.1.2⟩;refine⟨R.len,fun i t e n=>?_,fun i t e n=>?_,fun i b hi e=>.inl (R.ow i b hi e),R.dis,R'.keep,R'.dom,fun b z=>?_,fun b z=>.inl (R.inD b z),fun b z=>?_⟩
 ·obtain⟨v,h1,h2⟩:=R.val i t e n;exact⟨v,h1,h2.there.mono fr fun b o _ e=>k b o e⟩
 ·obtain⟨b,h1,h2⟩:=R.own i t e n;exact⟨b,h1,h2.there.mono fr (fun b o _ e=>k b o e) fun o e=>k b o e⟩
 ·rcases z with z |z
  ·exact R.fresh b z
  ·subst z; exact .inr (R.dom _ hr)
 ·rcases z with z |z
  ·exact R'.al b z
  ·subst z; exact hr'
theorem Rel.freeNew(R:Rel F O M s σ H){b:Addr}(h:Free F O b∨H b=none):Free F O b:=h.elim id fun z=>⟨fun w=>R.al b w z,.inr (R.dom b z)⟩
end
def Ar(fa:DA)(n:Nat):Prop:=∀ s ts s',fa s=some (ts,s')->ts.length=n
theorem ztB:Ar dAn 0:=fun s ts s' h=>by
 injection h with h;injection h with h1 _;rw[<-h1]; rfl
theorem ar_{f:DE}{fa:DA}{n:Nat}(h:Ar fa n):Ar (dAc f fa) (n+1):=fun s ts s' e=>by
 obtain⟨p,h1,h2⟩:=Qb e;obtain⟨q,h3,h4⟩:=Qm h2;injection h4 with h4 _;rw[<-h4,jm,h _ _ _ h3]
def zar(fn:List T->Option T)(fa:DA):DE:=fun s=>(fa s).bind fun p=>(fn p.1).map fun t=>(t,p.2)
def zal(fn:List T->Option (T × T))(i:Nat)(fa:DA):DE:=fun s=>(s[i]?).join.bind fun _=>(fa s).bind fun p=>(p.2[i]?).join.bind fun t0=>(fn (t0::p.1)).map fun q=>(q.1,p.2.set i (some q.2))
def zgo(fn:List T->Option (T × T))(f0:DE)(fa:DA):DE:=fun s=>(f0 s).bind fun p=>(fa p.2).bind fun q=>(fn (p.1::q.1)).map fun r=>(r.1,q.2)
section
variable {M:List Nat}{fa:DA}{f0:DE}{rk:Kd}{np:Nat}
theorem ztz{fn:List T->Option T}(hn:Ar fa np):∀ σ H Q,cE .e M (zar fn fa) σ H Q->zkW (spP .e np fn) [] E0 (cA M fa) σ H Q:=by
 intro σ H Q h_;refine cE_ h_ fun F O s t s' R hf q=>?_;obtain⟨p,h1,h2⟩:=Qb hf;obtain⟨t',h3,h4⟩:=Qm h2;injection h4 with h4 h5;subst h4 h5;refine⟨F,O,s,p.1,p.2,R,h1,fun vs H1 S1 R1 rs=>?_⟩
 try dsimp only
 rw[QV];refine⟨Free F O,p.1,t',hn _ _ _ h1,rs,h3,fun v H2 c=>q v H2 (S1.trans ⟨fun b o _ e=>c.keep b o e,c.dom⟩) ⟨R1.ext c.keep c.dom,?_⟩⟩;exact c.res.mono (fun b z=>R1.freeNew z) fun _ _ _ e=>e
theorem zty{fn:List T->Option T}(hn:Ar fa np):∀ σ H Q,cE .n M (zar fn fa) σ H Q->zkW (spP .n np fn) [] E0 (cA M fa) σ H Q:=by
 intro σ H Q h_;refine cE_ h_ fun F O s t s' R hf q=>?_;obtain⟨p,h1,h2⟩:=Qb hf;obtain⟨t',h3,h4⟩:=Qm h2;injection h4 with h4 h5;subst h4 h5;refine⟨F,O,s,p.1,p.2,R,h1,fun vs H1 S1 R1 rs=>?_⟩
 try dsimp only
 rw[QV];refine⟨Free F O,p.1,t',hn _ _ _ h1,rs,h3,fun v H2 c=>?_⟩;obtain⟨r,rfl,hr,L⟩:=c.res;refine q _ H2 (S1.trans ⟨fun b o _ e=>c.keep b o e,c.dom⟩) ⟨r,rfl,S1.dom r hr,R1.extN c.keep c.dom hr L.ne,L.mono (fun b z=>?_) (fun _ _ _ e=>e) fun _ e=>e⟩;have:=R1.freeNew z.1;exact⟨fun y=>y.elim this.1 z.2,this.2⟩
theorem zqX{fn:List T->Option (T × T)}{i:Nat}(hn:Ar fa np)(hi:M.contains i=true):∀ σ H Q,cE .e M (zal fn i fa) σ H Q->zkW (spI .e (np+1) fn) [] E0 (zde (zcT i) (cA M fa)) σ H Q:=by
 intro σ H Q h_;refine cE_ h_ fun F O s t s' R hf q=>?_;have hi':i∈M:=by simpa using hi
 obtain⟨x0,h0,hf⟩:=Qb hf;obtain⟨p,h1,hf⟩:=Qb hf;obtain⟨t0,h2,hf⟩:=Qb hf;obtain⟨w,h3,h4⟩:=Qm hf;injection h4 with h4 h5;subst h4 h5;obtain⟨a,e1,_⟩:=R.own i x0 (zag h0) hi';refine⟨_,e1,F,O,s,p.1,p.2,R,h1,fun vs H1 S1 R1 rs=>?_⟩;obtain⟨b,e2,L⟩:=R1.own i t0 (zag h2) hi';rw[e1] at e2;injection e2 with e2;injection e2 with e2;injection e2 with e2;subst e2;have oa:=R1.ow i a hi' e1
 try dsimp only
 rw[QV];refine⟨Free F O,a,vs,t0,p.1,w.1,w.2,by rw[jm,hn _ _ _ h1],rfl,fun z=>z.1 oa,L,rs,h3,fun v H2 c=>?_⟩
 obtain⟨c1,c2⟩:=c.res;have S2:Step σ M H1 H2:=⟨fun b o n e=>c.keep b o (fun z=>n i hi' (z▸e1)) e,c.dom⟩;have fr:∀ b,(b≠a/\(Free F O b∨H1 b=none))->Free F O b:=fun b z=>R1.freeNew z.2;have kf:∀ b u,Free F O b->H1 b=some u->H2 b=some u:=fun b u z e=>c.keep b u (fun y=>z.1 (y▸oa)) e;have hl:i < p.2.length:=(j9.mp (zag h2)).1;refine q v H2 (S1.trans S2) ⟨?_,c1.mono fr fun _ _ _ e=>e⟩;refine⟨by rw[Q2]; exact R1.len,fun j t e' n=>?_,fun j t e' n=>?_,R1.ow,R1.dis,fun b u n e=>?_,fun b e=>R1.dom b (c.dom b e),R1.fresh,R1.inD,fun b z e=>R1.al b z (c.dom b e)⟩
 ·have hij:i≠j:=fun z=>n (z▸hi');rw[jn hij] at e';obtain⟨v,h1,h2⟩:=R1.val j t e' n;exact⟨v,h1,h2.mono (fun _ c=>c) kf⟩
 ·by_cases hij:i=j
  ·subst hij;rw[jP hl] at e';injection e' with e';injection e' with e';subst e';exact⟨a,e1,c2.mono fr (fun _ _ _ e=>e) fun _ e=>e⟩
  ·rw[jn hij] at e';obtain⟨b,h1,h2⟩:=R1.own j t e' n;have hne:b≠a:=fun z=>hij (R1.dis i j a hi' n e1 (z▸h1));exact⟨b,h1,h2.mono (fun _ c=>c) kf fun u e=>c.keep b u hne e⟩
 ·refine c.keep b u (fun z=>?_) (R1.keep b u n e);subst z;rcases R1.fresh b oa with z |z
  ·exact n z
  ·rw[z] at e; cases e
theorem zqW{fn:List T->Option (T × T)}(hrk:rk=.e∨rk=.n)(hn:Ar fa np):∀ σ H Q,cE rk M (zgo fn f0 fa) σ H Q->zkW (spI rk (np+1) fn) [] E0 (zde (cE .n M f0) (cA M fa)) σ H Q:=by
 intro σ H Q h_;refine cE_ h_ fun F O s t s' R hf q=>?_;obtain⟨p,h1,hf⟩:=Qb hf;obtain⟨w,h2,hf⟩:=Qb hf;obtain⟨u,h3,h4⟩:=Qm hf;injection h4 with h4 h5;subst h4 h5;refine⟨F,O,s,p.1,p.2,R,h1,fun v0 H1 S1 p1=>?_⟩;obtain⟨a,rfl,ha,R1,L⟩:=p1;refine⟨F,_,p.2,w.1,w.2,R1,h2,fun vs H2 S2 R2 rs=>?_⟩;have na:∀(j:Nat),j∈M->σ[j]?≠some (some (.ref a)):=fun j hj e=>R.al a (R.ow j a hj e) ha;have L2:Live (Free F (fun b=>O b∨b=a)) H2 a p.1:=L.mono (fun _ c=>c) (fun b o c e=>S2.keep b o (R1.notOwned c.1) e) fun o e=>S2.keep a o na e
 try dsimp only
 rw[QV];refine⟨Free F (fun b=>O b∨b=a),a,vs,p.1,w.1,u.1,u.2,by rw[jm,hn _ _ _ h2],rfl,fun z=>z.1 (.inr rfl),L2,rs,h3,fun v H3 c=>?_⟩
 have S:Step σ M H H3:=⟨fun b o n e=>c.keep b o (za6 e ha) ((S1.trans S2).keep b o n e),fun b e=>(S1.trans S2).dom b (c.dom b e)⟩;have RO:Rel F O M w.2 σ H2:=R2.less (fun b z=>.inl z) R.ow R.inD
 -- all but a is kept; a is nobody's
 have k3:∀ b o,b≠a->H2 b=some o->H3 b=some o:=fun b o n e=>c.keep b o n e;have fa':∀ b,Free F (fun b=>O b∨b=a) b->Free F O b:=fun b z=>z.weak fun b y=>.inl y;have R3:Rel F (fun b=>O b∨b=a) M w.2 σ H3:=by
  refine⟨R2.len,fun i t e n=>?_,fun i t e n=>?_,R2.ow,R2.dis,fun b o n e=>?_,fun b e=>R2.dom b (c.dom b e),R2.fresh,R2.inD,fun b z e=>R2.al b z (c.dom b e)⟩
  ·obtain⟨v,h1,h2⟩:=R2.val i t e n;exact⟨v,h1,h2.mono (fun _ c=>c) fun b o z e=>k3 b o (fun y=>z.1 (.inr y)) e⟩
  ·obtain⟨b,h1,h2⟩:=R2.own i t e n;exact⟨b,h1,h2.mono (fun _ c=>c) (fun b o z e=>k3 b o (fun y=>z.1 (.inr y)) e) fun o e=>k3 b o (fun z=>na i n (z▸h1)) e⟩
  ·refine k3 b o (fun z=>?_) (R2.keep b o n e);subst z;have:=R.dom b ha;rw[this] at e; cases e
 have R3O:Rel F O M w.2 σ H3:=R3.less (fun b z=>.inl z) R.ow R.inD;have frn:∀ b,(b≠a/\(Free F (fun b=>O b∨b=a) b∨H2 b=none))->Free F O b:=fun b z=>z.2.elim (fa' b) fun y=>⟨fun x=>RO.al b x y,.inr (RO.dom b y)⟩;rcases hrk with rfl |rfl
 ·exact q v H3 S ⟨R3O,c.res.1.mono frn fun _ _ _ e=>e⟩
 ·obtain⟨r,rfl,hr,c1,_⟩:=c.res;have nr:∀ b,Free F O b/\H2 b≠none->Free F (fun b=>O b∨b=r) b:=fun b z=>⟨fun y=>y.elim z.1.1 fun y=>z.2 (y▸hr),z.1.2⟩;refine q _ H3 S ⟨r,rfl,S1.dom r (S2.dom r hr),?_,c1.mono (fun b z=>?_) (fun _ _ _ e=>e) fun _ e=>e⟩
  ·refine⟨R2.len,fun i t e n=>?_,fun i t e n=>?_,fun i b hi e=>.inl (R.ow i b hi e),R2.dis,R3.keep,R3.dom,fun b z=>?_,fun b z=>.inl (R.inD b z),fun b z=>?_⟩
   ·obtain⟨v,h1,h2⟩:=R2.val i t e n;exact⟨v,h1,h2.there.mono (fun b z=>nr b ⟨fa' b z.1,z.2⟩) fun b o z e=>k3 b o (fun y=>z.1.1 (.inr y)) e⟩
   ·obtain⟨b,h1,h2⟩:=R2.own i t e n;exact⟨b,h1,h2.there.mono (fun b z=>nr b ⟨fa' b z.1,z.2⟩) (fun b o z e=>k3 b o (fun y=>z.1.1 (.inr y)) e) fun o e=>k3 b o (fun z=>na i n (z▸h1)) e⟩
   ·rcases z with z |z
    ·exact RO.fresh b z
    ·subst z; exact .inr (RO.dom _ hr)
   ·rcases z with z |z
    ·exact R3O.al b z
    ·subst z; exact c1.ne
  ·have:=frn b z.1;exact⟨fun y=>y.elim this.1 z.2,this.2⟩
end
def S1E(r:List V->Hp->VK->Prop)(g:T->Option T):Prop:=∀(C:Addr->Prop) (H:Hp) x tx t (Q:VK),BRep C H x tx->g tx=some t->(∀ v,Rep C H v t->Q v H)->r [x] H Q
def S1N(r:List V->Hp->VK->Prop)(g:T->Option T):Prop:=∀(C:Addr->Prop) (H:Hp) x tx t (Q:VK),BRep C H x tx->g tx=some t->
 (∀ p o,H p=none->(∀ C':Addr->Prop,(∀ b,C b/\H b≠none->C' b)->Live C' (upd H p o) p t)->Q (.ref p) (upd H p o))->r [x] H Q
def d1(g:T->Option T)(f:DE):DE:=fun s=>(f s).bind fun p=>(g p.1).map fun t=>(t,p.2)
section
variable {M:List Nat}{f:DE}
theorem zsF{r:List V->Hp->VK->Prop}{g:T->Option T}(h:S1E r g):∀ σ H Q,cE .e M (d1 g f) σ H Q->tCB r (zde (cE .b M f) zlJ) σ H Q:=by
 intro σ H Q h_;refine cE_ h_ fun F O s t s' R hf q=>?_;obtain⟨p,h1,h2⟩:=Qb hf;obtain⟨t',h3,h4⟩:=Qm h2;injection h4 with h4 h5;subst h4 h5;exact⟨F,O,s,p.1,p.2,R,h1,fun v H1 S1 p1=>h (Free F O) H1 v p.1 t' Q p1.view h3 fun w rw=>q w H1 S1 ⟨p1.1,rw⟩⟩
theorem zvc{r:List V->Hp->VK->Prop}{g:T->Option T}(h:S1N r g):∀ σ H Q,cE .n M (d1 g f) σ H Q->tCB r (zde (cE .b M f) zlJ) σ H Q:=by
 intro σ H Q h_;refine cE_ h_ fun F O s t s' R hf q=>?_;obtain⟨p,h1,h2⟩:=Qb hf;obtain⟨t',h3,h4⟩:=Qm h2;injection h4 with h4 h5;subst h4 h5;exact⟨F,O,s,p.1,p.2,R,h1,fun v H1 S1 p1=>h (Free F O) H1 v p.1 t' Q p1.view h3 fun a o ha L=>q _ _ (S1.trans (.new ha o)) (.mkN R p1.1 S1 ha L)⟩
end
theorem CallR.or{X:Cx}{f:ja}{r r':List V->Hp->VK->Prop}(h:CallR X f r)(h':CallR X f r'):CallR X f (fun xs H Q=>r xs H Q∨r' xs H Q):=by
 intro pins s σ H xs us Q I rv q;rcases q with q |q
 ·exact h pins s σ H xs us Q I rv q
 ·exact h' pins s σ H xs us Q I rv q
theorem znb{X:Cx}:CallR X (.builtin "len") (fun xs H Q=>∃ a kvs,xs=[V.ref a]/\Rd H a (.dK kvs)/\Q (.int kvs.length) H):=by
 intro pins s σ H xs us Q I r h;obtain⟨a,kvs,rfl,ha,q⟩:=h;obtain⟨u,rfl,ru⟩:=zj5 r;cases ru;exact zvX I ha fun t s' I'=>⟨.int kvs.length,H,I',⟨t,rfl⟩,q⟩
def zcF:T->Option T
 |.lst xs=>some (.int xs.length) |.tup xs=>some (.int xs.length) |.scr xs=>some (.int xs.length) |.dct xs=>some (.int xs.length) |.fd xs=>some (.int xs.length)
 |.str x=>if x.length<=jh then some (.int x.length) else none
 |_=>none
theorem zuV:S1E (fun xs H Q=>((∃ p ys,xs=[.ref p]/\(SqL TheK.K H p ys∨SqT TheK.K H p ys)/\Q (.int ys.length) H)∨(∃ z,xs=[.str z]/\z.length<=jh/\Q (.int z.length) H))∨∃ a kvs,xs=[V.ref a]/\Rd H a (.dK kvs)/\Q (.int kvs.length) H) zcF:=by
 intro C H x tx t Q bx hg q;cases tx with
 |lst ts=>
  injection hg with hg; subst hg;obtain⟨a,vs,rfl,ha,ra⟩:=bx.lst;exact .inl (.inl ⟨a,vs,rfl,.inl (SqL.of ha),by rw[ra.1]; exact q _ (.int _)⟩)
 |tup ts=>
  injection hg with hg; subst hg;obtain⟨a,vs,rfl,ha,ra⟩:=bx.tup;exact .inl (.inl ⟨a,vs,rfl,.inr (SqT.of ha),by rw[ra.1]; exact q _ (.int _)⟩)
 |scr ns=>
  injection hg with hg; subst hg;obtain⟨a,rfl,ha⟩:=bx.scr;exact .inl (.inl ⟨a,_,rfl,.inl ha,by rw[j6]; exact q _ (.int _)⟩)
 |dct ks=>
  injection hg with hg; subst hg;obtain⟨a,kvs,rfl,ha,ra⟩:=bx.dct;exact .inr ⟨a,kvs,rfl,.inl ha,by rw[ra.len]; exact q _ (.int _)⟩
 |fd ks=>
  injection hg with hg; subst hg;obtain⟨a,ob,kvs,rfl,ha,ra,_⟩:=bx.fd;exact .inr ⟨a,kvs,rfl,.inr ⟨ob,ha⟩,by rw[ra.len]; exact q _ (.int _)⟩
 |str z=>
  have hg:(if z.length<=jh then some (T.int z.length) else none)=some t:=hg
  split at hg
  ·rename_i hl;injection hg with hg; subst hg;exact .inl (.inr ⟨z,by rw[bx.str],hl,q _ (.int _)⟩)
  ·cases hg
 |_=>cases hg
def zvv:T->Option T
 |.lst xs=>some (.lst xs) |.tup xs=>some (.lst xs) |.scr ns=>some (.lst (ns.map .int))
 |_=>none
theorem zlS:S1N (fun xs H Q=>∃ p ys,xs=[.ref p]/\(SqL TheK.K H p ys∨SqT TheK.K H p ys)/\∀ l,H l=none->Q (.ref l) (upd H l (.lst ys))) zvv:=by
 intro C H x tx t Q bx hg q;cases tx with
 |lst ts=>
  injection hg with hg; subst hg;obtain⟨a,vs,rfl,ha,ra⟩:=bx.lst;exact⟨a,vs,rfl,.inl (SqL.of ha),fun p hp=>q p _ hp fun C' hC=>.lst zae (ra.there.mono hC fun c o _ e=>by rw[za5 (za6 e hp)]; exact e)⟩
 |tup ts=>
  injection hg with hg; subst hg;obtain⟨a,vs,rfl,ha,ra⟩:=bx.tup;exact⟨a,vs,rfl,.inr (SqT.of ha),fun p hp=>q p _ hp fun C' hC=>.lst zae (ra.there.mono hC fun c o _ e=>by rw[za5 (za6 e hp)]; exact e)⟩
 |scr ns=>
  injection hg with hg; subst hg;obtain⟨a,rfl,ha⟩:=bx.scr;exact⟨a,_,rfl,.inl ha,fun p hp=>q p _ hp fun C' hC=>.lst zae (zej _)⟩
 |_=>cases hg
def zt7:T->Option T
 |.int i=>some (.int i) |.bl k=>some (.int (if k then 1 else 0))
 |_=>none
theorem zuW:S1E (fun xs H Q=>(∃ i,xs=[.int i]/\Q (.int i) H)∨∃ k,xs=[.bl k]/\Q (.int (if k then 1 else 0)) H) zt7:=by
 intro C H x tx t Q bx hg q;cases tx with
 |int i=>injection hg with hg; subst hg; exact .inl ⟨i,by rw[bx.int],q _ (.int _)⟩
 |bl k=>injection hg with hg; subst hg; exact .inr ⟨k,by rw[bx.bl],q _ (.int _)⟩
 |_=>cases hg
def isi(c:String):T->Option Bool
 |.non=>some (c == "NoneType") |.bl _=>some (c == "bool"||c == "int") |.int _=>some (c == "int") |.str _=>some (c == "str")
 |.lst _=>some (c == "list") |.tup _=>some (c == "tuple") |.dct _=>some (c == "dict")
 |_=>none
def zlv(c:String)(f:DE):DE:=d1 (fun t=>(isi c t).map .bl) f
def zsG(c:String):Bool:=["NoneType","bool","int","str","list","tuple","dict"].contains c
theorem zsW{K:j8}{C:Addr->Prop}{H:Hp}{v:V}{t:T}{c:String}{b:Bool}(hc:zsG c=true)(h:BRep C H v t)(e:isi c t=some b):∃ ty,TyOf K H v ty/\NN K ty (.type c)=some b:=by
 have hc':c="NoneType"∨c="bool"∨c="int"∨c="str"∨c="list"∨c="tuple"∨c="dict":=by simpa[zsG] using hc
 cases t with
 |non=>obtain rfl:=h.non; injection e with e; subst e; refine⟨_,.non,?_⟩; rcases hc' with rfl |rfl |rfl |rfl |rfl |rfl |rfl<;>rfl
 |bl x=>obtain rfl:=h.bl; injection e with e; subst e; refine⟨_,.bl x,?_⟩; rcases hc' with rfl |rfl |rfl |rfl |rfl |rfl |rfl<;>rfl
 |int x=>obtain rfl:=h.int; injection e with e; subst e; refine⟨_,.int x,?_⟩; rcases hc' with rfl |rfl |rfl |rfl |rfl |rfl |rfl<;>rfl
 |str x=>obtain rfl:=h.str; injection e with e; subst e; refine⟨_,.str x,?_⟩; rcases hc' with rfl |rfl |rfl |rfl |rfl |rfl |rfl<;>rfl
 |lst ts=>
  obtain⟨a,vs,rfl,ha,ra⟩:=h.lst;injection e with e; subst e; refine⟨_,.lst ha,?_⟩; rcases hc' with rfl |rfl |rfl |rfl |rfl |rfl |rfl<;>rfl
 |tup ts=>
  obtain⟨a,vs,rfl,ha,ra⟩:=h.tup;injection e with e; subst e; refine⟨_,.tup ha,?_⟩; rcases hc' with rfl |rfl |rfl |rfl |rfl |rfl |rfl<;>rfl
 |dct ts=>
  obtain⟨a,vs,rfl,ha,ra⟩:=h.dct;injection e with e; subst e; refine⟨_,.dK ha,?_⟩; rcases hc' with rfl |rfl |rfl |rfl |rfl |rfl |rfl<;>rfl
 |scr ns=>cases e
 |set=>cases e
 |fd=>cases e
 |any=>cases e
theorem zvl{M:List Nat}{f:DE}{K:j8}{c:String}(hc:zsG c=true):∀ σ H Q,cE .e M (zlv c f) σ H Q->tCB (zwo K) (zde (cE .b M f) (zde (tC (.ty c)) zlJ)) σ H Q:=by
 intro σ H Q h_;refine cE_ h_ fun F O s t s' R hf q=>?_;obtain⟨p,h1,h2⟩:=Qb hf;obtain⟨t',h3,h4⟩:=Qm h2;obtain⟨b,h5,h6⟩:=Qm h3;injection h4 with h4 h7;subst h4 h7 h6;refine⟨F,O,s,p.1,p.2,R,h1,fun v H1 S1 p1=>?_⟩;obtain⟨ty,g1,g2⟩:=zsW (K:=K) hc p1.view h5;exact⟨v,c,ty,b,rfl,g1,g2,q _ H1 S1 ⟨p1.1,.bl b⟩⟩
def zdM:List T->Option (List Str)
 |[]=>some []
 |.str x::ts=>(zdM ts).map fun r=>x::r
 |_=>none
theorem zea{C:Addr->Prop}{H:Hp}:∀ {vs:List V} {ts:List T} {ys:List Str},Reps C H vs ts->zdM ts=some ys->vs=ys.map V.str
 |[],[],ys,_,e=>by injection e with e; subst e; rfl
 |v::vs,[],ys,h,_=>by have:=h.1; simp at this
 |[],t::ts,ys,h,_=>by have:=h.1; simp at this
 |v::vs,t::ts,ys,h,e=>by
  cases t with
  |str x=>
   obtain⟨r,h1,h2⟩:=Qm (show (zdM ts).map (fun r=>x::r)=some ys from e);subst h2;rw[jj,zea h.tail h1,BRep.str (.inl h.head)]
  |_=>cases e
def zo6(z:Str)(t:T):Option T:=match t with
 |.lst ts=>(zdM ts).bind fun ys=>if (ys.map (·.length)).sum+ys.length*z.length<=16777216 then some (.str (WR z ys)) else none
 |_=>none
def zlm(f:DE)(g:DE):DE:=fun s=>(f s).bind fun p=>match p.1 with
 |.str z=>(g p.2).bind fun q=>(zo6 z q.1).map fun t=>(t,q.2)
 |_=>none
theorem zsU{M:List Nat}{f g:DE}{K:j8}:∀ σ H Q,cE .e M (zlm f g) σ H Q->tBM K "str" (znB K) (cE .e M f) (zde (cE .b M g) zlJ) σ H Q:=by
 intro σ H Q h_;refine cE_ h_ fun F O s t s' R hf q=>?_;obtain⟨⟨p1,p2⟩,h1,h2⟩:=Qb hf;obtain⟨z,rfl⟩:∃ z,p1=.str z:=by cases p1<;>first |exact⟨_,rfl⟩ |cases h2
 obtain⟨⟨q1,q2⟩,h3,h4⟩:=Qb (show ((g p2).bind fun q=>(zo6 z q.1).map fun t=>(t,q.2))=some (t,s') from h2);obtain⟨t',h5,h6⟩:=Qm h4;injection h6 with h6 h7;subst h6 h7;refine⟨F,O,s,_,_,R,h1,fun v H1 S1 pa=>?_⟩;obtain rfl:v=.str z:=BRep.str (.inl pa.2);refine⟨rfl,F,O,_,_,_,pa.1,h3,fun u H2 S2 pb=>?_⟩;obtain⟨ts,rfl⟩:∃ ts,q1=.lst ts:=by cases q1<;>first |exact⟨_,rfl⟩ |cases h5
 obtain⟨ys,h8,h9⟩:=Qb (show ((zdM ts).bind fun ys=>if (ys.map (·.length)).sum+ys.length*z.length<=16777216 then some (T.str (WR z ys)) else none)=some t' from h5)
 split at h9
 ·rename_i hl;injection h9 with h9;subst h9;obtain⟨a,vs,rfl,ha,ra⟩:=pb.view.lst;rw[zea ra h8] at ha;exact⟨z,a,ys,rfl,rfl,SqL.of ha,hl,q _ H2 (S1.trans S2) ⟨pb.1,.str _⟩⟩
 ·cases h9
theorem zpb{x:V}:∀ {ys:List V} {us:List ja},Vals ys us->ys.all zeP=true->us.countP (eqU x)=ys.countP fun y=>eqV y x
 |[],_,.nil,_=>rfl
 |y::ys,u::us,.cons r t,h=>by
  rw[Y0,jI] at h;rw[WK,WK,zpb t h.2,zmX r h.1]
def zhn:V->List V->Hp->VK->Prop:=fun x vs H Q=>∃(l:Addr) (ys:List V) (z:V),x=.ref l/\vs=[z]/\zeP z=true/\ys.all zeP=true/\H l=some (.lst ys)/\Q (.int (ys.countP (fun y=>eqV y z):Nat)) H
theorem zmv{X:Cx}:MtR X "list.count" zhn:=by
 intro pins s sg H x vs v us Q I rx rv h;obtain⟨l,ys,z,rfl,rfl,fz,fy,hH,q⟩:=h;cases rx;obtain⟨u,rfl,ru⟩:=rv.one;obtain⟨its,n,r,e,hz⟩:=I.lst hH;refine Wn F.slot_list_count ⟨_,e,rfl⟩ F.entry_list_count (F.args_list_count_2 _ _) (SeqAt.list_countAt l its.toArray n none #[] u (eqU z)) ⟨e,fun w hw=>zft ru fz r fy w (by simpa using hw),?_⟩
 refine⟨.int (ys.countP (fun y=>eqV y z):Nat),H,I.tok _,⟨s.toks,?_⟩,q⟩;rw[List.toList_toArray,zpb r fy]
def zgd(x y:T):Option T:=match x with
 |.lst ts=>(zk4 ts).bind fun vs=>(toV y).map fun v=>.int (vs.countP (fun u=>eqV u v):Nat)
 |_=>none
def S2M(r:V->List V->Hp->VK->Prop)(g:T->T->Option T):Prop:=∀(C:Addr->Prop) (H:Hp) x y tx ty t (Q:VK),BRep C H x tx->BRep C H y ty->g tx ty=some t->(∀ v,Rep C H v t->Q v H)->r x [y] H Q
def d2L(g:T->T->Option T)(fa fb:DE):DE:=fun s=>(fa s).bind fun p=>if ziy p.1 then (fb p.2).bind fun q=>(g p.1 q.1).map fun t=>(t,q.2) else none
theorem zxF{M:List Nat}{fa fb:DE}{K:j8}{r:V->List V->Hp->VK->Prop}{g:T->T->Option T}(h:S2M r g):∀ σ H Q,cE .e M (d2L g fa fb) σ H Q->tBM K "list" r (cE .e M fa) (zde (cE .b M fb) zlJ) σ H Q:=by
 intro σ H Q h_;refine cE_ h_ fun F O s t s' R hf q=>?_;obtain⟨p,h1,h2⟩:=Qb hf;split at h2
 ·rename_i hl;obtain⟨w,h3,h4⟩:=Qb h2;obtain⟨t',h5,h6⟩:=Qm h4;injection h6 with h6 h7;subst h6 h7;refine⟨F,O,s,p.1,p.2,R,h1,fun v H1 S1 pa=>?_⟩;have ty:tyV K "list" v H1:=by
   obtain⟨ts,e⟩:∃ ts,p.1=.lst ts:=by cases e:p.1<;>first |exact⟨_,rfl⟩ |(rw[e] at hl; cases hl)
   have pr:=pa.2;rw[e] at pr;obtain⟨a,vs,rfl,ha,ra⟩:=BRep.lst (.inl pr);exact .inl ⟨rfl,_,SqL.of ha⟩
  refine⟨ty,F,O,p.2,w.1,w.2,pa.1,h3,fun u H2 S2 pb=>?_⟩;exact h (Free F O) H2 v u p.1 w.1 t' Q (.inl (pa.1.stay S2 pa.2)) pb.view h5 fun x rx=>q x H2 (S1.trans S2) ⟨pb.1,rx⟩
 ·cases h2
theorem zpM:S2M zhn zgd:=by
 intro C H x y tx ty t Q bx by' hg q;obtain⟨ts,rfl⟩:∃ ts,tx=.lst ts:=by cases tx<;>first |exact⟨_,rfl⟩ |cases hg
 obtain⟨vs,h1,h2⟩:=Qb (show ((zk4 ts).bind fun vs=>(toV ty).map fun v=>T.int (vs.countP (fun u=>eqV u v):Nat))=some t from hg);obtain⟨v,h3,rfl⟩:=Qm h2;obtain⟨a,us,rfl,ha,ra⟩:=bx.lst;obtain⟨e1,e2⟩:=zj6 ra h1;obtain⟨e3,e4⟩:=zlI by' h3;subst e1 e3;exact⟨a,_,_,rfl,rfl,e4,e2,ha,q _ (.int _)⟩
end L3
namespace L2
open PySem PySem.Spec PyProof.Rows
section
variable {X:Cx}{pins:List (Addr × Obj)}{σ:St}{H:Hp}{s:jc}{a:Addr}{kvs:List (Key × V)}
theorem Inv.known(I:Inv X pins σ H s)(e:H a=some (.dK kvs)):∃ o,Inv X pins σ (upd H a (.frz o (.dK kvs))) s:=by
 obtain⟨z,hd,vs,rel,o,es,ep,ho,r⟩:=zqQ I.hok e;refine⟨o,?_⟩;have ne:∀ {b:Addr},H b=none->b≠a:=fun {b} hb z=>by rw[z,e] at hb; cases hb
 refine⟨I.ok,I.os,I.bare,⟨fun b ob hb n1 n2 n3=>I.base.keep b ob hb n1 n2 n3,fun b ob hb n1 n2 n3=>I.base.slot b ob hb n1 n2 n3,fun b ob hb n1 n2=>?_,fun b ob hb n1=>I.base.there b ob hb n1,fun b xs hb=>?_,fun b ob u hb=>?_,fun b ps hb=>?_⟩,I.loc,I.cell,?_,fun x c hc=>?_,fun p hp=>?_,fun b u hb=>?_,I.len⟩
 ·have:=I.base.free b ob hb n1 n2;rw[za5 (ne this)]; exact this
 ·have:=I.base.tups b xs hb;have hne:b≠a:=fun z=>by rw[z,e] at this; cases this
  rw[za5 hne]; exact this
 ·have:=I.base.frzs b ob u hb;have hne:b≠a:=fun z=>by rw[z,e] at this; cases this
  rw[za5 hne]; exact this
 ·obtain⟨more,this⟩:=I.base.tbls b ps hb;have hne:b≠a:=fun z=>by rw[z,e] at this; cases this
  exact⟨more,by rw[za5 hne]; exact this⟩
 ·rw[za5 (ne I.free)]; exact I.free
 ·have:=I.freeC x c hc;rw[za5 (ne this)]; exact this
 ·obtain⟨p1,p2,p3⟩:=I.pin p hp;exact⟨p1,by rw[za5 (ne p2)]; exact p2,p3⟩
 ·by_cases hba:b=a
  ·subst hba;rw[zae] at hb;cases hb;exact⟨ho,z,hd,vs,rel,o,es,ep,ho,r⟩
  ·rw[za5 hba] at hb;refine(I.hok b u hb).stay (fun c v _ q=>q) (fun c q=>?_) fun c xs q=>?_
   ·have hne:c≠a:=fun z=>by rw[z,e] at q; cases q
    rw[za5 hne]; exact q
   ·have hne:c≠a:=fun z=>by rw[z,e] at q; cases q
    rw[za5 hne]; exact q
end
def tKn(t:TE):TE:=fun σ H Q=>t σ H fun v H'=>∃ a kvs,H' a=some (.dK kvs)/\∀ o,Q v (upd H' a (.frz o (.dK kvs)))
theorem znQ{X:Cx}{e:Expr}{t:TE}(h:PE X e t):PE X e (tKn t):=fun pins s σ H Q I q=>thn (h pins s σ H _ I q) fun u s' ⟨v,H',I',r,a,kvs,e2,q'⟩=>by
 obtain⟨o,I2⟩:=I'.known e2;exact⟨v,_,I2,r,q' o⟩
def Itd(f:Key × V->V)(a:Addr)(o:Obj):It:=
 ⟨fun i H=>∃ kvs x,H a=some (.frz o (.dK kvs))/\kvs[i]?=some x,fun i H x H'=>H'=H/\∀ kvs,H a=some (.frz o (.dK kvs))->(kvs[i]?).map f=some x,fun i H=>∃ kvs,H a=some (.frz o (.dK kvs))/\kvs.length<=i⟩
theorem zcx{X:Cx}{pins:List (Addr × Obj)}{σ:St}{H:Hp}{s:jc}{a:Addr}{o:Obj}{kvs:List (Key × V)}(I:Inv X pins σ H s)(e:H a=some (.frz o (.dK kvs))) :
  ∃ vs es ep,KV kvs vs/\s.heap.DictAt (zaz X.prog X.w) a vs ep/\o.data=.dict es ep/\es.size=vs.length/\(a == Z9)=false:=by
 obtain⟨ho,z,hd,vs,rel,o',es,ep,ho',c,d,k,p,n⟩:=(show ObjOk X.prog X.w H s.heap a (.frz o (.dK kvs)) from I.hok a _ e);rw[ho] at ho';cases ho';exact⟨vs,es,ep,rel,⟨o,es,ho,c,d,k,p,n⟩,d,by rw[<-p.length]; simp,hd⟩
theorem zlH{P:jK}{w:Qj}{K:j8}{tg:Expr}(a it:Addr)(o:Obj):Turn P w K tg (Itd (fun kv=>kV kv.1) a o) [it] it (fun i h=>∃ n ep es,h.IsKeyIter it a i n ep/\o.data=.dict es ep/\es.size=n) where
 mem:=by simp
 obj:=fun i h st b hb=>by
  have e:b=it:=by simpa using hb
  subst e;obtain⟨n,ep,es,⟨o',e,c,d⟩,_⟩:=st;exact⟨o',e,fun v z=>by rw[d] at z; cases z⟩
 keep:=fun i h h' ⟨n,ep,es,st,r⟩ k=>⟨n,ep,es,st.at fun o e=>k it (by simp) o e,r⟩
 item:=by
  intro X hP hw hK hc i pins s σ H E I hf st hg;subst hP hw hK;obtain⟨kvs,x,hq,hx⟩:=hg;obtain⟨n,ep,es,st,d1,d2⟩:=st;obtain⟨vs,es',ep',rel,da,d3,d4,hd⟩:=zcx I hq;rw[d1] at d3;cases d3;obtain⟨y,hy,y1,y2⟩:=zks rel hx;obtain⟨f0,f1,f2,f3,f4,f5⟩:=hf it (by simp)
  rw[<-d2,d4] at st;refine wpAny_pyNext_dict_item st da (k:=y.1) (v:=y.2) hy fun key h' hkey st' sb=>?_;have I1:Inv X pins σ H { s with heap:=h' }:=I.turned (t':=s.toks) (fun b o hb e=>(sb.2 b hb).trans e) f0 f1 f3 f4 f5;obtain⟨o',e,c,d⟩:=id st';refine⟨key,rfl,zmL (s:={ s with heap:=h' }) e c d (by decide) ⟨kV x.1,H,I1,y1▸zhk hkey,⟨rfl,fun kvs' h'=>?_⟩,⟨_,ep,es,st',d1,d4⟩,fun b hb=>(hf b hb).1⟩⟩
  rw[hq] at h';cases h';rw[hx]; rfl
 done:=by
  intro X hP hw hK hc i pins s σ H E I hf st hg;subst hP hw hK;obtain⟨kvs,hq,hx⟩:=hg;obtain⟨n,ep,es,st,d1,d2⟩:=st;obtain⟨vs,es',ep',rel,da,d3,d4,hd⟩:=zcx I hq;rw[d1] at d3;cases d3;obtain⟨f0,f1,f2,f3,f4,f5⟩:=hf it (by simp)
  have hl:=rel.length;rw[<-d2,d4] at st;exact wpAny_pyNext_dict_end (I.ok.hd hc) st da (by rw[Yw]; lia) fun h' eb=>⟨rfl,I.turned (t':=s.toks) (fun b o hb e=>eb b o hb e) f0 f1 f3 f4 f5⟩
 self:=fun _ _ _ _ _ ⟨_,_,_,st,_⟩ h=>wpAny_pyIter_keyiter st h
def zvt(tl:TE):TI:=fun σ H R=>tl σ H fun x H1=>∃ a o kvs,x=.ref a/\H1 a=some (.frz o (.dK kvs))/\R (Itd (fun kv=>kV kv.1) a o) H1
theorem zqb{X:Cx}{tg l:Expr}{tl:TE}(hl:PE X l tl):PI X tg l (zvt tl):=by
 intro pins s σ H R I h;refine thn (hl pins s σ H _ I h) fun v s1 h_=>?_; obtain⟨x,H1,I1,r1,q1⟩:=h_;obtain⟨a,o,kvs,e,hq,q⟩:=q1;subst e;cases r1;obtain⟨vs,es,ep,rel,da,d3,d4,hd⟩:=zcx I1 hq;refine wpAny_pyIter_dict hd da ?_;refine⟨s1.heap.objs.size,[s1.heap.objs.size],_,_,H1,rfl,I1.kept (t':=s1.toks) fun b o e=>j7 _ e,zlH a _ o,⟨_,ep,es,⟨_,jw _ rfl,rfl,rfl⟩,d3,d4⟩,fun b hb=>?_,q⟩;have e:b=s1.heap.objs.size:=by simpa using hb
 subst e;exact I1.fpOk (jl _) (I1.hok.fresh (jl _))
def Its(x:Str):It:=⟨fun i _=>i < x.cps.size,fun i H v H'=>H'=H/\∃ c,x.cps[i]?=some c/\v=.str ⟨#[c]⟩,fun i _=>x.cps.size<=i⟩
theorem zi2{P:jK}{w:Qj}{K:j8}{tg:Expr}(it:Addr)(x:Str)(t:Tok)(n:String)(hn:n="str_ascii_iterator"∨n="str_iterator"):Turn P w K tg (Its x) [it] it (fun i h=>h.IsStrIter it n x t i) where
 mem:=by simp
 obj:=fun i h st b hb=>by
  have e:b=it:=by simpa using hb
  subst e;obtain⟨o,e,c,d⟩:=st;exact⟨o,e,fun v z=>by rw[d] at z; cases z⟩
 keep:=fun i h h' st k=>let ⟨o,ho,r⟩:=st; ⟨o,k it (by simp) o ho,r⟩
 item:=by
  intro X hP hw hK hc i pins s σ H E I hf st hg;subst hP hw hK;obtain⟨f0,f1,f2,f3,f4,f5⟩:=hf it (by simp)
  have hg:i < x.cps.size:=hg;have fin:∀ h',h'.IsStrIter it n x t (i+1)->Q8 it s.heap h'->∀ u,u=ZA ⟨#[x.cps[i]]⟩ s.toks->∃ u',some u=some u'/\jH (jM X.prog X.w) X.A (ZL tg (.ref it) u') (fun _ s2=>∃ y H',Inv X pins σ H' s2/\RelV y u'/\(Its x).yld i H y H'/\s2.heap.IsStrIter it n x t (i+1)/\∀ b∈[it],H' b=none) E { s with heap:=h',toks:=s.toks+1 }:=by
   intro h' st' sb u hu;have I1:Inv X pins σ H { s with heap:=h',toks:=s.toks+1 }:=I.turned (fun b o hb e=>(sb.2 b hb).trans e) f0 f1 f3 f4 f5;obtain⟨o',e,c,d⟩:=id st';refine⟨u,rfl,zmL (s:={ s with heap:=h',toks:=s.toks+1 }) e c d (by rcases hn with rfl |rfl<;>decide) ⟨.str ⟨#[x.cps[i]]⟩,H,I1,⟨_,hu⟩,⟨rfl,_,by simp[hg],rfl⟩,st',fun b hb=>(hf b hb).1⟩⟩
  rcases hn with rfl |rfl
  ·exact wpAny_pyNext_ascii_item st (c:=x.cps[i]) (by simp[hg]) fun h' st' sb=>fin h' st' sb _ rfl
  ·exact wpAny_pyNext_wide_item st (c:=x.cps[i]) (by simp[hg]) fun h' st' sb=>fin h' st' sb _ rfl
 done:=by
  intro X hP hw hK hc i pins s σ H E I hf st hg;subst hP hw hK;obtain⟨f0,f1,f2,f3,f4,f5⟩:=hf it (by simp)
  have hg:x.cps.size<=i:=hg;rcases hn with rfl |rfl
  ·exact wpAny_pyNext_ascii_end (I.ok.hd hc) st (by simp[hg]) fun h' eb=>⟨rfl,I.turned (t':=s.toks) (fun b o hb e=>eb b o hb e) f0 f1 f3 f4 f5⟩
  ·exact wpAny_pyNext_wide_end (I.ok.hd hc) st (by simp[hg]) fun h' eb=>⟨rfl,I.turned (t':=s.toks) (fun b o hb e=>eb b o hb e) f0 f1 f3 f4 f5⟩
 self:=fun _ _ _ _ _ st h=>by
  rcases hn with rfl |rfl
  ·exact wpAny_pyIter_striter_ascii st h
  ·exact wpAny_pyIter_striter_wide st h
def zvq(tl:TE):TI:=fun σ H R=>tl σ H fun v H1=>∃ x,v=.str x/\R (Its x) H1
theorem zq9{X:Cx}{tg l:Expr}{tl:TE}(hl:PE X l tl):PI X tg l (zvq tl):=by
 intro pins s σ H R I h;refine thn (hl pins s σ H _ I h) fun v s1 h_=>?_; obtain⟨y,H1,I1,r1,q1⟩:=h_;obtain⟨x,e,q⟩:=q1;subst e;obtain⟨t,rfl⟩:=r1;have fp:∀ b∈[s1.heap.objs.size],zj2 X pins H1 b:=fun b hb=>by
  have e:b=s1.heap.objs.size:=by simpa using hb
  subst e;exact I1.fpOk (jl _) (I1.hok.fresh (jl _))
 cases ha:x.cps.all (· < 128)
 ·exact wpAny_pyIter_wide ha ⟨s1.heap.objs.size,[s1.heap.objs.size],_,_,H1,rfl,I1.kept (t':=s1.toks) fun b o e=>j7 _ e,zi2 _ x t "str_iterator" (.inr rfl),⟨_,jw _ rfl,rfl,rfl⟩,fp,q⟩
 ·exact wpAny_pyIter_ascii ha ⟨s1.heap.objs.size,[s1.heap.objs.size],_,_,H1,rfl,I1.kept (t':=s1.toks) fun b o e=>j7 _ e,zi2 _ x t "str_ascii_iterator" (.inl rfl),⟨_,jw _ rfl,rfl,rfl⟩,fp,q⟩
section
variable {P:jK}{w:Qj}{A:Qz}{R:Jg->jc->Prop}{I:Addr}{fp wr:List Addr}{G:Array NZ->Array NZ->Prop}{n:Nat}{Pv:Nat->ja->Prop}{St:Nat->jc->Prop}
def IsSetS(P:jK)(w:Qj)(S:Addr)(l:List Str)(h:Heap):Prop:=h.SetOf (strKind P w) S (fun q=>decide (q∈l)) l.length
theorem IsSetS.at{S:Addr}{l:List Str}{h h':Heap}(x:IsSetS P w S l h)(k:∀ o,h.get? S=some o->h'.get? S=some o):IsSetS P w S l h':=by
 obtain⟨o,es,ep,t,e,r⟩:=x;exact⟨o,es,ep,t,k _ e,r⟩
theorem IsSetS.next{S:Addr}{l:List Str}{x:Str}{h:Heap}(y:h.SetOf (strKind P w) S (fun q=>decide (q∈l)||decide (q=x)) (if decide (x∈l)=true then l.length else l.length+1)):IsSetS P w S (Dw.stp l x) h:=by
 have e1:(fun q=>decide (q∈l)||decide (q=x))=fun q=>decide (q∈Dw.stp l x):=by
  funext q
  unfold Dw.stp
  by_cases hx:x∈l
  ·rw[if_pos hx]
   by_cases hq:q=x
   ·subst hq; simp[hx]
   ·simp[hq]
  ·rw[if_neg hx,ZM]; simp
 have e2:(if decide (x∈l)=true then l.length else l.length+1)=(Dw.stp l x).length:=by
  unfold Dw.stp
  by_cases hx:x∈l
  ·rw[if_pos hx,if_pos (by simpa using hx)]
  ·rw[if_neg hx,if_neg (by simpa using hx),ju]; rfl
 rw[e1,e2] at y;exact y
theorem zha:∀(l acc:List Str),(l.foldl Dw.stp acc).length<=acc.length+l.length
 |[],acc=>jl _
 |x::l,acc=>by
  rw[Zr];have:=zha l (Dw.stp acc x);have h2:(Dw.stp acc x).length<=acc.length+1:=by
   unfold Dw.stp;split
   ·lia
   ·rw[ju]; exact jl _
  rw[jm];lia
theorem zmV(W:WalksS P w A.in1 I fp wr G n Pv St)(S:Addr)(hS:S∉fp)(ss:List Str)(hn:ss.length=n)(hv:∀ i v x,Pv i v->ss[i]?=some x->∃ t,v=.str x t)(hb:n+1 < Yd) :
  ∀(k i:Nat) (s:jc),n - i=k->i<=n->St i s->IsSetS P w S (Dw.za0 (ss.take i)) s.heap->(∀ s',Moved (S::wr) G s s'->IsSetS P w S (Dw.za0 ss) s'.heap->R (.ok (.ret .none)) s')->
   Yt (jM P w) A (.builtin "set.update.loop" ⟨[.ref S,.ref I],[]⟩) R s:=by
 have nw:S∉wr:=fun z=>hS (W.sub _ z);have up:∀ b∈wr,b∈S::wr:=fun b z=>.tail _ z;intro k
 induction k with
 |zero=>
  intro i s hk hi st hs q;obtain rfl:i=n:=by lia
  refine No YY ?_;rw[NJ gs _];refine j4 (m:=NL (.ref I)) (W.done s _ _ st fun s' mv=>je (q s' (mv.mono up) ?_));rw[QD (by lia)] at hs
  exact hs.at fun o e=>mv.heap S o nw e
 |succ k ih=>
  intro i s hk hi st hs q;have lt:i < n:=by lia
  obtain⟨x,hx⟩:∃ x,ss[i]?=some x:=⟨_,j3 (by lia)⟩
  refine No YY ?_;rw[NJ gs _];refine j4 (m:=NL (.ref I)) (W.item i s _ _ lt st fun v s1 pv st1 mv=>?_);obtain⟨t,rfl⟩:=hv i v x pv hx;have hs1:=hs.at fun o e=>mv.heap S o nw e;have ky:(strKind P w).is x (.str x t)=true:=by show QR x (.str x t)=true; simp[QR]
  refine j4 (m:=Y5 [ZA x t] (setAdd S (.str x t))) (Qq ?_);unfold setAdd;refine Qq (j4 ((strKind P w).pyHash (k:=x) ky ?_));have fl:(Dw.za0 (ss.take i)).length<=i:=by
   have:=zha (ss.take i) [];rw[jQ,Zm] at this;unfold Dw.za0;lia
  refine Np (knd:=strKind P w) (s:={ s1 with toks:=s1.toks+1 }) ky rfl hs1 (by lia) fun h2 sb hs2=>?_
  have hs3:=IsSetS.next hs2
  rw[<-Dw.ze2 hx] at hs3;refine je ⟨plainId_quiet gs _,ih (i+1) _ (by lia) lt (W.frame _ s1 _ _ st1 (Y9 _) fun b z o e=>(sb.2 b (fun y=>hS (y▸z))).trans e) hs3 fun s2 mv2=>q s2 (Moved.trans W.gtrans ((mv.mono up).then_heap (Y9 _) fun b o z e=>(sb.2 b (fun y=>z (y▸.head _))).trans e) mv2)⟩
end
section
variable {P:jK}{w:Qj}{A:Qz}{E:ja->jc->Prop}{s:jc}
def zoJ(led:Bool):Obj:={ cls:=.type "set",dict:=none,data:=.set #[] 0 (.fresh 0 0 led) }
set_option maxHeartbeats 3200000 in
theorem zj7{l:Addr}{its:Array ja}{ss:List Str}{Q:ja->jc->Prop}(hh:A.handled=none)(hl:s.heap.IsList l its)(hn:ss.length=its.size)(hv:∀(i:Nat) v x,its[i]?=some v->ss[i]?=some x->∃ t,v=.str x t)(hb:its.size+1 < Yd)
  (q:∀(h':Heap) (tk:Nat),IsSetS P w s.heap.objs.size (Dw.za0 ss) h'->(∀ b o,b < s.heap.objs.size->s.heap.get? b=some o->h'.get? b=some o)->Q (.ref s.heap.objs.size) { s with heap:=h',toks:=tk }) :
  jH (jM P w) A (call (.type "set") [.ref l]) Q E s:=by
 have a0:=ZN.mro;obtain⟨mc,mt,a0⟩:=a0;have a1:=ZN.made;have a2:=ZN.sub;refine wpAny_call (codeAny_of_tree (show jH _ _ (callAny (.type "set") _) _ _ _ from je ⟨Code.quiet_builtin _ (by decide +kernel),No F.entry_type_call ?_⟩))
 rw[Around.under_plain (weight_type_call_type "set" [Qp l] []) rfl];have a3:=ZN.notType;have a4:=ZN.canCreate;have a5:=F.typeCall_set_1 (.ref l)
 repeat (any_goals (first |wp_step |assumption))
 refine Yl (code_set_new_1 (.ref l) (E:=E) (Q₁:=fun v s1=>∃ led:Bool,v=.ref s.heap.objs.size/\s1={ s with heap:=s.heap.push (zoJ led) }) fun led=>⟨led,rfl,rfl⟩) fun r s1 hr=>?_;cases r with
 |error e=>exact hr
 |ok fl=>
  cases fl with
  |ret v=>
   obtain⟨led,rfl,rfl⟩:=hr;have g0:(s.heap.push (zoJ led)).get? s.heap.objs.size=some (zoJ led):=jw _ rfl;have ty:Js { s with heap:=s.heap.push (zoJ led) } (.ref s.heap.objs.size) "set":=⟨_,g0,rfl⟩;have b1:=ZN.init.lookup;have b2:=ZN.init.bind (.ref s.heap.objs.size)
   repeat (any_goals (first |wp_step |assumption))
   refine Yl (codeAny_call_builtin (R:=wants (fun r s2=>r=.none/\∃ h' tk,s2={ s with heap:=h',toks:=tk }/\IsSetS P w s.heap.objs.size (Dw.za0 ss) h'/\(∀ b o,b < s.heap.objs.size->s.heap.get? b=some o->h'.get? b=some o)) E) ZN.init.plain F.entry_set_init (check_set_init_1 ty ?_)) fun r2 s2 hr2=>?_
   ·obtain⟨⟨c1,c2,c3,c4⟩,ho,hc,nl,hd⟩:=hl;dsimp only at hc hd;subst hc hd;have g1:(s.heap.push (zoJ led)).get? l=some { cls:=.type "list",dict:=c2,data:=.seq its nl,slots:=c4 }:=j7 _ ho;have d1:=F.sub_list_set;have d2:=F.sub_list_frozenset;have d3:(Jd "list" == Jd "dict")=false:=by decide
    have il:(s.heap.push (zoJ led)).IsList l its:=⟨_,g1,rfl,nl,rfl⟩;unfold Wt.«set.__init__»;unfold noKeywords WS;generalize hPI:pyIter=PI
    wp_walk
    subst hPI;refine gx il (j4 (wpAny_runValue ?_));have lS:l < s.heap.objs.size:=jg ho;have ne:l≠(s.heap.push (zoJ led)).objs.size:=by rw[QQ]; exact jB (Za lS)
    have nS:s.heap.objs.size∉[(s.heap.push (zoJ led)).objs.size,l]:=by
     rw[QQ];intro z;rcases jq.mp z with z |z
     ·exact absurd z (jB (gc _))
     ·exact absurd (jG.mp z) (Zt lS)
    refine zmV ((Walks.list (show A.in1.in1.in1.handled=none by simp[hh]) _ l ne its).toS) s.heap.objs.size nS ss hn (fun i v x hv' hx=>hv i v x hv' hx) hb (its.size - 0) 0 _ (by lia) (Zj _) ⟨⟨_,jw _ rfl,rfl,rfl⟩,il.push _⟩ ?st ?fin
    case st=>exact(setObjOf_fresh (knd:=strKind P w) led).setOf (j7 _ g0) (by unfold Yd; lia)
    case fin=>
     intro s' mv hs';obtain⟨h',g',d',tk',os'⟩:=s';obtain rfl:g'=s.gens:=mv.gens;obtain rfl:d'=s.drawn:=mv.drawn;obtain rfl:os'=s.os:=mv.os;refine je (je ⟨rfl,h',tk',rfl,hs',fun b o z e=>mv.heap b o (fun y=>?_) (j7 _ (j7 _ e))⟩);rw[QQ] at y;rcases jq.mp y with y |y
     ·exact absurd y (jB z)
     ·exact absurd (jG.mp y) (jB (Za z))
   ·cases r2 with
    |error e=>exact hr2
    |ok f2=>
     cases f2 with
     |ret r=>
      obtain⟨rfl,h',tk,rfl,y1,y2⟩:=hr2
      repeat (any_goals (first |wp_step |assumption))
      exact q _ _ y1 y2
     |_=>exact hr2.elim
  |_=>exact hr.elim
end
section
variable {X:Cx}
def zk7(X:Cx)(a:Addr)(l:List Str):HO:=.ext (IsSetS X.prog X.w a l)
theorem ziP(hc:X.calm=true):CallR X (.type "set") (fun xs H Q=>∃(a:Addr) (ss:List Str),xs=[V.ref a]/\SqL X.K H a (ss.map V.str)/\ss.length < 1000/\∀ l,H l=none->Q (.ref l) (upd H l (zk7 X l (Dw.za0 ss)))):=by
 intro pins s σ H xs us Q I rv h;obtain⟨a,ss,rfl,hq,hl,q⟩:=h;obtain⟨u,rfl,ru⟩:=rv.one;cases ru;obtain⟨its,r,p,hz⟩:=I.list hq;have hlen:=r.length;rw[j6] at hlen;refine zj7 (ss:=ss) (I.ok.hd hc) p.isList (by rw[jp]; exact hlen) (fun i v x hv hx=>?_) (by rw[jp]; unfold Yd; lia) fun h' tk hs k=>?_
 ·obtain⟨u,hu,ru⟩:=r.get (i:=i) (x:=V.str x) (by rw[ji,hx]; rfl)
  have e:v=u:=by
   rw[List.getElem?_toArray,hu] at hv;exact(jd hv).symm
  rw[e];exact ru
 ·have new:ObjOk X.prog X.w (upd H s.heap.objs.size (zk7 X s.heap.objs.size (Dw.za0 ss))) h' s.heap.objs.size (zk7 X s.heap.objs.size (Dw.za0 ss)):=⟨hs,by obtain⟨o,_,_,_,e,_⟩:=hs; exact⟨o,e⟩,fun h1 h2 x k=>x.at k⟩
  exact⟨.ref s.heap.objs.size,_,I.laid (a:=s.heap.objs.size) (t':=tk) (fun b o e=>k b o (jg e) e) (jl _) new,rfl,q _ (I.hok.fresh (jl _))⟩
theorem zna:CallR X (.builtin "len") (fun xs H Q=>∃(a:Addr) (l:List Str),xs=[V.ref a]/\H a=some (zk7 X a l)/\Q (.int l.length) H):=by
 intro pins s σ H xs us Q I rv h;obtain⟨a,l,rfl,ha,q⟩:=h;obtain⟨u,rfl,ru⟩:=rv.one;cases ru;obtain⟨hs,_,_⟩:=(show ObjOk X.prog X.w H s.heap a (zk7 X a l) from I.hok a _ ha);obtain⟨o,es,ep,t,e,ex,d,_,_,b,f,n⟩:=hs;refine call_len_set e ex d f (by unfold Yd at b; lia) ?_
 rw[n];exact⟨.int l.length,H,I.tok _,⟨_,rfl⟩,q⟩
end
theorem zhH:entryFor table "set.__and__"=some Wt.«frozenset.__and__»:=
 entryFor_alias (id':="frozenset.__and__") (by kernel_rfl) rfl (by decide +kernel) (by kernel_rfl)
theorem zi6:isSubtype (.type "set") (.type "set")=pure true:=by rw[isSubtype_type]; kernel_rfl
theorem zcX{α:Type}[DecidableEq α]:∀(l m:List α),l.Nodup->(∀ x,x∈l->x∈m)->m.length<=l.length->m.Perm l
 |[],m,_,_,h=>by
  have:m=[]:=gQ (by simpa using h)
  rw[this]
 |x::l,m,nd,hs,h=>by
  have hx:x∈m:=hs x (.head _);obtain⟨n1,n2⟩:=Q1.mp nd;have p1:m.Perm (x::m.erase x):=List.perm_cons_erase hx;refine p1.trans (.cons x (zcX l (m.erase x) n2 (fun y hy=>?_) ?_))
  ·have:y≠x:=fun e=>n1 (e▸hy);exact(gU this).mpr (hs y (.tail _ hy))
  ·have:=p1.length_eq;rw[jm] at this;rw[jm] at h;lia
theorem zgg{α:Type}[DecidableEq α](l m:List α)(h1:l.Nodup)(h2:m.Nodup):(l.filter (fun x=>decide (x∈m))).length=(m.filter (fun x=>decide (x∈l))).length:=by
 have n1:=h1.filter (fun x=>decide (x∈m));have n2:=h2.filter (fun x=>decide (x∈l));refine J0 ?_ ?_
 ·by_cases h:(m.filter (fun x=>decide (x∈l))).length<=(l.filter (fun x=>decide (x∈m))).length
  ·have:=(zcX (l.filter (fun x=>decide (x∈m))) (m.filter (fun x=>decide (x∈l))) n1 (fun x hx=>by
    have:=jR.mp hx
    exact jR.mpr ⟨by simpa using this.2,by simpa using this.1⟩) h).length_eq
   lia
  ·lia
 ·by_cases h:(l.filter (fun x=>decide (x∈m))).length<=(m.filter (fun x=>decide (x∈l))).length
  ·have:=(zcX (m.filter (fun x=>decide (x∈l))) (l.filter (fun x=>decide (x∈m))) n2 (fun x hx=>by
    have:=jR.mp hx
    exact jR.mpr ⟨by simpa using this.2,by simpa using this.1⟩) h).length_eq
   lia
  ·lia
theorem zcB{α:Type}:∀(l:List α) (i:Nat) (h:i < l.length),(l[i]::l.eraseIdx i).Perm l
 |x::l,0,_=>by simp
 |x::l,i+1,h=>by
  rw[YV,List.getElem_cons_succ];exact(List.Perm.swap _ _ _).trans (.cons x (zcB l i (by simpa using h)))
theorem zgC{α:Type}(next:Nat->Nat)(xs:Array α):(pickOrder next xs).toList.Perm xs.toList:=by
 have key:∀(n k:Nat) (left:List α) (out:Array α),left.length=n->(WB next n k left out).toList.Perm (out.toList++left):=by
  intro n
  induction n with
  |zero=>
   intro k left out h;have:left=[]:=gQ h;subst this;unfold WB;simp
  |succ n ih=>
   intro k left out h;unfold WB;have hlt:next k%left.length < left.length:=Nat.mod_lt _ (by lia)
   rw[j3 hlt];dsimp only;refine(ih _ _ _ (by rw[List.length_eraseIdx,if_pos hlt]; lia)).trans ?_
   rw[Array.toList_push,jZ];refine Nl _ ?_;exact zcB left _ hlt
 exact(key _ _ _ _ (by simp)).trans (by simp)
section
variable {P:jK}{w:Qj}{A:Qz}{E:ja->jc->Prop}{s:jc}
def zfm:ja->Str
 |.str x _=>x
 |_=>""
theorem zlc{k:Str}:∀ {v:ja},QR k v=true->∃ tk,v=ZA k tk
 |.str x tk,h=>⟨tk,congrArg (fun z=>ZA z tk) (show x=k by simpa[QR] using h)⟩
theorem zjy(q x:Str)(tk:Tok):QR q (.str x tk)=true↔zfm (.str x tk)=q:=by
 unfold QR zfm;simp
theorem IsSetS.ents{S:Addr}{l:List Str}{h:Heap}(x:IsSetS P w S l h):∃(o:Obj) (es:Array (Int × ja)) (ep:Nat) (t:WT),h.get? S=some o/\o.ExactSet/\o.data=.set es ep t/\t.fits es.size=true/\es.size=l.length/\es.size < Yd/\(∀ e∈es.toList,(∃ tk,e.2=ZA (zfm e.2) tk)/\e.1=(strKind P w).hash (zfm e.2))/\∀ q,q∈es.toList.map (fun e=>zfm e.2)↔q∈l:=by
 obtain⟨o,es,ep,t,e1,e2,e3,e4,e5,e6,e7,e8⟩:=x;have get:∀ e∈es.toList,(∃ tk,e.2=ZA (zfm e.2) tk)/\e.1=(strKind P w).hash (zfm e.2):=fun e he=>by
  obtain⟨⟨k,hk,hh⟩,_⟩:=e4 e he;obtain⟨tk,h3⟩:=zlc (show QR k e.2=true from hk);have h4:zfm e.2=k:=by rw[h3]; rfl
  rw[h4];exact⟨⟨tk,h3⟩,hh⟩
 refine⟨o,es,ep,t,e1,e2,e3,e7,e8,e6,get,fun q=>?_⟩;have e5:=e5 q;rw[decide_eq_true_iff] at e5;rw[e5,jy];refine exists_congr fun e=>and_congr_right fun he=>?_;obtain⟨⟨tk,h3⟩,_⟩:=get e he;rw[show (strKind P w).is q e.2=QR q e.2 from rfl,h3];exact(zjy _ _ _).symm
theorem zhX{sets:List Addr}{Q:Bool->jc->Prop}(hs:∀ a∈sets,∃ l:List Str,IsSetS P w a l s.heap)(h:Q true s):jH (jM P w) A (setsQuiet sets) Q E s:=by
 unfold setsQuiet;refine j4 ?_;refine wpAny_forIn_list _ (fun rest b s'=>b=⟨none,()⟩/\s'=s/\∀ a∈rest,a∈sets) _ ?_ ?_ sets _ ⟨rfl,rfl,fun a h=>h⟩
 ·rintro a rest b s' ⟨rfl,rfl,hr⟩;obtain⟨l,hl⟩:=hs a (hr a (.head _));obtain⟨o,es,ep,t,e1,e2,e3,e4,e5,e6,e8,_⟩:=IsSetS.ents hl;refine j4 (Ye e1 e3 e4 ?_);refine j4 ?_;refine W9 _ (fun rest b s''=>b=⟨none,()⟩/\s''=s'/\∀ e∈rest,e∈es.toList) _ ?_ ?_ es _ ⟨rfl,rfl,fun a h=>h⟩
  ·rintro e rest2 b s'' ⟨rfl,rfl,hr2⟩;obtain⟨⟨tk,h3⟩,_⟩:=e8 e (hr2 e (.head _));obtain⟨e0,ev⟩:=e;generalize zfm ev=ky at h3;dsimp only at h3 ⊢;subst h3;exact je ⟨rfl,rfl,fun e he=>hr2 e (.tail _ he)⟩
  ·rintro b s'' ⟨rfl,rfl,_⟩;exact je ⟨rfl,rfl,fun a ha=>hr a (.tail _ ha)⟩
 ·rintro b s' ⟨rfl,rfl,_⟩;exact je h
end
section
variable {P:jK}{w:Qj}{A:Qz}{E:ja->jc->Prop}{s:jc}
theorem IsSetS.same{S:Addr}{l l':List Str}{h:Heap}(x:IsSetS P w S l h)(e:∀ q,q∈l↔q∈l')(hl:l.length=l'.length):IsSetS P w S l' h:=by
 unfold IsSetS at x ⊢;rw[<-hl,show (fun q=>decide (q∈l'))=fun q=>decide (q∈l) from funext fun q=>decide_eq_decide.mpr (e q).symm];exact x
theorem zkS{a:Addr}{o:Obj}{es:Array (Int × ja)}{ep:Nat}{t:WT}{Q:Array (Int × ja)->jc->Prop}(ho:s.heap.get? a=some o)(hd:o.data=.set es ep t)(hf:t.fits es.size=true)
  (hc:w.params.followText "set-order"=true∨(t.led&&t.plain)=true∨es.size<=1) (q:∀ es':Array (Int × ja),es'.toList.Perm es.toList->Q es' s):jH (jM P w) A (setWalk a) Q E s:=by
 unfold setWalk setsByText;refine j4 (YH ho hd hf ?_);refine j4 (j4 (N2 (je ?_)));dsimp only;show jH _ _ (if w.params.followText "set-order"=true then _ else _) _ _ _
 by_cases hx:w.params.followText "set-order"=true
 ·rw[if_pos hx];exact j4 (N2 (je (q _ (zgC _ _))))
 ·rw[if_neg hx];have hd':(!t.plain&&decide (es.size > 1))=false:=by
   rcases hc with hc |hc |hc
   ·exact absurd hc hx
   ·rw[jI] at hc; rw[hc.2]; rfl
   ·rw[decide_eq_false (by lia),Yu]
  have hd2:(!t.led&&decide (es.size > 1))=false:=by
   rcases hc with hc |hc |hc
   ·exact absurd hc hx
   ·rw[jI] at hc; rw[hc.1]; rfl
   ·rw[decide_eq_false (by lia),Yu]
  show jH _ _ (if (!t.plain&&decide (es.size > 1))=true then _ else _) _ _ _
  rw[if_neg (by rw[hd']; exact jr)]
  refine j4 ?_;show jH _ _ (if (!t.led&&decide (es.size > 1))=true then _ else pure ()) _ _ _
  rw[if_neg (by rw[hd2]; exact jr)]
  exact je (je (q _ (.refl _)))
theorem zh8{a r:Addr}{o:Obj}{es:Array (Int × ja)}{ep:Nat}{t:WT}{Q:Array (Int × ja)->jc->Prop}{others:List Addr}{lr:List Str}(ho:s.heap.get? a=some o)(hd:o.data=.set es ep t)(hf:t.fits es.size=true)
  (hs:∀ b∈a::others,∃ l:List Str,IsSetS P w b l s.heap) (hr:IsSetS P w r lr s.heap) (q:∀(es':Array (Int × ja)) (h':Heap),es'.toList.Perm es.toList->Q8 r s.heap h'->IsSetS P w r lr h'->Q es' { s with heap:=h' }):jH (jM P w) A (Wa a others (some r)) Q E s:=by
 unfold Wa setsByText;refine j4 (YH ho hd hf ?_);refine j4 (j4 (N2 (je ?_)));dsimp only;show jH _ _ (if (w.params.followText "set-order"||(t.led&&t.plain)||decide (es.size<=1))=true then _ else _) _ _ _
 have e0:s={ s with heap:=s.heap }:=by cases s; rfl
 by_cases hx:(w.params.followText "set-order"||(t.led&&t.plain)||decide (es.size<=1))=true
 ·rw[if_pos hx];refine zkS ho hd hf ?_ fun es' p=>e0▸q es' s.heap p (.refl _ _) hr;simpa[Z4,or_assoc] using hx
 ·rw[if_neg hx];refine j4 (zhX hs ?_);simp only[Jt,QC,↓reduceIte];refine j4 (Ji ?_);obtain⟨o2,es2,ep2,t2,g1,g2,g3,g4,g5,g6,g7,g8⟩:=hr;refine j4 (YH g1 g3 g7 ?_);dsimp only;split
  ·refine j4 (wpAny_storeSet_of g1 g3 (je ?_) (fits_of_scanBound g6));refine q es _ (.refl _) (Yf _ _ _) ?_;have:=(SetOf_store (knd:=strKind P w) (t':={ t2 with led:=t2.led&&t.led,plain:=t2.plain&&t.plain }) g1 g2 g3 g4 g5 g6 (by cases t2; exact g7)).2
   rw[g8] at this;exact this
  ·exact j4 (je (je (e0▸q es s.heap (.refl _) (.refl _ _) ⟨o2,es2,ep2,t2,g1,g2,g3,g4,g5,g6,g7,g8⟩)))
theorem zhY{a b r:Addr}{la:List Str}{es:Array (Int × ja)}{ob:Obj}{esb:Array (Int × ja)}{was:Nat}{t:WT}{id:String}{Q:PUnit->jc->Prop}(har:a≠r)(hbr:b≠r)
  (ha:IsSetS P w a la s.heap) (hb:s.heap.get? b=some ob) (hbd:ob.data=.set esb was t) (hbf:t.fits esb.size=true) (hr:IsSetS P w r [] s.heap) (hn:(es.toList.map fun e=>zfm e.2).Nodup) (hz:es.size+1 < Yd)
  (he:∀ e∈es.toList,(∃ tk,e.2=ZA (zfm e.2) tk)/\e.1=(strKind P w).hash (zfm e.2))
  (q:∀ h',Q8 r s.heap h'->IsSetS P w r ((es.toList.map fun e=>zfm e.2).filter fun x=>decide (x∈la)) h'->Q ⟨⟩ { s with heap:=h' }) :
  jH (jM P w) A (forIn es NE fun(x:Int × ja) (_:PUnit)=>do
   Y5 [x.2] (do if (<-setFind a x.2 x.1).isSome=true then let _ <-setAddHashed r x.2 x.1)
   Zc id b was
   pure (Qc NE)) Q E s:=by
 refine W9 _ (fun rest _ s'=>∃ pre h',pre++rest=es.toList/\s'={ s with heap:=h' }/\Q8 r s.heap h'/\IsSetS P w r ((pre.map fun e=>zfm e.2).filter fun x=>decide (x∈la)) h') _ ?_ ?_ es _ ⟨[],s.heap,rfl,by cases s; rfl,.refl _ _,hr⟩
 ·rintro⟨e0,ev⟩ rest b' s' ⟨pre,h',hp,rfl,sb,hr'⟩;have hmem:(e0,ev)∈es.toList:=by rw[<-hp]; simp
  obtain⟨⟨tk,h3⟩,h4⟩:=he _ hmem;dsimp only at h3 h4;generalize hk:zfm ev=k at h3 h4;subst h3 h4;have ky:(strKind P w).is k (.str k tk)=true:=by show QR k (.str k tk)=true; simp[QR]
  have ha':IsSetS P w a la h':=ha.at fun o e=>(sb.2 a har).trans e;have hb':h'.get? b=some ob:=(sb.2 b hbr).trans hb;have hnk:k∉pre.map fun e=>zfm e.2:=by
   rw[<-hp,jA,jj] at hn;have:=(jW.mp hn).2.2;intro hc;exact this k hc k (by dsimp only; rw[hk]; exact .head _) rfl
  have hlen:pre.length < es.size:=by rw[<-Z0,<-hp]; simp
  have fl:((pre.map fun e=>zfm e.2).filter fun x=>decide (x∈la)).length<=pre.length:=by
   refine Q5 (ZO _ _) ?_;rw[j6]; exact jl _
  have fin:∀ h2 (Qx:ForInStep PUnit->jc->Prop),Q8 r h' h2->Qx (.yield ⟨⟩) { s with heap:=h2 }->jH (jM P w) A (do
    Zc id b was
    pure (Qc NE)) Qx E { s with heap:=h2 }:=fun h2 Qx sb2 hq=>by
   unfold Zc;refine j4 (j4 (Wu (s:={ s with heap:=h2 }) ((sb2.2 b hbr).trans hb') hbd hbf ?_));simp only[bne_self_eq_false,QC,↓reduceIte];exact je (je hq)
  have pq:(pre++[((strKind P w).hash k,ZA k tk)])++rest=es.toList:=by rw[jZ]; exact hp
  refine j4 (Qq (j4 (wpAny_setFind_of (knd:=strKind P w) (s:={ s with heap:=h' }) ky rfl ha' fun f hf=>?_)));rw[hf]
  by_cases hin:k∈la
  ·rw[if_pos (by simpa using hin)]
   refine j4 (Np (knd:=strKind P w) (s:={ s with heap:=h' }) ky rfl hr' (by lia) fun h2 sb2 hs2=>je (fin h2 _ sb2 ⟨_,h2,pq,rfl,sb.trans sb2,?_⟩))
   have hs3:=IsSetS.next hs2
   refine hs3.same (fun x=>?_) ?_
   ·unfold Dw.stp;rw[if_neg (by simp[hnk]),jA,QY]
    simp[zfm,hin]
   ·unfold Dw.stp;rw[if_neg (by simp[hnk]),jA,QY]
    simp[zfm,hin]
  ·rw[if_neg (by simpa using hin)]
   refine je (fin h' _ (.refl _ _) ⟨_,h',pq,rfl,sb,hr'.same (fun x=>?_) ?_⟩)
   ·rw[jA,QY]; simp[zfm,hin]
   ·rw[jA,QY]; simp[zfm,hin]
 ·rintro b' s' ⟨pre,h',hp,rfl,sb,hr'⟩;rw[QV] at hp;subst hp;exact q h' sb hr'
end
section
variable {P:jK}{w:Qj}{A:Qz}{E:ja->jc->Prop}{s:jc}
theorem zoz{a b:Addr}{l m:List Str}{Q:ja->jc->Prop}(hab:a≠b)(ha:IsSetS P w a l s.heap)(hb:IsSetS P w b m s.heap)(hl:l.Nodup)(hm:m.Nodup)(hz:l.length+m.length < 2000)
  (q:∀ h':Heap,IsSetS P w s.heap.objs.size (l.filter fun x=>decide (x∈m)) h'->(∀ x o,s.heap.get? x=some o->h'.get? x=some o)->Q (.ref s.heap.objs.size) { s with heap:=h' }):jH (jM P w) A (gY .BitAnd (.ref a) (.ref b)) Q E s:=by
 have ta:s.TypeIs (.ref a) "set":=YI ha;have tb:s.TypeIs (.ref b) "set":=YI hb;refine wpAny_binaryOp_same ta tb F.fills_set_and F.slot_set_and (ZE F.slot_set_and ta zhH ?_ (F.args_set_and_2 _ _));unfold Wt.«frozenset.__and__»;have st:=zi6
 show jH _ _ (do
  let (self,other) <-YZ "__and__" ⟨[.ref a,.ref b],[]⟩
  let (l,r):=if false=true then (other,self) else (self,other)
  if !(<-ZU l <&&> ZU r) then rule s!"frozenset.{"__and__"}.declined"; return <-ret .notImplemented
  ret (<-WC s!"frozenset.{"__and__"}" (<-YJ l) r)) _ _ _
 unfold YZ slotArgs;simp only[List.isEmpty_nil,Jt,QC,↓reduceIte,bind_assoc,Zm,bne_self_eq_false,pure_bind]
 repeat (any_goals (first |wp_step |assumption))
 rw[if_neg (by dsimp only; simpa using fun e:b=a=>hab e.symm)]
 unfold Jj;refine j4 (j4 (N3 ta st ?_));refine je ?_;simp only[↓reduceIte];refine j4 (wpAny_newSet_of (knd:=strKind P w) fun led hr=>?_);unfold YJ;refine j4 (je ?_);dsimp only;generalize hs1:s.heap.push { cls:=.type "set",dict:=none,data:=.set #[] 0 (.fresh 0 0 led) }=h1 at hr ⊢;have k1:∀ x o,s.heap.get? x=some o->h1.get? x=some o:=fun x o e=>by rw[<-hs1]; exact j7 _ e
 have ha1:IsSetS P w a l h1:=ha.at (k1 a);have hb1:IsSetS P w b m h1:=hb.at (k1 b);have hr1:IsSetS P w s.heap.objs.size [] h1:=by
  unfold IsSetS;simpa using hr
 have tb1:Js { s with heap:=h1 } (.ref b) "set":=YI hb1;have nea:∀ x l',IsSetS P w x l' s.heap->x≠s.heap.objs.size:=fun x l' hx e=>by
  obtain⟨o,_,_,_,e1,_⟩:=hx;exact jB (jg e1) e
 have na:=nea a l ha;have nb:=nea b m hb;unfold ZU;refine j4 (Qq (j4 ?_));have orr:jH (jM P w) A.in1 (isInstance (.ref b) (.type "set") <||> isInstance (.ref b) (.type "frozenset")) (fun r s2=>r=true/\s2={ s with heap:=h1 }) E { s with heap:=h1 }:=by
  refine j4 (N3 tb1 st ?_);exact je ⟨rfl,rfl⟩
 refine Qg orr ?_ fun _ _ h=>h;rintro r s2 ⟨rfl,rfl⟩;rw[if_pos rfl];refine j4 (je ?_);obtain⟨oa,esa,epa,sta,a1,a2,a3,a4,a5,a6,a7,a8⟩:=ha1.ents;obtain⟨ob,esb,epb,stb,b1,b2,b3,b4,b5,b6,b7,b8⟩:=hb1.ents;unfold Jk;refine j4 (j4 (Ye (s:={ s with heap:=h1 }) b1 b3 b4 (je ?_)));refine j4 (j4 (Ye (s:={ s with heap:=h1 }) a1 a3 a4 (je ?_)));have done:∀ h2,Q8 s.heap.objs.size h1 h2->IsSetS P w s.heap.objs.size (l.filter fun x=>decide (x∈m)) h2->jH (jM P w) A.in1 (pure (Qp s.heap.objs.size)) (fun a s'=>jH (jM P w) A.in1 (ret a) (fun fin s'=>∃ v,fin=Fin.done (Flow.ret v)/\v≠NK/\Q v s') E s') E { s with heap:=h2 }:=fun h2 sb hs=>by
  refine je ?_;refine je ⟨_,rfl,by simp,q h2 hs fun x o e=>(sb.2 x ?_).trans (k1 x o e)⟩
  exact jB (jg e)
 have half:∀(x y:Addr) (lx ly:List Str) (oy:Obj) (ey:Array (Int × ja)) (py:Nat) (ty:WT),x≠s.heap.objs.size->y≠s.heap.objs.size->IsSetS P w x lx h1->ly.Nodup->ly.length < 2000->h1.get? y=some oy->oy.data=.set ey py ty->ty.fits ey.size=true->IsSetS P w y ly h1->ey.size=ly.length->
   (∀ e∈ey.toList,(∃ tk,e.2=ZA (zfm e.2) tk)/\e.1=(strKind P w).hash (zfm e.2))->(∀ q,q∈ey.toList.map (fun e=>zfm e.2)↔q∈ly)->(ly.filter fun q=>decide (q∈lx)).length=(l.filter fun q=>decide (q∈m)).length->(∀ q,q∈(ly.filter fun q=>decide (q∈lx))↔q∈(l.filter fun q=>decide (q∈m)))->
   jH (jM P w) A.in1 (do
         let was <-setEpoch y
         let __do_lift <-Wa y [x,s.heap.objs.size] (some s.heap.objs.size)
         forIn __do_lift NE fun(x_1:Int × ja) __s=>do
            Y5 [x_1.2] do
              let __do_lift <-setFind x x_1.2 x_1.1
              if __do_lift.isSome=true then do
                let _ <-setAddHashed s.heap.objs.size x_1.2 x_1.1
                pure ()
               else pure ()
            Zc (toString "frozenset."++toString "__and__") y was
            pure (Qc NE)
         pure ()) (fun _ s'=>jH (jM P w) A.in1 (pure (Qp s.heap.objs.size)) (fun a s'=>jH (jM P w) A.in1 (ret a) (fun fin s'=>∃ v,fin=Fin.done (Flow.ret v)/\v≠NK/\Q v s') E s') E s') E { s with heap:=h1 }:=by
  intro x y lx ly oy ey py ty hx hy sx nd hz' y1 y2 y3 sy y4 y5 y6 y7 y8;refine j4 (Wu (s:={ s with heap:=h1 }) y1 y2 y3 ?_);refine j4 (zh8 (s:={ s with heap:=h1 }) y1 y2 y3 (fun z hz=>?_) hr1 fun es' h2 p sb hr2=>?_)
  ·simp only[jq,ZD,or_false] at hz;rcases hz with rfl |rfl |rfl
   ·exact⟨_,sy⟩
   ·exact⟨_,sx⟩
   ·exact⟨_,hr1⟩
  ·have pm:(es'.toList.map fun e=>zfm e.2).Perm ly:=by
    refine(p.map _).trans (zcX ly _ nd (fun q hq=>(y6 q).mpr hq) ?_);rw[j6,Z0,y4]; exact jl _
   refine j4 (zhY (s:={ s with heap:=h2 }) hx hy (sx.at fun o e=>(sb.2 x hx).trans e) ((sb.2 y hy).trans y1) y2 y3 hr2 (pm.nodup_iff.mpr nd) ?_ (fun e he=>y5 e (p.mem_iff.mp he)) fun h3 sb3 hs3=>?_)
   ·rw[<-Z0,p.length_eq,Z0,y4];unfold Yd;lia
   ·refine je (done h3 (sb.trans sb3) (hs3.same (fun q=>?_) ?_))
    ·rw[<-y8 q,jR,jR,pm.mem_iff]
    ·rw[<-y7]; exact(pm.filter _).length_eq
 by_cases hlt:esb.size > esa.size
 ·rw[if_pos hlt];exact half b a m l oa esa epa sta nb na hb1 hl (by lia) a1 a3 a4 ha1 a5 a7 a8 rfl fun q=>Iff.rfl
 ·rw[if_neg hlt];exact half a b l m ob esb epb stb na nb ha1 hm (by lia) b1 b3 b4 hb1 b5 b7 b8 (zgg m l hm hl) fun q=>by simp[jR,and_comm]
end
section
variable {X:Cx}
theorem zqh:OpR X (gY .BitAnd) (fun x y H Q=>∃ a b l m,x=.ref a/\y=.ref b/\a≠b/\H a=some (zk7 X a l)/\H b=some (zk7 X b m)/\l.Nodup/\m.Nodup/\l.length+m.length < 2000/\∀ c,H c=none->Q (.ref c) (upd H c (zk7 X c (l.filter fun x=>decide (x∈m))))):=by
 intro pins s σ H x y v u Q I rx ry h;obtain⟨a,b,l,m,rfl,rfl,hab,ha,hb,hl,hm,hz,q⟩:=h;cases rx;cases ry;obtain⟨sa,_,_⟩:=(show ObjOk X.prog X.w H s.heap a (zk7 X a l) from I.hok a _ ha);obtain⟨sb,_,_⟩:=(show ObjOk X.prog X.w H s.heap b (zk7 X b m) from I.hok b _ hb);refine zoz hab sa sb hl hm hz fun h' hs k=>?_;have new:ObjOk X.prog X.w (upd H s.heap.objs.size (zk7 X s.heap.objs.size (l.filter fun x=>decide (x∈m)))) h' s.heap.objs.size (zk7 X s.heap.objs.size (l.filter fun x=>decide (x∈m))):=⟨hs,by obtain⟨o,_,_,_,e,_⟩:=hs; exact⟨o,e⟩,fun h1 h2 x k=>x.at k⟩
 exact⟨.ref s.heap.objs.size,_,I.laid (a:=s.heap.objs.size) (t':=s.toks) (fun b o e=>k b o e) (jl _) new,rfl,q _ (I.hok.fresh (jl _))⟩
end
section
variable {P:jK}{w:Qj}{A:Qz}{R:Jg->jc->Prop}{I:Addr}{fp wr:List Addr}{G:Array NZ->Array NZ->Prop}{n:Nat}{Pv:Nat->ja->Prop}{St:Nat->jc->Prop}
def two(v:ja)(c:Nat):Obj:={ cls:=.type "list",dict:=none,data:=.seq #[v,v] c,slots:=#[] }
end
section
variable {prog:jK}{w:Qj}{K:Type}[DecidableEq K]{knd:KeyKind prog w K}{A:Qz}{E:ja->jc->Prop}{s:jc}
theorem zo0{it d:Addr}{i ep:Nat}{kvs:List (K × ja)}{k:K}{v:ja}{Q:ja->jc->Prop}(hit:s.heap.IsKeyIter it d i kvs.length ep)
  (hm:s.heap.DictAt knd d kvs ep) (hx:kvs[i]?=some (k,v))
  (hQ:∀ key h',knd.is k key=true->h'.IsKeyIter it d (i+1) kvs.length ep->Q8 it s.heap h'->Q key { s with heap:=h' }) :
  jH (jM prog w) A (jY (.ref it)) Q E s:=by
 obtain⟨o,ho,hc,hd⟩:=id hit;obtain⟨od,es,hod,hcd,hdd,hk,hp,hn⟩:=id hm;unfold jY
 refine j4 (Zz (name:=Zu "__next__") hit.typeIs QP
  (ZE QP hit.typeIs gR ?_ (gH _)))
 refine j4 (je ?_);refine j4 ?_;refine j4 ?_
 first |refine j4 (Z6 hit.typeIs (je ?_)) |refine j4 (Zs hit.typeIs (je ?_))
 refine j4 (wpAny_fieldsOf ho hd ?_);have hown:Y1 "dict_keyiterator"=false:=by decide
 simp only[hown,QC,if_false];show jH _ _ (if (Qp d == gu)=true then _ else _) _ _ s
 rw[if_neg (show ¬ ((Qp d == gu)=true) from jr)];refine j4 (je ?_);refine j4 (YK hod hdd ?_);have hsz:es.size=kvs.length:=by rw[<-hp.length]; simp
 rw[if_neg (by rw[hsz]; simp)]
 refine j4 (je ?_);refine j4 (Nq hod hdd ?_);rw[if_neg (by simp)]
 refine je ?_;have hlt:i < kvs.length:=(j9.mp hx).1;have hlt':i < es.size:=by rw[hsz]; exact hlt
 have hkey:knd.is k es[i].key=true:=(hp.get? (e:=es[i]) (by simp[hlt']) hx).1
 simp only[show ¬ ((i:Int) < 0) from by lia,if_false,QN,Array.getElem?_eq_getElem hlt']
 refine j4 ?_
 first |refine j4 (Z6 hit.typeIs (je ?_)) |refine j4 (Zs hit.typeIs (je ?_))
 refine j4 (Nr hit.typeIs ?_);show jH _ _ (setField (.ref it) 1 (W1 ((i:Int)+1)) >>= _) _ _ s;refine j4 (wpAny_setField ho hd (by simp) ?_)
 have hit':(s.heap.update it (Ju (·.setIfInBounds 1 (W1 ((i:Int)+1))))).IsKeyIter it d (i+1) kvs.length ep:=
  ⟨_,Ni _ ho (Obj.isFreed_of_fields (Wb hd _)),(Obj.cls_mapFields ..).trans hc,by rw[Wb hd]; simp[W1]⟩
 refine j4 (Qq ?_);refine j4 (Nr (s:={ s with heap:=s.heap.update it (Ju (·.setIfInBounds 1 (W1 ((i:Int)+1)))) }) hit'.typeIs ?_)
 show jH _ _ (pure es[i].key) _ _ _;exact je (je ⟨_,rfl,je (hQ _ _ hkey hit' (Yf ..))⟩)
theorem zjv{it d:Addr}{i ep:Nat}{kvs:List (K × ja)}{Q:ja->jc->Prop}(hh:A.handled=none)(hit:s.heap.IsKeyIter it d i kvs.length ep)
  (hm:s.heap.DictAt knd d kvs ep) (hx:kvs[i]?=none)
  (hE:∀ h' e,Yb it s.heap h'->(∃ o,h'.get? e=some o/\o.cls=.type "StopIteration")->E (.ref e) { s with heap:=h' }):jH (jM prog w) A (jY (.ref it)) Q E s:=by
 obtain⟨o,ho,hc,hd⟩:=id hit;obtain⟨od,es,hod,hcd,hdd,hk,hp,hn⟩:=id hm;unfold jY
 refine j4 (Zz (name:=Zu "__next__") hit.typeIs QP
  (ZE QP hit.typeIs gR ?_ (gH _)))
 refine j4 (je ?_);refine j4 ?_;refine j4 ?_
 first |refine j4 (Z6 hit.typeIs (je ?_)) |refine j4 (Zs hit.typeIs (je ?_))
 refine j4 (wpAny_fieldsOf ho hd ?_);have hown:Y1 "dict_keyiterator"=false:=by decide
 simp only[hown,QC,if_false];show jH _ _ (if (Qp d == gu)=true then _ else _) _ _ s
 rw[if_neg (show ¬ ((Qp d == gu)=true) from jr)];refine j4 (je ?_);refine j4 (YK hod hdd ?_);have hsz:es.size=kvs.length:=by rw[<-hp.length]; simp
 rw[if_neg (by rw[hsz]; simp)]
 refine j4 (je ?_);refine j4 (Nq hod hdd ?_);rw[if_neg (by simp)]
 refine je ?_;have hge:es.size<=i:=by rw[hsz]; simpa using hx
 simp only[show ¬ ((i:Int) < 0) from by lia,if_false,QN,Ze hge]
 refine j4 ?_
 first |refine j4 (Z6 hit.typeIs (je ?_)) |refine j4 (Zs hit.typeIs (je ?_))
 show jH _ _ (setField (.ref it) 0 .none >>= _) _ _ s;refine j4 (wpAny_setField ho hd (by simp) ?_)
 show jH _ _ (newExc (.type "StopIteration") [] >>= _) _ _ _;refine j4 ?_;simp only[newExc,newTuple];refine j4 (ZT ?_ (by size_fits))
 refine j4 (m:=firstArgMember _ _) (wpAny_of_eq (a:=gu) (by first |rfl |(simp only[firstArgMember]; rfl)) ?_)
 refine ZT ?_ (by size_fits)
 simp only[raiseNew];refine j4 (wpAny_handled ?_)
 first |rw[show A.in1.handled=none from hh] |rw[hh]
 refine j4 (je (wpAny_throw ?_));exact hE _ _ (((Yf ..).extBut.push _).push _) ⟨_,jw _ rfl,rfl⟩
theorem zdK(hh:A.handled=none)(it d:Addr)(hne:d≠it)(kvs:List (K × ja))(ep:Nat) :
  JG prog w A it [it,d] kvs.length (fun i v=>∃ k x,kvs[i]?=some (k,x)/\knd.is k v=true) (fun i h=>h.IsKeyIter it d i kvs.length ep/\h.DictAt knd d kvs ep) where
 live:=fun _ _ st=>let ⟨o,ho,_⟩:=st.1; ⟨o,ho⟩
 frame:=fun _ _ _ st hk=>⟨st.1.at fun o e=>hk it (by simp) o e,st.2.at' fun o e=>hk d (by simp) o e⟩
 item:=fun i s Q E hi st hQ=>by
  obtain⟨⟨k,x⟩,e⟩:∃ p,kvs[i]?=some p:=⟨kvs[i],j3 hi⟩;refine zo0 st.1 st.2 e fun key h' hkey hit' hs'=>?_;exact hQ _ h' s.toks ⟨k,x,e,hkey⟩ ⟨hit',st.2.at' fun o e=>(hs'.2 d hne).trans e⟩ hs'
 done:=fun s Q E st hE=>zjv hh st.1 st.2 (by simp) hE
end
abbrev kIt(h:Heap)(d:Addr)(n ep:Nat):Heap:=h.push { cls:=.type "dict_keyiterator",data:=.fields #[.ref d,.int 0 0,.int n 0,.int ep 0] }
def ztJ(h:Heap)(d:Addr)(n ep:Nat):Prop:=∃ o es,h.get? d=some o/\o.cls=.type "dict"/\o.data=.dict es ep/\es.size=n
theorem zny{prog:jK}{w:Qj}{A:Qz}{E:ja->jc->Prop}{s:jc}{d:Addr}{n ep:Nat}{Q:ja->jc->Prop}(hd:(d == Z9)=false)(hm:ztJ s.heap d n ep)
  (hQ:Q (.ref s.heap.objs.size) { s with heap:=kIt s.heap d n ep }) :
  jH (jM prog w) A (pyIter (.ref d)) Q E s:=by
 obtain⟨o,es,ho,hc,hdat,hsz⟩:=hm;have hT:s.TypeIs (.ref d) "dict":=⟨o,ho,hc⟩;refine wpAny_pyIter_slot hT WL (ZE WL hT F.entry_dict_iter ?_ (F.args_dict_iter_1 _));unfold Wt.«dict.__iter__»;refine j4 ?_;unfold Builtin.Dict.dictSlotNone;refine j4 (wpAny_notOrdered_dict hT ?_);show jH _ _ (pure (Qp d)) _ _ s;refine je ?_;show jH _ _ (Nt d >>= _) _ _ s;unfold Nt;rw[if_neg (by rw[hd]; exact jr)]
 refine j4 (je ?_);refine j4 (YK ho hdat ?_);refine j4 (Nq ho hdat ?_);refine j4 (ZT (je ⟨_,rfl,"dict_keyiterator",_,⟨_,jw _ rfl,rfl⟩,QP.lookup,?_⟩));simpa[W1,hsz] using hQ
section
variable {prog:jK}{w:Qj}{A:Qz}{E:ja->jc->Prop}{s:jc}
def zgF(prog:jK)(w:Qj)(A:Qz)(it:Addr)(S:Heap->Prop):Prop:=∀(s:jc) (Q:ja->jc->Prop) (E:ja->jc->Prop),S s.heap->
 (∀ h' e,Yb it s.heap h'->(∃ o,h'.get? e=some o/\o.cls=.type "StopIteration")->E (.ref e) { s with heap:=h' })->jH (jM prog w) A (jY (.ref it)) Q E s
structure ZAp (z TI TO i1 i2:Addr) (f1 f2:List Addr):Prop where
 TIz:TI≠z
 TOz:TO≠z
 i1z:i1≠z
 i2z:i2≠z
 TITO:TI≠TO
 TIi1:TI≠i1
 TIi2:TI≠i2
 TOi1:TO≠i1
 TOi2:TO≠i2
 z1:z∉f1
 z2:z∉f2
 o1:TO∉f1
 o2:TO∉f2
 a1:i1∉f2
 a2:i2∉f1
theorem zly{z TI TO i1 i2:Addr}{f1 f2:List Addr}{n1 n2 k:Nat}{P1 P2:Nat->ja->Prop}{S1 S2:Nat->Heap->Prop}{a b:ja}{Q:ja->jc->Prop}(D:ZAp z TI TO i1 i2 f1 f2)
  (D1:JG prog w A i1 f1 n1 P1 S1) (D2:JG prog w A i2 f2 n2 P2 S2) (hz:Nu s.heap z TI TO .none) (hTI:Zv s.heap TI (.ref i1) (.ref i2)) (hTO:Zv s.heap TO a b)
  (h1:S1 k s.heap) (h2:S2 k s.heap) (k1:k < n1) (k2:k < n2)
  (hQ:∀ x y h' tk,P1 k x->P2 k y->Nu h' z TI TO (W1 s.heap.objs.size)->Zv h' TO x y->S1 (k+1) h'->S2 (k+1) h'->Zv h' s.heap.objs.size x y->h'.objs.size=s.heap.objs.size+1->
   (∀ c o,c≠z->c≠TO->c≠i1->c≠i2->s.heap.get? c=some o->h'.get? c=some o)->Q (.ref s.heap.objs.size) { s with heap:=h',toks:=tk }) :
  jH (jM prog w) A (Wt.«zip.__next__» ⟨[.ref z],[]⟩) (fun fin s'=>∃ v,fin=.done (.ret v)/\Q v s') E s:=by
 show jH _ _ (field (.ref z) 2 >>= _) _ _ _;refine j4 (gg hz rfl (x:=.bool false) rfl ?_);show jH _ _ (field (.ref z) 3 >>= _) _ _ _;refine j4 (gg hz rfl (x:=.ref TI) rfl ?_);refine j4 (ZZ hTI rfl ?_);show jH _ _ (QJ (.ref z) >>= _) _ _ _;refine j4 ?_;unfold QJ;refine j4 (gg hz rfl (x:=.none) rfl (je ?_));simp only[if_true];refine j4 (Ji ?_);refine j4 (gg hz rfl (x:=.ref TO) rfl ?_);refine j4 (Zh hz (by simp) fun g1 hz₁ hs₁=>?_)
 replace hz₁:Nu g1 z TI TO .ellipsis:=hz₁
 refine j4 ?_;simp only[N4,J1,Y8,J9];have fr:∀ {f:List Addr} {b:Addr} {h h':Heap},Q8 b h h'->b∉f->∀ c∈f,∀ o,h.get? c=some o->h'.get? c=some o:=fun hs hb c hc o e=>hs.extBut _ _ (fun z=>hb (z▸hc)) e;refine j4 (j4 (N0 ?_));show jH _ _ (jY (.ref i1) >>= _) _ _ _;refine j4 (D1.item k _ _ _ k1 (D1.frame _ _ _ h1 (fr hs₁ D.z1)) fun x g2 t2 hx st1 hs₂=>je ?_)
 replace hs₂:Q8 i1 g1 g2:=hs₂
 have hTO₂:Zv g2 TO a b:=hs₂.extBut _ _ D.TOi1 (hs₁.extBut _ _ D.TOz hTO);refine j4 (ZZ hTO₂ rfl ?_);refine j4 (gV hTO₂ fun g3 hTO₃ hs₃=>?_)
 replace hTO₃:Zv g3 TO x b:=hTO₃
 replace hs₃:Q8 TO g2 g3:=hs₃
 refine j4 (J2 (je ?_));refine j4 (j4 (N0 ?_));show jH _ _ (jY (.ref i2) >>= _) _ _ _;refine j4 (D2.item k _ _ _ k2 (D2.frame _ _ _ (D2.frame _ _ _ (D2.frame _ _ _ h2 (fr hs₁ D.z2)) (fr hs₂ D.a1)) (fr hs₃ D.o2)) fun y g4 t4 hy st2 hs₄=>je ?_)
 replace hs₄:Q8 i2 g3 g4:=hs₄
 have hTO₄:Zv g4 TO x b:=hs₄.extBut _ _ D.TOi2 hTO₃;refine j4 (ZZ hTO₄ rfl ?_);refine j4 (gV hTO₄ fun g5 hTO₅ hs₅=>?_)
 replace hTO₅:Zv g5 TO x y:=hTO₅
 replace hs₅:Q8 TO g4 g5:=hs₅
 refine j4 (J2 (je (je ?_)));refine j4 (ZZ hTO₅ rfl ?_);refine j4 (wpAny_newTuple ?_);have hsz:g5.objs.size=s.heap.objs.size:=by rw[hs₅.1,hs₄.1,hs₃.1,hs₂.1,hs₁.1]
 have hz₅:Nu g5 z TI TO .ellipsis:=hs₅.extBut _ _ D.TOz.symm (hs₄.extBut _ _ D.i2z.symm (hs₃.extBut _ _ D.TOz.symm (hs₂.extBut _ _ D.i1z.symm hz₁)));have hk₅:∀ c o,c≠z->c≠TO->c≠i1->c≠i2->s.heap.get? c=some o->g5.get? c=some o:=fun c o c1 c2 c3 c4 e=>
  hs₅.extBut _ _ c2 (hs₄.extBut _ _ c4 (hs₃.extBut _ _ c2 (hs₂.extBut _ _ c3 (hs₁.extBut _ _ c1 e))))
 have st1':S1 (k+1) g5:=D1.frame _ _ _ (D1.frame _ _ _ (D1.frame _ _ _ st1 (fr hs₃ D.o1)) (fr hs₄ D.a2)) (fr hs₅ D.o1);have st2':S2 (k+1) g5:=D2.frame _ _ _ st2 (fr hs₅ D.o2);have hzlt:z < g5.objs.size:=jg hz₅;show jH _ _ (g9 (.ref z) (.ref g5.objs.size) >>= _) _ _ _;refine j4 ?_;unfold g9;have hz₆:Nu (g5.push { cls:=.type "tuple",data:=.seq #[x,y] }) z TI TO .ellipsis:=j7 _ hz₅;refine j4 (Zh hz₆ (by simp) fun g7 hz₇ hs₇=>?_)
 replace hz₇:Nu g7 z TI TO (W1 g5.objs.size):=hz₇
 refine Zh hz₇ (by simp) fun g8 hz₈ hs₈=>?_
 replace hz₈:Nu g8 z TI TO (W1 g5.objs.size):=hz₈
 have up:∀ c o,c≠z->g5.get? c=some o->g8.get? c=some o:=fun c o c1 e=>hs₈.extBut _ _ c1 (hs₇.extBut _ _ c1 (j7 _ e));have hT₈:Zv g8 g5.objs.size x y:=hs₈.extBut _ _ (Zt hzlt) (hs₇.extBut _ _ (Zt hzlt) (jw _ rfl));have hz8:g8.objs.size=g5.objs.size+1:=by rw[hs₈.1,hs₇.1,QQ]
 rw[hsz] at hz₈ hT₈ hz8;refine je ⟨_,rfl,?_⟩;show Q (.ref g5.objs.size) _;rw[hsz];exact hQ x y g8 _ hx hy hz₈ (up _ _ D.TOz hTO₅) (D1.frame _ _ _ st1' fun c hc o e=>up c o (fun q=>D.z1 (q▸hc)) e) (D2.frame _ _ _ st2' fun c hc o e=>up c o (fun q=>D.z2 (q▸hc)) e) hT₈ hz8 fun c o c1 c2 c3 c4 e=>up c o c1 (hk₅ c o c1 c2 c3 c4 e)
theorem znn{z TI TO i1 i2:Addr}{f1 f2:List Addr}{n1 n2 k:Nat}{P1 P2:Nat->ja->Prop}{S1 S2:Nat->Heap->Prop}{a b:ja}{Q:Fin->jc->Prop}(D:ZAp z TI TO i1 i2 f1 f2)
  (D1:JG prog w A i1 f1 n1 P1 S1) (D2:JG prog w A i2 f2 n2 P2 S2) (hz:Nu s.heap z TI TO .none) (hTI:Zv s.heap TI (.ref i1) (.ref i2)) (hTO:Zv s.heap TO a b)
  (h1:S1 k s.heap) (h2:S2 k s.heap) (he:zgF prog w A i1 (S1 k)∨(k < n1/\zgF prog w A i2 (S2 k)))
  (hE:∀ h' e tk,(∀ c o,c≠z->c≠TO->c≠i1->c≠i2->s.heap.get? c=some o->h'.get? c=some o)->(∃ o,h'.get? e=some o/\o.cls=.type "StopIteration")->E (.ref e) { s with heap:=h',toks:=tk }) :
  jH (jM prog w) A (Wt.«zip.__next__» ⟨[.ref z],[]⟩) Q E s:=by
 show jH _ _ (field (.ref z) 2 >>= _) _ _ _;refine j4 (gg hz rfl (x:=.bool false) rfl ?_);show jH _ _ (field (.ref z) 3 >>= _) _ _ _;refine j4 (gg hz rfl (x:=.ref TI) rfl ?_);refine j4 (ZZ hTI rfl ?_);show jH _ _ (QJ (.ref z) >>= _) _ _ _;refine j4 ?_;unfold QJ;refine j4 (gg hz rfl (x:=.none) rfl (je ?_));simp only[if_true];refine j4 (Ji ?_);refine j4 (gg hz rfl (x:=.ref TO) rfl ?_);refine j4 (Zh hz (by simp) fun g1 hz₁ hs₁=>?_)
 replace hz₁:Nu g1 z TI TO .ellipsis:=hz₁
 refine j4 ?_;simp only[N4,J1,Y8,J9];have fr:∀ {f:List Addr} {b:Addr} {h h':Heap},Q8 b h h'->b∉f->∀ c∈f,∀ o,h.get? c=some o->h'.get? c=some o:=fun hs hb c hc o e=>hs.extBut _ _ (fun z=>hb (z▸hc)) e;refine j4 (j4 (N0 ?_));show jH _ _ (jY (.ref i1) >>= _) _ _ _;rcases he with e1 |⟨k1,e2⟩
 ·refine j4 (e1 _ _ _ (D1.frame _ _ _ h1 (fr hs₁ D.z1)) fun g2 e hs₂ he=>?_);obtain⟨oe,hoe,hce⟩:=he
  replace hs₂:Yb i1 g1 g2:=hs₂
  have hz₂:Nu g2 z TI TO .ellipsis:=hs₂ _ _ D.i1z.symm hz₁;have hez:e≠z:=fun x=>by subst x; rw[hz₂] at hoe; cases hoe; simp at hce
  exact Zh hz₂ (by simp) fun g3 _ hs₃=>hE g3 e _ (fun c o c1 _ c3 _ x=>hs₃.extBut _ _ c1 (hs₂ _ _ c3 (hs₁.extBut _ _ c1 x))) ⟨oe,hs₃.extBut _ _ hez hoe,hce⟩
 ·refine j4 (D1.item k _ _ _ k1 (D1.frame _ _ _ h1 (fr hs₁ D.z1)) fun x g2 t2 hx st1 hs₂=>je ?_)
  replace hs₂:Q8 i1 g1 g2:=hs₂
  have hTO₂:Zv g2 TO a b:=hs₂.extBut _ _ D.TOi1 (hs₁.extBut _ _ D.TOz hTO);refine j4 (ZZ hTO₂ rfl ?_);refine j4 (gV hTO₂ fun g3 hTO₃ hs₃=>?_)
  replace hs₃:Q8 TO g2 g3:=hs₃
  refine j4 (J2 (je ?_));refine j4 (j4 (N0 ?_));show jH _ _ (jY (.ref i2) >>= _) _ _ _;refine j4 (e2 _ _ _ (D2.frame _ _ _ (D2.frame _ _ _ (D2.frame _ _ _ h2 (fr hs₁ D.z2)) (fr hs₂ D.a1)) (fr hs₃ D.o2)) fun g4 e hs₄ he=>?_);obtain⟨oe,hoe,hce⟩:=he
  replace hs₄:Yb i2 g3 g4:=hs₄
  have hz₄:Nu g4 z TI TO .ellipsis:=hs₄ _ _ D.i2z.symm (hs₃.extBut _ _ D.TOz.symm (hs₂.extBut _ _ D.i1z.symm hz₁));have hez:e≠z:=fun x=>by subst x; rw[hz₄] at hoe; cases hoe; simp at hce
  exact Zh hz₄ (by simp) fun g5 _ hs₅=>hE g5 e _ (fun c o c1 c2 c3 c4 x=>hs₅.extBut _ _ c1 (hs₄ _ _ c4 (hs₃.extBut _ _ c2 (hs₂.extBut _ _ c3 (hs₁.extBut _ _ c1 x))))) ⟨oe,hs₅.extBut _ _ hez hoe,hce⟩
theorem zcE{z TI TO i1 i2:Addr}{f1 f2:List Addr}{n1 n2 k:Nat}{P1 P2:Nat->ja->Prop}{S1 S2:Nat->Heap->Prop}{a b:ja}{Q:Option ja->jc->Prop}(D:ZAp z TI TO i1 i2 f1 f2)
  (D1:JG prog w A.in1 i1 f1 n1 P1 S1) (D2:JG prog w A.in1 i2 f2 n2 P2 S2) (hz:Nu s.heap z TI TO .none) (hTI:Zv s.heap TI (.ref i1) (.ref i2)) (hTO:Zv s.heap TO a b)
  (h1:S1 k s.heap) (h2:S2 k s.heap) (k1:k < n1) (k2:k < n2)
  (hQ:∀ x y h' tk,P1 k x->P2 k y->Nu h' z TI TO (W1 s.heap.objs.size)->Zv h' TO x y->S1 (k+1) h'->S2 (k+1) h'->Zv h' s.heap.objs.size x y->h'.objs.size=s.heap.objs.size+1->
   (∀ c o,c≠z->c≠TO->c≠i1->c≠i2->s.heap.get? c=some o->h'.get? c=some o)->Q (some (.ref s.heap.objs.size)) { s with heap:=h',toks:=tk }) :
  jH (jM prog w) A (NL (.ref z)) Q E s:=by
 have hT:s.TypeIs (.ref z) "zip":=⟨_,hz,rfl⟩;unfold NL
 exact j4 (wpAny_attempt (Zz (name:=Zu "__next__") hT Yg
  (ZE Yg hT WM
   (zly D D1 D2 hz hTI hTO h1 h2 k1 k2 fun x y h' tk a1 a2 a3 a4 a5 a6 a7 a8 a9=>je (hQ x y h' tk a1 a2 a3 a4 a5 a6 a7 a8 a9)) (Wv _))))
theorem zcY{z TI TO i1 i2:Addr}{f1 f2:List Addr}{n1 n2 k:Nat}{P1 P2:Nat->ja->Prop}{S1 S2:Nat->Heap->Prop}{a b:ja}{Q:Option ja->jc->Prop}(D:ZAp z TI TO i1 i2 f1 f2)
  (D1:JG prog w A.in1 i1 f1 n1 P1 S1) (D2:JG prog w A.in1 i2 f2 n2 P2 S2) (hz:Nu s.heap z TI TO .none) (hTI:Zv s.heap TI (.ref i1) (.ref i2)) (hTO:Zv s.heap TO a b)
  (h1:S1 k s.heap) (h2:S2 k s.heap) (he:zgF prog w A.in1 i1 (S1 k)∨(k < n1/\zgF prog w A.in1 i2 (S2 k)))
  (hQ:∀ h' tk,(∀ c o,c≠z->c≠TO->c≠i1->c≠i2->s.heap.get? c=some o->h'.get? c=some o)->Q none { s with heap:=h',toks:=tk }):jH (jM prog w) A (NL (.ref z)) Q E s:=by
 have hT:s.TypeIs (.ref z) "zip":=⟨_,hz,rfl⟩;unfold NL
 refine j4 (wpAny_attempt (Zz (name:=Zu "__next__") hT Yg
  (ZE Yg hT WM (znn D D1 D2 hz hTI hTO h1 h2 he fun h' e tk hk he=>?_) (Wv _))))
 obtain⟨o,ho,hc⟩:=he;refine j4 (N3 (T:="StopIteration") (b:=true) ⟨o,ho,hc⟩ isSubtype_stop ?_);exact je (hQ _ _ hk)
end
theorem Inv.pair{X:Cx}{pins:List (Addr × Obj)}{sg:St}{H:Hp}{s:jc}{h2:Heap}{tk:Nat}{ch:List Addr}{x y:V}{u v:ja}(I:Inv X pins sg H s)(hf:∀ b∈ch,zj2 X pins H b)
  (keep2:∀ b o,b∉ch->s.heap.get? b=some o->h2.get? b=some o) (tup2:Zv h2 s.heap.objs.size u v) (ru:RelV x u) (rv:RelV y v) :
  Inv X pins sg (upd H s.heap.objs.size (.tup [x,y])) { s with heap:=h2,toks:=tk }:=by
 have hn:H s.heap.objs.size=none:=I.hok.fresh (jl _);have nH:∀ b v,H b=some v->b∉ch/\b≠s.heap.objs.size:=fun b v q=>⟨(fun z=>by rw[(hf b z).1] at q; cases q),za6 q hn⟩
 refine I.step (g':=s.gens) (d':=s.drawn) (ch:=ch) (fun b hb=>?_) (fun b o _ _ hc q _=>keep2 b o hc q)
  (fun b o _ _ hc q _=>⟨o.slots,keep2 b o hc q⟩) (fun b o hc q n=>by rw[za5 (jB (jg q))]; exact n)
  (fun b o hc q=>⟨o,keep2 b o hc q⟩) (fun b ys q=>by rw[za5 (nH b _ q).2]; exact q) (fun b o v q=>by rw[za5 (nH b _ q).2]; exact q)
  (fun b ps q=>⟨#[],by rw[za5 (nH b _ q).2,q]; simp⟩) (fun m hm=>?_) (fun b v' q=>?_) I.bare
 ·obtain⟨f0,f1,f2,f3,f4,f5⟩:=hf b hb;exact⟨f3,f1,f4,f5⟩
 ·obtain⟨o,es,ep,ho,r⟩:=hm;exact⟨o,es,ep,keep2 _ o (fun z=>(hf _ z).2.1 rfl) ho,r⟩
 ·by_cases hb:b=s.heap.objs.size
  ·subst hb;rw[zae] at q;cases q;exact⟨by show 2<=jh; decide,[u,v],.cons ru (.cons rv .nil),_,tup2,rfl,_,rfl⟩
  ·rw[za5 hb] at q;refine(I.hok b v' q).stay (fun c v'' hc q'=>?_) (fun c q'=>by rw[za5 (nH c _ q').2]; exact q') fun c ys q'=>by rw[za5 (nH c _ q').2]; exact q'
   rcases hc with z |z
   ·exact keep2 c v'' (by rw[z]; exact(nH b v' q).1) q'
   ·exact keep2 c v'' (nH c _ z).1 q'
theorem Inv.turnedS{X:Cx}{pins:List (Addr × Obj)}{sg:St}{H:Hp}{s:jc}{h':Heap}{t':Nat}{ch:List Addr}(I:Inv X pins sg H s)(hf:∀ b∈ch,zj2 X pins H b)
  (k:∀ b o,b∉ch->s.heap.get? b=some o->h'.get? b=some o):Inv X pins sg H { s with heap:=h',toks:=t' }:=by
 have nH:∀ b v,H b=some v->b∉ch:=fun b v q z=>by rw[(hf b z).1] at q; cases q
 refine I.step (g':=s.gens) (d':=s.drawn) (ch:=ch) (fun b hb=>?_) (fun b o _ _ hc e _=>k b o hc e) (fun b o _ _ hc e _=>⟨o.slots,k b o hc e⟩) (fun _ _ _ _ n=>n)
  (fun b o hc e=>⟨o,k b o hc e⟩) (fun _ _ e=>e) (fun _ _ _ e=>e) (fun b ps e=>⟨#[],by rw[e]; simp⟩) (fun m hm=>?_) (fun b u e=>?_) I.bare
 ·obtain⟨f0,f1,f2,f3,f4,f5⟩:=hf b hb;exact⟨f3,f1,f4,f5⟩
 ·obtain⟨o,es,ep,ho,r⟩:=hm;exact⟨o,es,ep,k _ o (fun z=>(hf _ z).2.1 rfl) ho,r⟩
 ·refine(I.hok b u e).stay (fun c v hc q=>?_) (fun c q=>q) fun c xs q=>q;rcases hc with z |z
  ·exact k c v (by rw[z]; exact nH b u e) q
  ·exact k c v (nH c _ z) q
theorem zs4{P:jK}{w:Qj}{h:Heap}{d:Addr}{vs:List (Key × ja)}{ep:Nat}(x:h.DictAt (zaz P w) d vs ep):ztJ h d vs.length ep:=by
 obtain⟨o,es,ho,hc,hd,hk,hp,hn⟩:=x;exact⟨o,es,ho,hc.1,hd,by rw[<-hp.length]; simp⟩
def zxX(K:j8)(a b:Addr)(o:Obj):It:=
  ⟨fun i H=>∃ xs x kvs y,SqL K H a xs/\xs[i]?=some x/\H b=some (.frz o (.dK kvs))/\kvs[i]?=some y,
   fun i H v H'=>∃ p x y,v=.ref p/\H p=none/\H'=upd H p (.tup [x,kV y.1])/\(∀ xs,SqL K H a xs->xs[i]?=some x)/\∀ kvs,H b=some (.frz o (.dK kvs))->kvs[i]?=some y,
   fun i H=>∃ xs kvs,SqL K H a xs/\H b=some (.frz o (.dK kvs))/\(xs.length<=i∨kvs.length<=i)⟩
theorem zrz{P:jK}{w:Qj}{K:j8}{elts:List Expr}{x1:Nat}{tp:Pos}(a d z TI TO i1 i2:Addr)(o:Obj)(D:ZAp z TI TO i1 i2 [i1,a] [i2,d])(hai:a≠i1)(hdi:d≠i2) :
  Turn P w K (.Tuple elts x1 tp) (zxX K a d o) [z,TI,TO,i1,i2] z
   (fun i h=>Nu h z TI TO .none/\Zv h TI (.ref i1) (.ref i2)/\(∃ u v,Zv h TO u v)/\h.IsListIter i1 a i/\∃ n ep es,h.IsKeyIter i2 d i n ep/\o.data=.dict es ep/\es.size=n/\i<=n) where
 mem:=by simp
 obj:=fun i h st b hb=>by
  obtain⟨hz,hTI,⟨u,v,hTO⟩,⟨o1,e1,c1,d1⟩,n,ep,es,⟨o2,e2,c2,d2⟩,_⟩:=st;simp only[jq,Ql,or_false] at hb;rcases hb with q |q |q |q |q
  ·rw[q]; exact⟨_,hz,fun v z=>by have z':YR _=ZW v:=z; cases z'⟩
  ·rw[q]; exact⟨_,hTI,fun v z=>by have z':ND _ _=ZW v:=z; cases z'⟩
  ·rw[q]; exact⟨_,hTO,fun v z=>by have z':ND _ _=ZW v:=z; cases z'⟩
  ·rw[q]; exact⟨_,e1,fun v z=>by rw[d1] at z; cases z⟩
  ·rw[q]; exact⟨_,e2,fun v z=>by rw[d2] at z; cases z⟩
 keep:=fun i h h' st k=>by
  obtain⟨hz,hTI,⟨u,v,hTO⟩,h1,n,ep,es,h2,r⟩:=st;exact⟨k z (by simp) _ hz,k TI (by simp) _ hTI,⟨u,v,k TO (by simp) _ hTO⟩,h1.at fun o e=>k i1 (by simp) o e,n,ep,es,h2.at fun o e=>k i2 (by simp) o e,r⟩
 item:=by
  intro X hP hw hK hc i pins s sg H E I hf st hg;subst hP hw hK;obtain⟨hz,hTI,⟨u,v,hTO⟩,h1,n,ep,es,hit,d1,d2,d5⟩:=st;obtain⟨xs,x,kvs,y,hqx,hx,hq,hy⟩:=hg;obtain⟨its,rv,p,hz'⟩:=I.list hqx;obtain⟨w1,hw1,rw1⟩:=rv.get hx;obtain⟨vs,es',ep',rel,da,d3,d4,hd⟩:=zcx I hq;rw[d1] at d3;cases d3;obtain⟨y',hy',y1,y2⟩:=zks rel hy;rw[<-d2,d4] at hit;have hlt:i < vs.length:=(j9.mp hy').1;have hlt1:i < its.toArray.size:=by simpa using (j9.mp hw1).1
  have D1:=gB (prog:=X.prog) (w:=X.w) (A:=X.A.in1) (I.ok.hd hc) i1 a hai its.toArray;have D2:=zdK (knd:=zaz X.prog X.w) (A:=X.A.in1) (I.ok.hd hc) i2 d hdi vs ep;refine zcE D D1 D2 hz hTI hTO ⟨h1,p.isList⟩ ⟨hit,da⟩ hlt1 hlt fun ux uy h1' tk hux huy zo to st1 st2 htup hsz keep1=>?_;have hux':its[i]?=some ux:=by simpa using hux
  rw[hw1] at hux';obtain rfl:=jd hux';obtain⟨k,q,hu1,hu2⟩:=huy;rw[hy'] at hu1;obtain rfl:y'=(k,q):=jd hu1;refine⟨_,rfl,ga zo fun h2 zn sb=>?_⟩;have keep2:∀ b o,b∉[z,TI,TO,i1,i2]->s.heap.get? b=some o->h2.get? b=some o:=fun b o nn q=>(sb.2 b (fun e=>nn (by simp[e]))).trans (keep1 b o (fun e=>nn (by simp[e])) (fun e=>nn (by simp[e])) (fun e=>nn (by simp[e])) (fun e=>nn (by simp[e])) q)
  have zlt:z < s.heap.objs.size:=jg hz;have I2:=I.pair (tk:=tk) (x:=x) (y:=kV y.1) hf keep2 ((sb.2 _ (Zt zlt)).trans htup) rw1 (by rw[y1]; exact zhk hu2)
  refine⟨.ref s.heap.objs.size,_,I2,rfl,⟨s.heap.objs.size,x,y,rfl,I.hok.fresh (jl _),rfl,fun ys h'=>by rw[I.list_inj h' hqx]; exact hx,fun kvs' h'=>?_⟩,⟨zn,(sb.2 _ D.TIz).trans (keep1 _ _ D.TIz D.TITO D.TIi1 D.TIi2 hTI),⟨_,_,(sb.2 _ D.TOz).trans to⟩,st1.1.at fun o q=>(sb.2 _ D.i1z).trans q,_,ep,es,st2.1.at fun o q=>(sb.2 _ D.i2z).trans q,d1,d4,hlt⟩,fun b hb=>?_⟩
  ·rw[hq] at h';cases h';exact hy
  ·rw[za5 (jB ?_)]
   ·exact(hf b hb).1
   ·simp only[jq,Ql,or_false] at hb;rcases hb with q |q |q |q |q
    ·rw[q]; exact zlt
    ·rw[q]; exact jg hTI
    ·rw[q]; exact jg hTO
    ·rw[q]; obtain⟨o,ho,_⟩:=h1; exact jg ho
    ·rw[q]; obtain⟨o,ho,_⟩:=hit; exact jg ho
 done:=by
  intro X hP hw hK hc i pins s sg H E I hf st hg;subst hP hw hK;obtain⟨hz,hTI,⟨u,v,hTO⟩,h1,n,ep,es,hit,d1,d2,d5⟩:=st;obtain⟨xs,kvs,hqx,hq,hx⟩:=hg;obtain⟨its,rv,p,hz'⟩:=I.list hqx;obtain⟨vs,es',ep',rel,da,d3,d4,hd⟩:=zcx I hq;rw[d1] at d3;cases d3;have hl:=rel.length;have hl2:=rv.length;rw[<-d2,d4] at hit;have D1:=gB (prog:=X.prog) (w:=X.w) (A:=X.A.in1) (I.ok.hd hc) i1 a hai its.toArray;have D2:=zdK (knd:=zaz X.prog X.w) (A:=X.A.in1) (I.ok.hd hc) i2 d hdi vs ep;have he:zgF X.prog X.w X.A.in1 i1 (fun h=>h.IsListIter i1 a i/\h.IsList a its.toArray)∨(i < its.toArray.size/\zgF X.prog X.w X.A.in1 i2 (fun h=>h.IsKeyIter i2 d i vs.length ep/\Heap.DictAt (zaz X.prog X.w) h d vs ep)):=by
   rcases gJ i its.toArray.size with hi |hi
   ·refine .inr ⟨hi,fun s Q E st hE=>?_⟩;have hi2:i < its.length:=by simpa using hi
    exact zjv (I.ok.hd hc) st.1 st.2 (Nv (by lia)) hE
   ·exact .inl fun s Q E st hE=>ZP (I.ok.hd hc) st.1 st.2 (Ze hi) hE
  refine zcY D D1 D2 hz hTI hTO ⟨h1,p.isList⟩ ⟨hit,da⟩ he fun h' tk kp=>⟨rfl,?_⟩;exact I.turnedS (t':=tk) (ch:=[z,TO,i1,i2]) (fun b hb=>hf b (by simp only[jq,Ql,or_false] at hb ⊢; rcases hb with q |q |q |q<;>simp[q])) (fun b o hb q=>kp b o (fun e=>hb (by simp[e])) (fun e=>hb (by simp[e])) (fun e=>hb (by simp[e])) (fun e=>hb (by simp[e])) q)
 self:=fun _ _ _ _ _ st h=>gd st.1 h
section
variable {X:Cx}
theorem zjZ(n l d:Nat)(h1:l < n)(h2:d < n):ZAp (n+4) (n+2) (n+3) n (n+1) [n,l] [n+1,d]:=by
 constructor<;>first |(show @Ne Nat _ _; lia) |(intro h; simp only[jq,Ql,or_false] at h; rcases h with h |h<;>(replace h:@Eq Nat _ _:=h; lia))
end
def zwF(K:j8)(a b:Addr):It:=
  ⟨fun i H=>∃ xs x ys y,SqL K H a xs/\xs[i]?=some x/\SqL K H b ys/\ys[i]?=some y,
   fun i H v H'=>∃ p x y,v=.ref p/\H p=none/\H'=upd H p (.tup [x,y])/\(∀ xs,SqL K H a xs->xs[i]?=some x)/\∀ ys,SqL K H b ys->ys[i]?=some y,
   fun i H=>∃ xs ys,SqL K H a xs/\SqL K H b ys/\(xs.length<=i∨ys.length<=i)⟩
theorem zlE{P:jK}{w:Qj}{K:j8}{elts:List Expr}{x1:Nat}{tp:Pos}(a d z TI TO i1 i2:Addr)(D:ZAp z TI TO i1 i2 [i1,a] [i2,d])(hai:a≠i1)(hdi:d≠i2) :
  Turn P w K (.Tuple elts x1 tp) (zwF K a d) [z,TI,TO,i1,i2] z
   (fun i h=>Nu h z TI TO .none/\Zv h TI (.ref i1) (.ref i2)/\(∃ u v,Zv h TO u v)/\h.IsListIter i1 a i/\h.IsListIter i2 d i) where
 mem:=by simp
 obj:=fun i h st b hb=>by
  obtain⟨hz,hTI,⟨u,v,hTO⟩,⟨o1,e1,c1,d1⟩,⟨o2,e2,c2,d2⟩⟩:=st;simp only[jq,Ql,or_false] at hb;rcases hb with q |q |q |q |q
  ·rw[q]; exact⟨_,hz,fun v z=>by have z':YR _=ZW v:=z; cases z'⟩
  ·rw[q]; exact⟨_,hTI,fun v z=>by have z':ND _ _=ZW v:=z; cases z'⟩
  ·rw[q]; exact⟨_,hTO,fun v z=>by have z':ND _ _=ZW v:=z; cases z'⟩
  ·rw[q]; exact⟨_,e1,fun v z=>by rw[d1] at z; cases z⟩
  ·rw[q]; exact⟨_,e2,fun v z=>by rw[d2] at z; cases z⟩
 keep:=fun i h h' st k=>by
  obtain⟨hz,hTI,⟨u,v,hTO⟩,h1,h2⟩:=st;exact⟨k z (by simp) _ hz,k TI (by simp) _ hTI,⟨u,v,k TO (by simp) _ hTO⟩,h1.at fun o e=>k i1 (by simp) o e,h2.at fun o e=>k i2 (by simp) o e⟩
 item:=by
  intro X hP hw hK hc i pins s sg H E I hf st hg;subst hP hw hK;obtain⟨hz,hTI,⟨u,v,hTO⟩,h1,hit⟩:=st;obtain⟨xs,x,ys,y,hqx,hx,hqy,hy⟩:=hg;obtain⟨its,rv,p,hz'⟩:=I.list hqx;obtain⟨w1,hw1,rw1⟩:=rv.get hx;obtain⟨its2,rv2,p2,hz2⟩:=I.list hqy;obtain⟨w2,hw2,rw2⟩:=rv2.get hy;have hlt1:i < its.toArray.size:=by simpa using (j9.mp hw1).1
  have hlt2:i < its2.toArray.size:=by simpa using (j9.mp hw2).1
  have D1:=gB (prog:=X.prog) (w:=X.w) (A:=X.A.in1) (I.ok.hd hc) i1 a hai its.toArray;have D2:=gB (prog:=X.prog) (w:=X.w) (A:=X.A.in1) (I.ok.hd hc) i2 d hdi its2.toArray;refine zcE D D1 D2 hz hTI hTO ⟨h1,p.isList⟩ ⟨hit,p2.isList⟩ hlt1 hlt2 fun ux uy h1' tk hux huy zo to st1 st2 htup hsz keep1=>?_;have hux':its[i]?=some ux:=by simpa using hux
  rw[hw1] at hux';obtain rfl:=jd hux';have huy':its2[i]?=some uy:=by simpa using huy
  rw[hw2] at huy';obtain rfl:=jd huy';refine⟨_,rfl,ga zo fun h2 zn sb=>?_⟩;have keep2:∀ b o,b∉[z,TI,TO,i1,i2]->s.heap.get? b=some o->h2.get? b=some o:=fun b o nn q=>(sb.2 b (fun e=>nn (by simp[e]))).trans (keep1 b o (fun e=>nn (by simp[e])) (fun e=>nn (by simp[e])) (fun e=>nn (by simp[e])) (fun e=>nn (by simp[e])) q)
  have zlt:z < s.heap.objs.size:=jg hz;have I2:=I.pair (tk:=tk) (x:=x) (y:=y) hf keep2 ((sb.2 _ (Zt zlt)).trans htup) rw1 rw2;refine⟨.ref s.heap.objs.size,_,I2,rfl,⟨s.heap.objs.size,x,y,rfl,I.hok.fresh (jl _),rfl,fun ys h'=>by rw[I.list_inj h' hqx]; exact hx,fun ys h'=>by rw[I.list_inj h' hqy]; exact hy⟩,⟨zn,(sb.2 _ D.TIz).trans (keep1 _ _ D.TIz D.TITO D.TIi1 D.TIi2 hTI),⟨_,_,(sb.2 _ D.TOz).trans to⟩,st1.1.at fun o q=>(sb.2 _ D.i1z).trans q,st2.1.at fun o q=>(sb.2 _ D.i2z).trans q⟩,fun b hb=>?_⟩
  rw[za5 (jB ?_)]
  ·exact(hf b hb).1
  ·simp only[jq,Ql,or_false] at hb;rcases hb with q |q |q |q |q
   ·rw[q]; exact zlt
   ·rw[q]; exact jg hTI
   ·rw[q]; exact jg hTO
   ·rw[q]; obtain⟨o,ho,_⟩:=h1; exact jg ho
   ·rw[q]; obtain⟨o,ho,_⟩:=hit; exact jg ho
 done:=by
  intro X hP hw hK hc i pins s sg H E I hf st hg;subst hP hw hK;obtain⟨hz,hTI,⟨u,v,hTO⟩,h1,hit⟩:=st;obtain⟨xs,ys,hqx,hqy,hx⟩:=hg;obtain⟨its,rv,p,hz'⟩:=I.list hqx;obtain⟨its2,rv2,p2,hz2⟩:=I.list hqy;have hl:=rv2.length;have hl2:=rv.length;have D1:=gB (prog:=X.prog) (w:=X.w) (A:=X.A.in1) (I.ok.hd hc) i1 a hai its.toArray;have D2:=gB (prog:=X.prog) (w:=X.w) (A:=X.A.in1) (I.ok.hd hc) i2 d hdi its2.toArray;have he:zgF X.prog X.w X.A.in1 i1 (fun h=>h.IsListIter i1 a i/\h.IsList a its.toArray)∨(i < its.toArray.size/\zgF X.prog X.w X.A.in1 i2 (fun h=>h.IsListIter i2 d i/\h.IsList d its2.toArray)):=by
   rcases gJ i its.toArray.size with hi |hi
   ·have hi2:i < its.length:=by simpa using hi
    exact .inr ⟨hi,fun s Q E st hE=>ZP (I.ok.hd hc) st.1 st.2 (Ze (by simp; lia)) hE⟩
   ·exact .inl fun s Q E st hE=>ZP (I.ok.hd hc) st.1 st.2 (Ze hi) hE
  refine zcY D D1 D2 hz hTI hTO ⟨h1,p.isList⟩ ⟨hit,p2.isList⟩ he fun h' tk kp=>⟨rfl,?_⟩;exact I.turnedS (t':=tk) (ch:=[z,TO,i1,i2]) (fun b hb=>hf b (by simp only[jq,Ql,or_false] at hb ⊢; rcases hb with q |q |q |q<;>simp[q])) (fun b o hb q=>kp b o (fun e=>hb (by simp[e])) (fun e=>hb (by simp[e])) (fun e=>hb (by simp[e])) (fun e=>hb (by simp[e])) q)
 self:=fun _ _ _ _ _ st h=>gd st.1 h
section
variable {X:Cx}
def zvp(K:j8)(ta:TA):TI:=fun sg H R=>ta sg H fun vs H1=>∃ a b xs ys,vs=[.ref a,.ref b]/\SqL K H1 a xs/\SqL K H1 b ys/\R (zwF K a b) H1
theorem zq8{elts:List Expr}{x1:Nat}{tp:Pos}{a b:Expr}{ta:TA}{p pos:Pos}(hg:Gl X "zip")(hm:X.mg "zip"=none)(ha:PA X [a,b] ta)(hs:jb [a,b] X.env=(false,eval a X.env)::jb [b] X.env:=by rfl)(hs2:(QB pos (jb [b] X.env)).any (·.1)=false:=by rfl) :
  PI X (.Tuple elts x1 tp) (.Call (.Name "zip" p) [a,b] [] pos) (zvp X.K ta):=by
 intro pins s sg H R I h;refine Call_ (zg9 I hg hm Nw (QU (thn (ha pos pins s sg H _ I h) fun us s1 ⟨vs,H1,I1,r1,q1⟩=>?_) hs hs2));obtain⟨a1,a2,xs,ys,e,hqx,hqy,q⟩:=q1;subst e;cases r1 with
 |cons r rr=>
  cases rr with
  |cons r' rr=>
   cases rr;cases r;cases r';obtain⟨its,rv,pl,hz⟩:=I1.list hqx;obtain⟨its2,rv2,pl2,hz2⟩:=I1.list hqy;have lt1:a1 < s1.heap.objs.size:=by obtain⟨o,ho,_⟩:=pl.isList; exact jg ho
   have lt2:a2 < s1.heap.objs.size:=by obtain⟨o,ho,_⟩:=pl2.isList; exact jg ho
   refine call_zip_2 pl.isList pl2.isList fun h' hz hTI hTO hi1 hi2 hsz kp=>gd hz ?_;refine⟨s1.heap.objs.size+4,[s1.heap.objs.size+4,s1.heap.objs.size+2,s1.heap.objs.size+3,s1.heap.objs.size,s1.heap.objs.size+1],_,_,H1,rfl,I1.kept (t':=s1.toks) kp,zlE a1 a2 _ _ _ _ _ (zjZ _ a1 a2 lt1 lt2) (jB lt1) (jB (Za lt2)),⟨hz,hTI,⟨_,_,hTO⟩,hi1,hi2⟩,fun b hb=>?_,q⟩;have le:s1.heap.objs.size<=b:=by
    simp only[jq,Ql,or_false] at hb;rcases hb with h |h |h |h |h<;>rw[h]<;>first |exact jl _ |exact WN _ _
   exact I1.fpOk le (I1.hok.fresh le)
end
abbrev ztN(h:Heap)(l d:Addr)(n ep:Nat):Heap:=(zipH1 (kIt h d n ep) l).push { cls:=.type "tuple",data:=.seq #[.ref h.objs.size,.ref (kIt h d n ep).objs.size] }
abbrev ztM(h:Heap)(l d:Addr)(n ep:Nat):Heap:=(ztN h l d n ep).push { cls:=.type "tuple",data:=.seq #[.none,.none] }
abbrev zpf(h:Heap)(l d:Addr)(n ep:Nat):Heap:=(ztM h l d n ep).push { cls:=.type "zip",data:=.fields #[.none,.bool false,.bool false,.ref (zipH1 (kIt h d n ep) l).objs.size,.ref (ztN h l d n ep).objs.size] }
set_option maxHeartbeats 1000000 in
theorem zit(l d:Addr)(xs:Array ja)(n ep:Nat) :
  Meets (Wt.«zip.__new__» ⟨[.type "zip",.ref d,.ref l],[]⟩) (fun _ R s=>s.heap.IsList l xs/\(d == Z9)=false/\ztJ s.heap d n ep /\
   R (.ok (.ret (.ref (ztM s.heap l d n ep).objs.size))) { s with heap:=zpf s.heap l d n ep }):=
 .of_wp fun prog w A R s h=>by
  obtain⟨hp,g,dr,tk,os⟩:=s; obtain⟨hl,h0,hd,h⟩:=h;have hsub:=sub_zip;have hD:ztJ (JM ⟨hp,g,dr,tk,os⟩) d n ep:=hd;have hL:Heap.IsList (JM ⟨kIt hp d n ep,g,dr,tk,os⟩) l xs:=hl.push _
  wp_walk using zny h0 hD,gx hL
  exact⟨_,rfl,h⟩
section
variable {prog:jK}{w:Qj}{A:Qz}{E:ja->jc->Prop}{s:jc}
theorem zjS{l d:Addr}{xs:Array ja}{n ep:Nat}{Q:ja->jc->Prop}(hl:s.heap.IsList l xs)(h0:(d == Z9)=false)(hD:ztJ s.heap d n ep)
  (h:∀ h',Nu h' (s.heap.objs.size+4) (s.heap.objs.size+2) (s.heap.objs.size+3) .none->Zv h' (s.heap.objs.size+2) (.ref s.heap.objs.size) (.ref (s.heap.objs.size+1))->
   Zv h' (s.heap.objs.size+3) .none .none->h'.IsKeyIter s.heap.objs.size d 0 n ep->h'.IsListIter (s.heap.objs.size+1) l 0->h'.objs.size=s.heap.objs.size+5->
   (∀ c o,s.heap.get? c=some o->h'.get? c=some o)->Q (.ref (s.heap.objs.size+4)) { s with heap:=h' }) :
  jH (jM prog w) A (call (.type "zip") [.ref d,.ref l]) Q E s:=by
 refine callType_new F.called_zip (by decide) (F.typeCall_zip_2 _ _) (F.newCall_zip_2 _ _) (fun obj=>F.args_object_init_3 obj _ _) F.entry_zip_new (zit l d xs n ep) ⟨hl,h0,hD,?_⟩
 have z1:(kIt s.heap d n ep).objs.size=s.heap.objs.size+1:=QQ ..;have z2:(zipH1 (kIt s.heap d n ep) l).objs.size=s.heap.objs.size+2:=by rw[QQ,z1]
 have z3:(ztN s.heap l d n ep).objs.size=s.heap.objs.size+3:=by rw[QQ,z2]
 have z4:(ztM s.heap l d n ep).objs.size=s.heap.objs.size+4:=by rw[QQ,z3]
 have z5:(zpf s.heap l d n ep).objs.size=s.heap.objs.size+5:=by rw[QQ,z4]
 have g5:(zpf s.heap l d n ep).get? (ztM s.heap l d n ep).objs.size=some _:=jw _ rfl;have g4:(zpf s.heap l d n ep).get? (ztN s.heap l d n ep).objs.size=some _:=j7 _ (jw _ rfl);have g3:(zpf s.heap l d n ep).get? (zipH1 (kIt s.heap d n ep) l).objs.size=some _:=j7 _ (j7 _ (jw _ rfl));have g2:(zpf s.heap l d n ep).get? (kIt s.heap d n ep).objs.size=some _:=j7 _ (j7 _ (j7 _ (jw _ rfl)));have g1:(zpf s.heap l d n ep).get? s.heap.objs.size=some _:=j7 _ (j7 _ (j7 _ (j7 _ (jw _ rfl))));show _/\_;rw[z2,z3,z4] at g5;rw[z1,z2] at g3;rw[z3] at g4;rw[z1] at g2;rw[z4]
 exact⟨⟨_,g5,rfl⟩,h _ g5 g3 g4 ⟨_,g1,rfl,rfl⟩ ⟨_,g2,rfl,rfl⟩ z5 fun c o x=>
  j7 _ (j7 _ (j7 _ (j7 _ (j7 _ x))))⟩
end
def zwG(K:j8)(d a:Addr)(o:Obj):It:=
  ⟨fun i H=>∃ xs x kvs y,SqL K H a xs/\xs[i]?=some x/\H d=some (.frz o (.dK kvs))/\kvs[i]?=some y,
   fun i H v H'=>∃ p x y,v=.ref p/\H p=none/\H'=upd H p (.tup [kV y.1,x])/\(∀ xs,SqL K H a xs->xs[i]?=some x)/\∀ kvs,H d=some (.frz o (.dK kvs))->kvs[i]?=some y,
   fun i H=>∃ xs kvs,SqL K H a xs/\H d=some (.frz o (.dK kvs))/\(xs.length<=i∨kvs.length<=i)⟩
theorem zkT{P:jK}{w:Qj}{K:j8}{elts:List Expr}{x1:Nat}{tp:Pos}(d a z TI TO i1 i2:Addr)(o:Obj)(D:ZAp z TI TO i1 i2 [i1,d] [i2,a])(hdi:d≠i1)(hai:a≠i2) :
  Turn P w K (.Tuple elts x1 tp) (zwG K d a o) [z,TI,TO,i1,i2] z
   (fun i h=>Nu h z TI TO .none/\Zv h TI (.ref i1) (.ref i2)/\(∃ u v,Zv h TO u v)/\h.IsListIter i2 a i/\∃ n ep es,h.IsKeyIter i1 d i n ep/\o.data=.dict es ep/\es.size=n/\i<=n) where
 mem:=by simp
 obj:=fun i h st b hb=>by
  obtain⟨hz,hTI,⟨u,v,hTO⟩,⟨o1,e1,c1,d1⟩,n,ep,es,⟨o2,e2,c2,d2⟩,_⟩:=st;simp only[jq,Ql,or_false] at hb;rcases hb with q |q |q |q |q
  ·rw[q]; exact⟨_,hz,fun v z=>by have z':YR _=ZW v:=z; cases z'⟩
  ·rw[q]; exact⟨_,hTI,fun v z=>by have z':ND _ _=ZW v:=z; cases z'⟩
  ·rw[q]; exact⟨_,hTO,fun v z=>by have z':ND _ _=ZW v:=z; cases z'⟩
  ·rw[q]; exact⟨_,e2,fun v z=>by rw[d2] at z; cases z⟩
  ·rw[q]; exact⟨_,e1,fun v z=>by rw[d1] at z; cases z⟩
 keep:=fun i h h' st k=>by
  obtain⟨hz,hTI,⟨u,v,hTO⟩,h1,n,ep,es,h2,r⟩:=st;exact⟨k z (by simp) _ hz,k TI (by simp) _ hTI,⟨u,v,k TO (by simp) _ hTO⟩,h1.at fun o e=>k i2 (by simp) o e,n,ep,es,h2.at fun o e=>k i1 (by simp) o e,r⟩
 item:=by
  intro X hP hw hK hc i pins s sg H E I hf st hg;subst hP hw hK;obtain⟨hz,hTI,⟨u,v,hTO⟩,h1,n,ep,es,hit,d1,d2,d5⟩:=st;obtain⟨xs,x,kvs,y,hqx,hx,hq,hy⟩:=hg;obtain⟨its,rv,p,hz'⟩:=I.list hqx;obtain⟨w1,hw1,rw1⟩:=rv.get hx;obtain⟨vs,es',ep',rel,da,d3,d4,hd⟩:=zcx I hq;rw[d1] at d3;cases d3;obtain⟨y',hy',y1,y2⟩:=zks rel hy;rw[<-d2,d4] at hit;have hlt:i < vs.length:=(j9.mp hy').1;have hlt1:i < its.toArray.size:=by simpa using (j9.mp hw1).1
  have D1:=zdK (knd:=zaz X.prog X.w) (A:=X.A.in1) (I.ok.hd hc) i1 d hdi vs ep;have D2:=gB (prog:=X.prog) (w:=X.w) (A:=X.A.in1) (I.ok.hd hc) i2 a hai its.toArray;refine zcE D D1 D2 hz hTI hTO ⟨hit,da⟩ ⟨h1,p.isList⟩ hlt hlt1 fun uy ux h1' tk huy hux zo to st2 st1 htup hsz keep1=>?_;have hux':its[i]?=some ux:=by simpa using hux
  rw[hw1] at hux';obtain rfl:=jd hux';obtain⟨k,q,hu1,hu2⟩:=huy;rw[hy'] at hu1;obtain rfl:y'=(k,q):=jd hu1;refine⟨_,rfl,ga zo fun h2 zn sb=>?_⟩;have keep2:∀ b o,b∉[z,TI,TO,i1,i2]->s.heap.get? b=some o->h2.get? b=some o:=fun b o nn q=>(sb.2 b (fun e=>nn (by simp[e]))).trans (keep1 b o (fun e=>nn (by simp[e])) (fun e=>nn (by simp[e])) (fun e=>nn (by simp[e])) (fun e=>nn (by simp[e])) q)
  have zlt:z < s.heap.objs.size:=jg hz;have I2:=I.pair (tk:=tk) (x:=kV y.1) (y:=x) hf keep2 ((sb.2 _ (Zt zlt)).trans htup) (by rw[y1]; exact zhk hu2) rw1
  refine⟨.ref s.heap.objs.size,_,I2,rfl,⟨s.heap.objs.size,x,y,rfl,I.hok.fresh (jl _),rfl,fun ys h'=>by rw[I.list_inj h' hqx]; exact hx,fun kvs' h'=>?_⟩,⟨zn,(sb.2 _ D.TIz).trans (keep1 _ _ D.TIz D.TITO D.TIi1 D.TIi2 hTI),⟨_,_,(sb.2 _ D.TOz).trans to⟩,st1.1.at fun o q=>(sb.2 _ D.i2z).trans q,_,ep,es,st2.1.at fun o q=>(sb.2 _ D.i1z).trans q,d1,d4,hlt⟩,fun b hb=>?_⟩
  ·rw[hq] at h';cases h';exact hy
  ·rw[za5 (jB ?_)]
   ·exact(hf b hb).1
   ·simp only[jq,Ql,or_false] at hb;rcases hb with q |q |q |q |q
    ·rw[q]; exact zlt
    ·rw[q]; exact jg hTI
    ·rw[q]; exact jg hTO
    ·rw[q]; obtain⟨o,ho,_⟩:=hit; exact jg ho
    ·rw[q]; obtain⟨o,ho,_⟩:=h1; exact jg ho
 done:=by
  intro X hP hw hK hc i pins s sg H E I hf st hg;subst hP hw hK;obtain⟨hz,hTI,⟨u,v,hTO⟩,h1,n,ep,es,hit,d1,d2,d5⟩:=st;obtain⟨xs,kvs,hqx,hq,hx⟩:=hg;obtain⟨its,rv,p,hz'⟩:=I.list hqx;obtain⟨vs,es',ep',rel,da,d3,d4,hd⟩:=zcx I hq;rw[d1] at d3;cases d3;have hl:=rel.length;have hl2:=rv.length;rw[<-d2,d4] at hit;have D1:=zdK (knd:=zaz X.prog X.w) (A:=X.A.in1) (I.ok.hd hc) i1 d hdi vs ep;have D2:=gB (prog:=X.prog) (w:=X.w) (A:=X.A.in1) (I.ok.hd hc) i2 a hai its.toArray;have he:zgF X.prog X.w X.A.in1 i1 (fun h=>h.IsKeyIter i1 d i vs.length ep/\Heap.DictAt (zaz X.prog X.w) h d vs ep)∨(i < vs.length/\zgF X.prog X.w X.A.in1 i2 (fun h=>h.IsListIter i2 a i/\h.IsList a its.toArray)):=by
   rcases gJ i vs.length with hi |hi
   ·refine .inr ⟨hi,fun s Q E st hE=>?_⟩;exact ZP (I.ok.hd hc) st.1 st.2 (Ze (by simp; lia)) hE
   ·exact .inl fun s Q E st hE=>zjv (I.ok.hd hc) st.1 st.2 (Nv hi) hE
  refine zcY D D1 D2 hz hTI hTO ⟨hit,da⟩ ⟨h1,p.isList⟩ he fun h' tk kp=>⟨rfl,?_⟩;exact I.turnedS (t':=tk) (ch:=[z,TO,i1,i2]) (fun b hb=>hf b (by simp only[jq,Ql,or_false] at hb ⊢; rcases hb with q |q |q |q<;>simp[q])) (fun b o hb q=>kp b o (fun e=>hb (by simp[e])) (fun e=>hb (by simp[e])) (fun e=>hb (by simp[e])) (fun e=>hb (by simp[e])) q)
 self:=fun _ _ _ _ _ st h=>gd st.1 h
section
variable {X:Cx}
def zt4(K:j8)(ta:TA):TI:=fun sg H R=>ta sg H fun vs H1=>∃ d a xs o kvs,vs=[.ref d,.ref a]/\SqL K H1 a xs/\H1 d=some (.frz o (.dK kvs))/\R (zwG K d a o) H1
theorem znP{elts:List Expr}{x1:Nat}{tp:Pos}{a b:Expr}{ta:TA}{p pos:Pos}(hg:Gl X "zip")(hm:X.mg "zip"=none)(ha:PA X [a,b] ta)(hs:jb [a,b] X.env=(false,eval a X.env)::jb [b] X.env:=by rfl)(hs2:(QB pos (jb [b] X.env)).any (·.1)=false:=by rfl) :
  PI X (.Tuple elts x1 tp) (.Call (.Name "zip" p) [a,b] [] pos) (zt4 X.K ta):=by
 intro pins s sg H R I h;refine Call_ (zg9 I hg hm Nw (QU (thn (ha pos pins s sg H _ I h) fun us s1 ⟨vs,H1,I1,r1,q1⟩=>?_) hs hs2));obtain⟨a2,a1,xs,o,kvs,e,hqx,hq,q⟩:=q1;subst e;cases r1 with
 |cons r rr=>
  cases rr with
  |cons r' rr=>
   cases rr;cases r;cases r';obtain⟨its,rv,pl,hz⟩:=I1.list hqx;obtain⟨vs,es,ep,rel,da,d3,d4,hd⟩:=zcx I1 hq;have lt1:a1 < s1.heap.objs.size:=by obtain⟨o,ho,_⟩:=pl.isList; exact jg ho
   have lt2:a2 < s1.heap.objs.size:=by obtain⟨o1,_,ho,_⟩:=da; exact jg ho
   refine zjS pl.isList hd (zs4 da) fun h' hz hTI hTO hi1 hi2 hsz kp=>gd hz ?_;refine⟨s1.heap.objs.size+4,[s1.heap.objs.size+4,s1.heap.objs.size+2,s1.heap.objs.size+3,s1.heap.objs.size,s1.heap.objs.size+1],_,_,H1,rfl,I1.kept (t':=s1.toks) kp,zkT a2 a1 _ _ _ _ _ o (zjZ _ a2 a1 lt2 lt1) (jB lt2) (jB (Za lt1)),⟨hz,hTI,⟨_,_,hTO⟩,hi2,_,ep,es,hi1,d3,d4,Zj _⟩,fun b hb=>?_,q⟩;have le:s1.heap.objs.size<=b:=by
    simp only[jq,Ql,or_false] at hb;rcases hb with h |h |h |h |h<;>rw[h]<;>first |exact jl _ |exact WN _ _
   exact I1.fpOk le (I1.hok.fresh le)
end
def newExc(h:Heap)(C:Addr)(rest:List ja):Heap:=(h.push { cls:=.type "tuple",data:=.seq rest.toArray }).push { cls:=.ref C,data:=.fields #[.ref h.objs.size,.none,.none,.none,.bool false,.none] }
end L2
namespace L3
open PySem PySem.Spec PyProof.Rows L2
variable [TheK]
def zhO(caps:List (Option Nat))(s:Sg):Sg:=caps.map fun o=>o.bind fun j=>(s[j]?).join
def zax(M:List Nat):List (Option Nat)->Sg->Sg->Sg
 |some j::cs,x::xs,s=>zax M cs xs (if M.contains j then s.set j x else s)
 |none::cs,_::xs,s=>zax M cs xs s
 |_,_,s=>s
structure CapOk (caps:List (Option Nat)) (M Mi:List Nat):Prop where
 yes:∀(i:Nat),i∈Mi->∃ j,caps[i]?=some (some j)/\j∈M
 no:∀(i j:Nat),caps[i]?=some (some j)->i∉Mi->j∉M
 inj:∀(i i' j:Nat),caps[i]?=some (some j)->caps[i']?=some (some j)->i=i'
def znm(caps:List (Option Nat))(M Mi:List Nat):Bool:=
 Mi.all (fun i=>match caps[i]? with |some (some j)=>M.contains j |_=>false) &&
 (jf caps.length).all (fun i=>match caps[i]? with |some (some j)=>Mi.contains i||!M.contains j |_=>true) &&
 (jf caps.length).all (fun i=>(jf caps.length).all fun i'=>match caps[i]?,caps[i']? with |some (some j),some (some j')=>j != j'||i == i' |_,_=>true)
theorem CapOk.of{caps:List (Option Nat)}{M Mi:List Nat}(h:znm caps M Mi=true):CapOk caps M Mi:=by
 unfold znm at h;rw[jI,jI] at h;obtain⟨⟨h1,h2⟩,h3⟩:=h;have lt:∀ {i:Nat} {o:Option Nat},caps[i]?=some o->i∈jf caps.length:=fun e=>jk.mpr (j9.mp e).1;refine⟨fun i hi=>?_,fun i j e n=>?_,fun i i' j e e'=>?_⟩
 ·have:=jt.mp h1 i hi;cases hc:caps[i]? with
  |none=>rw[hc] at this; cases this
  |some o=>cases o with
   |none=>rw[hc] at this; cases this
   |some j=>rw[hc] at this; exact⟨j,rfl,by simpa using this⟩
 ·have:=jt.mp h2 i (lt e);rw[e] at this;intro hj;have a:Mi.contains i=false:=by simpa using n
  have b:M.contains j=true:=by simpa using hj
  dsimp only at this;rw[a,b] at this;cases this
 ·have:=jt.mp (jt.mp h3 i (lt e)) i' (lt e');rw[e,e'] at this;simpa using this
theorem zkI{caps:List (Option Nat)}{s:Sg}{i:Nat}{t:T}(h:(zhO caps s)[i]?=some (some t)):∃ j,caps[i]?=some (some j)/\s[j]?=some (some t):=by
 unfold zhO at h;rw[ji] at h;obtain⟨o,h1,h2⟩:=Qm h;cases o with
 |none=>cases h2
 |some j=>exact⟨j,h1,zag h2⟩
theorem ziO{caps:List (Option Nat)}{σ:L2.St}{i j:Nat}(h:caps[i]?=some (some j)):(zbj caps σ)[i]?=some (σ[j]?).join:=by
 unfold zbj;rw[ji,h];rfl
theorem zbT{caps:List (Option Nat)}{σ:L2.St}{i:Nat}{v:V}(h:(zbj caps σ)[i]?=some (some v)):∃ j,caps[i]?=some (some j)/\σ[j]?=some (some v):=by
 unfold zbj at h;rw[ji] at h;obtain⟨o,h1,h2⟩:=Qm h;cases o with
 |none=>cases h2
 |some j=>
  refine⟨j,h1,?_⟩;have h2:(σ[j]?).join=some v:=h2;cases e:σ[j]? with
  |none=>rw[e] at h2; cases h2
  |some x=>rw[e] at h2; cases x with
   |none=>cases h2
   |some y=>injection h2 with h2; rw[h2]
theorem Rel.cap{F:Fr}{O:Addr->Prop}{M Mi:List Nat}{s:Sg}{σ:L2.St}{H:Hp}{caps:List (Option Nat)}(R:Rel F O M s σ H)(c:CapOk caps M Mi):Rel F O Mi (zhO caps s) (zbj caps σ) H:=by
 refine⟨by unfold zhO zbj; simp,fun i t e n=>?_,fun i t e n=>?_,fun i a hi e=>?_,fun i i' a hi hi' e e'=>?_,R.keep,R.dom,R.fresh,R.inD,R.al⟩
 ·obtain⟨j,h1,h2⟩:=zkI e;obtain⟨v,h3,h4⟩:=R.val j t h2 (c.no i j h1 n);exact⟨v,by rw[ziO h1,h3]; rfl,h4⟩
 ·obtain⟨j,h1,h2⟩:=zkI e;obtain⟨j',h1',h3⟩:=c.yes i n;rw[h1] at h1';obtain rfl:j=j':=by injection h1' with h; injection h
  obtain⟨a,h4,L⟩:=R.own j t h2 h3;exact⟨a,by rw[ziO h1,h4]; rfl,L⟩
 ·obtain⟨j,h1,h2⟩:=zbT e;obtain⟨j',h1',h3⟩:=c.yes i hi;rw[h1] at h1';obtain rfl:j=j':=by injection h1' with h; injection h
  exact R.ow j a h3 h2
 ·obtain⟨j,h1,h2⟩:=zbT e;obtain⟨j',h1',h2'⟩:=zbT e';obtain⟨k,hk,h3⟩:=c.yes i hi;obtain⟨k',hk',h3'⟩:=c.yes i' hi';rw[h1] at hk;rw[h1'] at hk';obtain rfl:j=k:=by injection hk with h; injection h
  obtain rfl:j'=k':=by injection hk' with h; injection h
  have:=R.dis j j' a h3 h3' h2 h2';subst this;exact c.inj i i' j h1 h1'
theorem zdI(M:List Nat):∀(caps:List (Option Nat)) (si s:Sg),(zax M caps si s).length=s.length
 |[],_,_=>by unfold zax; rfl
 |none::cs,[],s=>by unfold zax; rfl
 |some j::cs,[],s=>by unfold zax; rfl
 |none::cs,x::xs,s=>by unfold zax; exact zdI M cs xs s
 |some j::cs,x::xs,s=>by
  unfold zax;rw[zdI M cs xs];split
  ·rw[Q2]
  ·rfl
theorem zcS(M:List Nat){j:Nat}:∀(caps:List (Option Nat)) (si s:Sg),(j∉M∨∀ i:Nat,caps[i]?≠some (some j))->(zax M caps si s)[j]?=s[j]?
 |[],_,_,_=>by unfold zax; rfl
 |none::cs,[],s,_=>by unfold zax; rfl
 |some k::cs,[],s,_=>by unfold zax; rfl
 |none::cs,x::xs,s,h=>by
  unfold zax;exact zcS M cs xs s (h.imp id fun z i=>by simpa using z (i+1))
 |some k::cs,x::xs,s,h=>by
  unfold zax;rw[zcS M cs xs _ (h.imp id fun z i=>by simpa using z (i+1))]
  split
  ·rename_i hk;refine jn fun z=>?_;subst z;rcases h with h |h
   ·exact h (by simpa using hk)
   ·exact h 0 rfl
  ·rfl
theorem zgr(M:List Nat){j:Nat}(hj:j∈M):∀(caps:List (Option Nat)) (si s:Sg) (i:Nat),caps[i]?=some (some j)->(∀ i':Nat,caps[i']?=some (some j)->i'=i)->i < si.length->j < s.length->(zax M caps si s)[j]?=si[i]?
 |[],_,_,i,e,_,_,_=>by simp at e
 |c::cs,[],s,i,_,_,hi,_=>by simp at hi
 |none::cs,x::xs,s,i,e,u,hi,hl=>by
  unfold zax;cases i with
  |zero=>simp at e
  |succ i=>
   rw[jx];exact zgr M hj cs xs s i (by simpa using e) (fun i' e'=>by simpa using u (i'+1) (by simpa using e')) (by simpa using hi) hl
 |some k::cs,x::xs,s,i,e,u,hi,hl=>by
  unfold zax;cases i with
  |zero=>
   have hk:k=j:=by simpa using e
   subst hk;rw[zcS M cs xs _ (.inr fun i' e'=>by simpa using u (i'+1) (by simpa using e')),if_pos (by simpa using hj),jP hl]
   rfl
  |succ i=>
   rw[jx];refine zgr M hj cs xs _ i (by simpa using e) (fun i' e'=>by simpa using u (i'+1) (by simpa using e')) (by simpa using hi) ?_
   split
   ·rw[Q2]; exact hl
   ·exact hl
theorem Rel.back{F:Fr}{O:Addr->Prop}{M Mi:List Nat}{s si:Sg}{σ σ2:L2.St}{H2 H4:Hp}{caps:List (Option Nat)}(R:Rel F O M s σ H2)(c:CapOk caps M Mi)(S:Step σ2 Mi H2 H4)(Ri:Rel F O Mi si σ2 H4)
  (hk:∀(i j:Nat),caps[i]?=some (some j)->σ2[i]?=(zbj caps σ)[i]?) (hl:si.length=caps.length):Rel F O M (zax M caps si s) σ H4:=by
 have addr:∀(i:Nat) b,i∈Mi->σ2[i]?=some (some (.ref b))->∃ j,caps[i]?=some (some j)/\j∈M/\σ[j]?=some (some (.ref b)):=fun i b hi e=>by
  obtain⟨j,h1,h2⟩:=c.yes i hi;rw[hk i j h1] at e;obtain⟨j',h3,h4⟩:=zbT e;rw[h1] at h3;obtain rfl:j=j':=by injection h3 with h; injection h
  exact⟨j,h1,h2,h4⟩
 have kf:∀ b u,Free F O b->H2 b=some u->H4 b=some u:=fun b u z e=>S.keep b u (fun i hi e'=>by
  obtain⟨j,_,h2,h3⟩:=addr i b hi e'
  exact z.1 (R.ow j b h2 h3)) e
 refine⟨by rw[zdI]; exact R.len,fun j t e n=>?_,fun j t e n=>?_,R.ow,R.dis,Ri.keep,Ri.dom,R.fresh,R.inD,Ri.al⟩
 ·rw[zcS M caps si s (.inl n)] at e;obtain⟨v,h1,h2⟩:=R.val j t e n;exact⟨v,h1,h2.mono (fun _ c=>c) kf⟩
 ·by_cases hc:∃ i:Nat,caps[i]?=some (some j)
  ·obtain⟨i,hi⟩:=hc;have hlt:i < caps.length:=(j9.mp hi).1;have hjl:j < s.length:=by
    have:=(j9.mp e).1
    rwa [zdI] at this
   rw[zgr M n caps si s i hi (fun i' e'=>c.inj i' i j e' hi) (by lia) hjl] at e
   have him:i∈Mi:=Yx fun z=>c.no i j hi z n;obtain⟨a,h1,L⟩:=Ri.own i t e him;obtain⟨j',h2,_,h3⟩:=addr i a him h1;rw[hi] at h2;obtain rfl:j=j':=by injection h2 with h; injection h
   exact⟨a,h3,L⟩
  ·rw[zcS M caps si s (.inr fun i z=>hc ⟨i,z⟩)] at e;obtain⟨a,h1,L⟩:=R.own j t e n;refine⟨a,h1,L.mono (fun _ c=>c) kf fun u e'=>S.keep a u (fun i hi e''=>?_) e'⟩;obtain⟨j',h2,h3,h4⟩:=addr i a hi e'';have:=R.dis j j' a n h3 h1 h4;subst this;exact hc ⟨i,h2⟩
def zlx(g:TG)(dg:DG)(Mi:List Nat)(caps:List (Option Nat)):Prop:=∀ F O s t s' v σ H (Q:L2.St->Hp->Prop),Rel F O Mi s σ H->Rep (Free F O) H v t->dg t s=some s'->
 (∀ σ',Rel F O Mi s' σ' H->(∀(i j:Nat),caps[i]?=some (some j)->σ'[i]?=σ[i]?)->σ'.length=σ.length->Q σ' H)->g v σ H Q
theorem zbC{i:Nat}{Mi:List Nat}{caps:List (Option Nat)}(hc:caps[i]?=some none:=by rfl)(hi:Mi.contains i=false:=by rfl):zlx (zc8 i) (dGn i) Mi caps:=by
 intro F O s t s' v σ H Q R r hg q;have hi':i∉Mi:=by simpa using hi
 unfold dGn at hg;split at hg
 ·rename_i hl;injection hg with hg;subst hg;refine q _ (R.setE (fun j hj=>⟨hj,fun z=>hi' (z▸hj)⟩) (fun j hj=>.inl hj) hl r) (fun k j e=>?_) ?_;exact jn fun z=>by subst z; rw[hc] at e; cases e
  exact Q2
 ·cases hg
theorem zoE{Mi:List Nat}{caps:List (Option Nat)}{F:Fr}{O:Addr->Prop}{H:Hp}{Q:L2.St->Hp->Prop}:∀ {is:List Nat} {ts:List T} {vs:List V} {s s':Sg} {σ:L2.St},Rel F O Mi s σ H->(∀ i,i∈is->i∉Mi/\caps[i]?=some none)->Reps (Free F O) H vs ts->zbA is ts s=some s'->
  (∀ σ',Rel F O Mi s' σ' H->(∀(i j:Nat),caps[i]?=some (some j)->σ'[i]?=σ[i]?)->σ'.length=σ.length->Q σ' H)->gsN is vs σ H Q
 |[],[],vs,s,s',σ,R,_,h,e,q=>by
  injection e with e;subst e;exact⟨h.none,q σ R (fun _ _ _=>rfl) rfl⟩
 |[],t::ts,vs,s,s',σ,R,_,h,e,q=>by cases e
 |i::is,[],vs,s,s',σ,R,_,h,e,q=>by cases e
 |i::is,t::ts,[],s,s',σ,R,_,h,e,q=>by have:=h.1; simp at this
 |i::is,t::ts,v::vs,s,s',σ,R,hm,h,e,q=>by
  unfold zbA at e;split at e
  ·rename_i hl;obtain⟨hi,hc⟩:=hm i Q0;refine⟨v,vs,rfl,zoE (R.setE (fun j hj=>⟨hj,fun z=>hi (z▸hj)⟩) (fun j hj=>.inl hj) hl h.head) (fun j hj=>hm j (jF _ hj)) h.tail e fun σ' R' k l=>q σ' R' (fun k' j e'=>(k k' j e').trans ?_) (l.trans Q2)⟩;exact jn fun z=>by subst z; rw[hc] at e'; cases e'
  ·cases e
theorem zgJ:∀ {is:List Nat} {ts:List T} {s s':Sg},zbA is ts s=some s'->ts.length=is.length
 |[],[],_,_,_=>rfl
 |[],_::_,_,_,e=>by cases e
 |_::_,[],_,_,e=>by cases e
 |i::is,t::ts,s,s',e=>by
  unfold zbA at e;split at e
  ·rw[jm,jm,zgJ e]
  ·cases e
theorem zoF{is:List Nat}{n:Nat}{K:j8}{Mi:List Nat}{caps:List (Option Nat)}(hn:is.length=n:=by rfl)(h:is.all (fun i=>!Mi.contains i&&caps[i]? == some none)=true:=by rfl):zlx (zkw K n (gsN is)) (dGt is) Mi caps:=by
 intro F O s t s' v σ H Q R r hg q;obtain⟨ts,rfl⟩:∃ ts,t=.tup ts:=by cases t<;>first |exact⟨_,rfl⟩ |cases hg
 have hg:zbA is ts s=some s':=hg;obtain⟨a,vs,rfl,ha,ra⟩:=BRep.tup (.inl r);refine⟨a,vs,rfl,SqT.of ha,by rw[ra.1,zgJ hg,hn],zoE R (fun i hi=>?_) ra hg q⟩
 have:=jt.mp h i hi;rw[jI] at this;exact⟨by simpa using this.1,by simpa using this.2⟩
@[irreducible] def zdN:Nat:=1000000
theorem zkr:zdN=1000000:=by unfold zdN; rfl
def ziv(M:List Nat)(caps:List (Option Nat))(dg:DG)(ft:DT)(fe:DE):List T->List T->Sg->Option (List T × Sg)
 |[],acc,s=>some (acc,s)
 |x::xs,acc,s=>(dg x (zhO caps s)).bind fun s1=>(ft s1).bind fun p=>if p.1 then (fe p.2).bind fun q=>ziv M caps dg ft fe xs (acc++[q.1]) (zax M caps q.2 s) else ziv M caps dg ft fe xs acc (zax M caps p.2 s)
def dLC(M:List Nat)(caps:List (Option Nat))(fi:DI)(dg:DG)(ft:DT)(fe:DE):DE:=fun s=>(fi s).bind fun p=>if p.1.length<=zdN then (ziv M caps dg ft fe p.1 [] p.2).map fun q=>(.lst q.1,q.2) else none
def zf8:DT:=fun s=>some (true,s)
theorem zsK{M Mi:List Nat}{caps:List (Option Nat)}{fi:DI}{g:TG}{dg:DG}{ft:DT}{fe:DE}{tt:TT}(c:CapOk caps M Mi)(hg:zlx g dg Mi caps)(htt:∀ σ H Q,cT Mi ft σ H Q->tt σ H Q) :
  ∀ σ H Q,cE .n M (dLC M caps fi dg ft fe) σ H Q->tLC caps (cI M fi) g tt (cE .e Mi fe) σ H Q:=by
 intro σ H Q h_;refine cE_ h_ fun F O s t s' R hf q=>?_;obtain⟨⟨its,s1⟩,h1,h2⟩:=Qb hf;split at h2
 case isFalse=>cases h2
 rename_i hsz;have hsz:its.length<=zdN:=hsz;rw[zkr] at hsz;obtain⟨⟨tsE,sE⟩,h3,h4⟩:=Qm h2;injection h4 with h4 h5;subst h4 h5;refine⟨F,O,s,its,s1,R,h1,fun J H1 S1 R1 IT D hD=>?_⟩;have nD:∀(j:Nat),j∈M->σ[j]?≠some (some (.ref D)):=fun j hj e=>R1.al D (R1.ow j D hj e) hD;have RD:=R1.new hD (.lst [])
 refine⟨fun i m H'=>m=its.length - i/\i<=its.length/\∃ s' acc ys,Rel F (fun b=>O b∨b=D) M s' σ H'/\H' D=some (.lst ys)/\ys.length<=i/\Reps (Free F (fun b=>O b∨b=D)) H' ys acc/\Step σ M H H' /\
  (∀ b o,Free F O b->H1 b=some o->H' b=some o)/\ziv M caps dg ft fe (its.drop i) acc s'=some (tsE,sE),⟨its.length,by simp,Zj _,s1,[],[],RD,zae,jl _,.nil,S1.trans (.new hD _),fun b o _ e=>by rw[za5 (za6 e hD)]; exact e,h3⟩,?_⟩
 rintro i m H2 ⟨rfl,hi,s2,acc,ys,R2,hD2,hy,ry,S2,k2,hl⟩;have it:=IT H2 k2 i
 by_cases hlt:i < its.length
 ·refine .inr ?_;obtain⟨go,yl⟩:=it.1 its[i] (j3 hlt);rw[Zk hlt] at hl;unfold ziv at hl;obtain⟨si1,hdg,hl⟩:=Qb hl;obtain⟨⟨b,si2⟩,hft,hl⟩:=Qb hl;refine⟨go,fun x H3 hy3=>?_⟩;obtain⟨y1,y2⟩:=yl x H3 hy3
  -- what was yielded is free of D
  have R3:Rel F (fun b=>O b∨b=D) M s2 σ H3/\(∀ b u,H2 b=some u->H3 b=some u)/\(∀ b,H3 b=none->H2 b=none):=by
   rcases y1 with rfl |⟨p,o,hp,rfl⟩
   ·exact⟨R2,fun _ _ e=>e,fun _ e=>e⟩
   ·exact⟨(R2.new hp o).less (fun b z=>.inl z) R2.ow R2.inD,fun b u e=>by rw[za5 (za6 e hp)]; exact e,fun b e=>by
     unfold upd at e;split at e
     ·cases e
     ·exact e⟩
  obtain⟨R3,k3,dm3⟩:=R3
  have rx:Rep (Free F (fun b=>O b∨b=D)) H3 x its[i]:=y2.mono (fun b z=>by
   rcases z with ⟨z,n⟩ |n
   ·exact⟨fun y=>y.elim z.1 fun y=>n (y▸hD),z.2⟩
   ·exact⟨fun y=>R2.al b y n,.inr (R2.dom b n)⟩) fun _ _ _ e=>e
  have ry3:Reps (Free F (fun b=>O b∨b=D)) H3 ys acc:=ry.mono (fun _ z=>z) fun b o _ e=>k3 b o e;have hD3:=k3 _ _ hD2;refine hg F _ (zhO caps s2) its[i] si1 x (zbj caps σ) H3 _ (R3.cap c) rx hdg fun σ4 R4 hk4 hl4=>?_;have hsl:∀ {sx:Sg} {Hx:Hp},Rel F (fun b=>O b∨b=D) Mi sx σ4 Hx->sx.length=caps.length:=fun {sx Hx} Rx=>by
   rw[Rx.len,hl4];unfold zbj;rw[j6]
  have nD4:∀(k:Nat),k∈Mi->σ4[k]?≠some (some (.ref D)):=fun k hk e=>by
   obtain⟨j,e1,e2⟩:=c.yes k hk;rw[hk4 k j e1] at e;obtain⟨j',e3,e4⟩:=zbT e;rw[e1] at e3;obtain rfl:j=j':=by injection e3 with h; injection h
   exact nD j e2 e4
  refine htt _ _ _ ⟨F,_,si1,b,si2,R4,hft,fun H5 S5 R5=>?_⟩;have freeK:∀ {Hx Hy:Hp},Step σ4 Mi Hx Hy->∀ b o,(Free F O b/\b≠D)->Hx b=some o->Hy b=some o:=fun {Hx Hy} Sx b o z e=>Sx.keep b o (R4.notOwned fun y=>y.elim z.1.1 z.2) e
  have S3':∀ {Hx:Hp},Step σ4 Mi H3 Hx->Step σ M H Hx:=fun {Hx} Sx=>⟨fun b o n e=>Sx.keep b o (fun k hk e'=>by
   obtain⟨j,e1,e2⟩:=c.yes k hk;rw[hk4 k j e1] at e';obtain⟨j',e3,e4⟩:=zbT e';rw[e1] at e3;obtain rfl:j=j':=by injection e3 with h; injection h
   exact n j e2 e4) (k3 b o (S2.keep b o n e)),fun b e=>S2.dom b (dm3 b (Sx.dom b e))⟩
  have keepF:∀ {Hx:Hp},Step σ4 Mi H3 Hx->∀ b o,Free F O b->H1 b=some o->Hx b=some o:=fun {Hx} Sx b o z e=>freeK Sx b o ⟨z,fun y=>by rw[y,hD] at e; cases e⟩ (k3 b o (k2 b o z e))
  cases b with
  |false=>
   rw[if_neg jr] at hl;dsimp only;rw[if_neg jr];exact⟨its.length - (i+1),by lia,rfl,hlt,zax M caps si2 s2,acc,ys,R3.back c S5 R5 hk4 (hsl R5),S5.keep D _ nD4 hD3,Ww hy,ry3.mono (fun _ z=>z) fun b o z e=>S5.keep b o (R4.notOwned z.1) e,S3' S5,keepF S5,hl⟩
  |true=>
   rw[if_pos rfl] at hl;dsimp only;rw[if_pos rfl];obtain⟨⟨te,si3⟩,hfe,hl⟩:=Qb hl;refine⟨F,_,si2,te,si3,R5,hfe,fun y H6 S6 p6=>?_⟩;have S56:=S5.trans S6;have hD6:H6 D=some (.lst ys):=S56.keep D _ nD4 hD3;have R6:=R3.back c S56 p6.1 hk4 (hsl p6.1);refine⟨ys,hD6,by rw[gy]; lia,its.length - (i+1),by lia,rfl,hlt,zax M caps si3 s2,acc++[te],ys++[y],?_,zae,by rw[ju,gG]; lia,?_,?_,?_,hl⟩
   ·-- D is nobody's: writing there keeps the relation
    have kD:∀ b u,b≠D->H6 b=some u->upd H6 D (.lst (ys++[y])) b=some u:=fun b u n e=>by rw[za5 n]; exact e
    refine⟨R6.len,fun j t e n=>?_,fun j t e n=>?_,R6.ow,R6.dis,fun b u n e=>?_,fun b e=>?_,R6.fresh,R6.inD,fun b z e=>?_⟩
    ·obtain⟨v,a1,a2⟩:=R6.val j t e n;exact⟨v,a1,a2.mono (fun _ z=>z) fun b u z e=>kD b u (fun w=>z.1 (.inr w)) e⟩
    ·obtain⟨a,a1,a2⟩:=R6.own j t e n;exact⟨a,a1,a2.mono (fun _ z=>z) (fun b u z e=>kD b u (fun w=>z.1 (.inr w)) e) fun u e=>kD a u (fun w=>nD j n (w▸a1)) e⟩
    ·refine kD b u (fun w=>?_) (R6.keep b u n e);subst w;have:=R1.dom b hD;rw[this] at e; cases e
    ·refine R6.dom b ?_;unfold upd at e;split at e
     ·cases e
     ·exact e
    ·refine R6.al b z ?_;unfold upd at e;split at e
     ·cases e
     ·exact e
   ·have r1:Reps (Free F (fun b=>O b∨b=D)) H6 (ys++[y]) (acc++[te]):=(ry3.mono (fun _ z=>z) fun b o z e=>S56.keep b o (R4.notOwned z.1) e).snoc p6.2;exact r1.mono (fun _ z=>z) fun b u z e=>by rw[za5 (fun w=>z.1 (.inr w))]; exact e
   ·exact⟨fun b o n e=>by rw[za5 (za6 e (S1.dom D hD))]; exact(S3' S56).keep b o n e,fun b e=>(S3' S56).dom b (by
     unfold upd at e;split at e
     ·cases e
     ·exact e)⟩
   ·exact fun b o z e=>by rw[za5 (za6 e hD)]; exact keepF S56 b o z e
 ·have e:i=its.length:=by lia
  subst e;rw[N1] at hl;injection hl with hl;injection hl with e1 e2;subst e1 e2;exact .inl ⟨it.2 (jl _),q _ H2 S2 ⟨D,rfl,S1.dom D hD,R2,.lst hD2 ry⟩⟩
theorem zsn{X:Cx}{e:Expr}{t t':TE}(h:PE X e t)(h':PE X e t'):PE X e (fun σ H Q=>t σ H Q∨t' σ H Q):=fun pins s σ H Q I q=>q.elim (h pins s σ H Q I) (h' pins s σ H Q I)
theorem zxC{X:Cx}{e:Expr}{t t':TT}(h:PT X e t)(h':PT X e t'):PT X e (fun σ H Q=>t σ H Q∨t' σ H Q):=fun pins s σ H Q I q=>q.elim (h pins s σ H Q I) (h' pins s σ H Q I)
theorem zv6{X:Cx}{tg e:Expr}{t t':TI}(h:PI X tg e t)(h':PI X tg e t'):PI X tg e (fun σ H R=>t σ H R∨t' σ H R):=fun pins s σ H R I q=>q.elim (h pins s σ H R I) (h' pins s σ H R I)
theorem ziJ{M:List Nat}{k k' k2:Kd}{f f' f2:DE}(hs:∀ s p,f2 s=some p->f s=some p∨f' s=some p)(hk:∀ F O σ H s' t v H' (s:Sg),Rel F O M s σ H->Post k F O M σ H s' t v H'->Post k2 F O M σ H s' t v H')(hk':∀ F O σ H s' t v H' (s:Sg),Rel F O M s σ H->Post k' F O M σ H s' t v H'->Post k2 F O M σ H s' t v H') :
  ∀ σ H Q,cE k2 M f2 σ H Q->cE k M f σ H Q∨cE k' M f' σ H Q:=by
 intro σ H Q h_;refine cE_ h_ fun F O s t s' R hf q=>?_;rcases hs s _ hf with h |h
 ·exact .inl ⟨F,O,s,t,s',R,h,fun v H' S p=>q v H' S (hk F O σ H s' t v H' s R p)⟩
 ·exact .inr ⟨F,O,s,t,s',R,h,fun v H' S p=>q v H' S (hk' F O σ H s' t v H' s R p)⟩
def orG(g g':T->T->Option T):T->T->Option T:=fun x y=>match g x y with
 |some t=>some t
 |none=>g' x y
theorem zoS{g g':T->T->Option T}{x y:T}{t:T}(h:orG g g' x y=some t):g x y=some t∨g' x y=some t:=by
 unfold orG at h;cases e:g x y with
 |none=>rw[e] at h; exact .inr h
 |some u=>rw[e] at h; exact .inl h
theorem zop{g g':T->T->Option T}{fa fb:DE}:∀ s p,d2 (orG g g') fa fb s=some p->d2 g fa fb s=some p∨d2 g' fa fb s=some p:=fun s p h=>by
 obtain⟨t,s'⟩:=p;obtain⟨x,s1,y,h1,h2,h3⟩:=zhL h;rcases zoS h3 with e |e
 ·left; unfold d2; rw[h1,j5,h2,j5,e]; rfl
 ·right; unfold d2; rw[h1,j5,h2,j5,e]; rfl
theorem ztt{g g':T->T->Option T}{i:Nat}{fb:DE}:∀ s p,d2v (orG g g') i fb s=some p->d2v g i fb s=some p∨d2v g' i fb s=some p:=fun s p h=>by
 obtain⟨t,s'⟩:=p;obtain⟨x0,x,y,h0,h1,h2,h3⟩:=zhK h;have j0:(s[i]?).join=some x0:=by rw[h0]; rfl
 have j2:(s'[i]?).join=some x:=by rw[h2]; rfl
 rcases zoS h3 with e |e
 ·left; unfold d2v; rw[j0,j5,h1,j5,j2,j5,e]; rfl
 ·right; unfold d2v; rw[j0,j5,h1,j5,j2,j5,e]; rfl
def za4:=orG gIx zqF
def zt8:=orG gIn zxK
def zbH:=orG ziz zjB
def zav:=orG ziC zls
section
variable {X:Cx}{M:List Nat}{a b c e:Expr}{fa fb fe:DE}{pos p:Pos}
theorem idE:∀(F:Fr) (O:Addr->Prop) (σ:L2.St) (H:Hp) (s':Sg) (t:T) (v:V) (H':Hp) (s:Sg),Rel F O M s σ H->Post .e F O M σ H s' t v H'->Post .e F O M σ H s' t v H':=fun _ _ _ _ _ _ _ _ _ _ p=>p
theorem neE:∀(F:Fr) (O:Addr->Prop) (σ:L2.St) (H:Hp) (s':Sg) (t:T) (v:V) (H':Hp) (s:Sg),Rel F O M s σ H->Post .n F O M σ H s' t v H'->Post .e F O M σ H s' t v H':=fun _ _ _ _ _ _ _ _ _ R p=>p.ne R
theorem zti(hK:X.K=TheK.K)(hu:X.A.units+1 < ZH)(ha:PE X a (cE .e M fa))(hb:PE X b (cE .b M fb))(hs:ze6 b):PE X (.Subscript a b pos) (cE .e M (d2 za4 fa fb)):=weak (zsn (zxO hK ha hb hs) (zvR hu ha hb hs)) (ziJ zop idE idE)
theorem zqL{i:Nat}(hK:X.K=TheK.K)(hi:M.contains i=true)(hu:X.A.units+1 < ZH)(ha:PE X a (zcT i))(hb:PE X b (cE .b M fb))(hs:ze6 b):PE X (.Subscript a b pos) (cE .e M (d2v za4 i fb)):=weak (zsn (zvO hK hi ha hb hs) (ztj hi hu ha hb hs)) (ziJ ztt idE idE)
theorem zoe(hu:X.A.units+1 < ZH)(ha:PE X a (cE .e M fa))(hb:PE X b (cE .b M fb))(hm:Qi .NotIn b=false):PE X (.Compare a [.NotIn] [b] pos) (cE .e M (d2 zbH fa fb)):=weak (zsn (zqJ ha hb hm) (zoh hu ha hb hm)) (ziJ zop idE idE)
theorem zqH{f f' f2:DE}(hs:∀ s p,f2 s=some p->f s=some p∨f' s=some p):∀ σ H Q,cT M (dB f2) σ H Q->cT M (dB f) σ H Q∨cT M (dB f') σ H Q:=by
 intro σ H Q h_;refine cT_ h_ fun F O s b s' R hf q=>?_;rcases hs s _ (zjN hf) with h |h
 ·exact .inl ⟨F,O,s,b,s',R,by unfold dB; rw[h]; rfl,q⟩
 ·exact .inr ⟨F,O,s,b,s',R,by unfold dB; rw[h]; rfl,q⟩
theorem znq(hu:X.A.units+1 < ZH)(ha:PE X a (cE .e M fa))(hb:PE X b (cE .b M fb))(hm:Qi .NotIn b=false):PT X (.Compare a [.NotIn] [b] pos) (cT M (dB (d2 zbH fa fb))):=zfD (zxC (zpt ha hb hm) (znr hu ha hb hm)) (zqH zop)
theorem ztg(ha:PE X a (cE .e M fa))(hb:PE X b (cE .b M fb)):PE X (.BinOp a .Add b pos) (cE .e M (d2 zav fa fb)):=weak (zsn (zvV ha hb) (zvT ha hb)) (ziJ zop idE neE)
def zkx(x:T)(lo hi:Option Int):Option T:=match x with
 |.str _=>zqC x lo hi
 |_=>gSl x lo hi
theorem ztr{fl fh:DO}:∀ s p,dSl zkx fa fl fh s=some p->dSl zqC fa fl fh s=some p∨dSl gSl fa fl fh s=some p:=fun s p h=>by
 obtain⟨p1,h1,h2⟩:=Qb h;obtain⟨q1,h3,h4⟩:=Qb h2;obtain⟨r1,h5,h6⟩:=Qb h4;obtain⟨t,h7,h8⟩:=Qm h6;have e:zqC p1.1 q1.1 r1.1=some t∨gSl p1.1 q1.1 r1.1=some t:=by
  unfold zkx at h7;split at h7
  ·exact .inl h7
  ·exact .inr h7
 rcases e with e |e
 ·left; unfold dSl; rw[h1,j5,h3,j5,h5,j5,e]; exact congrArg some h8
 ·right; unfold dSl; rw[h1,j5,h3,j5,h5,j5,e]; exact congrArg some h8
theorem zvD{lo hi:Option Expr}{fl fh:DO}{p2:Pos}(hK:X.K=TheK.K)(he:PE X e (cE .e M fe))(hl:PO X lo (cO M fl))(hu:PO X hi (cO M fh)):PE X (.Subscript e (.Slice lo hi none p2) pos) (cE .e M (dSl zkx fe fl fh)):=weak (zsn (zvC he hl hu) (zxL hK he hl hu)) (ziJ ztr idE neE)
def kT:Key->T
 |.inl i=>.int i
 |.inr x=>.str x
theorem zoX{C:Addr->Prop}{H:Hp}(k:Key):Rep C H (kV k) (kT k):=by
 cases k with
 |inl i=>exact .int i
 |inr x=>exact .str x
theorem zeq{C:Addr->Prop}{H:Hp}:∀ {vs:List (Key × V)} {ts:List (Key × T)},vs.map (·.1)=ts.map (·.1)->Reps C H (vs.map fun kv=>kV kv.1) (ts.map fun kv=>kT kv.1)
 |[],[],_=>.nil
 |p::vs,[],h=>by simp at h
 |[],q::ts,h=>by simp at h
 |p::vs,q::ts,h=>by
  rw[jj,jj] at h;injection h with h1 h2;rw[jj,jj,h1];exact .cons (zoX _) (zeq h2)
def zns(c:Nat):T:=.str ⟨#[c]⟩
def zdc(f:DE):DI:=fun s=>(f s).bind fun p=>match p.1 with
 |.lst xs=>some (xs,p.2)
 |.scr ns=>some (ns.map .int,p.2)
 |.tup xs=>some (xs,p.2)
 |.fd kvs=>some (kvs.map fun kv=>kT kv.1,p.2)
 |.str x=>some (x.cps.toList.map zns,p.2)
 |_=>none
def zwA(f:DE):DI:=fun s=>(f s).bind fun p=>match p.1 with
 |.fd kvs=>some (kvs.map fun kv=>kT kv.1,p.2)
 |_=>none
def zwz(f:DE):DI:=fun s=>(f s).bind fun p=>match p.1 with
 |.str x=>some (x.cps.toList.map zns,p.2)
 |_=>none
theorem zqu{F:Fr}{O:Addr->Prop}{H1:Hp}{a:Addr}{o:Obj}{kvs:List (Key × V)}{f:Key × V->V}{ts:List T}(fr:Free F O a)(ha:H1 a=some (.frz o (.dK kvs)))(r:Reps (Free F O) H1 (kvs.map f) ts):zr9 F O ts (Itd f a o) H1:=by
 intro H2 k i;have h2:=k a _ fr ha;have hl0:kvs.length=ts.length:=by have:=r.1; simpa using this
 refine⟨fun t ht=>?_,fun hl=>⟨kvs,h2,by rw[hl0]; exact hl⟩⟩
 obtain⟨v,hv,rv⟩:=r.get ht;rw[ji] at hv;obtain⟨y,hy,hyv⟩:=Qm hv;refine⟨⟨kvs,y,h2,hy⟩,fun x H3 ⟨e1,e2⟩=>⟨.inl e1,?_⟩⟩;have:=e2 kvs h2;rw[hy] at this;have hx:f y=x:=jd this;subst hx hyv e1;exact rv.there.mono (fun b c=>.inl c) fun b o c e=>k b o c.1 e
theorem zxI{tg:Expr}(h:PE X e (cE .e M fe)):PI X tg e (cI M (zwA fe)):=zh9 (zqb h) (by
 intro σ H R h_;refine cI_ h_ fun F O s its s' Rl hf q=>?_;obtain⟨⟨p1,p2⟩,h1,h2⟩:=Qb hf;obtain⟨ks,rfl⟩:∃ ks,p1=.fd ks:=by cases p1<;>first |exact⟨_,rfl⟩ |cases h2
 injection h2 with h2;injection h2 with h3 h4;subst h3 h4;refine⟨F,O,s,_,_,Rl,h1,fun v H1 S1 p=>?_⟩;obtain⟨a,o,kvs,rfl,ha,ra,fr⟩:=BRep.fd (.inl p.2)
 exact⟨a,o,kvs,rfl,ha,q _ H1 S1 p.1 (zqu fr ha (zeq ra.1))⟩)
theorem zt1{tg:Expr}(h:PE X e (cE .e M fe)):PI X tg e (cI M (zwz fe)):=zh9 (zq9 h) (by
 intro σ H R h_;refine cI_ h_ fun F O s its s' Rl hf q=>?_;obtain⟨⟨p1,p2⟩,h1,h2⟩:=Qb hf;obtain⟨x,rfl⟩:∃ x,p1=.str x:=by cases p1<;>first |exact⟨_,rfl⟩ |cases h2
 injection h2 with h2;injection h2 with h3 h4;subst h3 h4;refine⟨F,O,s,_,_,Rl,h1,fun v H1 S1 p=>?_⟩;refine⟨x,BRep.str (.inl p.2),q _ H1 S1 p.1 ?_⟩;intro H2 k i;refine⟨fun t ht=>?_,fun hl=>by simpa[Its] using hl⟩
 rw[ji] at ht;obtain⟨c,hc,rfl⟩:=Qm ht;have hc':x.cps[i]?=some c:=by simpa using hc
 refine⟨(Array.getElem?_eq_some_iff.mp hc').1,fun y H3 ⟨e1,c',e2,e3⟩=>⟨.inl e1,?_⟩⟩;rw[hc'] at e2;cases e2;subst e3
 exact .str _)
theorem zvo{tg:Expr}(hK:X.K=TheK.K)(h:PE X e (cE .e M fe)):PI X tg e (cI M (zdc fe)):=zh9 (zv6 (zv6 (zt2 hK h) (zvn h)) (zv6 (zxI h) (zt1 h))) (by
 intro σ H R h_;refine cI_ h_ fun F O s its s' Rl hf q=>?_;obtain⟨⟨p1,p2⟩,h1,h2⟩:=Qb hf;cases p1 with
 |lst xs=>exact .inl (.inl ⟨F,O,s,its,s',Rl,by unfold dIt; rw[h1]; exact h2,q⟩)
 |scr xs=>exact .inl (.inl ⟨F,O,s,its,s',Rl,by unfold dIt; rw[h1]; exact h2,q⟩)
 |tup xs=>exact .inl (.inr ⟨F,O,s,its,s',Rl,by unfold zwy; rw[h1]; exact h2,q⟩)
 |fd xs=>exact .inr (.inl ⟨F,O,s,its,s',Rl,by unfold zwA; rw[h1]; exact h2,q⟩)
 |str x=>exact .inr (.inr ⟨F,O,s,its,s',Rl,by unfold zwz; rw[h1]; exact h2,q⟩)
 | _=>cases h2)
variable {es:List Expr}{fs:DA}{x:Str}{k:Nat}{f:Addr}{fd:Q9}{ps:List Str}{np:Nat}
theorem ztm{fn:List T->Option T}(F:FnOk X.prog X.w X.K X.mg X.base CX0 k f fd ps (spP .e np fn))(hr:Room k X.A)(hg:Gl X x)(hm:X.mg x=some (.ref f))(hk:jX X.K (.ref f)=true)(hb:Binds X.K fd ps [])
  (ha:PA X (e::es) (cA M fs)) (ar:Ar fs np) (hdb:(x == ("__debug__":Str))=false:=by decide) (he:jb (e::es) X.env=(false,eval e X.env)::jb es X.env:=by rfl) (hpl:(QB pos (jb es X.env)).any (·.1)=false:=by rfl) :
  PE X (.Call (.Name x p) (e::es) [] pos) (cE .e M (zar fn fs)):=weak (zg0 F hr hg hm hk hb .nil zme ha hdb he hpl) (ztz ar)
theorem zqO{fn:List T->Option T}(F:FnOk X.prog X.w X.K X.mg X.base CX0 k f fd ps (spP .n np fn))(hr:Room k X.A)(hg:Gl X x)(hm:X.mg x=some (.ref f))(hk:jX X.K (.ref f)=true)(hb:Binds X.K fd ps [])
  (ha:PA X (e::es) (cA M fs)) (ar:Ar fs np) (hdb:(x == ("__debug__":Str))=false:=by decide) (he:jb (e::es) X.env=(false,eval e X.env)::jb es X.env:=by rfl) (hpl:(QB pos (jb es X.env)).any (·.1)=false:=by rfl) :
  PE X (.Call (.Name x p) (e::es) [] pos) (cE .n M (zar fn fs)):=weak (zg0 F hr hg hm hk hb .nil zme ha hdb he hpl) (zty ar)
theorem zqP{fn:List T->Option (T × T)}{i:Nat}(hi:M.contains i=true)(F:FnOk X.prog X.w X.K X.mg X.base CX0 k f fd ps (spI .e (np+1) fn))(hr:Room k X.A)(hg:Gl X x)(hm:X.mg x=some (.ref f))(hk:jX X.K (.ref f)=true)(hb:Binds X.K fd ps [])
  (h0:PE X e (zcT i)) (ha:PA X es (cA M fs)) (ar:Ar fs np) (hdb:(x == ("__debug__":Str))=false:=by decide) (he:jb (e::es) X.env=(false,eval e X.env)::jb es X.env:=by rfl) (hpl:(QB pos (jb es X.env)).any (·.1)=false:=by rfl) :
  PE X (.Call (.Name x p) (e::es) [] pos) (cE .e M (zal fn i fs)):=weak (zg0 F hr hg hm hk hb .nil zme (zbf h0 ha he) hdb he hpl) (zqX ar hi)
theorem zqN{fn:List T->Option (T × T)}{rk:Kd}(hrk:rk=.e∨rk=.n)(F:FnOk X.prog X.w X.K X.mg X.base CX0 k f fd ps (spI rk (np+1) fn))(hr:Room k X.A)(hg:Gl X x)(hm:X.mg x=some (.ref f))(hk:jX X.K (.ref f)=true)(hb:Binds X.K fd ps [])
  (h0:PE X e (cE .n M fe)) (ha:PA X es (cA M fs)) (ar:Ar fs np) (hdb:(x == ("__debug__":Str))=false:=by decide) (he:jb (e::es) X.env=(false,eval e X.env)::jb es X.env:=by rfl) (hpl:(QB pos (jb es X.env)).any (·.1)=false:=by rfl) :
  PE X (.Call (.Name x p) (e::es) [] pos) (cE rk M (zgo fn fe fs)):=weak (zg0 F hr hg hm hk hb .nil zme (zbf h0 ha he) hdb he hpl) (zqW hrk ar)
theorem zvN(hK:X.K=TheK.K)(hg:Gl X "len")(hm:X.mg "len"=none)(h:PE X e (cE .b M fe))(he:jb [e] X.env=(false,eval e X.env)::jb [] X.env:=by rfl)(hpl:(QB pos (jb [] X.env)).any (·.1)=false:=by rfl):PE X (.Call (.Name "len" p) [e] [] pos) (cE .e M (d1 zcF fe)):=
 weak (zhv (((show CallR X _ _ from hK▸ziS).or ziR).or znb) hg hm Ja (zbf h zdb he) (by decide) (by decide) he hpl) (zsF zuV)
theorem zqI(hg:Gl X "int")(hm:X.mg "int"=none)(h:PE X e (cE .b M fe))(he:jb [e] X.env=(false,eval e X.env)::jb [] X.env:=by rfl)(hpl:(QB pos (jb [] X.env)).any (·.1)=false:=by rfl):PE X (.Call (.Name "int" p) [e] [] pos) (cE .e M (d1 zt7 fe)):=
 weak (zem znc hg hm zpd (zbf h zdb he) (by decide) (by decide) he hpl) (zsF zuW)
theorem zvP{cn:String}{ce:Expr}(hc:zsG cn=true)(hg:Gl X "isinstance")(hm:X.mg "isinstance"=none)(h:PE X e (cE .b M fe))(h2:PE X ce (tC (.ty cn)))(he:jb [e,ce] X.env=(false,eval e X.env)::jb [ce] X.env:=by rfl)(he2:jb [ce] X.env=(false,eval ce X.env)::jb [] X.env:=by rfl)(hpl:(QB pos (jb [ce] X.env)).any (·.1)=false:=by rfl) :
  PE X (.Call (.Name "isinstance" p) [e,ce] [] pos) (cE .e M (zlv cn fe)):=weak (zhv zou hg hm zhP (zbf h (zbf h2 zdb he2) he) (by decide) (by decide) he hpl) (zvl hc)
theorem zok{i:Nat}{o:Expr}{apos:Pos}(hi:M.contains i=true)(h:PE X (.Call (.Attribute o "append" apos) (e::es) [] pos) (tBM X.K "list" zho (zcT i) (cA M fs))):PE X (.Call (.Attribute o "append" apos) (e::es) [] pos) (cE .e M (zgn zgZ i fs)):=weak h (zqk hi zvg)
theorem zog{i:Nat}{o:Expr}{apos:Pos}(hi:M.contains i=true)(h:PE X (.Call (.Attribute o "extend" apos) (e::es) [] pos) (tBM X.K "list" zhm (zcT i) (cA M fs))):PE X (.Call (.Attribute o "extend" apos) (e::es) [] pos) (cE .e M (zgn zqn i fs)):=weak h (zqk hi zvf)
theorem zvG{i:Nat}{o:Expr}{apos:Pos}(hi:M.contains i=true)(h:PE X (.Call (.Attribute o "pop" apos) [] [] pos) (zrF X.K "list" ztP (zcT i))):PE X (.Call (.Attribute o "pop" apos) [] [] pos) (cE .e M (zgn znX i dAn)):=weak h (zsJ hi zve)
theorem zqM{o:Expr}{apos:Pos}(h:PE X (.Call (.Attribute o "count" apos) [e] [] pos) (tBM X.K "list" zhn (cE .e M fa) (zde (cE .b M fe) zlJ))):PE X (.Call (.Attribute o "count" apos) [e] [] pos) (cE .e M (d2L zgd fa fe)):=weak h (zxF zpM)
theorem zth{o:Expr}{apos:Pos}(h:PE X (.Call (.Attribute o "join" apos) [e] [] pos) (tBM X.K "str" (znB X.K) (cE .e M fa) (zde (cE .b M fe) zlJ))):PE X (.Call (.Attribute o "join" apos) [e] [] pos) (cE .e M (zlm fa fe)):=weak h zsU
theorem zdP{Mi:List Nat}:∀ σ H Q,cT Mi zf8 σ H Q->zuP σ H Q:=by
 intro σ H Q h_;refine cT_ h_ fun F O s b s' R hf q=>?_;injection hf with hf;injection hf with h1 h2;subst h1 h2;exact q H .refl R
theorem zxN{Mi:List Nat}{caps:List (Option Nat)}{fi:DI}{g:TG}{dg:DG}{ft:DT}{tt:TT}(c:znm caps M Mi=true)(hg:zlx g dg Mi caps)(htt:∀ σ H Q,cT Mi ft σ H Q->tt σ H Q)(h:PE X e (tLC caps (cI M fi) g tt (cE .e Mi fe))):PE X e (cE .n M (dLC M caps fi dg ft fe)):=weak h (zsK (.of c) hg htt)
theorem zr1{st:Stmt}{t t':TE}{g:TG}(h:PS X st (ze8 t g))(hw:∀ σ H Q,t' σ H Q->t σ H Q):PS X st (ze8 t' g):=zdL h fun D σ H q=>hw σ H _ q
theorem zxs{st:Stmt}{Mi:List Nat}{caps:List (Option Nat)}{fi:DI}{g:TG}{g2:TG}{dg:DG}{ft:DT}{tt:TT}(c:znm caps M Mi=true)(hg:zlx g dg Mi caps)(htt:∀ σ H Q,cT Mi ft σ H Q->tt σ H Q)(h:PS X st (ze8 (tLC caps (cI M fi) g tt (cE .e Mi fe)) g2)):PS X st (ze8 (cE .n M (dLC M caps fi dg ft fe)) g2):=zr1 h (zsK (.of c) hg htt)
theorem zxr{st:Stmt}{g2:TG}{ff:DE}(h:PS X st (ze8 (cE .n M ff) g2)):PS X st (ze8 (cE .e M ff) g2):=zr1 h fun σ H Q h_=>cE_ h_ fun F O s t s' R hf q=>⟨F,O,s,t,s',R,hf,fun v H' S p=>q v H' S (p.ne R)⟩
theorem zxD{tg:Expr}{t t':TG}(h:PG X tg t)(h':PG X tg t'):PG X tg (fun v σ H Q=>t v σ H Q∨t' v σ H Q):=fun pins s σ H v u Q I r q=>q.elim (h pins s σ H v u Q I r) (h' pins s σ H v u Q I r)
end
def znk(M:List Nat)(caps:List (Option Nat))(dg:DG)(ft:DT)(fk fe:DE):List T->List (Key × T)->Sg->Option (List (Key × T) × Sg)
 |[],acc,s=>some (acc,s)
 |x::xs,acc,s=>(dg x (zhO caps s)).bind fun s1=>(ft s1).bind fun p=>if p.1 then (fk p.2).bind fun r=>(zh1 r.1).bind fun k=>(fe r.2).bind fun q=>znk M caps dg ft fk fe xs (zfg acc k q.1) (zax M caps q.2 s) else znk M caps dg ft fk fe xs acc (zax M caps p.2 s)
def dDC(M:List Nat)(caps:List (Option Nat))(fi:DI)(dg:DG)(ft:DT)(fk fe:DE):DE:=fun s=>(fi s).bind fun p=>if p.1.length<=zdN then (znk M caps dg ft fk fe p.1 [] p.2).map fun q=>(.dct q.1,q.2) else none
theorem zto{M Mi:List Nat}{caps:List (Option Nat)}{fi:DI}{g:TG}{dg:DG}{ft:DT}{fk fe:DE}{tt:TT}(c:CapOk caps M Mi)(hg:zlx g dg Mi caps)(htt:∀ σ H Q,cT Mi ft σ H Q->tt σ H Q) :
  ∀ σ H Q,cE .n M (dDC M caps fi dg ft fk fe) σ H Q->tDC caps (cI M fi) g tt (cE .e Mi fk) (cE .e Mi fe) σ H Q:=by
 intro σ H Q h_;refine cE_ h_ fun F O s t s' R hf q=>?_;obtain⟨⟨its,s1⟩,h1,h2⟩:=Qb hf;split at h2
 case isFalse=>cases h2
 rename_i hsz;have hsz:its.length<=zdN:=hsz;rw[zkr] at hsz;obtain⟨⟨tsE,sE⟩,h3,h4⟩:=Qm h2;injection h4 with h4 h5;subst h4 h5;refine⟨F,O,s,its,s1,R,h1,fun J H1 S1 R1 IT D hD=>?_⟩;have nD:∀(j:Nat),j∈M->σ[j]?≠some (some (.ref D)):=fun j hj e=>R1.al D (R1.ow j D hj e) hD;have RD:=R1.new hD (.dK [])
 refine⟨fun i m H'=>m=its.length - i/\i<=its.length/\∃ s' acc ys,Rel F (fun b=>O b∨b=D) M s' σ H'/\H' D=some (.dK ys)/\ys.length<=i/\RepK (Free F (fun b=>O b∨b=D)) H' ys acc/\Step σ M H H' /\
  (∀ b o,Free F O b->H1 b=some o->H' b=some o)/\znk M caps dg ft fk fe (its.drop i) acc s'=some (tsE,sE),⟨its.length,by simp,Zj _,s1,[],[],RD,zae,jl _,⟨rfl,fun i v t e=>by simp at e⟩,S1.trans (.new hD _),fun b o _ e=>by rw[za5 (za6 e hD)]; exact e,h3⟩,?_⟩
 rintro i m H2 ⟨rfl,hi,s2,acc,ys,R2,hD2,hy,ry,S2,k2,hl⟩;have it:=IT H2 k2 i
 by_cases hlt:i < its.length
 ·refine .inr ?_;obtain⟨go,yl⟩:=it.1 its[i] (j3 hlt);rw[Zk hlt] at hl;unfold znk at hl;obtain⟨si1,hdg,hl⟩:=Qb hl;obtain⟨⟨b,si2⟩,hft,hl⟩:=Qb hl;refine⟨go,fun x H3 hy3=>?_⟩;obtain⟨y1,y2⟩:=yl x H3 hy3
  -- what was yielded is free of D
  have R3:Rel F (fun b=>O b∨b=D) M s2 σ H3/\(∀ b u,H2 b=some u->H3 b=some u)/\(∀ b,H3 b=none->H2 b=none):=by
   rcases y1 with rfl |⟨p,o,hp,rfl⟩
   ·exact⟨R2,fun _ _ e=>e,fun _ e=>e⟩
   ·exact⟨(R2.new hp o).less (fun b z=>.inl z) R2.ow R2.inD,fun b u e=>by rw[za5 (za6 e hp)]; exact e,fun b e=>by
     unfold upd at e;split at e
     ·cases e
     ·exact e⟩
  obtain⟨R3,k3,dm3⟩:=R3
  have rx:Rep (Free F (fun b=>O b∨b=D)) H3 x its[i]:=y2.mono (fun b z=>by
   rcases z with ⟨z,n⟩ |n
   ·exact⟨fun y=>y.elim z.1 fun y=>n (y▸hD),z.2⟩
   ·exact⟨fun y=>R2.al b y n,.inr (R2.dom b n)⟩) fun _ _ _ e=>e
  have ry3:RepK (Free F (fun b=>O b∨b=D)) H3 ys acc:=ry.mono (fun _ z=>z) fun b o _ e=>k3 b o e;have hD3:=k3 _ _ hD2;refine hg F _ (zhO caps s2) its[i] si1 x (zbj caps σ) H3 _ (R3.cap c) rx hdg fun σ4 R4 hk4 hl4=>?_;have hsl:∀ {sx:Sg} {Hx:Hp},Rel F (fun b=>O b∨b=D) Mi sx σ4 Hx->sx.length=caps.length:=fun {sx Hx} Rx=>by
   rw[Rx.len,hl4];unfold zbj;rw[j6]
  have nD4:∀(k:Nat),k∈Mi->σ4[k]?≠some (some (.ref D)):=fun k hk e=>by
   obtain⟨j,e1,e2⟩:=c.yes k hk;rw[hk4 k j e1] at e;obtain⟨j',e3,e4⟩:=zbT e;rw[e1] at e3;obtain rfl:j=j':=by injection e3 with h; injection h
   exact nD j e2 e4
  refine htt _ _ _ ⟨F,_,si1,b,si2,R4,hft,fun H5 S5 R5=>?_⟩;have freeK:∀ {Hx Hy:Hp},Step σ4 Mi Hx Hy->∀ b o,(Free F O b/\b≠D)->Hx b=some o->Hy b=some o:=fun {Hx Hy} Sx b o z e=>Sx.keep b o (R4.notOwned fun y=>y.elim z.1.1 z.2) e
  have S3':∀ {Hx:Hp},Step σ4 Mi H3 Hx->Step σ M H Hx:=fun {Hx} Sx=>⟨fun b o n e=>Sx.keep b o (fun k hk e'=>by
   obtain⟨j,e1,e2⟩:=c.yes k hk;rw[hk4 k j e1] at e';obtain⟨j',e3,e4⟩:=zbT e';rw[e1] at e3;obtain rfl:j=j':=by injection e3 with h; injection h
   exact n j e2 e4) (k3 b o (S2.keep b o n e)),fun b e=>S2.dom b (dm3 b (Sx.dom b e))⟩
  have keepF:∀ {Hx:Hp},Step σ4 Mi H3 Hx->∀ b o,Free F O b->H1 b=some o->Hx b=some o:=fun {Hx} Sx b o z e=>freeK Sx b o ⟨z,fun y=>by rw[y,hD] at e; cases e⟩ (k3 b o (k2 b o z e))
  cases b with
  |false=>
   rw[if_neg jr] at hl;dsimp only;rw[if_neg jr];exact⟨its.length - (i+1),by lia,rfl,hlt,zax M caps si2 s2,acc,ys,R3.back c S5 R5 hk4 (hsl R5),S5.keep D _ nD4 hD3,Ww hy,ry3.mono (fun _ z=>z) fun b o z e=>S5.keep b o (R4.notOwned z.1) e,S3' S5,keepF S5,hl⟩
  |true=>
   rw[if_pos rfl] at hl;dsimp only;rw[if_pos rfl];obtain⟨⟨tk,si3⟩,hfk,hl⟩:=Qb hl;obtain⟨k,hkk,hl⟩:=Qb hl;obtain⟨⟨te,si4⟩,hfe,hl⟩:=Qb hl;refine⟨F,_,si2,tk,si3,R5,hfk,fun ky H5' S5' p5=>⟨F,_,si3,te,si4,p5.1,hfe,fun y H6 S6 p6=>?_⟩⟩;have S56:=(S5.trans S5').trans S6;have hD6:H6 D=some (.dK ys):=S56.keep D _ nD4 hD3;have R6:=R3.back c S56 p6.1 hk4 (hsl p6.1);obtain rfl:=zeI (.inl p5.2) hkk;have lp:=zcZ ys k y;refine⟨ys,k,hD6,rfl,by rw[gy]; lia,its.length - (i+1),by lia,rfl,hlt,zax M caps si4 s2,zfg acc k te,zfh ys k y,?_,zae,by lia,?_,?_,?_,hl⟩
   ·-- D is nobody's: writing there keeps the relation
    have kD:∀ b u,b≠D->H6 b=some u->upd H6 D (.dK (zfh ys k y)) b=some u:=fun b u n e=>by rw[za5 n]; exact e
    refine⟨R6.len,fun j t e n=>?_,fun j t e n=>?_,R6.ow,R6.dis,fun b u n e=>?_,fun b e=>?_,R6.fresh,R6.inD,fun b z e=>?_⟩
    ·obtain⟨v,a1,a2⟩:=R6.val j t e n;exact⟨v,a1,a2.mono (fun _ z=>z) fun b u z e=>kD b u (fun w=>z.1 (.inr w)) e⟩
    ·obtain⟨a,a1,a2⟩:=R6.own j t e n;exact⟨a,a1,a2.mono (fun _ z=>z) (fun b u z e=>kD b u (fun w=>z.1 (.inr w)) e) fun u e=>kD a u (fun w=>nD j n (w▸a1)) e⟩
    ·refine kD b u (fun w=>?_) (R6.keep b u n e);subst w;have:=R1.dom b hD;rw[this] at e; cases e
    ·refine R6.dom b ?_;unfold upd at e;split at e
     ·cases e
     ·exact e
    ·refine R6.al b z ?_;unfold upd at e;split at e
     ·cases e
     ·exact e
   ·have r1:RepK (Free F (fun b=>O b∨b=D)) H6 (zfh ys k y) (zfg acc k te):=(ry3.mono (fun _ z=>z) fun b o z e=>S56.keep b o (R4.notOwned z.1) e).put p6.2;exact r1.mono (fun _ z=>z) fun b u z e=>by rw[za5 (fun w=>z.1 (.inr w))]; exact e
   ·exact⟨fun b o n e=>by rw[za5 (za6 e (S1.dom D hD))]; exact(S3' S56).keep b o n e,fun b e=>(S3' S56).dom b (by
     unfold upd at e;split at e
     ·cases e
     ·exact e)⟩
   ·exact fun b o z e=>by rw[za5 (za6 e hD)]; exact keepF S56 b o z e
 ·have e:i=its.length:=by lia
  subst e;rw[N1] at hl;injection hl with hl;injection hl with e1 e2;subst e1 e2;exact .inl ⟨it.2 (jl _),q _ H2 S2 ⟨D,rfl,S1.dom D hD,R2,.dct hD2 ry⟩⟩
section
variable {X:Cx}{M:List Nat}{a b c e:Expr}{fa fb fc fe fk:DE}{pos p:Pos}
theorem zxR{Mi:List Nat}{caps:List (Option Nat)}{fi:DI}{g:TG}{dg:DG}{ft:DT}{tt:TT}(c:znm caps M Mi=true)(hg:zlx g dg Mi caps)(htt:∀ σ H Q,cT Mi ft σ H Q->tt σ H Q)(h:PE X e (tDC caps (cI M fi) g tt (cE .e Mi fk) (cE .e Mi fe))):PE X e (cE .n M (dDC M caps fi dg ft fk fe)):=weak h (zto (.of c) hg htt)
theorem zxx{st:Stmt}{Mi:List Nat}{caps:List (Option Nat)}{fi:DI}{g:TG}{g2:TG}{dg:DG}{ft:DT}{tt:TT}(c:znm caps M Mi=true)(hg:zlx g dg Mi caps)(htt:∀ σ H Q,cT Mi ft σ H Q->tt σ H Q)(h:PS X st (ze8 (tDC caps (cI M fi) g tt (cE .e Mi fk) (cE .e Mi fe)) g2)):PS X st (ze8 (cE .n M (dDC M caps fi dg ft fk fe)) g2):=zr1 h (zto (.of c) hg htt)
def zdT:T->Option T
 |.lst xs=>some (.lst xs) |.tup xs=>some (.lst xs) |.scr ns=>some (.lst (ns.map .int)) |.dct kvs=>some (.lst (kvs.map fun kv=>kT kv.1)) |.fd kvs=>some (.lst (kvs.map fun kv=>kT kv.1))
 |_=>none
theorem zpJ:S1N (fun xs H Q=>(∃ p ys,xs=[.ref p]/\(SqL TheK.K H p ys∨SqT TheK.K H p ys)/\∀ l,H l=none->Q (.ref l) (upd H l (.lst ys)))∨∃ a kvs,xs=[V.ref a]/\Rd H a (.dK kvs)/\∀ l,H l=none->Q (.ref l) (upd H l (.lst (kvs.map fun kv=>kV kv.1)))) zdT:=by
 intro C H x tx t Q bx hg q;cases tx with
 |dct ts=>
  injection hg with hg; subst hg;obtain⟨a,kvs,rfl,ha,ra⟩:=bx.dct;exact .inr ⟨a,kvs,rfl,.inl ha,fun p hp=>q p _ hp fun C' hC=>.lst zae (zeq ra.1)⟩
 |fd ts=>
  injection hg with hg; subst hg;obtain⟨a,ob,kvs,rfl,ha,ra,_⟩:=bx.fd;exact .inr ⟨a,kvs,rfl,.inr ⟨ob,ha⟩,fun p hp=>q p _ hp fun C' hC=>.lst zae (zeq ra.1)⟩
 |lst ts=>exact .inl (zlS C H x (.lst ts) t Q bx hg q)
 |tup ts=>exact .inl (zlS C H x (.tup ts) t Q bx hg q)
 |scr ts=>exact .inl (zlS C H x (.scr ts) t Q bx hg q)
 |_=>cases hg
theorem zqK(hK:X.K=TheK.K)(hc:X.calm=true)(hg:Gl X "list")(hm:X.mg "list"=none)(h:PE X e (cE .b M fe))(he:jb [e] X.env=(false,eval e X.env)::jb [] X.env:=by rfl)(hpl:(QB pos (jb [] X.env)).any (·.1)=false:=by rfl):PE X (.Call (.Name "list" p) [e] [] pos) (cE .n M (d1 zdT fe)):=
 weak (zem (CallR.or (show CallR X _ _ from hK▸ziQ) (zgE hc)) hg hm zjT (zbf h zdb he) (by decide) (by decide) he hpl) (zvc zpJ)
def zlf:T->Option T
 |.int i=>some (.int (-i))
 |_=>none
theorem zvJ(h:PE X a (cE .b M fa)):PE X (.UnaryOp .USub a pos) (cE .e M (d1 zlf fa)):=weak (zv7 zrx h) (by
 intro σ H Q h_;refine cE_ h_ fun F O s t s' R hf q=>?_;obtain⟨⟨p1,p2⟩,h1,h2⟩:=Qb hf;obtain⟨t',h3,h4⟩:=Qm h2;injection h4 with h4 h5;subst h4 h5;obtain⟨i,rfl⟩:∃ i,p1=.int i:=by cases p1<;>first |exact⟨_,rfl⟩ |cases h3
 injection h3 with h3;subst h3
 exact⟨F,O,s,_,_,R,h1,fun v H1 S1 p1=>⟨i,p1.view.int,q _ H1 S1 ⟨p1.1,.int _⟩⟩⟩)
end
def ztT:T->Option T
 |.lst xs=>some (.lst xs.reverse)
 |_=>none
def ztU(f:DE)(k:DO):DE:=fun s=>(f s).bind fun p=>(k p.2).bind fun q=>if q.1=some (-1) then (ztT p.1).map fun t=>(t,q.2) else none
section
variable {X:Cx}{M:List Nat}{e st:Expr}{fe:DE}{fk:DO}{pos p2:Pos}
theorem zvE(hK:X.K=TheK.K)(he:PE X e (cE .e M fe))(hs:PO X (some st) (cO M fk)):PE X (.Subscript e (.Slice none none (some st) p2) pos) (cE .n M (ztU fe fk)):=weak (zsr he hs) (by
 intro σ H Q h_;refine cE_ h_ fun F O s t s' R hf q=>?_;obtain⟨p,h1,h2⟩:=Qb hf;obtain⟨l,h3,h4⟩:=Qb h2;split at h4
 case isFalse=>cases h4
 rename_i hk;obtain⟨t',h7,h8⟩:=Qm h4;injection h8 with h8 h9;subst h8 h9;refine⟨F,O,s,p.1,p.2,R,h1,fun v H1 S1 p1=>⟨F,O,p.2,l.1,l.2,p1.1,h3,fun H2 S2 R2=>⟨hk,?_⟩⟩⟩;have r2:=p1.1.stay S2 p1.2;obtain⟨pt,ps⟩:=p;cases pt<;>simp[ztT] at h7
 rename_i xs;subst h7;obtain⟨a,vs,rfl,ha,ra⟩:=BRep.lst (.inl r2)
 refine⟨a,vs,rfl,hK▸SqL.of ha,fun b hb=>q _ _ ((S1.trans S2).trans (.new hb _)) (.mkN R R2 (S1.trans S2) hb fun C' hC=>.lst zae (ra.rev.there.mono hC fun c o _ e=>by rw[za5 (za6 e hb)]; exact e))⟩)
end
def ztA:List T->Option (List Bool)
 |[]=>some []
 |.bl b::ts=>(ztA ts).map (b::·)
 |_=>none
def zwx:T->Option T
 |.lst ts=>(ztA ts).map fun bs=>.bl (bs.all id)
 |_=>none
def zww:T->Option T
 |.lst ts=>(ztA ts).map fun bs=>.bl (bs.any id)
 |_=>none
def gFz:T->Option T
 |.dct kvs=>some (.fd kvs)
 |_=>none
def zxm(t:TS):TS:=fun D σ H=>∃ a kvs,H a=some (.dK kvs)/\∀ o,t D σ (upd H a (.frz o (.dK kvs)))
theorem znO{X:Cx}{st:Stmt}{t:TS}(h:PS X st t):PS X st (zxm t):=fun pins s σ H D I ⟨a,kvs,e,q⟩=>by
 obtain⟨o,I2⟩:=I.known e;exact h pins s σ _ D I2 (q o)
def zp9(i:Nat)(d:DS):DS:=fun s=>match (s[i]?).join with
 |some (.dct kvs)=>d (s.set i (some (.fd kvs)))
 |_=>none
theorem zxt{X:Cx}{st:Stmt}{d:DS}{rk:Kd}{io M M' Mx Mb:List Nat}{i:Nat}(h:PS X st (cS rk io M' Mx Mb d))(hi:M.contains i=true:=by rfl)(hM:M'.all (fun j=>M.contains j&&j != i)=true:=by rfl)(hM2:M.all (fun j=>M'.contains j||j == i)=true:=by rfl)(hio:io.all (M'.contains ·)=true:=by rfl):PS X st (cS rk io M Mx Mb (zp9 i d)):=zdL (znO h) (by
 intro D σ H h_;refine cS_ h_ fun F O s r R I hd q=>?_;have hi':i∈M:=by simpa using hi
 have m1:∀ j,j∈M'->j∈M/\j≠i:=fun j hj=>by have:=jt.mp hM j hj; simpa using this
 have m2:∀ j,j∈M->j∈M'∨j=i:=fun j hj=>by have:=jt.mp hM2 j hj; simpa using this
 have mi:i∉M':=fun z=>(m1 i z).2 rfl;have mio:∀ j,j∈io->j∈M':=fun j hj=>by have:=jt.mp hio j hj; simpa using this
 unfold zp9 at hd;split at hd
 ·rename_i ks e;have e:=zag e;obtain⟨a,ha,L⟩:=R.own i _ e hi';obtain⟨kvs,hr,rk'⟩:∃ kvs,H a=some (.dK kvs)/\RepK (Free F O) H kvs ks:=by
   cases L with |dct r h=>exact⟨_,r,h⟩
  have hsl:i < s.length:=(j9.mp e).1
  -- what stays owned
  have oth:∀(j:Nat) b,j∈M'->σ[j]?=some (some (.ref b))->b≠a:=fun j b hj e1 z=>by
   subst z;exact(m1 j hj).2 (R.dis j i b (m1 j hj).1 hi' e1 ha)
  have hD:¬ F.D a:=fun z=>by
   obtain⟨j,hj,e1⟩:=I.D a z;have e2:=(I.at_ j hj).2;rw[<-e1] at e2;exact oth j a (mio j hj) e2 rfl
  have hF0:F.H0 a=none:=(R.fresh a (R.ow i a hi' ha)).resolve_left hD;refine⟨a,kvs,hr,fun o=>?_⟩;have kD:∀ b u,b≠a->H b=some u->upd H a (.frz o (.dK kvs)) b=some u:=fun b u n e=>by rw[za5 n]; exact e
  have wk:∀ b,Free F O b->Free F (fun b=>O b/\b≠a) b:=fun b z=>z.weak fun c y=>y.1;have fra:Free F (fun b=>O b/\b≠a) a:=⟨fun z=>z.2 rfl,.inr hF0⟩;have na:∀ b,Free F O b->b≠a:=fun b z y=>z.1 (y▸R.ow i a hi' ha);have R':Rel F (fun b=>O b/\b≠a) M' (s.set i (some (.fd ks))) σ (upd H a (.frz o (.dK kvs))):=by
   refine⟨by rw[Q2]; exact R.len,fun j t e' n=>?_,fun j t e' n=>?_,fun j b hj e1=>⟨R.ow j b (m1 j hj).1 e1,oth j b hj e1⟩,fun j k b hj hk e1 e2=>R.dis j k b (m1 j hj).1 (m1 k hk).1 e1 e2,fun b u n e1=>?_,fun b e1=>?_,fun b z=>R.fresh b z.1,fun b z=>⟨R.inD b z,fun y=>hD (y▸z)⟩,fun b z e1=>?_⟩
   ·by_cases hji:j=i
    ·subst hji;rw[jP hsl] at e';cases e';exact⟨_,ha,.fd fra zae rk'.1 fun k v t e1 e2=>(rk'.2 k v t e1 e2).mono wk fun b u z e=>kD b u (na b z) e⟩
    ·rw[jn (fun z=>hji z.symm)] at e';obtain⟨v,a1,a2⟩:=R.val j t e' (fun z=>(m2 j z).elim n hji);exact⟨v,a1,a2.mono wk fun b u z e=>kD b u (na b z) e⟩
   ·have hji:i≠j:=fun z=>mi (z▸n);rw[jn hji] at e';obtain⟨c,a1,a2⟩:=R.own j t e' (m1 j n).1;exact⟨c,a1,a2.mono wk (fun b u z e=>kD b u (na b z) e) fun u e=>kD c u (oth j c n a1) e⟩
   ·exact kD b u (fun z=>by rw[z,hF0] at e1; cases e1) (R.keep b u n e1)
   ·refine R.dom b ?_;unfold upd at e1;split at e1
    ·cases e1
    ·exact e1
   ·refine R.al b z.1 ?_;rw[za5 z.2] at e1;exact e1
  refine⟨F,_,_,r,R',⟨fun j hj=>⟨mio j hj,(I.at_ j hj).2⟩,I.D⟩,hd,q.more ⟨fun b u n e1=>⟨kD b u (fun z=>n (z▸R.ow i a hi' ha)) e1,fun z=>n z.1⟩,fun b e1=>?_⟩⟩;unfold upd at e1;split at e1
  ·cases e1
  ·exact e1
 ·cases hd)
def zn4:DS:=fun _=>none
theorem zpI{X:Cx}{st:Stmt}{rk:Kd}{io M M' Mb:List Nat}:PS X st (cS rk io M M' Mb zn4):=fun pins s σ H D I ⟨F,O,s',r,R,Io,hd,q⟩=>by cases hd
theorem zkJ:QK "tuple"=some (.type "tuple"):=by decide +kernel
def zmS:T->Bool
 |.non |.bl _ |.int _ |.str _=>true
 |_=>false
theorem zo9{C C':Addr->Prop}{H H':Hp}{v:V}{t:T}(h:Rep C H v t)(f:zmS t=true):Rep C' H' v t:=by
 cases h<;>first |exact .non |exact .bl _ |exact .int _ |exact .str _ |cases f
theorem zpc:QK "set"=some (.type "set"):=by decide +kernel
theorem Rel.plus{F:Fr}{O:Addr->Prop}{M:List Nat}{s:Sg}{σ:L2.St}{H:Hp}{l:Addr}(R:Rel F O M s σ H)(h:H l=none)(o:HO):Rel F O M s σ (upd H l o):=
 R.ext (fun b u e=>by rw[za5 (za6 e h)]; exact e) fun b e=>by
  unfold upd at e;split at e
  ·cases e
  ·exact e
def zeR(fn:List T->Option T)(i:Nat)(f0:DE)(fa:DA):DE:=fun s=>(f0 s).bind fun p=>(p.2[i]?).join.bind fun _=>(fa p.2).bind fun q=>(q.2[i]?).join.bind fun t0=>(fn (p.1::t0::q.1)).bind fun t=>if zmS t=true then some (t,q.2) else none
theorem zov{M:List Nat}{f0:DE}{fa:DA}{np:Nat}{fn:List T->Option T}{i:Nat}(hn:Ar fa np)(hi:M.contains i=true):∀ σ H Q,cE .e M (zeR fn i f0 fa) σ H Q->zkW (spP .e (np+2) fn) [] E0 (zde (cE .e M f0) (zde (zcT i) (cA M fa))) σ H Q:=by
 intro σ H Q h_;refine cE_ h_ fun F O s t s' R hf q=>?_;have hi':i∈M:=by simpa using hi
 obtain⟨p,h0,hf⟩:=Qb hf;obtain⟨x0,h1,hf⟩:=Qb hf;obtain⟨r,h2,hf⟩:=Qb hf;obtain⟨t0,h3,hf⟩:=Qb hf;obtain⟨w,h4,h5⟩:=Qb hf
 by_cases hfl:zmS w=true
 ·rw[if_pos hfl] at h5;injection h5 with h5;injection h5 with h5 h6;subst h5 h6;refine⟨F,O,s,p.1,p.2,R,h0,fun v H1 S1 p1=>?_⟩;obtain⟨a,e1,_⟩:=p1.1.own i x0 (zag h1) hi';refine⟨_,e1,F,O,p.2,r.1,r.2,p1.1,h2,fun vs H2 S2 R2 rs=>?_⟩;obtain⟨b,e2,L⟩:=R2.own i t0 (zag h3) hi';rw[e1] at e2;injection e2 with e2;injection e2 with e2;injection e2 with e2;subst e2;have rv:=p1.1.stay S2 p1.2
  try dsimp only
  rw[QV];refine⟨fun _=>True,p.1::t0::r.1,w,by rw[jm,jm,hn _ _ _ h2],.cons (rv.mono (fun _ _=>trivial) fun _ _ _ e=>e) (.cons (L.rep (fun _ _=>trivial) trivial) (rs.mono (fun _ _=>trivial) fun _ _ _ e=>e)),h4,fun v H3 c=>q v H3 ((S1.trans S2).trans ⟨fun b o _ e=>c.keep b o e,c.dom⟩) ⟨R2.ext c.keep c.dom,?_⟩⟩
  exact zo9 c.res hfl
 ·rw[if_neg hfl] at h5; cases h5
section
variable {X:Cx}{M:List Nat}{e1 e2:Expr}{es:List Expr}{f0:DE}{fs:DA}{p pos:Pos}{k np:Nat}{f:Addr}{fd:Q9}{ps:List Str}{x:Str}
theorem zoj{fn:List T->Option T}{i:Nat}(hi:M.contains i=true)(F:FnOk X.prog X.w X.K X.mg X.base CX0 k f fd ps (spP .e (np+2) fn))(hr:Room k X.A)(hg:Gl X x)(hm:X.mg x=some (.ref f))(hk:jX X.K (.ref f)=true)(hb:Binds X.K fd ps [])
  (h0:PE X e1 (cE .e M f0)) (h1:PE X e2 (zcT i)) (ha:PA X es (cA M fs)) (ar:Ar fs np) (hdb:(x == ("__debug__":Str))=false:=by decide) (he:jb (e1::e2::es) X.env=(false,eval e1 X.env)::jb (e2::es) X.env:=by rfl) (he2:jb (e2::es) X.env=(false,eval e2 X.env)::jb es X.env:=by rfl) (hpl:(QB pos (jb (e2::es) X.env)).any (·.1)=false:=by rfl) :
  PE X (.Call (.Name x p) (e1::e2::es) [] pos) (cE .e M (zeR fn i f0 fs)):=weak (zg0 F hr hg hm hk hb .nil zme (zbf h0 (zbf h1 ha he2) he) hdb he hpl) (zov ar hi)
end
theorem zg4:∀(l acc:List Str),acc.Nodup->(l.foldl Dw.stp acc).Nodup
 |[],_,h=>h
 |x::l,acc,h=>by
  rw[Zr];refine zg4 l _ ?_;unfold Dw.stp;split
  ·exact h
  ·rename_i hx;exact jW.mpr ⟨h,by simp,fun a ha b hb e=>by rw[jG] at hb; subst hb e; exact hx ha⟩
theorem zet(l:List Str):(Dw.za0 l).Nodup:=zg4 l [] gE
def znd(xs ys:List Str):Nat:=((Dw.za0 xs).filter fun x=>decide (x∈Dw.za0 ys)).length
def zgc:T->T->Option T
 |.lst xs,.lst ys=>(zdM xs).bind fun a=>(zdM ys).bind fun b=>if a.length < 900 then if b.length < 900 then some (.int (znd a b)) else none else none
 |_,_=>none
section
variable {X:Cx}{M:List Nat}{e1 e2:Expr}{f1 f2:DE}{p p2 p3 pos pos2 pos3 pos4:Pos}
theorem zof(hK:X.K=TheK.K)(hc:X.calm=true)(hg:Gl X "len")(hm:X.mg "len"=none)(hg2:Gl X "set")(hm2:X.mg "set"=none)(h1:PE X e1 (cE .b M f1))(h2:PE X e2 (cE .b M f2))
  (he1:jb [e1] X.env=(false,eval e1 X.env)::jb [] X.env:=by rfl) (hpl1:(QB pos2 (jb [] X.env)).any (·.1)=false:=by rfl)
  (he2:jb [e2] X.env=(false,eval e2 X.env)::jb [] X.env:=by rfl) (hpl2:(QB pos3 (jb [] X.env)).any (·.1)=false:=by rfl)
  (he:jb [.BinOp (.Call (.Name "set" p2) [e1] [] pos2) .BitAnd (.Call (.Name "set" p3) [e2] [] pos3) pos4] X.env=(false,eval (.BinOp (.Call (.Name "set" p2) [e1] [] pos2) .BitAnd (.Call (.Name "set" p3) [e2] [] pos3) pos4) X.env)::jb [] X.env:=by rfl) (hpl:(QB pos (jb [] X.env)).any (·.1)=false:=by rfl) :
  PE X (.Call (.Name "len" p) [.BinOp (.Call (.Name "set" p2) [e1] [] pos2) .BitAnd (.Call (.Name "set" p3) [e2] [] pos3) pos4] [] pos) (cE .e M (d2 zgc f1 f2)):=
 weak (zhv zna hg hm Ja (zbf (zil zqh (zem (ziP hc) hg2 hm2 zpc (zbf h1 zdb he1) (by decide) (by decide) he1 hpl1) (zem (ziP hc) hg2 hm2 zpc (zbf h2 zdb he2) (by decide) (by decide) he2 hpl2)) zdb he) (by decide) (by decide) he hpl) (by
 intro σ H Q h_;refine cE_ h_ fun F O s t s' R hf q=>?_;obtain⟨x,s1,y,d1,d2,d3⟩:=zhL hf;obtain⟨xs,rfl⟩:∃ xs,x=.lst xs:=by cases x<;>first |exact⟨_,rfl⟩ |cases d3
 obtain⟨ys,rfl⟩:∃ ys,y=.lst ys:=by cases y<;>first |exact⟨_,rfl⟩ |cases d3
 obtain⟨as,h5,d4⟩:=Qb (show ((zdM xs).bind fun a=>(zdM ys).bind fun b=>if a.length < 900 then if b.length < 900 then some (T.int (znd a b)) else none else none)=some t from d3)
 obtain⟨bs,h6,d5⟩:=Qb d4;split at d5
 ·rename_i hl1;split at d5
  ·rename_i hl2;injection d5 with d5;subst d5;refine⟨F,O,s,_,_,R,d1,fun v H1 S1 p1=>?_⟩;obtain⟨a,us,rfl,ha,ra⟩:=p1.view.lst;rw[zea ra h5] at ha;refine⟨a,as,rfl,SqL.of ha,by lia,fun l hn=>?_⟩
   have R1:=p1.1.plus hn (zk7 X l (Dw.za0 as));refine⟨F,O,s1,_,_,R1,d2,fun v2 H2 S2 p2=>?_⟩;obtain⟨b,us2,rfl,hb,rb⟩:=p2.view.lst;rw[zea rb h6] at hb;have no:¬ O l:=fun z=>p1.1.al l z hn;have hl:H2 l=some (zk7 X l (Dw.za0 as)):=S2.keep l _ (R1.notOwned no) zae;refine⟨b,bs,rfl,SqL.of hb,by lia,fun m hm=>?_⟩
   have hlm:l≠m:=fun e=>by subst e; rw[hl] at hm; cases hm
   have fl:∀ ss:List Str,(Dw.za0 ss).length<=ss.length:=fun ss=>by
    have:=zha ss [];rw[Zm,Z5] at this;exact this
   have f1:=fl as;have f2:=fl bs;refine⟨l,m,_,_,rfl,rfl,hlm,by rw[za5 hlm]; exact hl,zae,zet _,zet _,by lia,fun c hc'=>?_⟩
   have S12:=(S1.trans (.new hn _)).trans S2;refine⟨c,_,rfl,zae,q _ _ ((S12.trans (.new hm _)).trans (.new hc' _)) ⟨(p2.1.plus hm _).plus hc' _,.int _⟩⟩
  ·cases d5
 ·cases d5)
end
def zlq(xs ys:List T):List T:=(xs.zip ys).map fun p=>.tup [p.1,p.2]
theorem zkl{F:Fr}{O:Addr->Prop}{H1 H2:Hp}{p:Addr}{x y:V}{t u:T}(k:∀ b o,Free F O b->H1 b=some o->H2 b=some o)(hp:H2 p=none)(rx:Rep (Free F O) H1 x t)(ry:Rep (Free F O) H1 y u) :
  Rep (fun b=>(Free F O b/\H1 b≠none)∨H2 b=none) (upd H2 p (.tup [x,y])) (.ref p) (.tup [t,u]):=by
 have up:∀ {v:V} {w:T},Rep (Free F O) H1 v w->Rep (fun b=>(Free F O b/\H1 b≠none)∨H2 b=none) (upd H2 p (.tup [x,y])) v w:=fun r=>
  r.there.mono (fun b c=>.inl c) fun b o c e=>by rw[za5 (za6 (k b o c.1 e) hp)]; exact k b o c.1 e
 have rr:Reps (fun b=>(Free F O b/\H1 b≠none)∨H2 b=none) (upd H2 p (.tup [x,y])) [x,y] [t,u]:=.cons (up rx) (.cons (up ry) .nil);exact .tup (.inr hp) zae rr.1 rr.2
theorem zsT{kvs:List (Key × V)}{ts:List (Key × T)}(h:kvs.map (·.1)=ts.map (·.1)){i:Nat}{y:Key × V}(hy:kvs[i]?=some y):∃ z,ts[i]?=some z/\y.1=z.1:=by
 have e:(kvs.map (·.1))[i]?=some y.1:=by rw[ji,hy]; rfl
 rw[h,ji] at e;obtain⟨z,h1,h2⟩:=Qm e;exact⟨z,h1,h2.symm⟩
def ztq(f:DA):DI:=fun s=>(f s).bind fun p=>match p.1 with
 |[.lst xs,.lst ys]=>some (zlq xs ys,p.2)
 |_=>none
section
variable {X:Cx}{M:List Nat}{fa:DA}
theorem zvm{elts:List Expr}{x1:Nat}{tp:Pos}{a b:Expr}{p pos:Pos}(hK:X.K=TheK.K)(hg:Gl X "zip")(hm:X.mg "zip"=none)(ha:PA X [a,b] (cA M fa))(hs:jb [a,b] X.env=(false,eval a X.env)::jb [b] X.env:=by rfl)(hs2:(QB pos (jb [b] X.env)).any (·.1)=false:=by rfl):PI X (.Tuple elts x1 tp) (.Call (.Name "zip" p) [a,b] [] pos) (cI M (ztq fa)):=zh9 (zq8 hg hm ha hs hs2) (by
 intro σ H R h_;refine cI_ h_ fun F O s its s' Rl hf q=>?_;obtain⟨⟨p1,p2⟩,h1,h2⟩:=Qb hf;refine⟨F,O,s,p1,p2,Rl,h1,fun vs H1 S1 R1 rs=>?_⟩;dsimp only at h2;split at h2
 case h_2=>cases h2
 ·rename_i xs ys;injection h2 with h2;injection h2 with h3 h4;subst h3 h4;obtain⟨u,h6,h7⟩:=rs.get (i:=0) rfl;obtain⟨v,h8,h9⟩:=rs.get (i:=1) rfl;have hvl:=rs.1;cases h7 with
  |@lst a1 us _ c r l h=>
   cases h9 with
   |@lst a2 ws _ c2 r2 l2 hw=>
    refine⟨a1,a2,us,ws,?_,hK▸SqL.of r,hK▸SqL.of r2,q _ H1 S1 R1 ?_⟩
    ·match vs,hvl with
     |[x,y],_=>
      simp at h6 h8;rw[h6,h8]
    intro H2 k i;have k1:=k a1 _ c r;have k2:=k a2 _ c2 r2;have hlen:(zlq xs ys).length=min us.length ws.length:=by unfold zlq; rw[j6,J3,<-l,<-l2]
    refine⟨fun t ht=>?_,fun hl=>⟨us,ws,SqL.of k1,SqL.of k2,by rw[hlen] at hl; lia⟩⟩
    have hi:=(j9.mp ht).1;rw[hlen] at hi;have hiu:i < us.length:=by lia
    have hik:i < ws.length:=by lia
    have hix:i < xs.length:=by lia
    have hiy:i < ys.length:=by lia
    have et:t=.tup [xs[i],ys[i]]:=by
     unfold zlq at ht;rw[ji] at ht;obtain⟨pr,hpr,rfl⟩:=Qm ht;rw[Yy,j3 hix,j3 hiy] at hpr;obtain⟨g1,g2⟩:=hpr;rw[<-jd g1,<-jd g2]
    subst et;refine⟨⟨us,us[i],ws,ws[i],SqL.of k1,j3 hiu,SqL.of k2,j3 hik⟩,fun x H3 ⟨p',x',y',e1,e2,e3,e4,e5⟩=>⟨.inr ⟨p',_,e2,e3⟩,?_⟩⟩;have f1:=e4 us (SqL.of k1);rw[j3 hiu] at f1;obtain rfl:us[i]=x':=jd f1;have f2:=e5 ws (SqL.of k2);rw[j3 hik] at f2;obtain rfl:ws[i]=y':=jd f2;subst e1 e3
    exact zkl k e2 (h i _ _ (j3 hiu) (j3 hix)) (hw i _ _ (j3 hik) (j3 hiy)))
end
def zll(f:DA):DI:=fun s=>(f s).bind fun p=>match p.1 with
 |[.fd kvs,.lst xs]=>some (zlq (kvs.map fun kv=>kT kv.1) xs,p.2)
 |_=>none
section
variable {X:Cx}{M:List Nat}{fa:DA}
theorem zqz{elts:List Expr}{x1:Nat}{tp:Pos}{a b:Expr}{p pos:Pos}(hK:X.K=TheK.K)(hg:Gl X "zip")(hm:X.mg "zip"=none)(ha:PA X [a,b] (cA M fa))(hs:jb [a,b] X.env=(false,eval a X.env)::jb [b] X.env:=by rfl)(hs2:(QB pos (jb [b] X.env)).any (·.1)=false:=by rfl):PI X (.Tuple elts x1 tp) (.Call (.Name "zip" p) [a,b] [] pos) (cI M (zll fa)):=zh9 (znP hg hm ha hs hs2) (by
 intro σ H R h_;refine cI_ h_ fun F O s its s' Rl hf q=>?_;obtain⟨⟨p1,p2⟩,h1,h2⟩:=Qb hf;refine⟨F,O,s,p1,p2,Rl,h1,fun vs H1 S1 R1 rs=>?_⟩;dsimp only at h2;split at h2
 case h_2=>cases h2
 ·rename_i ts xs;injection h2 with h2;injection h2 with h3 h4;subst h3 h4;obtain⟨u,h6,h7⟩:=rs.get (i:=1) rfl;obtain⟨v,h8,h9⟩:=rs.get (i:=0) rfl;have hvl:=rs.1;cases h7 with
  |@lst a1 us _ c r l h=>
   obtain⟨a2,o,kvs,rfl,ha,ra,fr⟩:=BRep.fd (.inl h9);refine⟨a2,a1,us,o,kvs,?_,hK▸SqL.of r,ha,q _ H1 S1 R1 ?_⟩
   ·match vs,hvl with
    |[x,y],_=>
     simp at h6 h8;rw[h6,h8]
   intro H2 k i;have k1:=k a1 _ c r;have k2:=k a2 _ fr ha;have hl:kvs.length=ts.length:=by have:=congrArg ge ra.1; simpa using this
   have hlen:(zlq (ts.map fun kv=>kT kv.1) xs).length=min kvs.length us.length:=by unfold zlq; rw[j6,J3,j6,<-l,hl]
   refine⟨fun t ht=>?_,fun hl=>⟨us,kvs,SqL.of k1,k2,by rw[hlen] at hl; lia⟩⟩
   have hi:=(j9.mp ht).1;rw[hlen] at hi;have hiu:i < us.length:=by lia
   have hik:i < kvs.length:=by lia
   have hix:i < xs.length:=by lia
   obtain⟨z,hz,ez⟩:=zsT ra.1 (j3 hik);have et:t=.tup [kT z.1,xs[i]]:=by
    unfold zlq at ht;rw[ji] at ht;obtain⟨pr,hpr,rfl⟩:=Qm ht;rw[Yy,j3 hix,ji,hz] at hpr;obtain⟨g1,g2⟩:=hpr;rw[<-jd g1,<-jd g2]
   subst et;refine⟨⟨us,us[i],kvs,kvs[i],SqL.of k1,j3 hiu,k2,j3 hik⟩,fun x H3 ⟨p',x',y',e1,e2,e3,e4,e5⟩=>⟨.inr ⟨p',_,e2,e3⟩,?_⟩⟩;have f1:=e4 us (SqL.of k1);rw[j3 hiu] at f1;obtain rfl:us[i]=x':=jd f1;have f2:=e5 kvs k2;rw[j3 hik] at f2;obtain rfl:kvs[i]=y':=jd f2;subst e1 e3
   exact zkl k e2 (ez▸zoX _) (h i _ _ (j3 hiu) (j3 hix)))
end
abbrev DR:=Sg->Bool
end L3
namespace L3
open PySem PySem.Spec PyProof.Rows L2
def Here(K:j8)(mg:Str->Option ja)(x:Str)(st:Stmt)(ps:List Str):Prop:=
 ∃ f fd,Fun K x x st f fd/\Binds K fd ps []/\jX K (.ref f)=true/\mg x=some (.ref f)
def Cal(P:jK)(w:Qj)(K:j8)(mg:Str->Option ja)(base:Heap)(n:Nat)(x:Str)(ps:List Str)(sp:Sp):Prop:=
 ∃ f fd,FnOk P w K mg base CX0 n f fd ps sp/\Binds K fd ps []/\jX K (.ref f)=true/\mg x=some (.ref f)
theorem zqA{K:j8}{h:Heap}{mg:Str->Option ja}(X:K.In h)(G:h.Ns jV mg){x:Str}{st:Stmt}{ps:List Str}{f:Addr}{oc:ja}{od an:Option Addr}{osl:Array (Option ja)}{kV doc pm cdv ct:ja}
  (hb:∀(kV doc pm:ja) (an:Option Addr) (cdv ct:ja) (us:List ja),us.length=ps.length->gZ (Qo x x (zbi st) (zaK st) (za1 st) .none kV doc pm an cdv ct) ⟨us,[]⟩=pure (ps.zip us))
  (a:QZ K jV x=some (some (.ref f))) (l:K.lookup f=some ⟨oc,od,.func (Qo x x (zbi st) (zaK st) (za1 st) .none kV doc pm an cdv ct),osl⟩)
  (c:ZY K cdv x=true) (k:jX K (.ref f)=true):Here K mg x st ps:=by
 have F:=zp3 (st:=st) l c k;exact⟨f,_,F,F.binds hb,k,Jv X G a⟩
section
variable {P:jK}{w:Qj}{K:j8}{mg:Str->Option ja}{base:Heap}
theorem Here.ok{x:Str}{st:Stmt}{N ps:List Str}{k:Nat}{sp:Sp}(h:Here K mg x st ps)(S:FnScope N ps (za1 st))(len:∀ vs H Q E,sp vs H Q E->vs.length=ps.length)
  (hbody:∀(f:Addr) (cdv:ja) (A:Qz) (outer:List Env) (s:jc) (H:Hp) (vs:List V) (Q:VK) (E:XK),Room k (A.deeper (Y6 x (za1 st) s.heap.objs.size f cdv))->sp vs H Q E->
   ∃ t,PSs (zoq CX0 P w K mg base N x (za1 st) f cdv A outer s H E).nox (zaK st) t/\t { nx:=fun _ H'=>Q .non H',rt:=Q } (L2.start N vs) H):Cal P w K mg base (k+1) x ps sp:=by
 obtain⟨f,fd,F,b,kp,m⟩:=h;exact⟨f,fd,F.ok S len fun cdv A outer s H vs Q E hr hs=>hbody f cdv A outer s H vs Q E hr hs,b,kp,m⟩
theorem Cal.mono{j k:Nat}{x:Str}{ps:List Str}{sp:Sp}(h:Cal P w K mg base j x ps sp)(hjk:j<=k):Cal P w K mg base k x ps sp:=by
 obtain⟨f,fd,F,b,kp,m⟩:=h;exact⟨f,fd,F.mono hjk,b,kp,m⟩
end
def ztL(tk:TheK)(P:jK)(w:Qj)(mg:Str->Option ja)(base:Heap)(k:Nat)(x:Str)(st:Stmt)(N:List Str)(t:TS):Prop:=
 ∀(f:Addr) (cdv:ja) (A:Qz) (outer:List Env) (s:jc) (H:Hp) (E:XK),Room k (A.deeper (Y6 x (za1 st) s.heap.objs.size f cdv))->PSs (zoq CX0 P w tk.K mg base N x (za1 st) f cdv A outer s H E).nox (zaK st) t
variable [tk:TheK]
section
variable {P:jK}{w:Qj}{mg:Str->Option ja}{base:Heap}{x:Str}{st:Stmt}{N ps:List Str}{k:Nat}{d:DS}{M' Mb:List Nat}
theorem Here.okP(h:Here tk.K mg x st ps)(S:FnScope N ps (za1 st))(hb:ztL tk P w mg base k x st N (cS .e [] [] M' Mb d))(hN:ps.length<=N.length:=by decide):Cal P w tk.K mg base (k+1) x ps (spP .e ps.length (fnP N.length d)):=by
 refine h.ok S (fun vs H Q E ⟨C,ts,t,hl,r,_⟩=>by rw[r.1,hl]) fun f cdv A outer s H vs Q E hr hs=>⟨_,hb f cdv A outer s H E hr,?_⟩
 refine zpO (fun ts t e=>?_) (.inl rfl) hN hs;unfold fnP at e;split at e
 ·injection e with e; subst e; exact .inl ⟨_,by assumption⟩
 ·injection e with e; subst e; exact .inr ⟨rfl,rfl,_,by assumption⟩
 ·cases e
theorem Here.okN(h:Here tk.K mg x st ps)(S:FnScope N ps (za1 st))(hb:ztL tk P w mg base k x st N (cS .n [] [] M' Mb d))(hN:ps.length<=N.length:=by decide):Cal P w tk.K mg base (k+1) x ps (spP .n ps.length (zni N.length d)):=by
 refine h.ok S (fun vs H Q E ⟨C,ts,t,hl,r,_⟩=>by rw[r.1,hl]) fun f cdv A outer s H vs Q E hr hs=>⟨_,hb f cdv A outer s H E hr,?_⟩
 refine zpO (fun ts t e=>?_) (.inr rfl) hN hs;unfold zni at e;split at e
 ·injection e with e; subst e; exact .inl ⟨_,by assumption⟩
 ·cases e
theorem zpA{rk:Kd}{np:Nat}{fn:List T->Option (T × T)}{vs:List V}{H:Hp}{Q:VK}{E:XK}(h:spI rk np fn vs H Q E):vs.length=np:=by
 obtain⟨C,a,us,t0,ts,t,t1,hl,rfl,_,_,r,_⟩:=h;rw[<-hl,jm,jm,r.1]
theorem Here.okI(h:Here tk.K mg x st ps)(S:FnScope N ps (za1 st))(hb:ztL tk P w mg base k x st N (cS .e [0] [0] M' Mb d))(hN:ps.length<=N.length:=by decide):Cal P w tk.K mg base (k+1) x ps (spI .e ps.length (fnI N.length d)):=
 h.ok S (fun vs H Q E h=>zpA h) fun f cdv A outer s H vs Q E hr hs=>⟨_,hb f cdv A outer s H E hr,zv1 (.inl rfl) hN hs⟩
def zkY(K:j8):Sp:=fun vs H Q _=>∃(a:Addr) (ns:List Int),vs=[.ref a]/\ztW H/\SqL K H a (ns.map V.int)/\ns.length<=63/\∀ H',Q (.bl true) H'
theorem zsL{fw:Addr}{dw:Q9}(F:Fun tk.K x x st fw dw)(S:FnScope N [ps0] (za1 st))(hb:ztL tk P w mg base k x st N (cS .e [] [] M' Mb d))(hN:1<=N.length)(hd:∀ ns:List Int,ns.length<=63->fnP N.length d [.scr ns]=some (.bl true)):FnOk P w tk.K mg base CX0 (k+1) fw dw [ps0] (zkY tk.K):=by
 refine F.ok S (fun vs H Q E ⟨a,ns,e,_⟩=>by rw[e]; rfl) fun cdv A outer s H vs Q E hr hs=>⟨_,hb fw cdv A outer s H E hr,?_⟩
 obtain⟨a,ns,rfl,hO,hS,h63,q⟩:=hs;have rp:Rep (fun _=>True) H (.ref a) (.scr ns):=by
  rcases hS with (hS |⟨o,hS⟩) |hS
  ·rcases hO a with z |⟨_,_,z⟩<;>rw[hS] at z<;>cases z
  ·exact .scr trivial hS
  ·exact .scrK fun H'=>.inr hS
 refine zpO (np:=1) (N:=N) (fn:=L3.fnP N.length d) (fun ts t e=>?_) (.inl rfl) hN (E:=E) ⟨fun _=>True,[.scr ns],.bl true,rfl,.cons rp .nil,hd ns h63,fun v H' c=>?_⟩
 ·unfold L3.fnP at e;split at e
  ·injection e with e; subst e; exact .inl ⟨_,by assumption⟩
  ·injection e with e; subst e; exact .inr ⟨rfl,rfl,_,by assumption⟩
  ·cases e
 ·have:v=.bl true:=BRep.bl (.inl c.res);rw[this];exact q H'
end
end L3
namespace L3
open PySem PySem.Spec PyProof.Rows L2
theorem zc4{A:Qz}{k:Nat}(hr:Room k A):A.units+8 < ZH:=by have:=hr.un; lia
structure QE (X:Cx) (e:Expr) (t:TE):Prop where
 un:L2.PE X e t
structure QT (X:Cx) (e:Expr) (t:TT):Prop where
 un:L2.PT X e t
structure QW (X:Cx) (e:Expr) (t:TT):Prop where
 un:L2.PW X e t
structure QA (X:Cx) (e:List Expr) (t:TA):Prop where
 un:L2.PA X e t
structure QSs (X:Cx) (e:List Stmt) (t:TS):Prop where
 un:L2.PSs X e t
structure QS (X:Cx) (e:Stmt) (t:TS):Prop where
 un:L2.PS X e t
structure QI (X:Cx) (tg iter:Expr) (t:TI):Prop where
 un:L2.PI X tg iter t
structure QGs (X:Cx) (e:List Expr) (t:TGs):Prop where
 un:L2.PGs X e t
structure QG (X:Cx) (e:Expr) (t:TG):Prop where
 un:L2.PG X e t
structure QTs (X:Cx) (e:List Expr) (t:TT):Prop where
 un:L2.PTs X e t
structure QO (X:Cx) (e:Option Expr) (t:TO):Prop where
 un:L2.PO X e t
section
variable {X:Cx}
theorem zdF{x:Str}{v:V}{u:ja}{pos:Pos}(hg:Gl X x)(hm:X.mg x=none)(hv:QK x=some u)(r:RelV v u)(hn:x≠"__name__":=by decide)(hd:(x == ("__debug__":Str))=false:=by decide):QE X (.Name x pos) (tC v):=⟨L2.zqd hg hm hv r hn hd⟩
end
section
variable {X:Cx}{pos:Pos}
theorem za8{i:Nat}{x:Str}(hN:X.N.Nodup)(hi:X.N[i]?=some x)(hx:Loc X.env.scope x)(hf:X.fn x=true∨X.env.scope.names.lookup x=some .local:=by first |exact .inl rfl |exact .inr rfl |assumption):QG X (.Name x pos) (zc8 i):=⟨L2.zjh hN hi hx hf⟩
end
section
variable {X:Cx}{pos:Pos}
theorem zbM :QGs X [] zqD:=⟨L2.zmc ⟩
end
section
variable {X:Cx}{pos:Pos}
theorem zaq{e:Expr}{es:List Expr}{t:TG}{u:TGs}(h1:QG X e t)(h2:QGs X es u)(hs:(Qn (e::es) X.env).map (·.2)=gF e X.env::(Qn es X.env).map (·.2):=by rfl):QGs X (e::es) (ziB t u):=⟨L2.zht h1.un h2.un hs⟩
end
section
variable {X:Cx}{pos:Pos}
theorem zfV{es:List Expr}{k:Nat}{t:TGs}{n:Nat}(hc:X.calm=true)(h:QGs X es t)(hn:(Qn es X.env).length=n:=by rfl)(hst:(Qn es X.env).findIdx? (·.1)=none:=by rfl):QG X (.Tuple es k pos) (zkw X.K n t):=⟨L2.zmd hc h.un hn hst⟩
end
section
variable {X:Cx}{pos:Pos}
theorem zfW{o i:Expr}{to ti:TE}{t:ztV}(ho:QE X o to)(hi:QE X i ti)(hs:zw4 X t)(ha:∀ v,gF (.Subscript o i pos) X.env v=(do
   let ov <-Y5 [v] (eval o X.env)
   let iv <-Y5 [v,ov] (eval i X.env)
   Jm pos
   Y5 [v,ov,iv] (setItem ov iv v)
   release [v,ov,iv] []):=by intro _; rfl):QG X (.Subscript o i pos) (ztS to ti t):=⟨L2.zsm ho.un hi.un hs ha⟩
end
section
variable {X:Cx}{pos:Pos}
theorem zdm{tg e:Expr}{te:TE}{g:TG}(he:QE X e te)(hg:QG X tg g)(hs:swapsWithSole [tg] e pos.line X.env=pure false:=by rfl)(hw:swappedStores [tg] e X.env=pure none:=by rfl)(h1:(Qn [tg] X.env).map (·.2)=[gF tg X.env]:=by rfl):QS X (.Assign [tg] e pos) (ze8 te g):=⟨L2.zsj he.un hg.un hs hw h1⟩
end
section
variable {X:Cx}{pos:Pos}
theorem za7{i:Nat}{x:Str}{e:Expr}{te:TE}{pos':Pos}(hN:X.N.Nodup)(hi:X.N[i]?=some x)(hx:Loc X.env.scope x)(he:QE X e te)(hs:ZV e (some (.Name x pos')) pos.line X.env=pure false:=by rfl)(hf:X.fn x=true∨X.env.scope.names.lookup x=some .local:=by first |exact .inl rfl |exact .inr rfl |assumption):QS X (.Assign [.Name x pos'] e pos) (ze8 te (zc8 i)):=⟨L2.zoP hN hi hx he.un hs hf⟩
end
section
variable {X:Cx}{pos:Pos}
theorem zpV{i:Nat}{x:Str}{e:Expr}{te:TE}{op:Jl}{ti:TIp}{pos':Pos}(hN:X.N.Nodup)(hi:X.N[i]?=some x)(hx:Loc X.env.scope x)(he:QE X e te)(ho:PIp X op ti)(hf:X.fn x=true∨X.env.scope.names.lookup x=some .local:=by first |exact .inl rfl |exact .inr rfl |assumption):QS X (.AugAssign (.Name x pos') op e pos) (ztO i te ti):=⟨L2.zsi hN hi hx he.un ho hf⟩
end
section
variable {X:Cx}{tg:Expr}
theorem zbe{iter:Expr}{body:List Stmt}{wi:TI}{g:TG}{tb:TS}{pos:Pos}(hp:W0 (jM X.prog X.w) X.A X.env X.xe)(hc:X.calm=true)(hi:QI X tg iter wi)(hg:QG X tg g)(hb:QSs X body tb)(hs:∀ x,Qy iter X.env x=pure x:=by intro _; rfl):QS X (.For tg iter body [] pos) (zrD wi g tb):=⟨L2.zoQ hp hc hi.un hg.un hb.un hs⟩
end
section
variable {X:Cx}{e:Expr}{es:List Expr}{te:TE}{t:TA}{pos:Pos}
theorem zlY :QA X [] zlJ:=⟨L2.zdb ⟩
end
section
variable {X:Cx}{e:Expr}{es:List Expr}{te:TE}{t:TA}{pos:Pos}
theorem zkh(ha:QE X e te)(hr:QA X es t)(hs:jb (e::es) X.env=(false,eval e X.env)::jb es X.env:=by rfl):QA X (e::es) (zde te t):=⟨L2.zbf ha.un hr.un hs⟩
end
section
variable {X:Cx}{a b:Expr}{ta tb:TE}{pos:Pos}
variable {o e:Expr}{es:List Expr}{to:TE}{t:TA}{name:Str}{apos cpos:Pos}{T id:String}{r:V->List V->Hp->VK->Prop}
theorem zjb(pa:Wm T)(slot:Slot T name id)(hty:typeOf (.builtin id)=pure (.type "method_descriptor"))(hm:MtR X id r)(ho:QE X o to)(hbase:YU o name X.env (eval o X.env)=eval o X.env:=by rfl)(hline:(apos.endLine == cpos.line)=true:=by rfl):QE X (.Call (.Attribute o name apos) [] [] cpos) (zrF X.K T r to):=⟨L2.zsx pa slot hty hm ho.un hbase hline⟩
end
section
variable {X:Cx}{a b:Expr}{ta tb:TE}{pos:Pos}
variable {o e:Expr}{es:List Expr}{to:TE}{t:TA}{name:Str}{apos cpos:Pos}{T id:String}{r:V->List V->Hp->VK->Prop}
theorem zdS(pa:Wm T)(slot:Slot T name id)(hty:typeOf (.builtin id)=pure (.type "method_descriptor"))(hm:MtR X id r)(ho:QE X o to)(ha:QA X (e::es) t)(hbase:YU o name X.env (eval o X.env)=eval o X.env:=by rfl)(hfew:((QB cpos (jb (e::es) X.env)).all (fun x=>!x.1)&&(backToKw cpos (keywordEach [] X.env)).all (fun x=>x.1.isSome)
   && decide ((e::es).length+([]:List Keyword).length+(if ([]:List Keyword).isEmpty then 0 else 1) < 30))=true:=by rfl) (hline:(apos.endLine == cpos.line)=true:=by rfl) (hs:jb (e::es) X.env=(false,eval e X.env)::jb es X.env:=by rfl) (hplain:(QB cpos (jb es X.env)).any (·.1)=false:=by rfl):QE X (.Call (.Attribute o name apos) (e::es) [] cpos) (tBM X.K T r to t):=⟨L2.zsy pa slot hty hm ho.un ha.un hbase hfew hline hs hplain⟩
end
section
variable {X:Cx}{o i e value:Expr}{pos pos' tpos:Pos}{td ty tv:TE}
theorem zfs(hu:X.A.units+1 < ZH)(ho:QE X o td)(hi:QE X i ty)(hv:QE X value tv)(hs:ZV value (some (.Subscript o i pos')) pos.line X.env=pure false):QS X (.Assign [.Subscript o i pos'] value pos) (znv td ty tv):=⟨L2.zm8 hu ho.un hi.un hv.un hs⟩
end
section
variable {X:Cx}
theorem qpv(i:Nat){x:Str}{pos:Pos}(hN:X.N[i]?=some x:=by rfl)(hv:Vis X.env.scope x:=by first |exact jE rfl |exact YF (jE rfl) |exact YF (YF rfl))(hd:(x == ("__debug__":Str))=false:=by decide)(hcd:(x == ("__classdict__":Str))=false:=by decide):QE X (.Name x pos) (zcT i):=⟨L2.pv i hN hv hd hcd⟩
end
section
theorem zbL{X:Cx}:QTs X [] zuP:=⟨L2.zq4 ⟩
end
section
theorem zel{X:Cx}{c:Expr}{t:TT}(h:QT X c t):QTs X [c] t:=⟨L2.zq3 h.un⟩
end
section
variable {X:Cx}{N:List Str}{scope:gX}{caps:List (Option Nat)}{tg elt iter:Expr}{ifs:List Expr}{wi:TI}{g:TG}{tt:TT}{te:TE}{pos:Pos}
theorem zdR(hc:X.calm=true)(hi:QI X tg iter wi)(hg:∀ cl C s0 H0 fp,QG (zas X N scope cl C s0 H0 fp) tg g)(hgk:zex caps g)(ht:∀ cl C s0 H0 fp,QTs (zas X N scope cl C s0 H0 fp) ifs tt)(he:∀ cl C s0 H0 fp,QE (zas X N scope cl C s0 H0 fp) elt te)(hcap:capOk N X.N scope X.env.scope caps=true:=by rfl)(hkind:scope.kind=.function:=by rfl)(hcell:scope.names.all (fun p=>p.2 != .cell)=true:=by rfl)(hnames:scope.names.all (fun p=>p.2 != .local||scope.names.lookup p.1 == some .local)=true:=by rfl)(hfr:scope.names.all (fun p=>p.2 != .free||(X.env.scope.names.lookup p.1 == some .cell||X.env.scope.names.lookup p.1 == some .free))=true:=by rfl)(hs:∀ x,Qy iter X.env x=pure x:=by intro _; rfl):QE X (.ListComp elt [⟨tg,iter,ifs,0⟩] scope pos) (tLC caps wi g tt te):=⟨L2.zv8 hc hi.un (fun cl C s0 H0 fp=>(hg cl C s0 H0 fp).un) hgk (fun cl C s0 H0 fp=>(ht cl C s0 H0 fp).un) (fun cl C s0 H0 fp=>(he cl C s0 H0 fp).un) hcap hkind hcell hnames hfr hs⟩
end
section
variable {X:Cx}{N:List Str}{scope:gX}{caps:List (Option Nat)}{tg elt iter:Expr}{ifs:List Expr}{wi:TI}{g:TG}{tt:TT}{te:TE}{pos:Pos}
theorem zfU{i:Nat}{y:Str}{py spos:Pos}(hN:X.N.Nodup)(hiy:X.N[i]?=some y)(hy:X.env.scope.names.lookup y=some .local)(hc:X.calm=true)(hi:QI X tg iter wi)(hg:∀ cl C s0 H0 fp,QG (zas X N scope cl C s0 H0 fp) tg g)(hgk:zex caps g)(ht:∀ cl C s0 H0 fp,QTs (zas X N scope cl C s0 H0 fp) ifs tt)(he:∀ cl C s0 H0 fp,QE (zas X N scope cl C s0 H0 fp) elt te)(hsw:ZV (.ListComp elt [⟨tg,iter,ifs,0⟩] scope pos) (some (.Name y py)) spos.line X.env=pure true:=by rfl)(hcap:capOk N X.N scope X.env.scope caps=true:=by rfl)(hkind:scope.kind=.function:=by rfl)(hcell:scope.names.all (fun p=>p.2 != .cell)=true:=by rfl)(hnames:scope.names.all (fun p=>p.2 != .local||scope.names.lookup p.1 == some .local)=true:=by rfl)(hfr:scope.names.all (fun p=>p.2 != .free||(X.env.scope.names.lookup p.1 == some .cell||X.env.scope.names.lookup p.1 == some .free))=true:=by rfl)(hs:∀ x,Qy iter X.env x=pure x:=by intro _; rfl):QS X (.Assign [.Name y py] (.ListComp elt [⟨tg,iter,ifs,0⟩] scope pos) spos) (ze8 (tLC caps wi g tt te) (zc8 i)):=⟨L2.znM hN hiy hy hc hi.un (fun cl C s0 H0 fp=>(hg cl C s0 H0 fp).un) hgk (fun cl C s0 H0 fp=>(ht cl C s0 H0 fp).un) (fun cl C s0 H0 fp=>(he cl C s0 H0 fp).un) hsw hcap hkind hcell hnames hfr hs⟩
end
section
variable {X:Cx}{K:j8}
theorem zkg{es:List Expr}{k:Nat}{t:TGs}{n:Nat}{pos:Pos}(hK:X.K=K)(hc:X.calm=true)(h:QGs X es t)(hn:(Qn es X.env).length=n:=by rfl)(hst:(Qn es X.env).findIdx? (·.1)=none:=by rfl):QG X (.Tuple es k pos) (zkw K n t):=⟨L2.zqc hK hc h.un hn hst⟩
end
section
variable {X:Cx}{pos:Pos}
theorem zja{es:List Expr}{k:Nat}{t:TGs}{n:Nat}(hc:X.calm=true)(h:QGs X es t)(hn:(Qn es X.env).length=n:=by rfl)(hst:(Qn es X.env).findIdx? (·.1)=none:=by rfl):QG X (.Tuple es k pos) (ztR X.K n t):=⟨L2.zsl hc h.un hn hst⟩
end
section
variable {X:Cx}{N:List Str}{scope:gX}{caps:List (Option Nat)}{tg kx vx iter:Expr}{ifs:List Expr}{wi:TI}{g:TG}{tt:TT}{tk tv:TE}{pos:Pos}
theorem zs8(hc:X.calm=true)(hi:QI X tg iter wi)(hg:∀ cl C s0 H0 fp,QG (zas X N scope cl C s0 H0 fp) tg g)(hgk:zex caps g)(ht:∀ cl C s0 H0 fp,QTs (zas X N scope cl C s0 H0 fp) ifs tt)(hk:∀ cl C s0 H0 fp,QE (zas X N scope cl C s0 H0 fp) kx tk)(he:∀ cl C s0 H0 fp,QE (zas X N scope cl C s0 H0 fp) vx tv)(hcap:capOk N X.N scope X.env.scope caps=true:=by rfl)(hkind:scope.kind=.function:=by rfl)(hcell:scope.names.all (fun p=>p.2 != .cell)=true:=by rfl)(hnames:scope.names.all (fun p=>p.2 != .local||scope.names.lookup p.1 == some .local)=true:=by rfl)(hfr:scope.names.all (fun p=>p.2 != .free||(X.env.scope.names.lookup p.1 == some .cell||X.env.scope.names.lookup p.1 == some .free))=true:=by rfl)(hs:∀ x,Qy iter X.env x=pure x:=by intro _; rfl):QE X (.DictComp kx vx [⟨tg,iter,ifs,0⟩] scope pos) (tDC caps wi g tt tk tv):=⟨L2.zv9 hc hi.un (fun cl C s0 H0 fp=>(hg cl C s0 H0 fp).un) hgk (fun cl C s0 H0 fp=>(ht cl C s0 H0 fp).un) (fun cl C s0 H0 fp=>(hk cl C s0 H0 fp).un) (fun cl C s0 H0 fp=>(he cl C s0 H0 fp).un) hcap hkind hcell hnames hfr hs⟩
end
section
variable {X:Cx}{N:List Str}{scope:gX}{caps:List (Option Nat)}{tg kx vx iter:Expr}{ifs:List Expr}{wi:TI}{g:TG}{tt:TT}{tk tv:TE}{pos:Pos}
theorem zlX{i:Nat}{y:Str}{py spos:Pos}(hN:X.N.Nodup)(hiy:X.N[i]?=some y)(hy:X.env.scope.names.lookup y=some .local)(hc:X.calm=true)(hi:QI X tg iter wi)(hg:∀ cl C s0 H0 fp,QG (zas X N scope cl C s0 H0 fp) tg g)(hgk:zex caps g)(ht:∀ cl C s0 H0 fp,QTs (zas X N scope cl C s0 H0 fp) ifs tt)(hk:∀ cl C s0 H0 fp,QE (zas X N scope cl C s0 H0 fp) kx tk)(he:∀ cl C s0 H0 fp,QE (zas X N scope cl C s0 H0 fp) vx tv)(hsw:ZV (.DictComp kx vx [⟨tg,iter,ifs,0⟩] scope pos) (some (.Name y py)) spos.line X.env=pure true:=by rfl)(hcap:capOk N X.N scope X.env.scope caps=true:=by rfl)(hkind:scope.kind=.function:=by rfl)(hcell:scope.names.all (fun p=>p.2 != .cell)=true:=by rfl)(hnames:scope.names.all (fun p=>p.2 != .local||scope.names.lookup p.1 == some .local)=true:=by rfl)(hfr:scope.names.all (fun p=>p.2 != .free||(X.env.scope.names.lookup p.1 == some .cell||X.env.scope.names.lookup p.1 == some .free))=true:=by rfl)(hs:∀ x,Qy iter X.env x=pure x:=by intro _; rfl):QS X (.Assign [.Name y py] (.DictComp kx vx [⟨tg,iter,ifs,0⟩] scope pos) spos) (ze8 (tDC caps wi g tt tk tv) (zc8 i)):=⟨L2.znN hN hiy hy hc hi.un (fun cl C s0 H0 fp=>(hg cl C s0 H0 fp).un) hgk (fun cl C s0 H0 fp=>(ht cl C s0 H0 fp).un) (fun cl C s0 H0 fp=>(hk cl C s0 H0 fp).un) (fun cl C s0 H0 fp=>(he cl C s0 H0 fp).un) hsw hcap hkind hcell hnames hfr hs⟩
end
section
variable [TheK]
variable {X:Cx}{M:List Nat}{e a b:Expr}{fa fb:DE}
theorem qne(h:QE X e (cE .n M fa)):QE X e (cE .e M fa):=⟨L3.ne h.un⟩
end
section
variable [TheK]
variable {X:Cx}{M:List Nat}{e a b:Expr}{fa fb:DE}
theorem qeb(h:QE X e (cE .e M fa)):QE X e (cE .b M fa):=⟨L3.eb h.un⟩
end
section
variable [TheK]
variable {X:Cx}{M:List Nat}{e a b:Expr}{fa fb:DE}
theorem qnb(h:QE X e (cE .n M fa)):QE X e (cE .b M fa):=⟨L3.nb h.un⟩
end
section
variable [TheK]
variable {X:Cx}{M:List Nat}{e a b:Expr}{fa fb:DE}
theorem qv_{i:Nat}(hi:M.contains i=false)(h:QE X e (zcT i)):QE X e (cE .e M (dV i)):=⟨L3.zvx hi h.un⟩
end
section
variable [TheK]
variable {X:Cx}{M:List Nat}{e a b:Expr}{fa fb:DE}
theorem zgS{i:Nat}(hi:M.contains i=true)(h:QE X e (zcT i)):QE X e (cE .b M (dV i)):=⟨L3.zvF hi h.un⟩
end
section
variable [TheK]
variable {X:Cx}{M:List Nat}{e a b:Expr}{fa fb:DE}
theorem qi_{i j pos}:QE X (.Constant (.int i) j pos) (cE .e M (dC (.int i))):=⟨L3.zvQ ⟩
end
section
variable [TheK]
variable {X:Cx}{M:List Nat}{e a b:Expr}{fa fb:DE}
theorem zff{i j pos}:QE X (.Constant (.bool i) j pos) (cE .e M (dC (.bl i))):=⟨L3.zxS ⟩
end
section
variable [TheK]
variable {X:Cx}{M:List Nat}{e a b:Expr}{fa fb:DE}
theorem zf3{i j pos}:QE X (.Constant (.str i) j pos) (cE .e M (dC (.str i))):=⟨L3.zvA ⟩
end
section
variable [TheK]
variable {X:Cx}{M:List Nat}{e a b:Expr}{fa fb:DE}
theorem zdo{j pos}:QE X (.Constant .none j pos) (cE .e M (dC .non)):=⟨L3.zvI ⟩
end
section
variable [TheK]
variable {X:Cx}
variable {M:List Nat}{a b:Expr}{fa fb:DE}{pos:Pos}
theorem zpZ{i:Nat}(hi:M.contains i=true)(ha:QE X a (zcT i))(hb:QE X b (cE .b M fb)):QE X (.BinOp a .Add b pos) (cE .n M (d2v zls i fb)):=⟨L3.ztl hi ha.un hb.un⟩
end
section
variable [TheK]
variable {X:Cx}
variable {M:List Nat}{a b:Expr}{fa fb:DE}{pos:Pos}
theorem zki(ha:QE X a (cE .e M fa))(hb:QE X b (cE .b M fb)):QE X (.BinOp a .Sub b pos) (cE .e M (d2 gSb fa fb)):=⟨L3.zvz ha.un hb.un⟩
end
section
variable [TheK]
variable {X:Cx}
variable {M:List Nat}{a b:Expr}{fa fb:DE}{pos:Pos}
theorem zaL(ha:QE X a (cE .e M fa))(hb:QE X b (cE .b M fb)):QE X (.BinOp a .Mult b pos) (cE .e M (d2 zdt fa fb)):=⟨L3.zvK ha.un hb.un⟩
end
section
variable [TheK]
variable {X:Cx}
variable {M:List Nat}{a b:Expr}{fa fb:DE}{pos:Pos}
theorem zfX(ha:QE X a (cE .e M fa))(hb:QE X b (cE .b M fb)):QE X (.BinOp a .FloorDiv b pos) (cE .e M (d2 zhE fa fb)):=⟨L3.zvS ha.un hb.un⟩
end
section
variable [TheK]
variable {X:Cx}
variable {M:List Nat}{a b:Expr}{fa fb:DE}{pos:Pos}
theorem zbB(ha:QE X a (cE .e M fa))(hb:QE X b (cE .b M fb)):QE X (.BinOp a .Mod b pos) (cE .e M (d2 ze9 fa fb)):=⟨L3.zvL ha.un hb.un⟩
end
section
variable [TheK]
variable {X:Cx}{M:List Nat}{a b:Expr}{fa fb:DE}{pos:Pos}
theorem zjc(hu:X.A.units+8 < ZH)(ha:QE X a (cE .e M fa))(hb:QE X b (cE .b M fb)):QE X (.Compare a [.Eq] [b] pos) (cE .e M (d2 gEq fa fb)):=⟨L3.zxQ hu ha.un hb.un⟩
end
section
variable [TheK]
variable {X:Cx}{M:List Nat}{a b:Expr}{fa fb:DE}{pos:Pos}
theorem zsb(hu:X.A.units+8 < ZH)(ha:QE X a (cE .e M fa))(hb:QE X b (cE .b M fb)):QE X (.Compare a [.NotEq] [b] pos) (cE .e M (d2 gNe fa fb)):=⟨L3.zxM hu ha.un hb.un⟩
end
section
variable [TheK]
variable {X:Cx}{M:List Nat}{a b c:Expr}{fa fb:DE}{ft fu:DT}{pos:Pos}{k:Kd}
theorem zcO(h:QE X a (cE .b M fa))(he:∀ whole,WV a X.env whole=(do let v <-whole; Jm a.pos; Y5 [v] (truthy v)):=by intro _; rfl):QT X a (cT M (zgm fa)):=⟨L3.zuI h.un he⟩
end
section
variable [TheK]
variable {X:Cx}{M:List Nat}{a b c:Expr}{fa fb:DE}{ft fu:DT}{pos:Pos}{k:Kd}
theorem zfS(hu:X.A.units+8 < ZH)(ha:QE X a (cE .e M fa))(hb:QE X b (cE .b M fb)):QT X (.Compare a [.Eq] [b] pos) (cT M (dB (d2 gEq fa fb))):=⟨L3.zxf hu ha.un hb.un⟩
end
section
variable [TheK]
variable {X:Cx}{M:List Nat}{a b c:Expr}{fa fb:DE}{ft fu:DT}{pos:Pos}{k:Kd}
theorem zhp(hu:X.A.units+8 < ZH)(ha:QE X a (cE .e M fa))(hb:QE X b (cE .b M fb)):QT X (.Compare a [.NotEq] [b] pos) (cT M (dB (d2 gNe fa fb))):=⟨L3.zxb hu ha.un hb.un⟩
end
section
variable [TheK]
variable {X:Cx}{M:List Nat}{a b c:Expr}{fa fb:DE}{ft fu:DT}{pos:Pos}{k:Kd}
theorem zpR(ha:QE X a (cE .e M fa))(hb:QE X b (cE .b M fb)):QT X (.Compare a [.Lt] [b] pos) (cT M (dB (d2 gLt fa fb))):=⟨L3.zxc ha.un hb.un⟩
end
section
variable [TheK]
variable {X:Cx}{M:List Nat}{a b c:Expr}{fa fb:DE}{ft fu:DT}{pos:Pos}{k:Kd}
theorem zj9(ha:QE X a (cE .e M fa))(hb:QE X b (cE .b M fb)):QT X (.Compare a [.Gt] [b] pos) (cT M (dB (d2 gGt fa fb))):=⟨L3.zxe ha.un hb.un⟩
end
section
variable [TheK]
variable {X:Cx}{M:List Nat}{a b c:Expr}{fa fb:DE}{ft fu:DT}{pos:Pos}{k:Kd}
theorem zs5(ha:QE X a (cE .e M fa))(hb:QE X b (cE .b M fb)):QT X (.Compare a [.Is] [b] pos) (cT M (dB (d2 gIs fa fb))):=⟨L3.zxd ha.un hb.un⟩
end
section
variable [TheK]
variable {X:Cx}{M:List Nat}{a b c:Expr}{fa fb:DE}{ft fu:DT}{pos:Pos}{k:Kd}
theorem zfr(ha:QE X a (cE .e M fa))(hb:QE X b (cE .b M fb)):QT X (.Compare a [.IsNot] [b] pos) (cT M (dB (d2 zbm fa fb))):=⟨L3.zpu ha.un hb.un⟩
end
section
variable [TheK]
variable {X:Cx}{M:List Nat}{a b c:Expr}{fa fb:DE}{ft fu:DT}{pos:Pos}{k:Kd}
theorem zgQ(h:QT X a (cT M ft)):QT X (.UnaryOp .Not a pos) (cT M (znl ft)):=⟨L3.zuJ h.un⟩
end
section
variable [TheK]
variable {X:Cx}{M:List Nat}{a b c:Expr}{fa fb:DE}{ft fu:DT}{pos:Pos}{k:Kd}
theorem zfR(h:QT X a (cT M ft)):QW X (.BoolOp .And [a] pos) (cT M ft):=⟨L3.zrd h.un⟩
end
section
variable [TheK]
variable {X:Cx}{M:List Nat}{a b c:Expr}{fa fb:DE}{ft fu:DT}{pos:Pos}{k:Kd}
theorem zkc(h:QT X a (cT M ft)):QW X (.BoolOp .Or [a] pos) (cT M ft):=⟨L3.zu2 h.un⟩
end
section
variable [TheK]
variable {X:Cx}{M:List Nat}{a b c:Expr}{fa fb:DE}{ft fu:DT}{pos:Pos}{k:Kd}
theorem zgP{rest:List Expr}(ha:QT X a (cT M ft))(hb:QW X (.BoolOp .And (b::rest) pos) (cT M fu)):QW X (.BoolOp .And (a::b::rest) pos) (cT M (ziL ft fu)):=⟨L3.zu3 ha.un hb.un⟩
end
section
variable [TheK]
variable {X:Cx}{M:List Nat}{a b c:Expr}{fa fb:DE}{ft fu:DT}{pos:Pos}{k:Kd}
theorem zl0{rest:List Expr}(ha:QT X a (cT M ft))(hb:QW X (.BoolOp .Or (b::rest) pos) (cT M fu)):QW X (.BoolOp .Or (a::b::rest) pos) (cT M (dOr ft fu)):=⟨L3.zwJ ha.un hb.un⟩
end
section
variable [TheK]
variable {X:Cx}{M:List Nat}{a b c:Expr}{fa fb:DE}{ft fu:DT}{pos:Pos}{k:Kd}
theorem zm1{op}(h:QE X a (cE .e M fa)):QE X (.BoolOp op [a] pos) (cE .e M fa):=⟨L3.zvH h.un⟩
end
section
variable [TheK]
variable {X:Cx}{M:List Nat}{a b c:Expr}{fa fb:DE}{ft fu:DT}{pos:Pos}{k:Kd}
theorem zm6{rest:List Expr}(ha:QE X a (cE .e M fa))(hb:QE X (.BoolOp .And (b::rest) pos) (cE .e M fb)):QE X (.BoolOp .And (a::b::rest) pos) (cE .e M (zjO fa fb)):=⟨L3.zvU ha.un hb.un⟩
end
section
variable [TheK]
variable {X:Cx}{M:List Nat}{a b c:Expr}{fa fb:DE}{ft fu:DT}{pos:Pos}{k:Kd}
theorem zsc(hc:QT X c (cT M ft))(ha:QE X a (cE .e M fa))(hb:QE X b (cE .e M fb)):QE X (.IfExp c a b pos) (cE .e M (dIf ft fa fb)):=⟨L3.zxP hc.un ha.un hb.un⟩
end
section
variable [TheK]
variable {X:Cx}{M:List Nat}{e:Expr}{es:List Expr}{fe:DE}{fa:DA}{pos:Pos}
theorem za2 :QA X [] (cA M dAn):=⟨L3.zw1 ⟩
end
section
variable [TheK]
variable {X:Cx}{M:List Nat}{e:Expr}{es:List Expr}{fe:DE}{fa:DA}{pos:Pos}
theorem qa_(h:QE X e (cE .e M fe))(ha:QA X es (cA M fa))(hs:jb (e::es) X.env=(false,eval e X.env)::jb es X.env:=by rfl):QA X (e::es) (cA M (dAc fe fa)):=⟨L3.ztD h.un ha.un hs⟩
end
section
variable [TheK]
variable {X:Cx}{M:List Nat}{e:Expr}{es:List Expr}{fe:DE}{fa:DA}{pos:Pos}
theorem zaS(h:QA X es (cA M fa)):QE X (.List es pos) (cE .n M (zdO fa)):=⟨L3.zvM h.un⟩
end
section
variable [TheK]
variable {X:Cx}{M:List Nat}{e:Expr}{es:List Expr}{fe:DE}{fa:DA}{pos:Pos}
theorem zf2{x1}(h:QA X es (cA M fa)):QE X (.Tuple es x1 pos) (cE .e M (zlu fa)):=⟨L3.zvy h.un⟩
end
section
variable [TheK]
variable {X:Cx}{M:List Nat}{e:Expr}{es:List Expr}{fe:DE}{fa:DA}{pos:Pos}
theorem zjd :QE X (.Dict [] [] pos) (cE .n M zln):=⟨L3.ztk ⟩
end
section
variable [TheK]
variable {X:Cx}{M:List Nat}{e:Expr}{lo hi:Option Expr}{fe:DE}{fl fh:DO}{pos p2:Pos}
theorem zdn :QO X none (cO M dOn):=⟨L3.zsI ⟩
end
section
variable [TheK]
variable {X:Cx}{M:List Nat}{e:Expr}{lo hi:Option Expr}{fe:DE}{fl fh:DO}{pos p2:Pos}
theorem zcm(h:QE X e (cE .e M fe)):QO X (some e) (cO M (dOs fe)):=⟨L3.zsH h.un⟩
end
section
variable [TheK]
variable {X:Cx}{M:List Nat}{e:Expr}{lo hi:Option Expr}{fe:DE}{fl fh:DO}{pos p2:Pos}
theorem zlZ{i:Nat}(hK:X.K=TheK.K)(hi':M.contains i=true)(he:QE X e (zcT i))(hl:QO X lo (cO M fl))(hu:QO X hi (cO M fh)):QE X (.Subscript e (.Slice lo hi none p2) pos) (cE .n M (zp7 gSl i fl fh)):=⟨L3.zvB hK hi' he.un hl.un hu.un⟩
end
section
variable [TheK]
variable {F:Fr}{O O' O'':Addr->Prop}{io M M' Mb:List Nat}{s s':Sg}{σ:L2.St}{H H' H'':Hp}{v:V}{t:T}{a:Addr}{rk:Kd}
theorem zkf{X:Cx}{st:Stmt}{d:DS}{Mx:List Nat}(h:QS X st (cS rk io M' Mx Mb d))(hM:M'.all (M.contains ·)=true:=by rfl)(hio:io.all (M'.contains ·)=true:=by rfl):QS X st (cS rk io M Mx Mb d):=⟨L3.zuU h.un hM hio⟩
end
section
variable [TheK]
variable {F:Fr}{O O' O'':Addr->Prop}{io M M' Mb:List Nat}{s s':Sg}{σ:L2.St}{H H' H'':Hp}{v:V}{t:T}{a:Addr}{rk:Kd}
theorem zkd{X:Cx}{st:List Stmt}{d:DS}{Mx:List Nat}(h:QSs X st (cS rk io M M' Mb d))(hM:Mx.all (M'.contains ·)=true:=by rfl)(hio:io.all (Mx.contains ·)=true:=by rfl):QSs X st (cS rk io M Mx Mb d):=⟨L3.zpy h.un hM hio⟩
end
section
variable [TheK]
variable {X:Cx}{rk:Kd}{io M M' M'' Mb:List Nat}{st:Stmt}{sts:List Stmt}{e c:Expr}{a b:List Stmt}{d d':DS}{fe:DE}{ft:DT}{pos pos':Pos}
theorem zau :QSs X [] (cS rk io M M Mb zaD):=⟨L3.zrJ ⟩
end
section
variable [TheK]
variable {X:Cx}{rk:Kd}{io M M' M'' Mb:List Nat}{st:Stmt}{sts:List Stmt}{e c:Expr}{a b:List Stmt}{d d':DS}{fe:DE}{ft:DT}{pos pos':Pos}
theorem za3(h:QS X st (cS rk io M M' Mb d)):QSs X [st] (cS rk io M M' Mb d):=⟨L3.zrI h.un⟩
end
section
variable [TheK]
variable {X:Cx}{rk:Kd}{io M M' M'' Mb:List Nat}{st:Stmt}{sts:List Stmt}{e c:Expr}{a b:List Stmt}{d d':DS}{fe:DE}{ft:DT}{pos pos':Pos}
theorem qs_(h:QS X st (cS rk io M M' Mb d))(h2:QSs X sts (cS rk io M' M'' Mb d')):QSs X (st::sts) (cS rk io M M'' Mb (zao d d')):=⟨L3.zpz h.un h2.un⟩
end
section
variable [TheK]
variable {X:Cx}{rk:Kd}{io M M' M'' Mb:List Nat}{st:Stmt}{sts:List Stmt}{e c:Expr}{a b:List Stmt}{d d':DS}{fe:DE}{ft:DT}{pos pos':Pos}
theorem zbF(hc:QT X c (cT M ft))(ha:QSs X a (cS rk io M M' Mb d))(hb:QSs X b (cS rk io M M' Mb d')):QS X (.If c a b pos) (cS rk io M M' Mb (zcb ft d d')):=⟨L3.zxv hc.un ha.un hb.un⟩
end
section
variable [TheK]
variable {X:Cx}{rk:Kd}{io M M' M'' Mb:List Nat}{st:Stmt}{sts:List Stmt}{e c:Expr}{a b:List Stmt}{d d':DS}{fe:DE}{ft:DT}{pos pos':Pos}
theorem zad{i:Nat}(h:QS X st (ze8 (cE .e M fe) (zc8 i)))(hM:zpF M M' io i=true:=by rfl):QS X st (cS rk io M M' Mb (zay i fe)):=⟨L3.zrT h.un hM⟩
end
section
variable [TheK]
variable {X:Cx}{rk:Kd}{io M M' M'' Mb:List Nat}{st:Stmt}{sts:List Stmt}{e c:Expr}{a b:List Stmt}{d d':DS}{fe:DE}{ft:DT}{pos pos':Pos}
theorem zaN{i:Nat}(h:QS X st (ze8 (cE .n M fe) (zc8 i)))(hM:zpE M M' io i=true:=by rfl):QS X st (cS rk io M M' Mb (zay i fe)):=⟨L3.zrR h.un hM⟩
end
section
variable [TheK]
variable {X:Cx}{rk:Kd}{io M M' M'' Mb:List Nat}{st:Stmt}{sts:List Stmt}{e c:Expr}{a b:List Stmt}{d d':DS}{fe:DE}{ft:DT}{pos pos':Pos}
theorem zgA{k:Kd}(hk:k=.e∨k=.b)(he:QE X e (cE k M fe))(hs:ZV e none pos.line X.env=pure false:=by rfl):QS X (.Expr e pos) (cS rk io M M Mb (dDo fe)):=⟨L3.zxw hk he.un hs⟩
end
section
variable [TheK]
variable {X:Cx}{rk:Kd}{io M M' M'' Mb:List Nat}{st:Stmt}{sts:List Stmt}{e c:Expr}{a b:List Stmt}{d d':DS}{fe:DE}{ft:DT}{pos pos':Pos}
theorem za9(he:QE X e (cE .e M fe)):QS X (.Return (some e) pos) (cS .e io M M' Mb (zai io fe)):=⟨L3.zrW he.un⟩
end
section
variable [TheK]
variable {X:Cx}{rk:Kd}{io M M' M'' Mb:List Nat}{st:Stmt}{sts:List Stmt}{e c:Expr}{a b:List Stmt}{d d':DS}{fe:DE}{ft:DT}{pos pos':Pos}
theorem zpT(he:QE X e (cE .n M fe)):QS X (.Return (some e) pos) (cS .n io M M' Mb (zai io fe)):=⟨L3.zrV he.un⟩
end
section
variable [TheK]
variable {X:Cx}{rk:Kd}{io M M' M'' Mb:List Nat}{st:Stmt}{sts:List Stmt}{e c:Expr}{a b:List Stmt}{d d':DS}{fe:DE}{ft:DT}{pos pos':Pos}
theorem zpS{i:Nat}(hi:M.contains i=true)(hn:io.contains i=false)(he:QE X e (zcT i)):QS X (.Return (some e) pos) (cS .n io M M' Mb (zai io (dV i))):=⟨L3.zrU hi hn he.un⟩
end
section
variable [TheK]
variable {X:Cx}{rk:Kd}{io M M' Mb:List Nat}{st:Stmt}{fk fv:DE}
theorem zke{i:Nat}(hi:M.contains i=true)(h:QS X st (znv (zcT i) (cE .e M fk) (cE .e M fv))):QS X st (cS rk io M M Mb (zp8 i fk fv)):=⟨L3.zuT hi h.un⟩
end
section
variable [TheK]
variable {X:Cx}{rk:Kd}{io M M' Mb:List Nat}{st:Stmt}{fk fv:DE}
theorem zfT{i:Nat}(hi:M.contains i=true)(h:QS X st (ze8 (cE .e M fv) (ztS (zcT i) (cE .e M fk) zpQ))):QS X st (cS rk io M M Mb (zfn i fk fv)):=⟨L3.zrS hi h.un⟩
end
section
variable [TheK]
variable {X:Cx}{rk:Kd}{io M M' Mb:List Nat}{st:Stmt}{fk fv:DE}
theorem zs7{i:Nat}{fe:DE}(hi:M.contains i=false)(h:QS X st (ztO i (cE .e M fe) (ipI fun i j=>i+j)))(hio:io.all (M.contains ·)=true:=by rfl):QS X st (cS rk io M M Mb (zts i fe)):=⟨L3.zuZ hi h.un hio⟩
end
section
variable [TheK]
variable {X:Cx}{rk:Kd}{io M M' Mb:List Nat}{st:Stmt}{fk fv:DE}
theorem zlW{is:List Nat}{n:Nat}{K:j8}{fe:DE}(h:QS X st (ze8 (cE .e M fe) (fun v σ H Q=>ztR K n (gsN is) v σ H Q∨zkw K n (gsN is) v σ H Q)))(hn:is.length=n)(hm:is.all (fun i=>!M.contains i)=true)(hio:io.all (M.contains ·)=true):QS X st (cS rk io M M Mb (dUn is fe)):=⟨L3.zuS h.un hn hm hio⟩
end
section
variable [TheK]
variable {X:Cx}{M:List Nat}{tg e:Expr}{fe:DE}{fa:DA}
theorem zbP{a:Expr}{p pos:Pos}(hg:Gl X "range")(hm:X.mg "range"=none)(ha:QA X [a] (cA M fa))(hs:jb [a] X.env=[(false,eval a X.env)]:=by rfl):QI X tg (.Call (.Name "range" p) [a] [] pos) (cI M (zhV fa)):=⟨L3.zo3 hg hm ha.un hs⟩
end
section
variable [TheK]
variable {X:Cx}{M:List Nat}{tg e:Expr}{fe:DE}{fa:DA}
theorem zpX{elts:List Expr}{x1:Nat}{tp:Pos}{a:Expr}{p pos:Pos}(hg:Gl X "enumerate")(hm:X.mg "enumerate"=none)(ha:QA X [a] (cA M fa))(hs:jb [a] X.env=[(false,eval a X.env)]:=by rfl):QI X (.Tuple elts x1 tp) (.Call (.Name "enumerate" p) [a] [] pos) (cI M (dEn fa)):=⟨L3.zt3 hg hm ha.un hs⟩
end
section
variable [TheK]
variable {X:Cx}{rk:Kd}{io M M' Mb:List Nat}{tg iter:Expr}{body:List Stmt}{fi:DI}{g:DG}{db:DS}{pos:Pos}
theorem zbG{i:Nat}(h:QG X tg (zc8 i))(hi:M.contains i=false:=by rfl)(hio:io.all (M.contains ·)=true:=by rfl):QG X tg (cG io M (dGn i)):=⟨L3.zt6 h.un hi hio⟩
end
section
variable [TheK]
variable {X:Cx}{rk:Kd}{io M M' Mb:List Nat}{tg iter:Expr}{body:List Stmt}{fi:DI}{g:DG}{db:DS}{pos:Pos}
theorem zoL{is:List Nat}{n:Nat}{K:j8}(h:QG X tg (zkw K n (gsN is)))(hn:is.length=n:=by rfl)(hm:is.all (fun i=>!M.contains i)=true:=by rfl)(hio:io.all (M.contains ·)=true:=by rfl):QG X tg (cG io M (dGt is)):=⟨L3.zvu h.un hn hm hio⟩
end
section
variable [TheK]
variable {X:Cx}{rk:Kd}{io M M' Mb:List Nat}{tg iter:Expr}{body:List Stmt}{fi:DI}{g:DG}{db:DS}{pos:Pos}
theorem zcl(h:QS X (.For tg iter body [] pos) (zrD (cI M fi) (cG io M g) (cS rk io M M M db))):QS X (.For tg iter body [] pos) (cS rk io M M Mb (zf9 fi g db)):=⟨L3.zuX h.un⟩
end
section
variable [TheK]
variable {X:Cx}{rk:Kd}{io M M' Mb:List Nat}{tg iter:Expr}{body:List Stmt}{fi:DI}{g:DG}{db:DS}{pos:Pos}
theorem zek{c:Expr}{ft:DT}(n:Nat)(hp:W0 (jM X.prog X.w) X.A X.env X.xe)(hc:QT X c (cT M ft))(hb:QSs X body (cS rk io M M M db)):QS X (.While c body [] pos) (cS rk io M M Mb (zbN ft db n)):=⟨L3.zpH n hp hc.un hb.un⟩
end
section
variable [TheK]
variable {X:Cx}{M:List Nat}{a b c e:Expr}{fa fb fe:DE}{pos p:Pos}
theorem zaf(hK:X.K=TheK.K)(hu:X.A.units+1 < ZH)(ha:QE X a (cE .e M fa))(hb:QE X b (cE .b M fb))(hs:ze6 b):QE X (.Subscript a b pos) (cE .e M (d2 za4 fa fb)):=⟨L3.zti hK hu ha.un hb.un hs⟩
end
section
variable [TheK]
variable {X:Cx}{M:List Nat}{a b c e:Expr}{fa fb fe:DE}{pos p:Pos}
theorem zaO{i:Nat}(hK:X.K=TheK.K)(hi:M.contains i=true)(hu:X.A.units+1 < ZH)(ha:QE X a (zcT i))(hb:QE X b (cE .b M fb))(hs:ze6 b):QE X (.Subscript a b pos) (cE .e M (d2v za4 i fb)):=⟨L3.zqL hK hi hu ha.un hb.un hs⟩
end
section
variable [TheK]
variable {X:Cx}{M:List Nat}{a b c e:Expr}{fa fb fe:DE}{pos p:Pos}
theorem zm2(hu:X.A.units+1 < ZH)(ha:QE X a (cE .e M fa))(hb:QE X b (cE .b M fb))(hm:Qi .NotIn b=false):QE X (.Compare a [.NotIn] [b] pos) (cE .e M (d2 zbH fa fb)):=⟨L3.zoe hu ha.un hb.un hm⟩
end
section
variable [TheK]
variable {X:Cx}{M:List Nat}{a b c e:Expr}{fa fb fe:DE}{pos p:Pos}
theorem zij(hu:X.A.units+1 < ZH)(ha:QE X a (cE .e M fa))(hb:QE X b (cE .b M fb))(hm:Qi .NotIn b=false):QT X (.Compare a [.NotIn] [b] pos) (cT M (dB (d2 zbH fa fb))):=⟨L3.znq hu ha.un hb.un hm⟩
end
section
variable [TheK]
variable {X:Cx}{M:List Nat}{a b c e:Expr}{fa fb fe:DE}{pos p:Pos}
theorem zap(ha:QE X a (cE .e M fa))(hb:QE X b (cE .b M fb)):QE X (.BinOp a .Add b pos) (cE .e M (d2 zav fa fb)):=⟨L3.ztg ha.un hb.un⟩
end
section
variable [TheK]
variable {X:Cx}{M:List Nat}{a b c e:Expr}{fa fb fe:DE}{pos p:Pos}
theorem zgR{lo hi:Option Expr}{fl fh:DO}{p2:Pos}(hK:X.K=TheK.K)(he:QE X e (cE .e M fe))(hl:QO X lo (cO M fl))(hu:QO X hi (cO M fh)):QE X (.Subscript e (.Slice lo hi none p2) pos) (cE .e M (dSl zkx fe fl fh)):=⟨L3.zvD hK he.un hl.un hu.un⟩
end
section
variable [TheK]
variable {X:Cx}{M:List Nat}{a b c e:Expr}{fa fb fe:DE}{pos p:Pos}
theorem zbq{tg:Expr}(hK:X.K=TheK.K)(h:QE X e (cE .e M fe)):QI X tg e (cI M (zdc fe)):=⟨L3.zvo hK h.un⟩
end
section
variable [TheK]
variable {X:Cx}{M:List Nat}{a b c e:Expr}{fa fb fe:DE}{pos p:Pos}
variable {es:List Expr}{fs:DA}{x:Str}{k:Nat}{f:Addr}{fd:Q9}{ps:List Str}{np:Nat}
theorem zq0{fn:List T->Option T}(F:FnOk X.prog X.w X.K X.mg X.base CX0 k f fd ps (spP .e np fn))(hr:Room k X.A)(hg:Gl X x)(hm:X.mg x=some (.ref f))(hk:jX X.K (.ref f)=true)(hb:Binds X.K fd ps [])(ha:QA X (e::es) (cA M fs))(ar:Ar fs np)(hdb:(x == ("__debug__":Str))=false:=by decide)(he:jb (e::es) X.env=(false,eval e X.env)::jb es X.env:=by rfl)(hpl:(QB pos (jb es X.env)).any (·.1)=false:=by rfl):QE X (.Call (.Name x p) (e::es) [] pos) (cE .e M (zar fn fs)):=⟨L3.ztm F hr hg hm hk hb ha.un ar hdb he hpl⟩
end
section
variable [TheK]
variable {X:Cx}{M:List Nat}{a b c e:Expr}{fa fb fe:DE}{pos p:Pos}
variable {es:List Expr}{fs:DA}{x:Str}{k:Nat}{f:Addr}{fd:Q9}{ps:List Str}{np:Nat}
theorem znI{fn:List T->Option T}(F:FnOk X.prog X.w X.K X.mg X.base CX0 k f fd ps (spP .n np fn))(hr:Room k X.A)(hg:Gl X x)(hm:X.mg x=some (.ref f))(hk:jX X.K (.ref f)=true)(hb:Binds X.K fd ps [])(ha:QA X (e::es) (cA M fs))(ar:Ar fs np)(hdb:(x == ("__debug__":Str))=false:=by decide)(he:jb (e::es) X.env=(false,eval e X.env)::jb es X.env:=by rfl)(hpl:(QB pos (jb es X.env)).any (·.1)=false:=by rfl):QE X (.Call (.Name x p) (e::es) [] pos) (cE .n M (zar fn fs)):=⟨L3.zqO F hr hg hm hk hb ha.un ar hdb he hpl⟩
end
section
variable [TheK]
variable {X:Cx}{M:List Nat}{a b c e:Expr}{fa fb fe:DE}{pos p:Pos}
variable {es:List Expr}{fs:DA}{x:Str}{k:Nat}{f:Addr}{fd:Q9}{ps:List Str}{np:Nat}
theorem znJ{fn:List T->Option (T × T)}{i:Nat}(hi:M.contains i=true)(F:FnOk X.prog X.w X.K X.mg X.base CX0 k f fd ps (spI .e (np+1) fn))(hr:Room k X.A)(hg:Gl X x)(hm:X.mg x=some (.ref f))(hk:jX X.K (.ref f)=true)(hb:Binds X.K fd ps [])(h0:QE X e (zcT i))(ha:QA X es (cA M fs))(ar:Ar fs np)(hdb:(x == ("__debug__":Str))=false:=by decide)(he:jb (e::es) X.env=(false,eval e X.env)::jb es X.env:=by rfl)(hpl:(QB pos (jb es X.env)).any (·.1)=false:=by rfl):QE X (.Call (.Name x p) (e::es) [] pos) (cE .e M (zal fn i fs)):=⟨L3.zqP hi F hr hg hm hk hb h0.un ha.un ar hdb he hpl⟩
end
section
variable [TheK]
variable {X:Cx}{M:List Nat}{a b c e:Expr}{fa fb fe:DE}{pos p:Pos}
variable {es:List Expr}{fs:DA}{x:Str}{k:Nat}{f:Addr}{fd:Q9}{ps:List Str}{np:Nat}
theorem znH{fn:List T->Option (T × T)}{rk:Kd}(hrk:rk=.e∨rk=.n)(F:FnOk X.prog X.w X.K X.mg X.base CX0 k f fd ps (spI rk (np+1) fn))(hr:Room k X.A)(hg:Gl X x)(hm:X.mg x=some (.ref f))(hk:jX X.K (.ref f)=true)(hb:Binds X.K fd ps [])(h0:QE X e (cE .n M fe))(ha:QA X es (cA M fs))(ar:Ar fs np)(hdb:(x == ("__debug__":Str))=false:=by decide)(he:jb (e::es) X.env=(false,eval e X.env)::jb es X.env:=by rfl)(hpl:(QB pos (jb es X.env)).any (·.1)=false:=by rfl):QE X (.Call (.Name x p) (e::es) [] pos) (cE rk M (zgo fn fe fs)):=⟨L3.zqN hrk F hr hg hm hk hb h0.un ha.un ar hdb he hpl⟩
end
section
variable [TheK]
variable {X:Cx}{M:List Nat}{a b c e:Expr}{fa fb fe:DE}{pos p:Pos}
variable {es:List Expr}{fs:DA}{x:Str}{k:Nat}{f:Addr}{fd:Q9}{ps:List Str}{np:Nat}
theorem zbr(hK:X.K=TheK.K)(hg:Gl X "len")(hm:X.mg "len"=none)(h:QE X e (cE .b M fe))(he:jb [e] X.env=(false,eval e X.env)::jb [] X.env:=by rfl)(hpl:(QB pos (jb [] X.env)).any (·.1)=false:=by rfl):QE X (.Call (.Name "len" p) [e] [] pos) (cE .e M (d1 zcF fe)):=⟨L3.zvN hK hg hm h.un he hpl⟩
end
section
variable [TheK]
variable {X:Cx}{M:List Nat}{a b c e:Expr}{fa fb fe:DE}{pos p:Pos}
variable {es:List Expr}{fs:DA}{x:Str}{k:Nat}{f:Addr}{fd:Q9}{ps:List Str}{np:Nat}
theorem znF(hg:Gl X "int")(hm:X.mg "int"=none)(h:QE X e (cE .b M fe))(he:jb [e] X.env=(false,eval e X.env)::jb [] X.env:=by rfl)(hpl:(QB pos (jb [] X.env)).any (·.1)=false:=by rfl):QE X (.Call (.Name "int" p) [e] [] pos) (cE .e M (d1 zt7 fe)):=⟨L3.zqI hg hm h.un he hpl⟩
end
section
variable [TheK]
variable {X:Cx}{M:List Nat}{a b c e:Expr}{fa fb fe:DE}{pos p:Pos}
variable {es:List Expr}{fs:DA}{x:Str}{k:Nat}{f:Addr}{fd:Q9}{ps:List Str}{np:Nat}
theorem zgU{cn:String}{ce:Expr}(hc:zsG cn=true)(hg:Gl X "isinstance")(hm:X.mg "isinstance"=none)(h:QE X e (cE .b M fe))(h2:QE X ce (tC (.ty cn)))(he:jb [e,ce] X.env=(false,eval e X.env)::jb [ce] X.env:=by rfl)(he2:jb [ce] X.env=(false,eval ce X.env)::jb [] X.env:=by rfl)(hpl:(QB pos (jb [ce] X.env)).any (·.1)=false:=by rfl):QE X (.Call (.Name "isinstance" p) [e,ce] [] pos) (cE .e M (zlv cn fe)):=⟨L3.zvP hc hg hm h.un h2.un he he2 hpl⟩
end
section
variable [TheK]
variable {X:Cx}{M:List Nat}{a b c e:Expr}{fa fb fe:DE}{pos p:Pos}
variable {es:List Expr}{fs:DA}{x:Str}{k:Nat}{f:Addr}{fd:Q9}{ps:List Str}{np:Nat}
theorem zcn{i:Nat}{o:Expr}{apos:Pos}(hi:M.contains i=true)(h:QE X (.Call (.Attribute o "append" apos) (e::es) [] pos) (tBM X.K "list" zho (zcT i) (cA M fs))):QE X (.Call (.Attribute o "append" apos) (e::es) [] pos) (cE .e M (zgn zgZ i fs)):=⟨L3.zok hi h.un⟩
end
section
variable [TheK]
variable {X:Cx}{M:List Nat}{a b c e:Expr}{fa fb fe:DE}{pos p:Pos}
variable {es:List Expr}{fs:DA}{x:Str}{k:Nat}{f:Addr}{fd:Q9}{ps:List Str}{np:Nat}
theorem zm4{i:Nat}{o:Expr}{apos:Pos}(hi:M.contains i=true)(h:QE X (.Call (.Attribute o "extend" apos) (e::es) [] pos) (tBM X.K "list" zhm (zcT i) (cA M fs))):QE X (.Call (.Attribute o "extend" apos) (e::es) [] pos) (cE .e M (zgn zqn i fs)):=⟨L3.zog hi h.un⟩
end
section
variable [TheK]
variable {X:Cx}{M:List Nat}{a b c e:Expr}{fa fb fe:DE}{pos p:Pos}
variable {es:List Expr}{fs:DA}{x:Str}{k:Nat}{f:Addr}{fd:Q9}{ps:List Str}{np:Nat}
theorem zm0{i:Nat}{o:Expr}{apos:Pos}(hi:M.contains i=true)(h:QE X (.Call (.Attribute o "pop" apos) [] [] pos) (zrF X.K "list" ztP (zcT i))):QE X (.Call (.Attribute o "pop" apos) [] [] pos) (cE .e M (zgn znX i dAn)):=⟨L3.zvG hi h.un⟩
end
section
variable [TheK]
variable {X:Cx}{M:List Nat}{a b c e:Expr}{fa fb fe:DE}{pos p:Pos}
variable {es:List Expr}{fs:DA}{x:Str}{k:Nat}{f:Addr}{fd:Q9}{ps:List Str}{np:Nat}
theorem znG{o:Expr}{apos:Pos}(h:QE X (.Call (.Attribute o "count" apos) [e] [] pos) (tBM X.K "list" zhn (cE .e M fa) (zde (cE .b M fe) zlJ))):QE X (.Call (.Attribute o "count" apos) [e] [] pos) (cE .e M (d2L zgd fa fe)):=⟨L3.zqM h.un⟩
end
section
variable [TheK]
variable {X:Cx}{M:List Nat}{a b c e:Expr}{fa fb fe:DE}{pos p:Pos}
variable {es:List Expr}{fs:DA}{x:Str}{k:Nat}{f:Addr}{fd:Q9}{ps:List Str}{np:Nat}
theorem zpY{o:Expr}{apos:Pos}(h:QE X (.Call (.Attribute o "join" apos) [e] [] pos) (tBM X.K "str" (znB X.K) (cE .e M fa) (zde (cE .b M fe) zlJ))):QE X (.Call (.Attribute o "join" apos) [e] [] pos) (cE .e M (zlm fa fe)):=⟨L3.zth h.un⟩
end
section
variable [TheK]
variable {X:Cx}{M:List Nat}{a b c e:Expr}{fa fb fe:DE}{pos p:Pos}
variable {es:List Expr}{fs:DA}{x:Str}{k:Nat}{f:Addr}{fd:Q9}{ps:List Str}{np:Nat}
theorem zgB{Mi:List Nat}{caps:List (Option Nat)}{fi:DI}{g:TG}{dg:DG}{ft:DT}{tt:TT}(c:znm caps M Mi=true)(hg:zlx g dg Mi caps)(htt:∀ σ H Q,cT Mi ft σ H Q->tt σ H Q)(h:QE X e (tLC caps (cI M fi) g tt (cE .e Mi fe))):QE X e (cE .n M (dLC M caps fi dg ft fe)):=⟨L3.zxN c hg htt h.un⟩
end
section
variable [TheK]
variable {X:Cx}{M:List Nat}{a b c e:Expr}{fa fb fe:DE}{pos p:Pos}
variable {es:List Expr}{fs:DA}{x:Str}{k:Nat}{f:Addr}{fd:Q9}{ps:List Str}{np:Nat}
theorem zpU{st:Stmt}{Mi:List Nat}{caps:List (Option Nat)}{fi:DI}{g:TG}{g2:TG}{dg:DG}{ft:DT}{tt:TT}(c:znm caps M Mi=true)(hg:zlx g dg Mi caps)(htt:∀ σ H Q,cT Mi ft σ H Q->tt σ H Q)(h:QS X st (ze8 (tLC caps (cI M fi) g tt (cE .e Mi fe)) g2)):QS X st (ze8 (cE .n M (dLC M caps fi dg ft fe)) g2):=⟨L3.zxs c hg htt h.un⟩
end
section
variable [TheK]
variable {X:Cx}{M:List Nat}{a b c e:Expr}{fa fb fe:DE}{pos p:Pos}
variable {es:List Expr}{fs:DA}{x:Str}{k:Nat}{f:Addr}{fd:Q9}{ps:List Str}{np:Nat}
theorem zs6{st:Stmt}{g2:TG}{ff:DE}(h:QS X st (ze8 (cE .n M ff) g2)):QS X st (ze8 (cE .e M ff) g2):=⟨L3.zxr h.un⟩
end
section
variable [TheK]
variable {X:Cx}{M:List Nat}{a b c e:Expr}{fa fb fe:DE}{pos p:Pos}
variable {es:List Expr}{fs:DA}{x:Str}{k:Nat}{f:Addr}{fd:Q9}{ps:List Str}{np:Nat}
theorem zpW{tg:Expr}{t t':TG}(h:QG X tg t)(h':QG X tg t'):QG X tg (fun v σ H Q=>t v σ H Q∨t' v σ H Q):=⟨L3.zxD h.un h'.un⟩
end
section
variable [TheK]
variable {X:Cx}{M:List Nat}{a b c e:Expr}{fa fb fc fe fk:DE}{pos p:Pos}
theorem zv4{Mi:List Nat}{caps:List (Option Nat)}{fi:DI}{g:TG}{dg:DG}{ft:DT}{tt:TT}(c:znm caps M Mi=true)(hg:zlx g dg Mi caps)(htt:∀ σ H Q,cT Mi ft σ H Q->tt σ H Q)(h:QE X e (tDC caps (cI M fi) g tt (cE .e Mi fk) (cE .e Mi fe))):QE X e (cE .n M (dDC M caps fi dg ft fk fe)):=⟨L3.zxR c hg htt h.un⟩
end
section
variable [TheK]
variable {X:Cx}{M:List Nat}{a b c e:Expr}{fa fb fc fe fk:DE}{pos p:Pos}
theorem zv3{st:Stmt}{Mi:List Nat}{caps:List (Option Nat)}{fi:DI}{g:TG}{g2:TG}{dg:DG}{ft:DT}{tt:TT}(c:znm caps M Mi=true)(hg:zlx g dg Mi caps)(htt:∀ σ H Q,cT Mi ft σ H Q->tt σ H Q)(h:QS X st (ze8 (tDC caps (cI M fi) g tt (cE .e Mi fk) (cE .e Mi fe)) g2)):QS X st (ze8 (cE .n M (dDC M caps fi dg ft fk fe)) g2):=⟨L3.zxx c hg htt h.un⟩
end
section
variable [TheK]
variable {X:Cx}{M:List Nat}{a b c e:Expr}{fa fb fc fe fk:DE}{pos p:Pos}
theorem zhq(hK:X.K=TheK.K)(hc:X.calm=true)(hg:Gl X "list")(hm:X.mg "list"=none)(h:QE X e (cE .b M fe))(he:jb [e] X.env=(false,eval e X.env)::jb [] X.env:=by rfl)(hpl:(QB pos (jb [] X.env)).any (·.1)=false:=by rfl):QE X (.Call (.Name "list" p) [e] [] pos) (cE .n M (d1 zdT fe)):=⟨L3.zqK hK hc hg hm h.un he hpl⟩
end
section
variable [TheK]
variable {X:Cx}{M:List Nat}{a b c e:Expr}{fa fb fc fe fk:DE}{pos p:Pos}
theorem zgT(h:QE X a (cE .b M fa)):QE X (.UnaryOp .USub a pos) (cE .e M (d1 zlf fa)):=⟨L3.zvJ h.un⟩
end
section
variable [TheK]
variable {X:Cx}{M:List Nat}{e st:Expr}{fe:DE}{fk:DO}{pos p2:Pos}
theorem zsa(hK:X.K=TheK.K)(he:QE X e (cE .e M fe))(hs:QO X (some st) (cO M fk)):QE X (.Subscript e (.Slice none none (some st) p2) pos) (cE .n M (ztU fe fk)):=⟨L3.zvE hK he.un hs.un⟩
end
section
variable [TheK]
theorem znD{X:Cx}{st:Stmt}{d:DS}{rk:Kd}{io M M' Mx Mb:List Nat}{i:Nat}(h:QS X st (cS rk io M' Mx Mb d))(hi:M.contains i=true:=by rfl)(hM:M'.all (fun j=>M.contains j&&j != i)=true:=by rfl)(hM2:M.all (fun j=>M'.contains j||j == i)=true:=by rfl)(hio:io.all (M'.contains ·)=true:=by rfl):QS X st (cS rk io M Mx Mb (zp9 i d)):=⟨L3.zxt h.un hi hM hM2 hio⟩
end
section
variable [TheK]
theorem znC{X:Cx}{st:Stmt}{rk:Kd}{io M M' Mb:List Nat}:QS X st (cS rk io M M' Mb zn4):=⟨L3.zpI ⟩
end
section
variable [TheK]
variable {X:Cx}{M:List Nat}{e1 e2:Expr}{es:List Expr}{f0:DE}{fs:DA}{p pos:Pos}{k np:Nat}{f:Addr}{fd:Q9}{ps:List Str}{x:Str}
theorem zm5{fn:List T->Option T}{i:Nat}(hi:M.contains i=true)(F:FnOk X.prog X.w X.K X.mg X.base CX0 k f fd ps (spP .e (np+2) fn))(hr:Room k X.A)(hg:Gl X x)(hm:X.mg x=some (.ref f))(hk:jX X.K (.ref f)=true)(hb:Binds X.K fd ps [])(h0:QE X e1 (cE .e M f0))(h1:QE X e2 (zcT i))(ha:QA X es (cA M fs))(ar:Ar fs np)(hdb:(x == ("__debug__":Str))=false:=by decide)(he:jb (e1::e2::es) X.env=(false,eval e1 X.env)::jb (e2::es) X.env:=by rfl)(he2:jb (e2::es) X.env=(false,eval e2 X.env)::jb es X.env:=by rfl)(hpl:(QB pos (jb (e2::es) X.env)).any (·.1)=false:=by rfl):QE X (.Call (.Name x p) (e1::e2::es) [] pos) (cE .e M (zeR fn i f0 fs)):=⟨L3.zoj hi F hr hg hm hk hb h0.un h1.un ha.un ar hdb he he2 hpl⟩
end
section
variable [TheK]
variable {X:Cx}{M:List Nat}{e1 e2:Expr}{f1 f2:DE}{p p2 p3 pos pos2 pos3 pos4:Pos}
theorem zm3(hK:X.K=TheK.K)(hc:X.calm=true)(hg:Gl X "len")(hm:X.mg "len"=none)(hg2:Gl X "set")(hm2:X.mg "set"=none)(h1:QE X e1 (cE .b M f1))(h2:QE X e2 (cE .b M f2))(he1:jb [e1] X.env=(false,eval e1 X.env)::jb [] X.env:=by rfl)(hpl1:(QB pos2 (jb [] X.env)).any (·.1)=false:=by rfl)(he2:jb [e2] X.env=(false,eval e2 X.env)::jb [] X.env:=by rfl)(hpl2:(QB pos3 (jb [] X.env)).any (·.1)=false:=by rfl)(he:jb [.BinOp (.Call (.Name "set" p2) [e1] [] pos2) .BitAnd (.Call (.Name "set" p3) [e2] [] pos3) pos4] X.env=(false,eval (.BinOp (.Call (.Name "set" p2) [e1] [] pos2) .BitAnd (.Call (.Name "set" p3) [e2] [] pos3) pos4) X.env)::jb [] X.env:=by rfl)(hpl:(QB pos (jb [] X.env)).any (·.1)=false:=by rfl):QE X (.Call (.Name "len" p) [.BinOp (.Call (.Name "set" p2) [e1] [] pos2) .BitAnd (.Call (.Name "set" p3) [e2] [] pos3) pos4] [] pos) (cE .e M (d2 zgc f1 f2)):=⟨L3.zof hK hc hg hm hg2 hm2 h1.un h2.un he1 hpl1 he2 hpl2 he hpl⟩
end
section
variable [TheK]
variable {X:Cx}{M:List Nat}{fa:DA}
theorem zs9{elts:List Expr}{x1:Nat}{tp:Pos}{a b:Expr}{p pos:Pos}(hK:X.K=TheK.K)(hg:Gl X "zip")(hm:X.mg "zip"=none)(ha:QA X [a,b] (cA M fa))(hs:jb [a,b] X.env=(false,eval a X.env)::jb [b] X.env:=by rfl)(hs2:(QB pos (jb [b] X.env)).any (·.1)=false:=by rfl):QI X (.Tuple elts x1 tp) (.Call (.Name "zip" p) [a,b] [] pos) (cI M (ztq fa)):=⟨L3.zvm hK hg hm ha.un hs hs2⟩
end
section
variable [TheK]
variable {X:Cx}{M:List Nat}{fa:DA}
theorem znE{elts:List Expr}{x1:Nat}{tp:Pos}{a b:Expr}{p pos:Pos}(hK:X.K=TheK.K)(hg:Gl X "zip")(hm:X.mg "zip"=none)(ha:QA X [a,b] (cA M fa))(hs:jb [a,b] X.env=(false,eval a X.env)::jb [b] X.env:=by rfl)(hs2:(QB pos (jb [b] X.env)).any (·.1)=false:=by rfl):QI X (.Tuple elts x1 tp) (.Call (.Name "zip" p) [a,b] [] pos) (cI M (zll fa)):=⟨L3.zqz hK hg hm ha.un hs hs2⟩
end
theorem QW.pt{X:Cx}{e:Expr}{t:TT}(h:QW X e t):QT X e t:=⟨h.un.pt⟩
def QBody(tk:TheK)(P:jK)(w:Qj)(mg:Str->Option ja)(base:Heap)(k:Nat)(x:Str)(st:Stmt)(N:List Str)(t:TS):Prop:=
 ∀(f:Addr) (cdv:ja) (A:Qz) (outer:List Env) (s:jc) (H:Hp) (E:XK),Room k (A.deeper (Y6 x (za1 st) s.heap.objs.size f cdv))->QSs (zoq CX0 P w tk.K mg base N x (za1 st) f cdv A outer s H E).nox (zaK st) t
theorem QBody.b{tk:TheK}{P:jK}{w:Qj}{mg:Str->Option ja}{base:Heap}{k:Nat}{x:Str}{st:Stmt}{N:List Str}{t:TS}(h:QBody tk P w mg base k x st N t):ztL tk P w mg base k x st N t:=fun f cdv A outer s H E hr=>(h f cdv A outer s H E hr).un
section
variable [tk:TheK]{P:jK}{w:Qj}{mg:Str->Option ja}{base:Heap}{x:Str}{st:Stmt}{N ps:List Str}{k:Nat}{d:DS}{M' Mb:List Nat}
theorem Here.qP(h:Here tk.K mg x st ps)(S:FnScope N ps (za1 st))(hb:QBody tk P w mg base k x st N (cS .e [] [] M' Mb d))(hN:ps.length<=N.length:=by decide):Cal P w tk.K mg base (k+1) x ps (spP .e ps.length (fnP N.length d)):=h.okP S hb.b hN
theorem Here.qN(h:Here tk.K mg x st ps)(S:FnScope N ps (za1 st))(hb:QBody tk P w mg base k x st N (cS .n [] [] M' Mb d))(hN:ps.length<=N.length:=by decide):Cal P w tk.K mg base (k+1) x ps (spP .n ps.length (zni N.length d)):=h.okN S hb.b hN
theorem Here.qI(h:Here tk.K mg x st ps)(S:FnScope N ps (za1 st))(hb:QBody tk P w mg base k x st N (cS .e [0] [0] M' Mb d))(hN:ps.length<=N.length:=by decide):Cal P w tk.K mg base (k+1) x ps (spI .e ps.length (fnI N.length d)):=h.okI S hb.b hN
theorem zvj{ps0:Str}{fw:Addr}{dw:Q9}(F:Fun tk.K x x st fw dw)(S:FnScope N [ps0] (za1 st))(hb:QBody tk P w mg base k x st N (cS .e [] [] M' Mb d))(hN:1<=N.length)(hd:∀ ns:List Int,ns.length<=63->fnP N.length d [.scr ns]=some (.bl true)):FnOk P w tk.K mg base CX0 (k+1) fw dw [ps0] (zkY tk.K):=zsL F S hb.b hN hd
end
theorem zaV{α:Type}(x:α):(some (some x):Option (Option α)).join=some x:=rfl
theorem zat{n:Nat}(h:n<=1000000):n<=jh:=by rw[gy]; lia
theorem zbK{n:Nat}(h:n<=1000000):n < jh:=by rw[gy]; lia
theorem zjt{n:Nat}(h:n<=1000000):n<=zdN:=by rw[show zdN=1000000 by unfold zdN; rfl]; exact h
theorem zeD{j:Int}(h0:-2000<=j)(h:j<=2000):znh j=true:=by
 unfold znh;refine Nat.ble_eq_true_of_le ?_;lia
theorem ziY{α:Type}{xs:List α}{i:Nat}{x:α}(h:xs[i]?=some x):atI xs (i:Int)=some x:=by
 have h2:i < xs.length:=(j9.mp h).1;unfold atI ixN;rw[if_pos (by lia),if_pos (by lia),j5,QN,h]
theorem zjs{M:List Nat}{caps:List (Option Nat)}{dg:DG}{ft:DT}{fe:DE}{s:Sg}(b:T->Bool)(e:T->T):∀(xs acc:List T),(∀ x∈xs,∃ s1,dg x (zhO caps s)=some s1/\ft s1=some (b x,s1)/\(b x=true->fe s1=some (e x,s1))/\zax M caps s1 s=s)->
  ziv M caps dg ft fe xs acc s=some (acc++(xs.filter b).map e,s)
 |[],acc,_=>by unfold ziv; simp
 |x::xs,acc,h=>by
  obtain⟨s1,h1,h2,h3,h4⟩:=h x Q0;have ih:=fun acc=>zjs b e xs acc fun y hy=>h y (jF _ hy);unfold ziv;rw[h1,j5,h2,j5];cases hb:b x with
  |true=>
   rw[if_pos rfl,h3 hb,j5,h4,ih,Qk,if_pos hb,jj,jZ];rfl
  |false=>
   rw[if_neg jr,h4,ih,Qk,if_neg (by rw[hb]; exact jr)]
theorem zmz{M:List Nat}{caps:List (Option Nat)}{dg:DG}{fe:DE}{s:Sg}(e:T->T)(xs acc:List T)(h:∀ x∈xs,∃ s1,dg x (zhO caps s)=some s1/\fe s1=some (e x,s1)/\zax M caps s1 s=s) :
  ziv M caps dg zf8 fe xs acc s=some (acc++xs.map e,s):=by
 have:=zjs (M:=M) (caps:=caps) (dg:=dg) (ft:=zf8) (fe:=fe) (s:=s) (fun _=>true) e xs acc fun x hx=>by
  obtain⟨s1,h1,h2,h3⟩:=h x hx;exact⟨s1,h1,rfl,fun _=>h2,h3⟩
 rw[this,NU.mpr (fun _ _=>rfl)]
theorem zoW{M:List Nat}{caps:List (Option Nat)}{dg:DG}{ft:DT}{fe:DE}(I:Nat->List T->Sg->Prop):∀(xs:List T) (i:Nat) (acc:List T) (s:Sg),I i acc s->
  (∀ j x acc s,xs[j]?=some x->I (i+j) acc s->∃ s1 b s2,dg x (zhO caps s)=some s1/\ft s1=some (b,s2)/\if b=true then ∃ t s3,fe s2=some (t,s3)/\I (i+j+1) (acc++[t]) (zax M caps s3 s) else I (i+j+1) acc (zax M caps s2 s))->
  ∃ acc' s',ziv M caps dg ft fe xs acc s=some (acc',s')/\I (i+xs.length) acc' s'
 |[],i,acc,s,h0,_=>⟨acc,s,by unfold ziv; rfl,h0⟩
 |x::xs,i,acc,s,h0,h=>by
  obtain⟨s1,b,s2,h1,h2,h3⟩:=h 0 x acc s rfl h0;have next:∀ acc2 s4,I (i+0+1) acc2 s4->∃ acc' s',ziv M caps dg ft fe xs acc2 s4=some (acc',s')/\I (i+(xs.length+1)) acc' s':=fun acc2 s4 q=>by
   have:=zoW (M:=M) (caps:=caps) (dg:=dg) (ft:=ft) (fe:=fe) I xs (i+1) acc2 s4 q fun j y acc s e q'=>by
    have z:=h (j+1) y acc s (by simpa using e)
    rw[show i+(j+1)=i+1+j by lia] at z
    exact z q'
   rw[show i+(xs.length+1)=i+1+xs.length by lia]
   exact this
  unfold ziv;rw[h1,j5,h2,j5];cases b with
  |true=>
   rw[if_pos rfl] at h3;obtain⟨t,s3,h4,h5⟩:=h3;rw[if_pos rfl,h4,j5];exact next _ _ h5
  |false=>
   rw[if_neg jr] at h3;rw[if_neg jr];exact next _ _ h3
theorem zjC{g:DG}{db:DS}(I:Nat->Sg->Prop):∀(xs:List T) (i:Nat) (s:Sg),I i s->(∀ j x s,xs[j]?=some x->I (i+j) s->∃ s1,g x s=some s1/\∃ s2,(db s1=some (.nx s2)∨db s1=some (.ct s2))/\I (i+j+1) s2)->
  ∃ s',zdd g db xs s=some (.nx s')/\I (i+xs.length) s'
 |[],i,s,h0,_=>⟨s,by unfold zdd; rfl,h0⟩
 |x::xs,i,s,h0,h=>by
  obtain⟨s1,h1,s2,h2,h3⟩:=h 0 x s rfl h0;obtain⟨s',h4,h5⟩:=zjC I xs (i+1) s2 h3 fun j y s e q=>by
   have z:=h (j+1) y s (by simpa using e)
   rw[show i+(j+1)=i+1+j by lia] at z
   exact z q
  refine⟨s',?_,by rw[jm,show i+(xs.length+1)=i+1+xs.length by lia]; exact h5⟩
  unfold zdd;rw[h1,j5];rcases h2 with h2 |h2<;>rw[h2,j5]<;>exact h4
theorem ziH(n:Nat)(x y:T):eqD (n+1) x y=eqS n x y:=by cases x<;>cases y<;>rfl
theorem zmY{n:Nat}{x y:T}{b:Bool}(h:scE x y=some b):eqD n x y=some b:=by
 cases n with
 |zero=>unfold eqD; exact h
 |succ n=>rw[ziH]; unfold eqS; cases x<;>cases y<;>simp[scE] at h<;>simpa[scE] using h
theorem zdx(n:Nat)(i j:Int):eqD n (.int i) (.int j)=some (i == j):=zmY rfl
theorem zp5(n:Nat)(i j:Bool):eqD n (.bl i) (.bl j)=some (i == j):=zmY rfl
theorem zjG(n:Nat)(i j:Str):eqD n (.str i) (.str j)=some (i == j):=zmY rfl
theorem zkO{α:Type}[DecidableEq α]{f:T->T->Option Bool}{enc:α->T}(h:∀ a b,f (enc a) (enc b)=some (decide (a=b))):∀(xs ys:List α),xs.length=ys.length->zjX f (xs.map enc) (ys.map enc)=some (decide (xs=ys))
 |[],[],_=>rfl
 |[],_::_,hl=>by simp at hl
 |_::_,[],hl=>by simp at hl
 |x::xs,y::ys,hl=>by
  rw[jj,jj];unfold zjX;rw[h,j5,zkO h xs ys (by simpa using hl),jo]
  refine congrArg some ?_
  by_cases h1:x=y<;>by_cases h2:xs=ys<;>simp[h1,h2]
theorem zmZ{α:Type}[DecidableEq α]{n:Nat}{enc:α->T}(h:∀ a b,eqD n (enc a) (enc b)=some (decide (a=b)))(xs ys:List α):eqD (n+1) (.lst (xs.map enc)) (.lst (ys.map enc))=some (decide (xs=ys)):=by
 rw[ziH];unfold eqS;dsimp only;rw[j6,j6]
 by_cases hl:xs.length=ys.length
 ·rw[if_pos hl,zkO h xs ys hl]
 ·rw[if_neg hl,decide_eq_false (fun z=>hl (by rw[z]))]
theorem zkz{n:Nat}(xs ys:List Str):eqD (n+1) (.lst (xs.map T.str)) (.lst (ys.map T.str))=some (decide (xs=ys)):=zmZ (fun a b=>by rw[zjG]; refine congrArg some ?_; by_cases h:a=b<;>simp[h]) xs ys
theorem zgH(ys:List Str):zdM (ys.map T.str)=some ys:=by
 induction ys with
 |nil=>rfl
 |cons y ys ih=>rw[jj]; unfold zdM; rw[ih]; rfl
theorem zfF(xs:List Str):zk4 (xs.map T.str)=some (xs.map V.str):=by
 induction xs with
 |nil=>rfl
 |cons x xs ih=>rw[jj]; unfold zk4; rw[ih]; rfl
theorem zku(x:Str)(xs:List Str):inV (.str x) (xs.map V.str)=decide (x∈xs):=by
 unfold inV;rw[WD,ZM,gS,decide_eq_true_iff];constructor
 ·rintro⟨y,hy,e⟩;have:y=x:=by simpa[eqV] using e
  exact this▸hy
 ·intro h;exact⟨x,h,by simp[eqV]⟩
theorem zjR(x:Str)(xs:List Str):(xs.map V.str).countP (fun u=>eqV u (.str x))=xs.count x:=by
 rw[List.countP_map,List.count_eq_countP];refine List.countP_congr fun y hy=>?_;simp[eqV]
theorem zrP{f g:DS}{s s':Sg}{r:Option Fl}(h:f s=some (.nx s'))(k:g s'=r):zao f g s=r:=by
 unfold zao;rw[h,j5];exact k
theorem zlP{f g:DS}{s s':Sg}{t:T}(h:f s=some (.rt t s')):zao f g s=some (.rt t s'):=by
 unfold zao;rw[h];rfl
theorem zmR{n:Nat}{d:DS}{ts:List T}{t:T}{s:Sg}(h:d (zaB n ts)=some (.rt t s)):fnP n d ts=some t:=by unfold fnP; rw[h]
theorem zmP{n:Nat}{d:DS}{ts:List T}{t:T}{s:Sg}(h:d (zaB n ts)=some (.rt t s)):zni n d ts=some t:=by unfold zni; rw[h]
theorem ztb{n:Nat}{d:DS}{ts:List T}{t u:T}{s:Sg}(h:d (zaB n ts)=some (.rt t s))(hs:s[0]?=some (some u)):fnI n d ts=some (t,u):=by unfold fnI; rw[h]; simp[hs]
theorem zky{fi:DI}{g:DG}{db:DS}{s s1 s2:Sg}{its:List T}(h:fi s=some (its,s1))(k:zdd g db its s1=some (.nx s2)):zf9 fi g db s=some (.nx s2):=by unfold zf9; rw[h,j5]; exact k
theorem zfQ{lo:Int}{n j:Nat}{x:T}(h:(zaR lo n)[j]?=some x):j < n/\x=.int (lo+j):=by
 unfold zaR at h;rw[ji] at h;obtain⟨i,h1,h2⟩:=Qm h;have hj:j < n:=by simpa using (j9.mp h1).1
 rw[gf hj] at h1;injection h1 with h1;subst h1;exact⟨hj,h2.symm⟩
theorem zbO(lo:Int)(n:Nat):(zaR lo n).length=n:=by unfold zaR; simp
theorem zn5{α:Type}(xs:List α){t:Int}(h0:0<=t)(h:t<=xs.length):zkF xs none (some t)=xs.take t.toNat:=by
 unfold zkF HT.sIx;simp only[J7,Nat.sub_zero];split
 ·lia
 ·rw[Yh (by lia)]
theorem ziM{α:Type}(xs:List α){t:Int}(h0:0<=t)(h:t<=xs.length):zkF xs (some t) none=xs.drop t.toNat:=by
 unfold zkF HT.sIx;dsimp only;split
 ·lia
 ·rw[Yh (by lia),QD (by rw[QH]; lia)]
theorem zor{α:Type}(xs:List α){t u:Int}(h0:0<=t)(h:t<=u)(hu:u<=xs.length):zkF xs (some t) (some u)=(xs.drop t.toNat).take (u.toNat - t.toNat):=by
 unfold zkF HT.sIx;dsimp only;split<;>split<;>first |lia |rw[Yh (by lia),Yh (by lia)]
def Run(d:DS)(s:Sg)(Q:Fl->Prop):Prop:=∃ r,d s=some r/\Q r
def ztK(P:Sg->Prop):Fl->Prop
 |.nx s=>P s
 |.ct s=>P s
 |_=>False
theorem zb3{d:DS}{s:Sg}{Q:Fl->Prop}{r:Fl}(h:d s=some r)(k:Q r):Run d s Q:=⟨r,h,k⟩
theorem zaj{f g:DS}{s s':Sg}{Q:Fl->Prop}(h:f s=some (.nx s'))(k:Run g s' Q):Run (zao f g) s Q:=by
 obtain⟨r,h1,h2⟩:=k;exact⟨r,zrP h h1,h2⟩
theorem zcW{fi:DI}{g:DG}{db d:DS}{s s1:Sg}{its:List T}{Q:Fl->Prop}(I:Nat->Sg->Prop)(h:fi s=some (its,s1))(h0:I 0 s1)
  (hs:∀ j x s,its[j]?=some x->I j s->∃ s1,g x s=some s1/\Run db s1 (ztK (I (j+1)))) (k:∀ s',I its.length s'->Run d s' Q):Run (zao (zf9 fi g db) d) s Q:=by
 obtain⟨s',h1,h2⟩:=zjC (g:=g) (db:=db) I its 0 s1 h0 fun j x s e q=>by
  rw[Z5] at q ⊢;obtain⟨s1,h1,r,h2,h3⟩:=hs j x s e q;refine⟨s1,h1,?_⟩;cases r with
  |nx s2=>exact⟨s2,.inl h2,h3⟩
  |ct s2=>exact⟨s2,.inr h2,h3⟩
  |bk s2=>exact h3.elim
  |rt t s2=>exact h3.elim
 rw[Z5] at h2;exact zaj (zky h h1) (k s' h2)
theorem zig{fi:DI}{g:DG}{db:DS}{s s1:Sg}{its:List T}{Q:Fl->Prop}(I:Nat->Sg->Prop)(h:fi s=some (its,s1))(h0:I 0 s1)
  (hs:∀ j x s,its[j]?=some x->I j s->∃ s1,g x s=some s1/\Run db s1 (ztK (I (j+1)))) (k:∀ s',I its.length s'->Q (.nx s')):Run (zf9 fi g db) s Q:=by
 obtain⟨s',h1,h2⟩:=zjC (g:=g) (db:=db) I its 0 s1 h0 fun j x s e q=>by
  rw[Z5] at q ⊢;obtain⟨s1,h1,r,h2,h3⟩:=hs j x s e q;refine⟨s1,h1,?_⟩;cases r with
  |nx s2=>exact⟨s2,.inl h2,h3⟩
  |ct s2=>exact⟨s2,.inr h2,h3⟩
  |bk s2=>exact h3.elim
  |rt t s2=>exact h3.elim
 rw[Z5] at h2;exact⟨_,zky h h1,k s' h2⟩
theorem zdl{ft:DT}{db d:DS}{n:Nat}{s:Sg}{Q:Fl->Prop}(I:Sg->Prop)(μ:Sg->Nat)(hn:μ s < n)(h0:I s)(hs:∀ s,I s->∃ b s1,ft s=some (b,s1)/\if b=true then Run db s1 (ztK fun s2=>I s2/\μ s2 < μ s) else True)
  (k:∀ s0 s',I s0->ft s0=some (false,s')->Run d s' Q):Run (zao (zbN ft db n) d) s Q:=by
 have key:∀ n s,μ s < n->I s->∃ s0 s',zbN ft db n s=some (.nx s')/\I s0/\ft s0=some (false,s'):=by
  intro n
  induction n with
  |zero=>intro s hn; exact absurd hn (Yc _)
  |succ n ih=>
   intro s hn h0;obtain⟨b,s1,h1,h2⟩:=hs s h0;unfold zbN;rw[h1,j5];dsimp only;cases b with
   |true=>
    rw[if_pos rfl] at h2;obtain⟨r,h3,h4⟩:=h2;rw[if_pos rfl,h3,j5];cases r with
    |nx s2=>exact ih s2 (by have:=h4.2; lia) h4.1
    |ct s2=>exact ih s2 (by have:=h4.2; lia) h4.1
    |bk s2=>exact h4.elim
    |rt t s2=>exact h4.elim
   |false=>exact⟨s,s1,by rw[if_neg jr],h0,h1⟩
 obtain⟨s0,s',h1,h2,h3⟩:=key n s hn h0;exact zaj h1 (k s0 s' h2 h3)
theorem zcG{n:Nat}{d:DS}{ts:List T}{Q:T->Prop}(h:Run d (zaB n ts) fun r=>∃ t s,r=.rt t s/\Q t):∃ t,fnP n d ts=some t/\Q t:=by
 obtain⟨r,h1,t,s,rfl,h2⟩:=h;exact⟨t,zmR h1,h2⟩
theorem zjE{n:Nat}{d:DS}{ts:List T}{Q:T->T->Prop}(h:Run d (zaB n ts) fun r=>∃ t u s,r=.rt t (some u::s)/\Q t u):∃ t u,fnI n d ts=some (t,u)/\Q t u:=by
 obtain⟨r,h1,t,u,s,rfl,h2⟩:=h;exact⟨t,u,ztb h1 rfl,h2⟩
structure Ev where
 P:jK
 w:Qj
 mg:Str->Option ja
 base:Heap
abbrev Cl[tk:TheK](v:Ev)(k:Nat)(x:Str)(ps:List Str)(sp:Sp):Prop:=Cal v.P v.w tk.K v.mg v.base k x ps sp
theorem scm{N P:List Str}{sc:gX}(h1:sc.kind=.function:=by rfl)(h2:sc.isCoroutine=false:=by rfl)(h3:sc.isGenerator=false:=by rfl)(h4:N.Nodup:=by decide +kernel)(h5:N.take P.length=P:=by rfl)
  (h6:∀ x∈P,sc.names.lookup x=some .local∨sc.names.lookup x=some .cell:=by decide +kernel) (h7:∀ y∈sc.names,y.2≠.free:=by decide +kernel):FnScope N P sc:=⟨h1,h2,h3,h4,h5,h6,h7⟩
theorem Cal.up{P:jK}{w:Qj}{K:j8}{mg:Str->Option ja}{base:Heap}{j k:Nat}{x:Str}{ps:List Str}{sp:Sp}(h:Cal P w K mg base j x ps sp)(hjk:j<=k:=by decide):Cal P w K mg base k x ps sp:=h.mono hjk
section
variable [TheK]{f1 f2 f3 f4 f5 f6:DE}
theorem ar1:Ar (dAc f1 dAn) 1:=ar_ ztB
theorem ar2:Ar (dAc f1 (dAc f2 dAn)) 2:=ar_ ar1
theorem ar3:Ar (dAc f1 (dAc f2 (dAc f3 dAn))) 3:=ar_ ar2
theorem ar4:Ar (dAc f1 (dAc f2 (dAc f3 (dAc f4 dAn)))) 4:=ar_ ar3
end
section
variable [TheK]{X:Cx}{M:List Nat}{e e1 e2:Expr}{es:List Expr}{fe f0:DE}{fs:DA}{p pos:Pos}{k np i:Nat}{ps:List Str}{x:Str}{fn:List T->Option T}{fi:List T->Option (T × T)}
theorem qc(C:Cal X.prog X.w X.K X.mg X.base k x ps (spP .e np fn))(hr:Room k X.A)(hg:Gl X x)(ha:QA X (e::es) (cA M fs))(ar:Ar fs np)(hdb:(x == ("__debug__":Str))=false:=by decide)(he:jb (e::es) X.env=(false,eval e X.env)::jb es X.env:=by rfl)(hpl:(QB pos (jb es X.env)).any (·.1)=false:=by rfl):QE X (.Call (.Name x p) (e::es) [] pos) (cE .e M (zar fn fs)):=by
 obtain⟨f,fd,F,hb,hk,hm⟩:=C;exact zq0 F hr hg hm hk hb ha ar hdb he hpl
theorem qcN(C:Cal X.prog X.w X.K X.mg X.base k x ps (spP .n np fn))(hr:Room k X.A)(hg:Gl X x)(ha:QA X (e::es) (cA M fs))(ar:Ar fs np)(hdb:(x == ("__debug__":Str))=false:=by decide)(he:jb (e::es) X.env=(false,eval e X.env)::jb es X.env:=by rfl)(hpl:(QB pos (jb es X.env)).any (·.1)=false:=by rfl):QE X (.Call (.Name x p) (e::es) [] pos) (cE .n M (zar fn fs)):=by
 obtain⟨f,fd,F,hb,hk,hm⟩:=C;exact znI F hr hg hm hk hb ha ar hdb he hpl
theorem qcI(hi:M.contains i=true)(C:Cal X.prog X.w X.K X.mg X.base k x ps (spI .e (np+1) fi))(hr:Room k X.A)(hg:Gl X x)(h0:QE X e (zcT i))(ha:QA X es (cA M fs))(ar:Ar fs np)(hdb:(x == ("__debug__":Str))=false:=by decide)(he:jb (e::es) X.env=(false,eval e X.env)::jb es X.env:=by rfl)(hpl:(QB pos (jb es X.env)).any (·.1)=false:=by rfl):QE X (.Call (.Name x p) (e::es) [] pos) (cE .e M (zal fi i fs)):=by
 obtain⟨f,fd,F,hb,hk,hm⟩:=C;exact znJ hi F hr hg hm hk hb h0 ha ar hdb he hpl
theorem qcT{rk:Kd}(hrk:rk=.e∨rk=.n)(C:Cal X.prog X.w X.K X.mg X.base k x ps (spI rk (np+1) fi))(hr:Room k X.A)(hg:Gl X x)(h0:QE X e (cE .n M fe))(ha:QA X es (cA M fs))(ar:Ar fs np)(hdb:(x == ("__debug__":Str))=false:=by decide)(he:jb (e::es) X.env=(false,eval e X.env)::jb es X.env:=by rfl)(hpl:(QB pos (jb es X.env)).any (·.1)=false:=by rfl):QE X (.Call (.Name x p) (e::es) [] pos) (cE rk M (zgo fi fe fs)):=by
 obtain⟨f,fd,F,hb,hk,hm⟩:=C;exact znH hrk F hr hg hm hk hb h0 ha ar hdb he hpl
theorem zxB(hi:M.contains i=true)(C:Cal X.prog X.w X.K X.mg X.base k x ps (spP .e (np+2) fn))(hr:Room k X.A)(hg:Gl X x)(h0:QE X e1 (cE .e M f0))(h1:QE X e2 (zcT i))(ha:QA X es (cA M fs))(ar:Ar fs np)(hdb:(x == ("__debug__":Str))=false:=by decide)(he:jb (e1::e2::es) X.env=(false,eval e1 X.env)::jb (e2::es) X.env:=by rfl)(he2:jb (e2::es) X.env=(false,eval e2 X.env)::jb es X.env:=by rfl)(hpl:(QB pos (jb (e2::es) X.env)).any (·.1)=false:=by rfl):QE X (.Call (.Name x p) (e1::e2::es) [] pos) (cE .e M (zeR fn i f0 fs)):=by
 obtain⟨f,fd,F,hb,hk,hm⟩:=C;exact zm5 hi F hr hg hm hk hb h0 h1 ha ar hdb he he2 hpl
end
section
variable [tk:TheK]{v:Ev}{x:Str}{st:Stmt}{N ps:List Str}
theorem _root_.L3.Here.vP(k:Nat)(M':List Nat)(d:DS)(h:Here tk.K v.mg x st ps)(S:FnScope N ps (za1 st))(hb:QBody tk v.P v.w v.mg v.base k x st N (cS .e [] [] M' [] d))(hN:ps.length<=N.length:=by decide):Cl v (k+1) x ps (spP .e ps.length (fnP N.length d)):=h.qP S hb hN
theorem _root_.L3.Here.vN(k:Nat)(M':List Nat)(d:DS)(h:Here tk.K v.mg x st ps)(S:FnScope N ps (za1 st))(hb:QBody tk v.P v.w v.mg v.base k x st N (cS .n [] [] M' [] d))(hN:ps.length<=N.length:=by decide):Cl v (k+1) x ps (spP .n ps.length (zni N.length d)):=h.qN S hb hN
theorem _root_.L3.Here.vI(k:Nat)(M':List Nat)(d:DS)(h:Here tk.K v.mg x st ps)(S:FnScope N ps (za1 st))(hb:QBody tk v.P v.w v.mg v.base k x st N (cS .e [0] [0] M' [] d))(hN:ps.length<=N.length:=by decide):Cl v (k+1) x ps (spI .e ps.length (fnI N.length d)):=h.qI S hb hN
end
def Fd(K:j8)(x:Str)(st:Stmt):Prop:=∃(f:Addr) (oc:ja) (od:Option Addr) (sl:Array (Option ja)) (kV dc pm:ja) (an:Option Addr) (cd ct:ja),QZ K jV x=some (some (.ref f))/\K.lookup f=some ⟨oc,od,.func (Qo x x (zbi st) (zaK st) (za1 st) .none kV dc pm an cd ct),sl⟩/\ZY K cd x=true/\jX K (.ref f)=true
section
variable {K:j8}{h:Heap}{mg:Str->Option ja}{x p1 p2 p3 p4 p5 p6:Str}{st:Stmt}
theorem Fd.mk{f:Addr}{oc:ja}{od:Option Addr}{sl:Array (Option ja)}{kV dc pm:ja}{an:Option Addr}{cd ct:ja}(a:QZ K jV x=some (some (.ref f)))(l:K.lookup f=some ⟨oc,od,.func (Qo x x (zbi st) (zaK st) (za1 st) .none kV dc pm an cd ct),sl⟩)(c:ZY K cd x=true)(k:jX K (.ref f)=true):Fd K x st:=⟨f,oc,od,sl,kV,dc,pm,an,cd,ct,a,l,c,k⟩
def Bd(x:Str)(st:Stmt)(ps:List Str):Prop:=∀(kV doc pm:ja) (an:Option Addr) (cdv ct:ja) (us:List ja),us.length=ps.length->gZ (Qo x x (zbi st) (zaK st) (za1 st) .none kV doc pm an cdv ct) ⟨us,[]⟩=pure (ps.zip us)
theorem Fd.here{ps:List Str}(X:K.In h)(G:h.Ns jV mg)(a:Fd K x st)(hb:Bd x st ps):Here K mg x st ps:=by
 obtain⟨f,oc,od,sl,kV,dc,pm,an,cd,ct,a,l,c,k⟩:=a;exact zqA X G hb a l c k
theorem bd1(h:∀(kV doc pm:ja) (an:Option Addr) (cdv ct u1:ja),gZ (Qo x x (zbi st) (zaK st) (za1 st) .none kV doc pm an cdv ct) ⟨[u1],[]⟩=pure [(p1,u1)]):Bd x st [p1]:=fun a b c d e f us hl=>by
 cases us with
 |nil=>cases hl
 |cons u us=>cases us with
  |nil=>exact h a b c d e f u
  |cons _ _=>cases hl
theorem bd2(h:∀(kV doc pm:ja) (an:Option Addr) (cdv ct u1 u2:ja),gZ (Qo x x (zbi st) (zaK st) (za1 st) .none kV doc pm an cdv ct) ⟨[u1,u2],[]⟩=pure [(p1,u1),(p2,u2)]):Bd x st [p1,p2]:=fun a b c d e f us hl=>by
 obtain⟨u1,u2,rfl⟩:∃ u1 u2,us=[u1,u2]:=by
  cases us with
  |nil=>cases hl
  |cons u us=>obtain⟨u2,rfl⟩:=ZJ.mp (WA hl); exact⟨u,u2,rfl⟩
 exact h a b c d e f u1 u2
theorem zwt{us:List ja}(h:us.length=3):∃ u1 u2 u3,us=[u1,u2,u3]:=by
 match us,h with
 |[a,b,c],_=>exact⟨a,b,c,rfl⟩
theorem bd3(h:∀(kV doc pm:ja) (an:Option Addr) (cdv ct u1 u2 u3:ja),gZ (Qo x x (zbi st) (zaK st) (za1 st) .none kV doc pm an cdv ct) ⟨[u1,u2,u3],[]⟩=pure [(p1,u1),(p2,u2),(p3,u3)]):Bd x st [p1,p2,p3]:=fun a b c d e f us hl=>by
 obtain⟨u1,u2,u3,rfl⟩:=zwt hl;exact h a b c d e f u1 u2 u3
theorem bd4(h:∀(kV doc pm:ja) (an:Option Addr) (cdv ct u1 u2 u3 u4:ja),gZ (Qo x x (zbi st) (zaK st) (za1 st) .none kV doc pm an cdv ct) ⟨[u1,u2,u3,u4],[]⟩=pure [(p1,u1),(p2,u2),(p3,u3),(p4,u4)]):Bd x st [p1,p2,p3,p4]:=fun a b c d e f us hl=>by
 cases us with
 |nil=>cases hl
 |cons u us=>obtain⟨u1,u2,u3,rfl⟩:=zwt (WA hl); exact h a b c d e f u u1 u2 u3
theorem zqp{l:Y7}{w:Qj}{fa:Addr}{N:List Str}{p:Str}{k:Nat}{d:DS}{M' Mb:List Nat}(X:K.In h)(G:h.Ns jV mg)(hfa:mg "law"=some (.ref fa))(a:Fd K "law" st)(sc:FnScope N [p] (za1 st))
  (hbt:∀(kV dc pm:ja) (an:Option Addr) (cd ct v:ja),gZ (Qo "law" "law" (zbi st) (zaK st) (za1 st) .none kV dc pm an cd ct) ⟨[v],[]⟩=pure [(p,v)]) (hN:1<=N.length)
  (hd:∀ ns:List Int,fnP N.length d [.scr ns]=some (.bl true)) (hb:∀ base:Heap,QBody ⟨K⟩ l.prog w mg base k "law" st N (@cS ⟨K⟩ .e [] [] M' Mb d)) :
  ∃ fd:Q9,(∀(s:jc) (v:ja),Wj s fd ⟨[v],[]⟩ [(p,v)])/\∀ base:Heap,K.In base->base.Ns jV mg->FnOk l.prog w K mg base CX0 (k+1) fa fd [p] (zkY K):=by
 obtain⟨f,oc,od,sl,kV,dc,pm,an,cd,ct,a,ll,c,kk⟩:=a;have e:=hfa.symm.trans (Jv X G a);cases e;exact⟨Qo "law" "law" (zbi st) (zaK st) (za1 st) .none kV dc pm an cd ct,fun s v=>.of_eq (hbt kV dc pm an cd ct v),fun base _ _=>zvj (tk:=⟨K⟩) (zp3 (st:=st) ll c kk) sc (hb base) hN fun ns _=>hd ns⟩
end
theorem zu1{l:Y7}{q:jK}{loose:List Str}{XP:(Str->Option ja)->Heap->Prop}{YP:Qj->Heap->Prop}{d:DefRec}{K:Params->j8}{x:Str}{k:Nat}(hn:l.most=some 63)(hdf:d.params.defaults=[])(hk:k < 60)
  (hY:∀(w:Qj) (h:Heap),YP w h->(K w.params).In h)
  (F:∀(w:Qj) (mg:Str->Option ja) (fa:Addr) (h:Heap),(K w.params).In h->h.Ns jV mg->mg d.name=some (.ref fa)->
   ∃ fd:Q9,(∀(s:jc) (u:ja),Wj s fd ⟨[u],[]⟩ [(x,u)])/\∀ base:Heap,(K w.params).In base->base.Ns jV mg->FnOk l.prog w (K w.params) mg base CX0 k fa fd [x] (zkY (K w.params))) :
  Jo q loose XP YP l.row.toRowW d [] (fun f vs=>Wp f vs):=
 L2.zph (n:=63) (k:=k) (x:=x) (CX:=fun _=>CX0) (sp:=fun w=>zkY (K w.params)) hn (by decide) hdf (Room.mono (k:=60) ⟨rfl,by decide,by decide⟩ (by lia)) hY F (fun _ _ a ns hl hO hS=>⟨a,ns,rfl,hO,hS,hl,fun _=>rfl⟩) fun _ _ _ _ _ z=>z
theorem vdV(i:Nat)(s:Sg):dV i s=(s[i]?).join.map fun t=>(t,s):=rfl
theorem vdC(t:T)(s:Sg):dC t s=some (t,s):=rfl
theorem vd2(g:T->T->Option T)(fa fb:DE)(s:Sg):d2 g fa fb s=(fa s).bind fun p=>(fb p.2).bind fun q=>(g p.1 q.1).map fun t=>(t,q.2):=rfl
theorem zwW(g:T->T->Option T)(i:Nat)(fb:DE)(s:Sg):d2v g i fb s=(s[i]?).join.bind fun _=>(fb s).bind fun q=>(q.2[i]?).join.bind fun x=>(g x q.1).map fun t=>(t,q.2):=rfl
theorem vdB(f:DE)(s:Sg):dB f s=(f s).bind fun p=>match p.1 with
 |.bl b=>some (b,p.2)
 |_=>none:=rfl
theorem zu8(f:DE)(s:Sg):zgm f s=(f s).bind fun p=>(tru p.1).map fun b=>(b,p.2):=rfl
theorem zun(f g:DT)(s:Sg):ziL f g s=(f s).bind fun p=>if p.1 then g p.2 else some (false,p.2):=rfl
theorem zwN(f g:DT)(s:Sg):dOr f g s=(f s).bind fun p=>if p.1 then some (true,p.2) else g p.2:=rfl
theorem zuf(f:DT)(s:Sg):znl f s=(f s).map fun p=>(!p.1,p.2):=rfl
theorem zrp(f g:DE)(s:Sg):zjO f g s=(dB f s).bind fun p=>if p.1 then g p.2 else some (.bl false,p.2):=rfl
theorem zwP(c:DT)(f g:DE)(s:Sg):dIf c f g s=(c s).bind fun p=>if p.1 then f p.2 else g p.2:=rfl
theorem zwU(s:Sg):dAn  s=some ([],s):=rfl
theorem zwV(f:DE)(g:DA)(s:Sg):dAc f g s=(f s).bind fun p=>(g p.2).map fun q=>(p.1::q.1,q.2):=rfl
theorem zuh(f:DA)(s:Sg):zdO f s=(f s).bind fun p=>if p.1.length<=jh then some (.lst p.1,p.2) else none:=rfl
theorem zu7(f:DA)(s:Sg):zlu f s=(f s).bind fun p=>if p.1.length<=jh then some (.tup p.1,p.2) else none:=rfl
theorem zrn(s:Sg):zln  s=some (.dct [],s):=rfl
theorem zwO(s:Sg):dOn  s=some (none,s):=rfl
theorem zwM(f:DE)(s:Sg):dOs f s=(f s).bind fun p=>match p.1 with
 |.int i=>some (some i,p.2)
 |_=>none:=rfl
theorem zwL(g:T->Option Int->Option Int->Option T)(f:DE)(l h:DO)(s:Sg):dSl g f l h s=(f s).bind fun p=>(l p.2).bind fun q=>(h q.2).bind fun r=>(g p.1 q.1 r.1).map fun t=>(t,r.2):=rfl
theorem zu9(g:T->Option Int->Option Int->Option T)(i:Nat)(l h:DO)(s:Sg):zp7 g i l h s=(s[i]?).join.bind fun _=>(l s).bind fun q=>(h q.2).bind fun r=>(r.2[i]?).join.bind fun x=>(g x q.1 r.1).map fun t=>(t,r.2):=rfl
theorem zub(f g:DS)(s:Sg):zao f g s=(f s).bind fun r=>match r with
 |.nx s'=>g s'
 |r=>some r:=rfl
theorem zrl(s:Sg):zaD  s=some (.nx s):=rfl
theorem zua(i:Nat)(f:DE)(s:Sg):zay i f s=(f s).bind fun p=>if i < p.2.length then some (.nx (p.2.set i (some p.1))) else none:=rfl
theorem zuk(c:DT)(f g:DS)(s:Sg):zcb c f g s=(c s).bind fun p=>if p.1 then f p.2 else g p.2:=rfl
theorem zwT(f:DE)(s:Sg):dDo f s=(f s).map fun p=>.nx p.2:=rfl
theorem zrk(io:List Nat)(f:DE)(s:Sg):zai io f s=(f s).bind fun p=>if hasAll io p.2 then some (.rt p.1 p.2) else none:=rfl
theorem zug(g:T->List T->Option (T × T))(i:Nat)(fa:DA)(s:Sg):zgn g i fa s=(s[i]?).join.bind fun t0=>if ziy t0 then (fa s).bind fun p=>(p.2[i]?).join.bind fun t=>(g t p.1).map fun q=>(q.2,p.2.set i (some q.1)) else none:=rfl
theorem zue(i:Nat)(fk fv:DE)(s:Sg):zp8 i fk fv s=(fv s).bind fun p=>(p.2[i]?).join.bind fun _=>(fk p.2).bind fun q=>(q.2[i]?).join.bind fun t=>match t with
 |.dct kvs=>(zh1 q.1).bind fun k=>if kvs.length < jh then some (.nx (q.2.set i (some (.dct (zfg kvs k p.1))))) else none
 |_=>none:=rfl
theorem zrj(i:Nat)(fk fv:DE)(s:Sg):zfn i fk fv s=(fv s).bind fun p=>(p.2[i]?).join.bind fun _=>(fk p.2).bind fun q=>(q.2[i]?).join.bind fun t=>match t,q.1 with
 |.lst xs,.int k=>(ixN xs.length k).map fun j=>.nx (q.2.set i (some (.lst (xs.set j p.1))))
 |_,_=>none:=rfl
theorem zum(i:Nat)(f:DE)(s:Sg):zts i f s=(s[i]?).join.bind fun x=>(f s).bind fun p=>match x,p.1 with
 |.int a,.int b=>some (.nx (p.2.set i (some (.int (a+b)))))
 |_,_=>none:=rfl
theorem zwK(is:List Nat)(f:DE)(s:Sg):dUn is f s=(f s).bind fun p=>(zkt p.1).bind fun ts=>(zbA is ts p.2).map .nx:=rfl
theorem zuc(f:DA)(s:Sg):zhV f s=(f s).bind fun p=>match p.1 with
 |[.int j]=>if znh j=true then some (zaR 0 j.toNat,p.2) else none
 |_=>none:=rfl
theorem zwS(f:DA)(s:Sg):dEn f s=(f s).bind fun p=>match p.1 with
 |[.lst xs]=>some (zjH xs,p.2)
 |_=>none:=rfl
theorem zwR(i:Nat)(t:T)(s:Sg):dGn i t s=if i < s.length then some (s.set i (some t)) else none:=rfl
theorem zwQ(is:List Nat)(t:T)(s:Sg):dGt is t s=match t with
 |.tup ts=>zbA is ts s
 |_=>none:=rfl
theorem zro(fn:List T->Option T)(fa:DA)(s:Sg):zar fn fa s=(fa s).bind fun p=>(fn p.1).map fun t=>(t,p.2):=rfl
theorem zpj(fn:List T->Option (T × T))(i:Nat)(fa:DA)(s:Sg):zal fn i fa s=(s[i]?).join.bind fun _=>(fa s).bind fun p=>(p.2[i]?).join.bind fun t0=>(fn (t0::p.1)).map fun q=>(q.1,p.2.set i (some q.2)):=rfl
theorem zpi(fn:List T->Option (T × T))(f0:DE)(fa:DA)(s:Sg):zgo fn f0 fa s=(f0 s).bind fun p=>(fa p.2).bind fun q=>(fn (p.1::q.1)).map fun r=>(r.1,q.2):=rfl
theorem vd1(g:T->Option T)(f:DE)(s:Sg):d1 g f s=(f s).bind fun p=>(g p.1).map fun t=>(t,p.2):=rfl
theorem zrm(f:DE)(g:DE)(s:Sg):zlm f g s=(f s).bind fun p=>match p.1 with
 |.str z=>(g p.2).bind fun q=>(zo6 z q.1).map fun t=>(t,q.2)
 |_=>none:=rfl
theorem zwX(g:T->T->Option T)(fa fb:DE)(s:Sg):d2L g fa fb s=(fa s).bind fun p=>if ziy p.1 then (fb p.2).bind fun q=>(g p.1 q.1).map fun t=>(t,q.2) else none:=rfl
theorem zui(f:DE)(s:Sg):zdc f s=(f s).bind fun p=>match p.1 with
 |.lst xs=>some (xs,p.2)
 |.scr ns=>some (ns.map .int,p.2)
 |.tup xs=>some (xs,p.2)
 |.fd kvs=>some (kvs.map fun kv=>kT kv.1,p.2)
 |.str x=>some (x.cps.toList.map zns,p.2)
 |_=>none:=rfl
theorem zud(f:DE)(k:DO)(s:Sg):ztU f k s=(f s).bind fun p=>(k p.2).bind fun q=>if q.1=some (-1) then (ztT p.1).map fun t=>(t,q.2) else none:=rfl
theorem zul(i:Nat)(d:DS)(s:Sg):zp9 i d s=match (s[i]?).join with
 |some (.dct kvs)=>d (s.set i (some (.fd kvs)))
 |_=>none:=rfl
theorem znp(fn:List T->Option T)(i:Nat)(f0:DE)(fa:DA)(s:Sg):zeR fn i f0 fa s=(f0 s).bind fun p=>(p.2[i]?).join.bind fun _=>(fa p.2).bind fun q=>(q.2[i]?).join.bind fun t0=>(fn (p.1::t0::q.1)).bind fun t=>if zmS t=true then some (t,q.2) else none:=rfl
theorem zu5(f:DA)(s:Sg):ztq f s=(f s).bind fun p=>match p.1 with
 |[.lst xs,.lst ys]=>some (zlq xs ys,p.2)
 |_=>none:=rfl
theorem zri(f:DA)(s:Sg):zll f s=(f s).bind fun p=>match p.1 with
 |[.fd kvs,.lst xs]=>some (zlq (kvs.map fun kv=>kT kv.1) xs,p.2)
 |_=>none:=rfl
theorem zuj(c:String)(f:DE)(s:Sg):zlv c f s=(f s).bind fun p=>((isi c p.1).map T.bl).map fun t=>(t,p.2):=rfl
theorem zu6(s:Sg):zf8 s=some (true,s):=rfl
def nT(k:Nat):T:=.int (k:Int)
theorem vnT(k:Nat):nT k=.int (k:Int):=rfl
theorem zrr(i j:Int):zav (.int i) (.int j)=some (.int (i+j)):=rfl
theorem zrq{a b:List T}(h:a.length+b.length<=1000000):zav (.lst a) (.lst b)=some (.lst (a++b)):=by
 have q:a.length+b.length<=jh:=zat h;simp only[zav,orG,ziC,zls,q,if_true]
theorem zuD{a b:List T}(h:a.length+b.length<=1000000):zls (.lst a) (.lst b)=some (.lst (a++b)):=by
 have q:a.length+b.length<=jh:=zat h;simp only[zls,q,if_true]
theorem vSb(i j:Int):gSb (.int i) (.int j)=some (.int (i - j)):=rfl
theorem zx1{i j:Int}(h:-1000000000000<=i/\i<=1000000000000∨-1000000000000<=j/\j<=1000000000000):zdt (.int i) (.int j)=some (.int (i*j)):=by
 have:zlw i j=true:=by unfold zlw; rw[Z4,decide_eq_true_iff,decide_eq_true_iff]; lia
 simp only[zdt,gI,this,if_true]
theorem zxa{i j:Int}(h:0 < j/\j<=1000000000):zhE (.int i) (.int j)=some (.int (i / j)):=by
 have:zpe i j=true:=decide_eq_true (by lia)
 simp only[zhE,gI,this,if_true]
theorem zx2{i j:Int}(h:0 < j):ze9 (.int i) (.int j)=some (.int (i%j)):=by
 have:zqZ i j=true:=decide_eq_true h;simp only[ze9,gI,this,if_true]
theorem zwY(i:Int):zlf (.int i)=some (.int (-i)):=rfl
theorem vLt(i j:Int):gLt (.int i) (.int j)=some (.bl (decide (i < j))):=rfl
theorem vLe(i j:Int):gLe (.int i) (.int j)=some (.bl (decide (i<=j))):=rfl
theorem vGt(i j:Int):gGt (.int i) (.int j)=some (.bl (decide (j < i))):=rfl
theorem vGe(i j:Int):gGe (.int i) (.int j)=some (.bl (decide (j<=i))):=rfl
theorem zx8(i j:Int):gEq (.int i) (.int j)=some (.bl (decide (i=j))):=by simp only[gEq,zdx,jo]; rfl
theorem zwZ(i j:Int):gNe (.int i) (.int j)=some (.bl (!decide (i=j))):=by simp only[gNe,zdx,jo]; rfl
theorem zx9(i j:Bool):gEq (.bl i) (.bl j)=some (.bl (i == j)):=by simp only[gEq,zp5,jo]
theorem zx0(i j:Bool):gNe (.bl i) (.bl j)=some (.bl (!(i == j))):=by simp only[gNe,zp5,jo]
theorem zx7(i j:Str):gEq (.str i) (.str j)=some (.bl (decide (i=j))):=by
 simp only[gEq,zjG,jo]
 by_cases h:i=j<;>simp[h]
theorem zwc(i j:Str):gNe (.str i) (.str j)=some (.bl (!decide (i=j))):=by
 simp only[gNe,zjG,jo]
 by_cases h:i=j<;>simp[h]
theorem zuB(xs ys:List Str):gEq (.lst (xs.map T.str)) (.lst (ys.map T.str))=some (.bl (decide (xs=ys))):=by simp only[gEq,zkz,jo]
theorem zuw(xs ys:List Str):gNe (.lst (xs.map T.str)) (.lst (ys.map T.str))=some (.bl (!decide (xs=ys))):=by simp only[gNe,zkz,jo]
theorem zkA{n:Nat}(xs ys:List Nat):eqD (n+1) (.lst (xs.map nT)) (.lst (ys.map nT))=some (decide (xs=ys)):=zmZ (fun a b=>by
 rw[vnT,vnT,zdx]; refine congrArg some ?_
 by_cases h:a=b
 ·subst h; simp
 ·rw[decide_eq_false h]; simp; lia) xs ys
theorem zuC(xs ys:List Nat):gEq (.lst (xs.map nT)) (.lst (ys.map nT))=some (.bl (decide (xs=ys))):=by simp only[gEq,zkA,jo]
theorem zrs(xs ys:List Nat):gNe (.lst (xs.map nT)) (.lst (ys.map nT))=some (.bl (!decide (xs=ys))):=by simp only[gNe,zkA,jo]
theorem zlC(xs:List T):zcF (.lst xs)=some (.int xs.length):=rfl
theorem zux(xs:List T):zcF (.tup xs)=some (.int xs.length):=rfl
theorem zuA(xs:List (Key × T)):zcF (.dct xs)=some (.int xs.length):=rfl
theorem zuy(xs:List Int):zcF (.scr xs)=some (.int xs.length):=rfl
theorem zkN{α:Type}(xs:List α)(k:Nat):atI xs (k:Int)=xs[k]?:=by
 unfold atI ixN;rw[if_pos (by lia)]
 split
 ·simp
 ·rename_i h;rw[Option.bind_none,eq_comm,Yw]; lia
theorem zk3(xs:List T)(k:Nat):za4 (.lst xs) (.int (k:Int))=xs[k]?:=by
 have:za4 (.lst xs) (.int (k:Int))=orG gIx zqF (.lst xs) (.int (k:Int)):=rfl;rw[this]; unfold orG;have e:gIx (.lst xs) (.int (k:Int))=xs[k]?:=by show atI xs (k:Int)=_; exact zkN xs k
 rw[e];cases xs[k]?<;>rfl
theorem zrv(xs:List T)(k:Nat):za4 (.tup xs) (.int (k:Int))=xs[k]?:=by
 have:za4 (.tup xs) (.int (k:Int))=orG gIx zqF (.tup xs) (.int (k:Int)):=rfl;rw[this]; unfold orG;have e:gIx (.tup xs) (.int (k:Int))=xs[k]?:=by show atI xs (k:Int)=_; exact zkN xs k
 rw[e];cases xs[k]?<;>rfl
theorem zlD(kvs:List (Key × T))(x:Str):za4 (.dct kvs) (.str x)=zbt kvs (.inr x):=by
 show (match (none:Option T) with |some t=>some t |none=>_)=_
 rfl
theorem zpp(kvs:List (Key × T))(x:Int):za4 (.dct kvs) (.int x)=zbt kvs (.inl x):=rfl
theorem zuu(b:Bool):tru (.bl b)=some b:=rfl
theorem zus(xs:List T):tru (.lst xs)=some (!xs.isEmpty):=rfl
theorem zut(i:Int):tru (.int i)=some (i != 0):=rfl
theorem zru(xs:List T):zdT (.lst xs)=some (.lst xs):=rfl
theorem zrt(xs:List T):zdT (.tup xs)=some (.lst xs):=rfl
theorem zrw{xs:List Str}(x:Str)(h:xs.length<=1000000):zgZ (.lst (xs.map T.str)) [.str x]=some (.lst ((xs++[x]).map T.str),.non):=by
 have q:(xs.map T.str).length < jh:=zbK (by rw[j6]; exact h)
 simp only[zgZ,q,if_true,jA,jj,Z3]
theorem zuE{xs:List Nat}(x:Nat)(h:xs.length<=1000000):zgZ (.lst (xs.map nT)) [.int (x:Int)]=some (.lst ((xs++[x]).map nT),.non):=by
 have q:(xs.map nT).length < jh:=zbK (by rw[j6]; exact h)
 simp only[zgZ,q,if_true,jA,jj,Z3,vnT]
theorem zpr{xs:List T}(x:T)(h:xs.length<=1000000):zgZ (.lst xs) [x]=some (.lst (xs++[x]),.non):=by
 have q:xs.length < jh:=zbK h;simp only[zgZ,q,if_true]
theorem zpl(x:Str)(xs:List Str):zbH (.str x) (.lst (xs.map T.str))=some (.bl (!decide (x∈xs))):=by
 simp only[zbH,orG,ziz,zqE,toV,zfF,j5,jo,zku]
theorem zx3(x:Str)(xs:List Str):zt8 (.str x) (.lst (xs.map T.str))=some (.bl (decide (x∈xs))):=by
 simp only[zt8,orG,gIn,zqE,toV,zfF,j5,jo,zku]
theorem zi3(xs:List Nat):zk4 (xs.map nT)=some (xs.map fun(k:Nat)=>V.int (k:Int)):=by
 induction xs with
 |nil=>rfl
 |cons x xs ih=>rw[jj]; unfold zk4; rw[ih]; rfl
theorem zkv(x:Nat)(xs:List Nat):inV (.int (x:Int)) (xs.map fun(k:Nat)=>V.int (k:Int))=decide (x∈xs):=by
 unfold inV;rw[WD,ZM,gS,decide_eq_true_iff];constructor
 ·rintro⟨y,hy,e⟩;have:(y:Int)=x:=by simpa[eqV] using e
  have:y=x:=by lia
  exact this▸hy
 ·intro h;exact⟨x,h,by simp[eqV]⟩
theorem zx4(x:Nat)(xs:List Nat):zt8 (.int (x:Int)) (.lst (xs.map nT))=some (.bl (decide (x∈xs))):=by
 simp only[zt8,orG,gIn,zqE,toV,zi3,j5,jo,zkv]
theorem zpm(x:Nat)(xs:List Nat):zbH (.int (x:Int)) (.lst (xs.map nT))=some (.bl (!decide (x∈xs))):=by
 simp only[zbH,orG,ziz,zqE,toV,zi3,j5,jo,zkv]
theorem zx5(x:Str)(kvs:List (Key × T)):zt8 (.str x) (.dct kvs)=some (.bl (zbt kvs (.inr x)).isSome):=rfl
theorem zpn(x:Str)(kvs:List (Key × T)):zbH (.str x) (.dct kvs)=some (.bl (!(zbt kvs (.inr x)).isSome)):=rfl
theorem zpq(x:Str)(xs:List Str):zgd (.lst (xs.map T.str)) (.str x)=some (.int (xs.count x:Nat)):=by
 simp only[zgd,zfF,toV,j5,jo,zjR]
theorem zlB(xs:List T):isi "list" (.lst xs)=some true:=by simp[isi]
theorem zrf(i:Int):isi "int" (.int i)=some true:=by simp[isi]
theorem zrg(i:Int):isi "bool" (.int i)=some false:=by simp[isi]
theorem zrh(b:Bool):isi "bool" (.bl b)=some true:=by simp[isi]
theorem zlA(xs:List T):isi "tuple" (.tup xs)=some true:=by simp[isi]
theorem zre(x:Str):isi "str" (.str x)=some true:=by simp[isi]
theorem zle(s:Sg):hasAll [] s=true:=rfl
theorem zkK(bs:List Bool):ztA (bs.map T.bl)=some bs:=by
 induction bs with
 |nil=>rfl
 |cons b bs ih=>rw[jj]; unfold ztA; rw[ih]; rfl
theorem zuG(bs:List Bool):zwx (.lst (bs.map T.bl))=some (.bl (bs.all id)):=by simp only[zwx,zkK,jo]
theorem zuF(bs:List Bool):zww (.lst (bs.map T.bl))=some (.bl (bs.any id)):=by simp only[zww,zkK,jo]
theorem zmG(xs:List T):ziy (.lst xs)=true:=rfl
theorem sz0:0<=jh:=Zj _
theorem sz1:1<=jh:=zat (by lia)
theorem sz2:2<=jh:=zat (by lia)
theorem sz3:3<=jh:=zat (by lia)
theorem sz4:4<=jh:=zat (by lia)
theorem ziu{α:Type}{M:List Nat}{caps:List (Option Nat)}{fi:DI}{dg:DG}{ft:DT}{fe:DE}{s:Sg}(xs:List α)(enc:α->T)(b:α->Bool)(e:α->T)(hi:fi s=some (xs.map enc,s))(hl:xs.length<=1000000)
  (h:∀ x∈xs,∃ s1,dg (enc x) (zhO caps s)=some s1/\ft s1=some (b x,s1)/\(b x=true->fe s1=some (e x,s1))/\zax M caps s1 s=s):dLC M caps fi dg ft fe s=some (.lst ((xs.filter b).map e),s):=by
 have key:∀(ys:List α) (acc:List T),(∀ y∈ys,y∈xs)->ziv M caps dg ft fe (ys.map enc) acc s=some (acc++(ys.filter b).map e,s):=by
  intro ys
  induction ys with
  |nil=>intro acc _; unfold ziv; simp
  |cons y ys ih=>
   intro acc hy;obtain⟨s1,h1,h2,h3,h4⟩:=h y (hy y Q0);rw[jj];unfold ziv;rw[h1,j5,h2,j5];have ih':=fun acc=>ih acc fun z hz=>hy z (jF _ hz);cases hb:b y with
   |true=>rw[if_pos rfl,h3 hb,j5,h4,ih',Qk,if_pos hb,jj,jZ]; rfl
   |false=>rw[if_neg jr,h4,ih',Qk,if_neg (by rw[hb]; exact jr)]
 unfold dLC;rw[hi,j5];have q:(xs.map enc).length<=zdN:=zjt (by rw[j6]; exact hl)
 rw[if_pos q,key xs [] (fun _ h=>h),jo];rfl
theorem zju{α:Type}{M:List Nat}{caps:List (Option Nat)}{fi:DI}{dg:DG}{fe:DE}{s:Sg}(xs:List α)(enc:α->T)(e:α->T)(hi:fi s=some (xs.map enc,s))(hl:xs.length<=1000000)
  (h:∀ x∈xs,∃ s1,dg (enc x) (zhO caps s)=some s1/\fe s1=some (e x,s1)/\zax M caps s1 s=s):dLC M caps fi dg zf8 fe s=some (.lst (xs.map e),s):=by
 have:=ziu (M:=M) (caps:=caps) (fi:=fi) (dg:=dg) (ft:=zf8) (fe:=fe) (s:=s) xs enc (fun _=>true) e hi hl fun x hx=>by
  obtain⟨s1,h1,h2,h3⟩:=h x hx;exact⟨s1,h1,rfl,fun _=>h2,h3⟩
 rw[this,NU.mpr (fun _ _=>rfl)]
theorem zje{kvs:List (Key × T)}{k:Key}(t:T)(h:k∉kvs.map (·.1)):zfg kvs k t=kvs++[(k,t)]:=by
 unfold zfg;rw[if_neg];intro z;obtain⟨kv,h1,h2⟩:=gS.mp z;exact h (jy.mpr ⟨kv,h1,of_decide_eq_true h2⟩)
theorem ztp{α:Type}{M:List Nat}{caps:List (Option Nat)}{fi:DI}{dg:DG}{fk fe:DE}{s:Sg}(xs:List α)(enc:α->T)(k:α->T)(kk:α->Key)(e:α->T)(hi:fi s=some (xs.map enc,s))(hl:xs.length<=1000000)(hn:(xs.map kk).Nodup)
  (h:∀ x∈xs,∃ s1,dg (enc x) (zhO caps s)=some s1/\fk s1=some (k x,s1)/\zh1 (k x)=some (kk x)/\fe s1=some (e x,s1)/\zax M caps s1 s=s):dDC M caps fi dg zf8 fk fe s=some (.dct (xs.map fun x=>(kk x,e x)),s):=by
 have key:∀(ys:List α) (zs:List α),zs++ys=xs->znk M caps dg zf8 fk fe (ys.map enc) (zs.map fun x=>(kk x,e x)) s=some (xs.map (fun x=>(kk x,e x)),s):=by
  intro ys
  induction ys with
  |nil=>intro zs hz; rw[QV] at hz; subst hz; unfold znk; rfl
  |cons y ys ih=>
   intro zs hz;obtain⟨s1,h1,h2,h3,h4,h5⟩:=h y (by rw[<-hz]; simp)
   rw[jj];unfold znk;have hk:kk y∉(zs.map fun x=>(kk x,e x)).map (·.1):=by
    rw[jU];intro hm;rw[<-hz,jA,jW] at hn;obtain⟨x,hx,hxe⟩:=jy.mp hm;exact hn.2.2 (kk x) (jy.mpr ⟨x,hx,rfl⟩) (kk y) (by simp) hxe
   rw[h1,j5];simp only[zf8,j5,if_true,h2,h3,h4,h5,zje _ hk];have:=ih (zs++[y]) (by rw[<-hz]; simp)
   rw[jA] at this;exact this
 unfold dDC;rw[hi,j5];have q:(xs.map enc).length<=zdN:=zjt (by rw[j6]; exact hl)
 have k0:=key xs [] rfl;rw[Z3] at k0;rw[if_pos q,k0,jo]
theorem zep{α:Type}(xs:List α)(kk:α->Key)(e:α->T)(k:Key):zbt (xs.map fun x=>(kk x,e x)) k=(xs.find? fun x=>decide (kk x=k)).map e:=by
 unfold zbt;rw[List.find?_map,Option.map_map];rfl
theorem zoc{α:Type}(xs:List α)(enc:α->T):zjH (xs.map enc)=xs.zipIdx.map fun p=>T.tup [.int (p.2:Nat),enc p.1]:=by
 unfold zjH;refine WO (by simp) fun i h1 h2=>?_
 have hi:i < xs.length:=by simpa using h2
 rw[N5,Yo,N5,List.getElem_zipIdx,js,ji,j3 hi];simp
theorem znz(m:Nat):zaR 0 m=(jf m).map nT:=by
 unfold zaR;refine Qv fun i _=>?_;rw[Nx]; rfl
theorem zab{f g:DS}{s s':Sg}{Q:Fl->Prop}(h:f s=some (.nx s'))(k:Run g s' Q):Run (zao f g) s Q:=zaj h k
theorem zka{f g:DS}{s s':Sg}{t:T}{Q:Fl->Prop}(h:f s=some (.rt t s'))(k:Q (.rt t s')):Run (zao f g) s Q:=⟨_,zlP h,k⟩
theorem zcQ{n:Nat}{d:DS}{ts:List T}{t:T}(h:Run d (zaB n ts) fun r=>∃ s,r=.rt t s):fnP n d ts=some t:=by
 obtain⟨r,h1,s,rfl⟩:=h;exact zmR h1
theorem zmQ{n:Nat}{d:DS}{ts:List T}{t:T}(h:Run d (zaB n ts) fun r=>∃ s,r=.rt t s):zni n d ts=some t:=by
 obtain⟨r,h1,s,rfl⟩:=h;exact zmP h1
theorem zbp{d:DS}{s s':Sg}{t t':T}(h:d s=some (.rt t' s'))(k:t'=t):Run d s fun r=>∃ s,r=.rt t s:=⟨_,h,s',by rw[k]⟩
theorem zir{α β:Type}{f:α->β}(hf:∀ a b,f a=f b->a=b):∀ {l:List α},l.Nodup->(l.map f).Nodup
 |[],_=>gE
 |a::l,h=>by
  rw[Q1] at h;rw[jj,Q1];refine⟨fun z=>?_,zir hf h.2⟩;obtain⟨b,hb,e⟩:=jy.mp z;exact h.1 (hf _ _ e▸hb)
theorem zuq(s:Sg):zhO [] s=[]:=rfl
theorem zup(cs:List (Option Nat))(s:Sg):zhO (none::cs) s=none::zhO cs s:=rfl
theorem zuo(j:Nat)(cs:List (Option Nat))(s:Sg):zhO (some j::cs) s=(s[j]?).join::zhO cs s:=rfl
theorem zfq{f g:DS}{s s':Sg}{t t':T}(h:f s=some (.rt t' s'))(k:t'=t):Run (zao f g) s fun r=>∃ s,r=.rt t s:=⟨_,zlP h,s',by rw[k]⟩
theorem zaX{d:DS}{s s':Sg}{P:Sg->Prop}(h:d s=some (.nx s'))(k:P s'):Run d s (ztK P):=⟨_,h,k⟩
def znf(P:Sg->Prop)(Q:Fl->Prop):Fl->Prop
 |.nx s=>P s
 |.ct s=>P s
 |.rt t s=>Q (.rt t s)
 |.bk _=>False
theorem zmw{g:DG}{db:DS}{Q:Fl->Prop}(I:Nat->Sg->Prop):∀(xs:List T) (i:Nat) (s:Sg),I i s->(∀ j x s,xs[j]?=some x->I (i+j) s->∃ s1,g x s=some s1/\Run db s1 (znf (I (i+j+1)) Q))->
  (∃ s',zdd g db xs s=some (.nx s')/\I (i+xs.length) s')∨∃ t s',zdd g db xs s=some (.rt t s')/\Q (.rt t s')
 |[],i,s,h0,_=>.inl ⟨s,by unfold zdd; rfl,h0⟩
 |x::xs,i,s,h0,h=>by
  obtain⟨s1,h1,r,h2,h3⟩:=h 0 x s rfl h0;have next:∀ s2,I (i+0+1) s2->(∃ s',zdd g db xs s2=some (.nx s')/\I (i+(xs.length+1)) s')∨∃ t s',zdd g db xs s2=some (.rt t s')/\Q (.rt t s'):=fun s2 q=>by
   have:=zmw I xs (i+1) s2 q fun j y s e q'=>by
    have z:=h (j+1) y s (by simpa using e)
    rw[show i+(j+1)=i+1+j by lia] at z
    exact z q'
   rw[show i+(xs.length+1)=i+1+xs.length by lia]
   exact this
  rw[jm];cases r with
  |nx s2=>unfold zdd; rw[h1,j5,h2,j5]; exact next s2 h3
  |ct s2=>unfold zdd; rw[h1,j5,h2,j5]; exact next s2 h3
  |bk s2=>exact h3.elim
  |rt t s2=>exact .inr ⟨t,s2,by unfold zdd; rw[h1,j5,h2]; rfl,h3⟩
theorem zhj{fi:DI}{g:DG}{db d:DS}{s s1:Sg}{its:List T}{Q:Fl->Prop}(I:Nat->Sg->Prop)(h:fi s=some (its,s1))(h0:I 0 s1)
  (hs:∀ j x s,its[j]?=some x->I j s->∃ s1,g x s=some s1/\Run db s1 (znf (I (j+1)) Q)) (k:∀ s',I its.length s'->Run d s' Q):Run (zao (zf9 fi g db) d) s Q:=by
 rcases zmw (g:=g) (db:=db) (Q:=Q) I its 0 s1 h0 (fun j x s e q=>by rw[Z5] at q ⊢; exact hs j x s e q) with ⟨s',h1,h2⟩ |⟨t,s',h1,h2⟩
 ·rw[Z5] at h2;exact zaj (zky h h1) (k s' h2)
 ·refine⟨.rt t s',?_,h2⟩;unfold zao zf9;rw[h,j5,h1];rfl
theorem zei{fi:DI}{g:DG}{db:DS}{s s1:Sg}{its:List T}{Q:Fl->Prop}(I:Nat->Sg->Prop)(h:fi s=some (its,s1))(h0:I 0 s1)
  (hs:∀ j x s,its[j]?=some x->I j s->∃ s1,g x s=some s1/\Run db s1 (znf (I (j+1)) Q)) (k:∀ s',I its.length s'->Q (.nx s')):Run (zf9 fi g db) s Q:=by
 rcases zmw (g:=g) (db:=db) (Q:=Q) I its 0 s1 h0 (fun j x s e q=>by rw[Z5] at q ⊢; exact hs j x s e q) with ⟨s',h1,h2⟩ |⟨t,s',h1,h2⟩
 ·rw[Z5] at h2;exact⟨_,zky h h1,k s' h2⟩
 ·refine⟨.rt t s',?_,h2⟩;unfold zf9;rw[h,j5,h1]
theorem zg1{d:DS}{s s':Sg}{P:Sg->Prop}{Q:Fl->Prop}(h:d s=some (.nx s'))(k:P s'):Run d s (znf P Q):=⟨_,h,k⟩
theorem zjk{d:DS}{s s':Sg}{P:Sg->Prop}{Q:Fl->Prop}{t:T}(h:d s=some (.rt t s'))(k:Q (.rt t s')):Run d s (znf P Q):=⟨_,h,k⟩
theorem zu4(c:Nat):zns c=.str ⟨#[c]⟩:=rfl
theorem zuz(xs:List (Key × T)):zcF (.fd xs)=some (.int xs.length):=rfl
end L3
namespace Dw
open PySem PySem.Spec PyProof.Rows L2 L3
theorem zko(x:Str):∀(wd acc:List Str),x∈wd.foldl stp acc↔x∈acc∨x∈wd
 |[],acc=>by simp
 |y::wd,acc=>by
  rw[Zr,zko x wd,jq];unfold stp;split
  ·rename_i h;constructor
   ·rintro(q |q)
    ·exact .inl q
    ·exact .inr (.inr q)
   ·rintro(q |q |q)
    ·exact .inl q
    ·exact .inl (q▸h)
    ·exact .inr q
  ·rw[jz,jG];constructor
   ·rintro((q |q) |q)
    ·exact .inl q
    ·exact .inr (.inl q)
    ·exact .inr (.inr q)
   ·rintro(q |q |q)
    ·exact .inl (.inl q)
    ·exact .inl (.inr q)
    ·exact .inr q
theorem mem_firsts{x:Str}{wd:List Str}:x∈za0 wd↔x∈wd:=by unfold za0; rw[zko]; simp
theorem zgW:∀(wd acc:List Str),acc.Nodup->(wd.foldl stp acc).Nodup
 |[],acc,h=>h
 |y::wd,acc,h=>by
  rw[Zr];refine zgW wd _ ?_;unfold stp;split
  ·exact h
  ·rename_i q;rw[jW];exact⟨h,by simp,fun a ha b hb e=>q (by rw[jG] at hb; subst hb; subst e; exact ha)⟩
theorem zbn(wd:List Str):(za0 wd).Nodup:=zgW wd [] gE
theorem zeu(wd:List Str):(za0 wd).length<=wd.length:=by have:=zh4 wd []; simpa[za0] using this
def zam(wd:List Str):T:=.fd ((za0 wd).map fun x=>(Z2 x,.lst ((zaa wd x).map nT)))
def zjD:List T->Option T
 |[.lst ts]=>(zdM ts).bind fun wd=>if wd.length<=1000 then some (zam wd) else none
 |_=>none
theorem zli{wd:List Str}(h:wd.length<=1000):zjD [.lst (wd.map T.str)]=some (zam wd):=by
 simp only[zjD,zgH,j5,h,if_true]
def vNs(l:List Nat):List V:=l.map fun(k:Nat)=>V.int (k:Int)
def zc6(wd:List Str)(n:Nat)(x:Str):List Nat:=(jf n).filter fun j=>decide (wd[j]?=some x)
theorem zf4{wd:List Str}{n:Nat}{x:Str}(h:wd[n]?=some x):zc6 wd (n+1) x=zc6 wd n x++[n]:=by
 unfold zc6;rw[gm,QY,Qk,if_pos (decide_eq_true h)];rfl
theorem zfZ{wd:List Str}{n:Nat}{x:Str}(h:¬ wd[n]?=some x):zc6 wd (n+1) x=zc6 wd n x:=by
 unfold zc6;rw[gm,QY,Qk,if_neg (by simpa using h)]
 simp
theorem zhs{wd:List Str}{n:Nat}{x:Str}(h:x∉wd.take n):zc6 wd n x=[]:=by
 refine Zf.mpr fun j hj=>?_;rw[decide_eq_true_iff];intro e;refine h (Ny.mpr ⟨j,?_⟩);rw[Yn,if_pos (jk.mp hj)];exact e
theorem zan{wd:List Str}{n:Nat}{x:Str}(h:wd[n]?=some x)(y:Str):y∈wd.take (n+1)↔y∈wd.take n∨y=x:=by
 rw[List.take_add_one,h,jz];simp
def SameH(H H':Hp):Prop:=∀ b o,H b=some o->H' b=some o
theorem zcN{H:Hp}{p:Addr}(h:H p=none)(o:HO):SameH H (upd H p o):=fun b u q=>by rw[za5 (za6 q h)]; exact q
theorem SameH.trans{H H1 H2:Hp}(x:SameH H H1)(y:SameH H1 H2):SameH H H2:=fun b o h=>y b o (x b o h)
theorem SameH.free{H H1:Hp}(x:SameH H H1){p:Addr}(h:H1 p=none):H p=none:=by
 cases e:H p with
 |none=>rfl
 |some o=>rw[x p o e] at h; cases h
theorem SameH.updNew{H H1:Hp}(x:SameH H H1){p:Addr}(h:H p=none)(o:HO):SameH H (upd H1 p o):=fun b u q=>by rw[za5 (za6 q h)]; exact x b u q
structure Spots (wd:List Str) (n:Nat) (r:Addr) (H:Hp) (kvs:List (Key × V)) (f:Str->Addr):Prop where
 here:H r=some (.dK kvs)
 keys:kvs.map (·.1)=(za0 (wd.take n)).map Z2
 yes:∀ x,x∈wd.take n->ze7 kvs (.inr x)=some (.ref (f x))/\H (f x)=some (.lst (vNs (zc6 wd n x)))
 no:∀ x,x∉wd.take n->ze7 kvs (.inr x)=none
 inj:∀ x y,x∈wd.take n->y∈wd.take n->f x=f y->x=y
theorem Spots.few{wd:List Str}{n:Nat}{r:Addr}{H:Hp}{kvs:List (Key × V)}{f:Str->Addr}(h:Spots wd n r H kvs f):kvs.length<=n:=by
 have h1:=congrArg ge h.keys;rw[j6,j6] at h1;have h2:=zeu (wd.take n);rw[jQ] at h2;lia
theorem zpk{kvs:List (Key × V)}(hn:(kvs.map (·.1)).Nodup){i:Nat}{kv:Key × V}(h:kvs[i]?=some kv):ze7 kvs kv.1=some kv.2:=by
 induction kvs generalizing i with
 |nil=>simp at h
 |cons p kvs ih=>
  rw[jj,Q1] at hn;unfold ze7;rw[QX];cases i with
  |zero=>
   simp at h; subst h;simp
  |succ i=>
   have h':kvs[i]?=some kv:=by simpa using h
   have hne:¬ p.1=kv.1:=fun z=>hn.1 (z▸jy.mpr ⟨kv,jJ h',rfl⟩);rw[decide_eq_false hne];exact ih hn.2 h'
theorem zih[TheK]{C:Addr->Prop}{H:Hp}:∀(l:List Nat),Reps C H (vNs l) (l.map nT)
 |[]=>.nil
 |k::l=>.cons (.int _) (zih l)
theorem Spots.rep{wd:List Str}{r:Addr}{H:Hp}{kvs:List (Key × V)}{f:Str->Addr}[TheK](C:Addr->Prop)(h:Spots wd wd.length r H kvs f)(hr:C r)(hf:∀ x,x∈wd.take wd.length->C (f x)/\f x≠r)(o:Obj) :
  Rep C (upd H r (.frz o (.dK kvs))) (.ref r) (zam wd):=by
 have hk:=h.keys;rw[Qw] at hk;have hnd:(kvs.map (·.1)).Nodup:=by rw[hk]; exact zir (fun _ _=>ZK) (zbn wd)
 refine .fd hr zae (by rw[hk,jU]; rfl) fun i kv t e1 e2=>?_
 rw[ji] at e2;obtain⟨x,hx,rfl⟩:=Qm e2;have hkx:kv.1=Z2 x:=by
  have q:=congrArg (·[i]?) hk
  simp only[ji,e1,hx,jo] at q;exact jd q
 have hm:x∈wd.take wd.length:=by rw[Qw]; exact mem_firsts.mp (jJ hx)
 obtain⟨v1,v2⟩:=h.yes x hm;have v3:=zpk hnd e1;rw[hkx,v1] at v3;have e3:kv.2=.ref (f x):=(jd v3).symm;rw[e3];obtain⟨c1,c2⟩:=hf x hm;have:=zih (C:=C) (H:=upd H r (.frz o (.dK kvs))) (zaa wd x);exact .lst c1 (by rw[za5 c2]; exact v2) this.1 this.2
theorem znZ{kvs:List (Key × V)}{k:Key}(v:V)(h:ze7 kvs k=none):(zfh kvs k v).map (·.1)=kvs.map (·.1)++[k]:=by
 unfold zfh;rw[if_neg,jA]; rfl;intro z;obtain⟨kv,h1,h2⟩:=gS.mp z;unfold ze7 at h;rw[Option.map_eq_none_iff,Wc] at h;exact h kv h1 h2
def zer(i j:Nat)(ps:List Nat):List Nat:=ps.filter fun k=>decide (i < k)&&decide (k < j)
theorem zdH{wd:List Str}{i j:Nat}(y:Str)(hij:i < j)(hj:j < wd.length):(zkL wd i j).count y=(zer i j (zaa wd y)).length:=by
 rw[<-zdp];unfold zaa zer zkL;have hl:((wd.drop (i+1)).take (j - (i+1))).length=j - (i+1):=by rw[jQ,QH]; lia
 rw[hl];have e:wd.length=(i+1)+((j - (i+1))+(wd.length - j)):=by lia
 rw[Wd];have er:jf wd.length=jf (i+1)++((jf (j - (i+1))).map (fun x=>i+1+x)++(jf (wd.length - j)).map ((fun x=>i+1+x)∘fun x=>j - (i+1)+x)):=by
  conv=>lhs; rw[e]
  rw[Jb (n:=i+1),Jb (n:=j - (i+1)),jA,jU]
 rw[er,QY,QY];have e1:(jf (i+1)).filter (fun k=>(decide (i < k)&&decide (k < j))&&decide (wd[k]?=some y))=[]:=by
  refine Zf.mpr fun k hk=>?_;have:=jk.mp hk;rw[decide_eq_false (by lia:¬ i < k),Ys,Ys]
  exact jr
 have e3:((jf (wd.length - j)).map ((fun x=>i+1+x)∘fun x=>j - (i+1)+x)).filter (fun k=>(decide (i < k)&&decide (k < j))&&decide (wd[k]?=some y))=[]:=by
  refine Zf.mpr fun k hk=>?_;obtain⟨m,hm,rfl⟩:=jy.mp hk;have:¬ ((fun x=>i+1+x)∘fun x=>j - (i+1)+x) m < j:=by
   show ¬ i+1+(j - (i+1)+m) < j;lia
  rw[decide_eq_false this,Yu,Ys];exact jr
 rw[e1,e3,Zb,QV,gq,j6];refine congrArg ge (YL fun k hk=>?_);have hk':=jk.mp hk;show _=((decide (i < i+1+k)&&decide (i+1+k < j))&&decide (wd[i+1+k]?=some y));rw[decide_eq_true (by lia:i < i+1+k),decide_eq_true (by lia:i+1+k < j),Yn,if_pos hk',List.getElem?_drop]
 rfl
theorem zjA{i j:Nat}:zer i j [i,j]=[]:=by
 refine Zf.mpr fun k hk=>?_;rcases jq.mp hk with rfl |hk
 ·simp
 ·rcases jq.mp hk with rfl |hk
  ·simp
  ·cases hk
theorem zbl{wd:List Str}{x:Str}{k:Nat}(h:k∈zaa wd x):wd[k]?=some x:=of_decide_eq_true (jR.mp h).2
theorem zjz{i j k l:Nat}(h1:i < j)(h2:k < l)(a:i≠k)(b:i≠l)(c:j≠k)(d:j≠l):decide ((zer i j [k,l]).length=1)=decide ((zer k l [i,j]).length=1):=by
 have f:∀ p q r s:Nat,(zer p q [r,s]).length=(if p < r/\r < q then 1 else 0)+(if p < s/\s < q then 1 else 0):=fun p q r s=>by
  unfold zer
  by_cases h:p < r/\r < q<;>by_cases h':p < s/\s < q<;>simp[Qk,h,h']
 rw[f,f,ZM,decide_eq_true_iff,decide_eq_true_iff];split<;>split<;>split<;>split<;>lia
theorem zjQ{wd:List Str}{x y:Str}{i j k l:Nat}(hx:zaa wd x=[i,j])(hy:zaa wd y=[k,l]):decide ((zkL wd i j).count y=1)=decide ((zkL wd k l).count x=1):=by
 obtain⟨a,b⟩:=zaT hx;obtain⟨c,d⟩:=zaT hy;rw[zdH y a b,zdH x c d,hx,hy]
 by_cases h:x=y
 ·subst h;rw[hx] at hy;injection hy with e1 e2;injection e2 with e2 _;subst e1 e2;rfl
 ·have mx:∀ p∈[i,j],wd[p]?=some x:=fun p hp=>zbl (hx▸hp);have my:∀ p∈[k,l],wd[p]?=some y:=fun p hp=>zbl (hy▸hp);have ne:∀ p∈[i,j],∀ q∈[k,l],p≠q:=fun p hp q hq e=>h (jd ((mx p hp).symm.trans (e▸my q hq)));exact zjz a c (ne i (by simp) k (by simp)) (ne i (by simp) l (by simp)) (ne j (by simp) k (by simp)) (ne j (by simp) l (by simp))
theorem zlo{wd:List Str}{x y:Str}{i j:Nat}(hx:zaa wd x=[i,j]):decide ((zkL wd i j).count y=1)=(decide (x≠y)&&decide ((zer i j (zaa wd y)).length=1)):=by
 obtain⟨a,b⟩:=zaT hx;rw[zdH y a b]
 by_cases h:x=y
 ·subst h;rw[hx,zjA];simp
 ·rw[decide_eq_true h,Jw]
theorem zgq{wd:List Str}{x:Str}{i j:Nat}(hx:zaa wd x=[i,j]):decide ((zkL wd i j).count x=1)=false:=by
 rw[zlo hx];simp
def crs(wd:List Str)(x y:Str):Bool:=match zaa wd x with
 |[i,j]=>decide ((zkL wd i j).count y=1)
 |_=>false
theorem zh6{wd:List Str}{x:Str}{i j:Nat}(h:zaa wd x=[i,j])(y:Str):crs wd x y=decide ((zkL wd i j).count y=1):=by unfold crs; rw[h]
theorem zqT{wd:List Str}(g:GoodWord wd){x y:Str}(hx:x∈wd)(hy:y∈wd):crs wd x y=crs wd y x:=by
 obtain⟨i,j,h1⟩:=g.places hx;obtain⟨k,l,h2⟩:=g.places hy;rw[zh6 h1,zh6 h2,zjQ h1 h2]
theorem zos{wd:List Str}(g:GoodWord wd){x:Str}(hx:x∈wd):crs wd x x=false:=by
 obtain⟨i,j,h1⟩:=g.places hx;rw[zh6 h1,zgq h1]
theorem zhG{xs:List Str}{x:Str}(h:x∈xs):(xs.find? fun y=>decide ((Z2 y:Key)=Z2 x))=some x:=by
 induction xs with
 |nil=>cases h
 |cons y ys ih=>
  rw[QX]
  by_cases e:y=x
  ·subst e; simp
  ·rw[decide_eq_false (fun z=>e (ZK z))];rcases jq.mp h with q |q
   ·exact absurd q.symm e
   ·exact ih q
theorem zey(kvs:List (Key × T))(x:Str):za4 (.fd kvs) (.str x)=zbt kvs (.inr x):=rfl
theorem zk6{wd:List Str}{x:Str}(h:x∈wd):za4 (zam wd) (.str x)=some (.lst ((zaa wd x).map nT)):=by
 unfold zam;rw[zey,zep,zhG (mem_firsts.mpr h)];rfl
theorem zkX(wd:List Str)(s s':Sg)(f:DE)(h:f s=some (zam wd,s')):zdc f s=some ((za0 wd).map T.str,s'):=by
 unfold zdc;rw[h];unfold zam;simp only[j5,jU];rfl
theorem zi5:∀(wd ns:List Str),ns.Nodup->(∀ x∈wd,x∈ns)->wd.length=(ns.map fun x=>wd.count x).sum
 |[],ns,_,_=>by
  have:(ns.map fun x=>([]:List Str).count x)=ns.map fun _=>0:=Qv fun x _=>by simp
  have z:∀ l:List Str,(l.map fun _=>0).sum=0:=fun l=>by
   induction l with
   |nil=>rfl
   |cons n l ih=>rw[jj,Y2,ih]
  rw[this,z];rfl
 |y::wd,ns,hn,h=>by
  have ih:=zi5 wd ns hn fun x hx=>h x (jF _ hx);have key:∀(ns:List Str),ns.Nodup->(ns.map fun x=>(y::wd).count x).sum=(ns.map fun x=>wd.count x).sum+if y∈ns then 1 else 0:=by
   intro ns
   induction ns with
   |nil=>intro _; rfl
   |cons n ns ihn=>
    intro hn;rw[Q1] at hn;rw[jj,Y2,jj,Y2,ihn hn.2,Zq]
    by_cases e:y=n
    ·subst e;rw[if_pos (by simp),if_neg hn.1,if_pos (by simp)]; lia
    ·rw[if_neg (by simpa using e)]
     by_cases e2:y∈ns
     ·rw[if_pos e2,if_pos (jF _ e2)]; lia
     ·rw[if_neg e2,if_neg (by simp[e,e2])]; lia
  rw[key ns hn,if_pos (h y Q0),<-ih,jm]
theorem zdU{wd:List Str}(h:∀ x∈wd,wd.count x=2):wd.length=2*(za0 wd).length:=by
 have:=zi5 wd (za0 wd) (zbn wd) fun x hx=>mem_firsts.mpr hx;rw[this];have e:(za0 wd).map (fun x=>wd.count x)=(za0 wd).map fun _=>2:=Qv fun x hx=>h x (mem_firsts.mp hx);rw[e];generalize za0 wd=l
 induction l with
 |nil=>rfl
 |cons a l ih=>rw[jj,Y2,ih,jm]; lia
theorem zce{wd:List Str}{x:Str}(h:wd.count x=2):∃ i j,zaa wd x=[i,j]:=by
 have hl:=zdp wd x;rw[h] at hl
 match h:zaa wd x,hl with
 |[i,j],_=>exact⟨i,j,rfl⟩
def clo(l:List Str):Bool:=decide (l.length=2*(za0 l).length)
def rest(w:List Str)(st n:Nat):List Str:=w.take st++w.drop (st+n)
end Dw
namespace Dw
theorem zdq{α:Type}[DecidableEq α]:∀ {l m:List α},l.Nodup->(∀ x∈l,x∈m)->l.length<=m.length
 |[],m,_,_=>Zj _
 |a::l,m,hd,h=>by
  rw[Q1] at hd;have hm:a∈m:=h a (by simp)
  have ih:=zdq (l:=l) (m:=m.erase a) hd.2 fun x hx=>(gU (fun z:x=a=>hd.1 (z▸hx))).mpr (h x (jF _ hx));rw[YM hm] at ih;have:=Nb hm;rw[jm];lia
def itr(f:Nat->Nat):Nat->Nat->Nat
 |0,x=>x
 |k+1,x=>f (itr f k x)
theorem zeJ(f:Nat->Nat)(j k x:Nat):itr f (j+k) x=itr f j (itr f k x):=by
 induction j with
 |zero=>rw[Z5]; rfl
 |succ j ih=>rw[Nat.succ_add]; show f (itr f (j+k) x)=f (itr f j (itr f k x)); rw[ih]
structure Perm1 (n:Nat) (f:Nat->Nat):Prop where
 lt:∀ x,x < n->f x < n
 inj:∀ x y,x < n->y < n->f x=f y->x=y
theorem Perm1.itr_lt{n:Nat}{f:Nat->Nat}(h:Perm1 n f)(k:Nat){x:Nat}(hx:x < n):itr f k x < n:=by
 induction k with
 |zero=>exact hx
 |succ k ih=>exact h.lt _ ih
theorem Perm1.itr_inj{n:Nat}{f:Nat->Nat}(h:Perm1 n f)(k:Nat){x y:Nat}(hx:x < n)(hy:y < n)(e:itr f k x=itr f k y):x=y:=by
 induction k with
 |zero=>exact e
 |succ k ih=>exact ih (h.inj _ _ (h.itr_lt k hx) (h.itr_lt k hy) e)
theorem Perm1.back{n:Nat}{f:Nat->Nat}(h:Perm1 n f){x:Nat}(hx:x < n):∃ p,0 < p/\itr f p x=x:=by
 by_cases hd:((jf (n+1)).map fun k=>itr f k x).Nodup
 ·have:=zdq (m:=jf n) hd fun y hy=>by
   obtain⟨k,_,rfl⟩:=jy.mp hy;exact jk.mpr (h.itr_lt k hx)
  rw[j6,QM,QM] at this;lia
 ·have:∃ i j,i < j/\itr f i x=itr f j x:=by
   apply gb;intro hne;apply hd;rw[NF,Zo];exact JQ (fun {i j} hij e=>hne ⟨i,j,hij,e⟩) Zd
  obtain⟨i,j,hij,e⟩:=this;refine⟨j - i,by lia,?_⟩
  have e2:itr f j x=itr f i (itr f (j - i) x):=by rw[<-zeJ]; congr 1; lia
  rw[e2] at e;exact(h.itr_inj i hx (h.itr_lt _ hx) e).symm
def Orb(f:Nat->Nat)(x y:Nat):Prop:=∃ k,itr f k x=y
theorem Orb.refl(f:Nat->Nat)(x:Nat):Orb f x x:=⟨0,rfl⟩
theorem Orb.trans{f:Nat->Nat}{x y z:Nat}(a:Orb f x y)(b:Orb f y z):Orb f x z:=by
 obtain⟨j,rfl⟩:=a;obtain⟨k,rfl⟩:=b;exact⟨k+j,zeJ f k j x⟩
theorem zqs{f:Nat->Nat}{p x:Nat}(h:itr f p x=x)(m:Nat):itr f (m*p) x=x:=by
 induction m with
 |zero=>rw[Nat.zero_mul]; rfl
 |succ m ih=>rw[Nat.succ_mul,zeJ,h,ih]
theorem Orb.symm{n:Nat}{f:Nat->Nat}(h:Perm1 n f){x y:Nat}(hx:x < n)(a:Orb f x y):Orb f y x:=by
 obtain⟨k,rfl⟩:=a;obtain⟨p,hp,e⟩:=h.back hx;refine⟨k*p - k,?_⟩;rw[<-zeJ,show k*p - k+k=k*p by have:=Nat.le_mul_of_pos_right k hp; lia]
 exact zqs e k
structure Trav (n:Nat) (R:Nat->Nat->Prop) (L:List Nat):Prop where
 lt:∀ x∈L,x < n
 one:L.Pairwise fun x y=>¬ R x y
 all:∀ x,x < n->∃ y∈L,R y x
end Dw
namespace Dw
open PySem
abbrev Org:=List (Str × Option Str)
def kys(O:Org):List Str:=O.map (·.1)
inductive Way (O:Org):Str->List Str->Prop
 |root {x:Str} (h:(x,none)∈O):Way O x [x]
 |step {x p:Str} {w:List Str} (h:(x,some p)∈O) (k:Way O p w):Way O x (x::w)
section
variable {O O':Org}{x y z m:Str}{w w' a b:List Str}
theorem zdr{e:Str × Option Str}(h:e∈O):e.1∈kys O:=jy.mpr ⟨e,h,rfl⟩
theorem zqq(h:x∈kys O):∃ o,(x,o)∈O:=by
 obtain⟨⟨y,o⟩,h1,h2⟩:=jy.mp h;exact⟨o,by dsimp only at h2; rw[<-h2]; exact h1⟩
theorem zaJ:kys (O++O')=kys O++kys O':=by unfold kys; rw[jA]
theorem Way.mono(h:∀ e∈O,e∈O')(k:Way O x w):Way O' x w:=by
 induction k with
 |root q=>exact .root (h _ q)
 |step q _ ih=>exact .step (h _ q) ih
theorem zgi:∀ {O:Org},(kys O).Nodup->∀ {x:Str} {o o':Option Str},(x,o)∈O->(x,o')∈O->o=o'
 |[],_,_,_,_,h,_=>by cases h
 |e::O,nd,x,o,o',h,h'=>by
  obtain⟨n1,n2⟩:=Q1.mp (show (e.1::kys O).Nodup from nd);rcases jq.mp h with h1 |h1<;>rcases jq.mp h' with h2 |h2
  ·have:=h1.trans h2.symm;exact congrArg JO this
  ·have q:x∈kys O:=zdr h2;have q2:x=e.1:=congrArg Prod.fst h1;exact absurd (q2▸q) n1
  ·have q:x∈kys O:=zdr h1;have q2:x=e.1:=congrArg Prod.fst h2;exact absurd (q2▸q) n1
  ·exact zgi n2 h1 h2
theorem Way.one(nd:(kys O).Nodup)(k:Way O x w):∀ {w'},Way O x w'->w=w':=by
 induction k with
 |root q=>
  intro w' k';cases k' with
  |root _=>rfl
  |step q' _=>cases zgi nd q q'
 |step q _ ih=>
  intro w' k';cases k' with
  |root q'=>cases zgi nd q q'
  |step q' k2=>
   have:=zgi nd q q';injection this with this;subst this;rw[ih k2]
theorem Way.head(k:Way O x w):∃ t,w=x::t:=by
 cases k with
 |root _=>exact⟨[],rfl⟩
 |step _ _=>exact⟨_,rfl⟩
theorem Way.from(k:Way O x w):∀ {a b},w=a++z::b->Way O z (z::b):=by
 induction k with
 |root q=>
  intro a b h;cases a with
  |nil=>injection h with h1 h2; subst h1 h2; exact .root q
  |cons c a=>injection h with h1 h2; simp at h2
 |step q k ih=>
  intro a b h;cases a with
  |nil=>injection h with h1 h2; subst h1 h2; exact .step q k
  |cons c a=>injection h with h1 h2; exact ih h2
theorem Way.key(k:Way O x w):∀ u∈w,u∈kys O:=by
 induction k with
 |root q=>intro u hu; rw[jG] at hu; subst hu; exact zdr q
 |step q _ ih=>
  intro u hu;rcases jq.mp hu with hu |hu
  ·subst hu; exact zdr q
  ·exact ih u hu
theorem Way.nodup(nd:(kys O).Nodup)(k:Way O x w):w.Nodup:=by
 induction k with
 |root q=>simp
 |@step x p w q k ih=>
  refine Q1.mpr ⟨fun hx=>?_,ih⟩;obtain⟨a,b,rfl⟩:=Yp hx;have k1:Way O x (x::(a++x::b)):=.step q k;have k2:=k.from (z:=x) (a:=a) (b:=b) rfl;have:=k1.one nd k2;have:=congrArg ge this;simp at this;lia
def Chn(G:Str->Str->Prop):List Str->Prop
 |a::b::l=>G a b/\Chn G (b::l)
 |_=>True
variable {G:Str->Str->Prop}
theorem Chn.join:∀ {l:List Str} {m:Str} {r:List Str},Chn G (l++[m])->Chn G (m::r)->Chn G (l++m::r)
 |[],_,_,_,h=>h
 |[c],_,_,h1,h2=>⟨h1.1,h2⟩
 |c::d::l,_,_,h1,h2=>⟨h1.1,Chn.join (l:=d::l) h1.2 h2⟩
theorem Chn.pre:∀ {l r:List Str},Chn G (l++r)->Chn G l
 |[],_,_=>trivial
 |[_],_,_=>trivial
 |_::d::l,_,h=>⟨h.1,Chn.pre (l:=d::l) h.2⟩
theorem Chn.rev(sy:∀ a b,G a b->G b a):∀ {l:List Str},Chn G l->Chn G l.reverse
 |[],_=>trivial
 |[_],_=>trivial
 |c::d::l,h=>by
  have:=Chn.rev sy (l:=d::l) h.2;rw[Z1] at this;rw[Z1,Z1,jZ];exact Chn.join this ⟨sy _ _ h.1,trivial⟩
theorem Chn.imp{G':Str->Str->Prop}(hi:∀ a b,G a b->G' a b):∀ {l:List Str},Chn G l->Chn G' l
 |[],_=>trivial
 |[_],_=>trivial
 |_::d::l,h=>⟨hi _ _ h.1,Chn.imp hi (l:=d::l) h.2⟩
theorem Way.chn(k:Way O x w):Chn (fun a b=>(a,some b)∈O) w:=by
 induction k with
 |root q=>trivial
 |step q k ih=>
  obtain⟨t,rfl⟩:=k.head;exact⟨q,ih⟩
def evs(ev:Str->Str->Bool):List Str->Nat
 |a::b::l=>(if ev a b then 1 else 0)+evs ev (b::l)
 |_=>0
theorem zgh{ev:Str->Str->Bool}{sd:Str->Bool}:∀(l:List Str) (x y:Str),Chn (fun a b=>ev a b=(sd a != sd b)) (x::l)->(x::l).getLast?=some y->(evs ev (x::l)%2=1↔sd x≠sd y)
 |[],x,y,_,h=>by
  simp at h; subst h;simp[evs]
 |z::l,x,y,c,h=>by
  have ih:=zgh l z y c.2 (by simpa using h)
  have e:=c.1;show (((if ev x z then 1 else 0)+evs ev (z::l))%2=1↔_)
  rw[e];cases h1:sd x<;>cases h2:sd z<;>cases h3:sd y<;>rw[h2,h3] at ih<;>simp at ih ⊢<;>lia
theorem zpP{adj ev:Str->Str->Bool}{sd:Str->Bool}{f n c:List Str}(nd:(kys O).Nodup)(hs:∀ a b,(a,some b)∈O->adj a b=true/\adj b a=true/\ev a b=(sd a != sd b)/\ev b a=(sd a != sd b))
  (hx:Way O x (f++m::c)) (hy:Way O y (n++m::c)) (he:f=[]∨n=[]∨f.getLast?≠n.getLast?) (hxx:adj x x=false) (hyx:adj y x=true) (hw:ev y x≠(sd y != sd x)) (hwy:ev x y=ev y x) :
  (f++m::n.reverse).Nodup/\(∀ u∈f++m::n.reverse,u∈kys O)/\3<=(f++m::n.reverse).length/\Chn (fun a b=>adj a b=true) (f++m::n.reverse)/\(f++m::n.reverse).head?=some x/\(f++m::n.reverse).getLast?=some y/\((if ev y x then 1 else 0)+evs ev (f++m::n.reverse))%2=1:=by
 have ndx:=hx.nodup nd;have ndy:=hy.nodup nd;have sp:∀ {l:List Str},(l++m::c).Nodup->l.Nodup/\m∉l:=fun {l} h=>by
  obtain⟨h1,_,h2⟩:=jW.mp h;exact⟨h1,fun hm=>h2 m hm m (.head _) rfl⟩
 obtain⟨nf,mf⟩:=sp ndx;obtain⟨nn,mn⟩:=sp ndy;have dis:∀ z,z∈f->z∈n->False:=fun z hf hn=>by
  obtain⟨f1,f2,rfl⟩:=Yp hf;obtain⟨n1,n2,rfl⟩:=Yp hn;have k1:=hx.from (z:=z) (a:=f1) (b:=f2++m::c) (by simp)
  have k2:=hy.from (z:=z) (a:=n1) (b:=n2++m::c) (by simp)
  have e:=k1.one nd k2;injection e with _ e;have e:=List.append_cancel_right e;subst e;rcases he with he |he |he
  ·simp at he
  ·simp at he
  ·refine he ?_;have g:∀ l:List Str,(l++z::f2).getLast?=(z::f2).getLast?:=fun l=>by
    rw[gW];cases h:(z::f2).getLast? with
    |none=>simp at h
    |some q=>rfl
   rw[g,g]
 have hd:∀ {l:List Str} {u:Str},Way O u (l++m::c)->(l++[m]).head?=some u:=fun {l u} k=>by
  obtain⟨t,e⟩:=k.head;cases l with
  |nil=>injection e with e _; rw[e]; rfl
  |cons a l=>injection e with e _; rw[e]; rfl
 have hhx:=hd hx;have hhy:=hd hy;have sy:∀ a b,(adj a b=true/\adj b a=true/\ev a b=(sd a != sd b)/\ev b a=(sd a != sd b))->(adj b a=true/\adj a b=true/\ev b a=(sd b != sd a)/\ev a b=(sd b != sd a)):=fun a b h=>by
  have:(sd b != sd a)=(sd a != sd b):=by cases sd a<;>cases sd b<;>rfl
  rw[this];exact⟨h.2.1,h.1,h.2.2.2,h.2.2.1⟩
 have cx:Chn (fun a b=>adj a b=true/\adj b a=true/\ev a b=(sd a != sd b)/\ev b a=(sd a != sd b)) (f++[m]):=(Chn.pre (l:=f++[m]) (r:=c) (by simpa using hx.chn)).imp hs
 have cy:Chn (fun a b=>adj a b=true/\adj b a=true/\ev a b=(sd a != sd b)/\ev b a=(sd a != sd b)) (n++[m]):=(Chn.pre (l:=n++[m]) (r:=c) (by simpa using hy.chn)).imp hs
 have cr:=Chn.rev sy cy;rw[List.reverse_append] at cr;have ch:=Chn.join cx cr;have last:(f++m::n.reverse).getLast?=some y:=by
  cases n with
  |nil=>simp at hhy; subst hhy; simp
  |cons a n=>
   simp at hhy;subst hhy;rw[gW,Z1];have:(m::(n.reverse++[a])).getLast?=some a:=by rw[show m::(n.reverse++[a])=(m::n.reverse)++[a] from rfl,gW]; rfl
   rw[this]; rfl
 have first:(f++m::n.reverse).head?=some x:=by
  cases f with
  |nil=>simpa using hhx
  |cons a f=>simpa using hhx
 refine⟨?_,?_,?_,ch.imp fun a b h=>h.1,first,last,?_⟩
 ·refine jW.mpr ⟨nf,Q1.mpr ⟨by simpa using mn,by simpa[NF,List.pairwise_reverse,ne_comm] using nn⟩,fun a ha b hb e=>?_⟩
  subst e;rcases jq.mp hb with hb |hb
  ·subst hb; exact mf ha
  ·exact dis a ha (by simpa using hb)
 ·intro u hu;rcases jz.mp hu with hu |hu
  ·exact hx.key u (jv _ hu)
  ·rcases jq.mp hu with hu |hu
   ·exact hx.key u (by rw[hu]; simp)
   ·exact hy.key u (jv _ (by simpa using hu))
 ·rw[ju,jm,NS];refine WJ fun hlt=>?_;rcases f with _ |⟨u,_ |⟨u2,f⟩⟩
  ·rcases n with _ |⟨u,_ |⟨u2,n⟩⟩
   ·simp at hhx hhy;rw[<-hhx,<-hhy] at hyx;rw[<-hhx] at hxx;rw[hyx] at hxx;cases hxx
   ·simp at hhx hhy;subst hhx hhy;have:=cy.1;exact hw this.2.2.1
   ·simp at hlt; lia
  ·cases n with
   |nil=>
    simp at hhx hhy;subst hhx hhy;have:=(sy _ _ cx.1);exact hw this.2.2.1
   |cons _ _=>simp at hlt; lia
  ·simp at hlt; lia
 ·have ce:Chn (fun a b=>ev a b=(sd a != sd b)) (f++m::n.reverse):=ch.imp fun a b h=>h.2.2.1;obtain⟨l,hl⟩:∃ l,f++m::n.reverse=x::l:=by
   revert first
   cases f++m::n.reverse with
   |nil=>intro h; cases h
   |cons a l=>intro h; injection h with h; exact⟨l,by rw[h]⟩
  rw[hl] at ce last ⊢;have:=zgh l x y ce last;cases hE:ev y x<;>rw[hE] at hw<;>cases h1:sd x<;>cases h2:sd y<;>rw[h1,h2] at this hw<;>simp at this hw ⊢<;>lia
end
structure Gr (ns:List Str) (adj:Str->Str->Bool):Prop where
 nd:ns.Nodup
 sym:∀ x∈ns,∀ y∈ns,adj x y=adj y x
 irr:∀ x∈ns,adj x x=false
 len:ns.length<=30
def mts(ns:List Str)(adj:Str->Str->Bool)(x:Str):List Str:=ns.filter (adj x)
def shr(ns:List Str)(adj:Str->Str->Bool)(x y:Str):Nat:=(ns.filter fun z=>adj x z&&adj y z).length
def evn(ns:List Str)(adj:Str->Str->Bool)(x y:Str):Bool:=decide (shr ns adj x y%2=0)
theorem zjF(ns:List Str)(adj:Str->Str->Bool)(x y:Str):evn ns adj x y=evn ns adj y x:=by
 unfold evn shr;rw[show (fun z=>adj x z&&adj y z)=fun z=>adj y z&&adj x z from funext fun z=>Jx _ _]
structure Fo (ns:List Str) (adj:Str->Str->Bool) (O:Org):Prop where
 nd:(kys O).Nodup
 sub:∀ x∈kys O,x∈ns
 ord:∀(i:Nat) x p,O[i]?=some (x,some p)->adj p x=true/\p∈kys (O.take i)
 clo:∀ x∈kys O,∀ y∈ns,adj x y=true->y∈kys O
 way:∀ x∈kys O,∃ w,Way O x w
 rt:∀ x∈kys O,∀ y∈kys O,adj x y=true->∀ w w',Way O x w->Way O y w'->w.getLast?=w'.getLast?
structure Dfs (ns:List Str) (adj:Str->Str->Bool) (b:Str) (O0 O:Org) (wt:List Str):Prop where
 pre:∃ r,O=O0++r
 nd:(kys O).Nodup
 sub:∀ x∈kys O,x∈ns
 ord:∀(i:Nat) x p,O[i]?=some (x,some p)->adj p x=true/\p∈kys (O.take i)
 cur:∀ x∈kys O,x∉kys O0->∃ w,Way O x w/\w.getLast?=some b
 don:∀ x∈kys O,x∉kys O0->x∈wt∨∀ y∈ns,adj x y=true->y∈kys O
 ws:∀ x∈wt,x∈kys O/\x∉kys O0
section
variable {ns:List Str}{adj:Str->Str->Bool}{O O0:Org}{b:Str}
theorem Fo.nil:Fo ns adj []:=⟨gE,fun x h=>(ZD h).elim,fun i x p h=>by simp at h,fun x h=>(ZD h).elim,fun x h=>(ZD h).elim,fun x h=>(ZD h).elim⟩
theorem zk5{O r:Org}{i:Nat}{x:Str}(h:x∈kys (O.take i)):x∈kys ((O++r).take i):=by
 rw[WP,zaJ];exact jv _ h
theorem Dfs.start(F:Fo ns adj O0)(hb:b∈ns)(hn:b∉kys O0):Dfs ns adj b O0 (O0++[(b,none)]) [b]:=by
 have k:kys (O0++[(b,none)])=kys O0++[b]:=by rw[zaJ]; rfl
 have wb:Way (O0++[(b,none)]) b [b]:=.root (by simp)
 refine⟨⟨_,rfl⟩,?_,?_,?_,?_,?_,?_⟩
 ·rw[k];exact jW.mpr ⟨F.nd,by simp,fun a ha c hc e=>by rw[jG] at hc; subst hc e; exact hn ha⟩
 ·intro x hx;rw[k] at hx;rcases jz.mp hx with hx |hx
  ·exact F.sub x hx
  ·rw[jG] at hx; subst hx; exact hb
 ·intro i x p h
  by_cases hi:i < O0.length
  ·rw[Q6 hi] at h;have:=F.ord i x p h;exact⟨this.1,zk5 this.2⟩
  ·rw[Qh (by lia)] at h
   cases hj:i - O0.length with
   |zero=>rw[hj] at h; simp at h
   |succ j=>rw[hj] at h; simp at h
 ·intro x hx hx0;rw[k] at hx;rcases jz.mp hx with hx |hx
  ·exact absurd hx hx0
  ·rw[jG] at hx; subst hx; exact⟨_,wb,rfl⟩
 ·intro x hx hx0;rw[k] at hx;rcases jz.mp hx with hx |hx
  ·exact absurd hx hx0
  ·exact .inl hx
 ·intro x hx;rw[jG] at hx; subst hx;exact⟨by rw[k]; simp,hn⟩
theorem Dfs.step(G:Gr ns adj){x:Str}{wt:List Str}(D:Dfs ns adj b O0 O (wt++[x])):Dfs ns adj b O0 (O++((mts ns adj x).filter fun y=>decide (y∉kys O)).map fun y=>(y,some x)) (wt++(mts ns adj x).filter fun y=>decide (y∉kys O)):=by
 obtain⟨hx,hx0⟩:=D.ws x (by simp)
 generalize hf:((mts ns adj x).filter fun y=>decide (y∉kys O))=fr;have fm:∀ y,y∈fr↔y∈ns/\adj x y=true/\y∉kys O:=fun y=>by
  rw[<-hf,jR,mts,jR,decide_eq_true_iff,and_assoc]
 have fn:fr.Nodup:=by rw[<-hf]; exact(G.nd.filter _).filter _
 have k:kys (O++fr.map fun y=>(y,some x))=kys O++fr:=by
  rw[zaJ]
  congr 1
  unfold kys;rw[jU];exact List.map_id' _
 have up:∀ e∈O,e∈O++fr.map fun y=>(y,some x):=fun e he=>jv _ he;obtain⟨r,hr⟩:=D.pre;obtain⟨wx,hwx,hlx⟩:=D.cur x hx hx0;refine⟨⟨r++fr.map fun y=>(y,some x),by rw[hr,jZ]⟩,?_,?_,?_,?_,?_,?_⟩
 ·rw[k];exact jW.mpr ⟨D.nd,fn,fun a ha c hc e=>by subst e; exact((fm a).mp hc).2.2 ha⟩
 ·intro y hy;rw[k] at hy;rcases jz.mp hy with hy |hy
  ·exact D.sub y hy
  ·exact((fm y).mp hy).1
 ·intro i y p h
  by_cases hi:i < O.length
  ·rw[Q6 hi] at h;have:=D.ord i y p h;exact⟨this.1,zk5 this.2⟩
  ·rw[Qh (by lia),ji] at h
   obtain⟨z,h1,h2⟩:=Qm h;injection h2 with h2 h3;injection h3 with h3;subst h2 h3;refine⟨((fm z).mp (jJ h1)).2.1,?_⟩;rw[WP,zaJ,QD (by lia)]
   exact jv _ hx
 ·intro y hy hy0;rw[k] at hy;rcases jz.mp hy with hy |hy
  ·obtain⟨w,h1,h2⟩:=D.cur y hy hy0;exact⟨w,h1.mono up,h2⟩
  ·refine⟨y::wx,.step (jC _ (jy.mpr ⟨y,hy,rfl⟩)) (hwx.mono up),?_⟩;obtain⟨t,rfl⟩:=hwx.head;exact hlx
 ·intro y hy hy0;rw[k] at hy ⊢;rcases jz.mp hy with hy |hy
  ·rcases D.don y hy hy0 with h |h
   ·rcases jz.mp h with h |h
    ·exact .inl (jv _ h)
    ·rw[jG] at h;subst h;refine .inr fun z hz ha=>?_
     by_cases hk:z∈kys O
     ·exact jv _ hk
     ·exact jC _ ((fm z).mpr ⟨hz,ha,hk⟩)
   ·exact .inr fun z hz ha=>jv _ (h z hz ha)
  ·exact .inl (jC _ hy)
 ·intro y hy;rw[k];rcases jz.mp hy with hy |hy
  ·have:=D.ws y (jv _ hy);exact⟨jv _ this.1,this.2⟩
  ·have:=(fm y).mp hy;refine⟨jC _ hy,fun h0=>this.2.2 ?_⟩;rw[hr,zaJ];exact jv _ h0
theorem Dfs.fin(G:Gr ns adj)(F:Fo ns adj O0)(D:Dfs ns adj b O0 O []):Fo ns adj O:=by
 obtain⟨r,hr⟩:=D.pre;have up:∀ e∈O0,e∈O:=fun e he=>by rw[hr]; exact jv _ he
 have upk:∀ x∈kys O0,x∈kys O:=fun x hx=>by rw[hr,zaJ]; exact jv _ hx
 have clo:∀ x∈kys O,∀ y∈ns,adj x y=true->y∈kys O:=fun x hx y hy ha=>by
  by_cases h0:x∈kys O0
  ·exact upk y (F.clo x h0 y hy ha)
  ·rcases D.don x hx h0 with h |h
   ·cases h
   ·exact h y hy ha
 refine⟨D.nd,D.sub,D.ord,clo,fun x hx=>?_,fun x hx y hy ha w w' hw hw'=>?_⟩
 ·by_cases h0:x∈kys O0
  ·obtain⟨w,h⟩:=F.way x h0;exact⟨w,h.mono up⟩
  ·obtain⟨w,h,_⟩:=D.cur x hx h0;exact⟨w,h⟩
 ·by_cases h0:x∈kys O0
  ·have hy0:=F.clo x h0 y (D.sub y hy) ha;obtain⟨u,hu⟩:=F.way x h0;obtain⟨u',hu'⟩:=F.way y hy0;rw[hw.one D.nd (hu.mono up),hw'.one D.nd (hu'.mono up)];exact F.rt x h0 y hy0 ha u u' hu hu'
  ·have hy0:y∉kys O0:=fun z=>h0 (F.clo y z x (D.sub x hx) (by rw[<-G.sym x (D.sub x hx) y (D.sub y hy)]; exact ha))
   obtain⟨u,hu,h1⟩:=D.cur x hx h0;obtain⟨u',hu',h2⟩:=D.cur y hy hy0;rw[hw.one D.nd hu,hw'.one D.nd hu',h1,h2]
def zk9(ev:Str->Str->Bool)(f:Str->Bool)(e:Str × Option Str):Str->Bool:=fun z=>if z=e.1 then (match e.2 with |none=>false |some p=>ev p e.1 != f p) else f z
def zeA(ev:Str->Str->Bool)(O:Org):Str->Bool:=O.foldl (zk9 ev) (fun _=>false)
theorem zib(ev:Str->Str->Bool)(O:Org)(e:Str × Option Str):zeA ev (O++[e])=zk9 ev (zeA ev O) e:=by unfold zeA; rw[Wr]; rfl
theorem zk8(ev:Str->Str->Bool):∀(r:Org) (O:Org) (z:Str),z∈kys O->(kys (O++r)).Nodup->zeA ev (O++r) z=zeA ev O z
 |[],O,z,_,_=>by rw[QV]
 |e::r,O,z,hz,nd=>by
  have e1:O++e::r=(O++[e])++r:=by simp
  rw[e1] at nd ⊢;rw[zk8 ev r (O++[e]) z (by rw[zaJ]; exact jv _ hz) nd,zib]
  unfold zk9;rw[if_neg];intro hze;rw[zaJ,zaJ] at nd;have:=(jW.mp (jW.mp nd).1).2.2 z hz e.1 (by simp[kys])
  exact this hze
theorem zlQ(ev:Str->Str->Bool){i:Nat}{z:Str}(nd:(kys O).Nodup)(hz:z∈kys (O.take i)):zeA ev O z=zeA ev (O.take i) z:=by
 have:=zk8 ev (O.drop i) (O.take i) z hz (by rw[QL]; exact nd)
 rw[QL] at this;exact this
theorem zuR(ev:Str->Str->Bool){i:Nat}{e:Str × Option Str}(nd:(kys O).Nodup)(h:O[i]?=some e):zeA ev O e.1=(match e.2 with |none=>false |some p=>ev p e.1 != zeA ev (O.take i) p):=by
 have h1:O.take (i+1)=O.take i++[e]:=by rw[ZG,h]; rfl
 rw[zlQ ev (i:=i+1) nd (by rw[h1,zaJ]; simp[kys]),h1,zib]
 unfold zk9;rw[if_pos rfl]
theorem Fo.side(F:Fo ns adj O)(ev:Str->Str->Bool){i:Nat}{e:Str × Option Str}(h:O[i]?=some e):zeA ev O e.1=(match e.2 with |none=>false |some p=>ev p e.1 != zeA ev O p):=by
 rw[zuR ev F.nd h];obtain⟨x,o⟩:=e;cases o with
 |none=>rfl
 |some p=>
  dsimp only;rw[zlQ ev F.nd (F.ord i x p h).2]
theorem Fo.edge(G:Gr ns adj)(F:Fo ns adj O){a p:Str}(h:(a,some p)∈O):adj a p=true/\adj p a=true/\evn ns adj a p=(zeA (evn ns adj) O a != zeA (evn ns adj) O p)/\evn ns adj p a=(zeA (evn ns adj) O a != zeA (evn ns adj) O p):=by
 obtain⟨i,hi⟩:=Ny.mp h;obtain⟨h1,h2⟩:=F.ord i a p hi;have hs:=F.side (evn ns adj) hi;dsimp only at hs;have ha:a∈ns:=F.sub a (zdr h)
 have hp:p∈ns:=F.sub p (by
  have:O=O.take i++O.drop i:=(QL i O).symm
  rw[this,zaJ]; exact jv _ h2)
 have e1:evn ns adj p a=(zeA (evn ns adj) O a != zeA (evn ns adj) O p):=by
  rw[hs];cases evn ns adj p a<;>cases zeA (evn ns adj) O p<;>rfl
 exact⟨by rw[G.sym a ha p hp]; exact h1,h1,by rw[zjF]; exact e1,e1⟩
end
end Dw
namespace Dw
section
variable {M:Nat}[NeZero M]
def dgt(M:Nat)[NeZero M]:Nat->Nat->Fin M
 |t,0=>Fin.ofNat M t
 |t,i+1=>dgt M (t / M) i
def enc:Nat->(Nat->Fin M)->Nat
 |0,_=>0
 |k+1,h=>(h 0).val+M*enc k fun i=>h (i+1)
theorem zn0:∀(k:Nat) (h:Nat->Fin M),enc k h < M ^ k:=fun k=>by
 induction k with
 |zero=>intro h; exact Nat.one_pos
 |succ k ih=>
  intro h;show (h 0).val+M*enc k _ < M ^ (k+1);have h1:=ih fun i=>h (i+1);have h2:=(h 0).isLt;have h3:M*(enc k (fun i=>h (i+1))+1)<=M*M ^ k:=Nat.mul_le_mul_left M h1;rw[Nat.pow_succ,Nat.mul_comm (M ^ k) M];rw[Nat.mul_add,Nat.mul_one] at h3;lia
theorem zeQ:∀(k:Nat) (h:Nat->Fin M) (i:Nat),i < k->dgt M (enc k h) i=h i:=fun k=>by
 induction k with
 |zero=>intro h i hi; lia
 |succ k ih=>
  intro h i hi;have h2:=(h 0).isLt;have hM:0 < M:=We (NeZero.ne M);cases i with
  |zero=>
   refine Fin.ext ?_;show ((h 0).val+M*enc k _)%M=(h 0).val;rw[Nat.add_mul_mod_self_left,Nat.mod_eq_of_lt h2]
  |succ i=>
   show dgt M (((h 0).val+M*enc k _) / M) i=_;rw[Nat.add_mul_div_left _ _ hM,Nat.div_eq_of_lt h2,Z5];exact ih _ i (by lia)
theorem zhI:∀(k t:Nat),t < M ^ k->enc k (dgt M t)=t:=fun k=>by
 induction k with
 |zero=>intro t ht; rw[Nat.pow_zero] at ht; show 0=t; lia
 |succ k ih=>
  intro t ht;have hM:0 < M:=We (NeZero.ne M);show t%M+M*enc k (dgt M (t / M))=t;rw[ih (t / M) ((Nat.div_lt_iff_lt_mul hM).mpr (by rw[<-Nat.pow_succ]; exact ht))]
  exact Nat.mod_add_div t M
theorem ziI:∀(k:Nat) (h h':Nat->Fin M),(∀ i,i < k->h i=h' i)->enc k h=enc k h':=fun k=>by
 induction k with
 |zero=>intros; rfl
 |succ k ih=>
  intro h h' e;show (h 0).val+M*enc k _=(h' 0).val+M*enc k _;rw[e 0 (by lia),ih _ (fun i=>h' (i+1)) fun i hi=>e (i+1) (by lia)]
theorem zp1{A B:Nat}{F:Nat->Nat}(h1:∀ t,t < A->F t < B)(h2:∀ t t',t < A->t' < A->F t=F t'->t=t'):A<=B/\(A=B->∀ y,y < B->∃ t,t < A/\F t=y):=by
 have nd:((jf A).map F).Nodup:=by
  rw[NF,Zo];refine Zp (fun {x y} hx hy hne e=>?_) (Zd (n:=A));have:=h2 x y (jk.mp hx) (jk.mp hy) e;lia
 have sub:∀ x∈(jf A).map F,x∈jf B:=fun x hx=>by
  obtain⟨t,ht,rfl⟩:=jy.mp hx;exact jk.mpr (h1 t (jk.mp ht))
 constructor
 ·have:=zdq nd sub;simpa using this
 ·intro e y hy;apply gb;intro hne
  have nd2:(y::(jf A).map F).Nodup:=Q1.mpr ⟨fun hm=>hne (by
   obtain⟨t,ht,e⟩:=jy.mp hm
   exact⟨t,jk.mp ht,e⟩),nd⟩
  have:=zdq (m:=jf B) nd2 fun x hx=>by
   rcases jq.mp hx with q |q
   ·rw[q]; exact jk.mpr hy
   ·exact sub x q
  simp at this;lia
def sm(l:List Nat)(h:Nat->Fin M):Fin M:=l.foldr (fun k s=>h k+s) 0
theorem zeb(h:Nat->Fin M):sm [] h=0:=rfl
theorem zaE(k:Nat)(l:List Nat)(h:Nat->Fin M):sm (k::l) h=h k+sm l h:=rfl
theorem zoI(l m:List Nat)(h:Nat->Fin M):sm (l++m) h=sm l h+sm m h:=by
 induction l with
 |nil=>rw[Zb,zeb]; grind
 |cons k l ih=>rw[gO,zaE,zaE,ih]; grind
theorem zpB{l m:List Nat}(p:l.Perm m)(h:Nat->Fin M):sm l h=sm m h:=by
 induction p with
 |nil=>rfl
 |cons x _ ih=>rw[zaE,zaE,ih]
 |swap x y l=>rw[zaE,zaE,zaE,zaE]; grind
 |trans _ _ a b=>rw[a,b]
theorem zaA{l:List Nat}{h h':Nat->Fin M}(e:∀ k∈l,h k=h' k):sm l h=sm l h':=by
 induction l with
 |nil=>rfl
 |cons k l ih=>rw[zaE,zaE,e k (by simp),ih fun k hk=>e k (jF _ hk)]
theorem zeY(l:List Nat)(h h':Nat->Fin M):sm l (fun k=>h k+h' k)=sm l h+sm l h':=by
 induction l with
 |nil=>rw[zeb,zeb,zeb]; grind
 |cons k l ih=>rw[zaE,zaE,zaE,ih]; grind
theorem zrK(l:List Nat)(c:Fin M)(h:Nat->Fin M):sm l (fun k=>c*h k)=c*sm l h:=by
 induction l with
 |nil=>rw[zeb,zeb]; grind
 |cons k l ih=>rw[zaE,zaE,ih]; grind
theorem zlL(l:List Nat):sm l (fun _=>(0:Fin M))=0:=by
 induction l with
 |nil=>rfl
 |cons k l ih=>rw[zaE,ih]; grind
theorem zc5(k:Nat)(h:Nat->Fin M):sm (jf (k+1)) h=sm (jf k) h+h k:=by
 rw[gm,zoI,zaE,zeb]; grind
end
structure Cd (n:Nat) (a b nm:Nat->Nat):Prop where
 alt:∀ v,v < n->a v < 2*n
 blt:∀ v,v < n->b v < 2*n
 na:∀ v,v < n->nm (a v)=v
 nb:∀ v,v < n->nm (b v)=v
 ne:∀ v,v < n->a v≠b v
 nlt:∀ p,p < 2*n->nm p < n
 at_:∀ p,p < 2*n->p=a (nm p)∨p=b (nm p)
def prv(n k:Nat):Nat:=if k=0 then 2*n - 1 else k - 1
structure Wf (n:Nat) (a b f:Nat->Nat):Prop where
 c1:∀ v,v < n->f (2*prv n (a v))=2*b v
 c2:∀ v,v < n->f (2*a v+1)=2*prv n (b v)+1
 c3:∀ v,v < n->f (2*prv n (b v))=2*prv n (a v)+1
 c4:∀ v,v < n->f (2*b v+1)=2*a v
section
variable {M:Nat}[NeZero M]{n:Nat}{a b nm f:Nat->Nat}
structure Cor (n:Nat) (a b:Nat->Nat) (G:Nat->Fin M):Prop where
 c1:∀ v,v < n->G (2*b v)=G (2*prv n (a v))
 c2:∀ v,v < n->G (2*prv n (b v)+1)=G (2*a v+1)
 c3:∀ v,v < n->G (2*prv n (a v)+1)=G (2*prv n (b v))
 c4:∀ v,v < n->G (2*a v)=G (2*b v+1)
theorem zm9{k:Nat}(h:k < 2*n):prv n k < 2*n:=by unfold prv; split<;>lia
theorem ztu(C:Cd n a b nm)(W:Wf n a b f){G:Nat->Fin M}(h:∀ w,w < 4*n->G (f w)=G w):Cor n a b G:=by
 refine⟨fun v hv=>?_,fun v hv=>?_,fun v hv=>?_,fun v hv=>?_⟩
 ·rw[<-W.c1 v hv]; exact h _ (by have:=zm9 (C.alt v hv); lia)
 ·rw[<-W.c2 v hv]; exact h _ (by have:=C.alt v hv; lia)
 ·rw[<-W.c3 v hv]; exact h _ (by have:=zm9 (C.blt v hv); lia)
 ·rw[<-W.c4 v hv]; exact h _ (by have:=C.blt v hv; lia)
theorem zt0(C:Cd n a b nm)(W:Wf n a b f){G:Nat->Fin M}(h:Cor n a b G):∀ w,w < 4*n->G (f w)=G w:=by
 intro w hw;rcases Q3 w with e |e
 ·obtain⟨k,rfl⟩:∃ k,w=2*k:=⟨w / 2,by lia⟩
  obtain⟨p,hp,rfl⟩:∃ p,p < 2*n/\k=prv n p:=by
   by_cases q:k+1=2*n
   ·exact⟨0,by lia,by unfold prv; rw[if_pos rfl]; lia⟩
   ·exact⟨k+1,by lia,by unfold prv; rw[if_neg (by lia)]; lia⟩
  have hv:=C.nlt p hp;rcases C.at_ p hp with q |q
  ·rw[q,W.c1 _ hv]; exact h.c1 _ hv
  ·rw[q,W.c3 _ hv]; exact h.c3 _ hv
 ·obtain⟨k,rfl⟩:∃ k,w=2*k+1:=⟨w / 2,by lia⟩
  have hp:k < 2*n:=by lia
  have hv:=C.nlt k hp;rcases C.at_ k hp with q |q
  ·rw[q,W.c2 _ hv]; exact h.c2 _ hv
  ·rw[q,W.c4 _ hv]; exact h.c4 _ hv
theorem zec(C:Cd n a b nm)(h:Nat->Fin M):sm (jf (2*n)) h=sm (jf n) fun v=>h (a v)+h (b v):=by
 have p:(jf (2*n)).Perm ((jf n).map a++(jf n).map b):=by
  refine(List.perm_ext_iff_of_nodup gP ?_).mpr fun p=>?_
  ·rw[jW];refine⟨?_,?_,fun x hx y hy e=>?_⟩
   ·rw[NF,Zo];refine Zp (fun {x y} hx hy hne e=>?_) (Zd (n:=n));have h1:=C.na x (jk.mp hx);rw[e,C.na y (jk.mp hy)] at h1;lia
   ·rw[NF,Zo];refine Zp (fun {x y} hx hy hne e=>?_) (Zd (n:=n));have h1:=C.nb x (jk.mp hx);rw[e,C.nb y (jk.mp hy)] at h1;lia
   ·obtain⟨u,hu,rfl⟩:=jy.mp hx;obtain⟨v,hv,rfl⟩:=jy.mp hy;have h1:=C.na u (jk.mp hu);rw[e,C.nb v (jk.mp hv)] at h1;subst h1;exact C.ne v (jk.mp hv) e
  ·rw[jz,jy,jy,jk];constructor
   ·intro hp;have hv:=C.nlt p hp;rcases C.at_ p hp with q |q
    ·exact .inl ⟨nm p,jk.mpr hv,q.symm⟩
    ·exact .inr ⟨nm p,jk.mpr hv,q.symm⟩
   ·rintro(⟨v,hv,rfl⟩ |⟨v,hv,rfl⟩)
    ·exact C.alt v (jk.mp hv)
    ·exact C.blt v (jk.mp hv)
 rw[zpB p,zoI,zeY];have sm_map:∀(l:List Nat) (g:Nat->Nat),sm (l.map g) h=sm l fun v=>h (g v):=fun l g=>by
  induction l with
  |nil=>rfl
  |cons k l ih=>rw[jj,zaE,zaE,ih]
 rw[sm_map,sm_map]
def Dd(b nm:Nat->Nat)(d0:Fin M)(x:Nat->Fin M):Nat->Fin M
 |0=>d0
 |k+1=>Dd b nm d0 x k+(if k=b (nm k) then - x (nm k) else x (nm k))
def Cc(a b nm:Nat->Nat)(d0:Fin M)(x:Nat->Fin M)(p:Nat):Fin M:=if p=b (nm p) then Dd b nm d0 x (a (nm p)) else - Dd b nm d0 x (b (nm p)+1)
def La(a b nm:Nat->Nat)(l0 d0:Fin M)(x:Nat->Fin M):Nat->Fin M
 |0=>l0
 |k+1=>La a b nm l0 d0 x k+Cc a b nm d0 x k
theorem ztZ(C:Cd n a b nm)(d0:Fin M)(x:Nat->Fin M){v:Nat}(hv:v < n):Dd b nm d0 x (a v+1)=Dd b nm d0 x (a v)+x v:=by
 show Dd b nm d0 x (a v)+(if a v=b (nm (a v)) then _ else _)=_
 rw[C.na v hv,if_neg (C.ne v hv)]
theorem zwI(C:Cd n a b nm)(d0:Fin M)(x:Nat->Fin M){v:Nat}(hv:v < n):Dd b nm d0 x (b v+1)=Dd b nm d0 x (b v) - x v:=by
 show Dd b nm d0 x (b v)+(if b v=b (nm (b v)) then _ else _)=_
 rw[C.nb v hv,if_pos rfl]; grind
theorem zwE(C:Cd n a b nm)(l0 d0:Fin M)(x:Nat->Fin M){v:Nat}(hv:v < n):La a b nm l0 d0 x (a v+1)=La a b nm l0 d0 x (a v) - Dd b nm d0 x (b v+1):=by
 show _+Cc a b nm d0 x (a v)=_;unfold Cc;rw[C.na v hv,if_neg (C.ne v hv)]; grind
theorem zwD(C:Cd n a b nm)(l0 d0:Fin M)(x:Nat->Fin M){v:Nat}(hv:v < n):La a b nm l0 d0 x (b v+1)=La a b nm l0 d0 x (b v)+Dd b nm d0 x (a v):=by
 show _+Cc a b nm d0 x (b v)=_;unfold Cc;rw[C.nb v hv,if_pos rfl]
theorem zw6(d0:Fin M)(x:Nat->Fin M)(k:Nat):Dd b nm d0 x k=d0+sm (jf k) fun k=>if k=b (nm k) then - x (nm k) else x (nm k):=by
 induction k with
 |zero=>show d0=_; rw[Nz,zeb]; grind
 |succ k ih=>rw[zc5]; show Dd b nm d0 x k+_=_; rw[ih]; grind
theorem zhT(C:Cd n a b nm)(d0:Fin M)(x:Nat->Fin M):Dd b nm d0 x (2*n)=d0:=by
 rw[zw6,zec C];have:(sm (jf n) fun v=>(if a v=b (nm (a v)) then - x (nm (a v)) else x (nm (a v)))+(if b v=b (nm (b v)) then - x (nm (b v)) else x (nm (b v))))=sm (jf n) fun _=>(0:Fin M):=zaA fun v hv=>by
  have hv:=jk.mp hv;rw[C.na v hv,C.nb v hv,if_neg (C.ne v hv),if_pos rfl]; grind
 rw[this,zlL]; grind
theorem zkR(C:Cd n a b nm)(d0:Fin M)(x:Nat->Fin M){k:Nat}(hk:k < 2*n):Dd b nm d0 x (prv n k+1)=Dd b nm d0 x k:=by
 unfold prv;split
 ·rename_i h; subst h;rw[show 2*n - 1+1=2*n by lia,zhT C]; rfl
 ·rw[show k - 1+1=k by lia]
def Cnd(n:Nat)(a b nm:Nat->Nat)(l0 d0:Fin M)(x:Nat->Fin M):Prop:=La a b nm l0 d0 x (2*n)=l0/\∀ v,v < n->La a b nm l0 d0 x (a v)=La a b nm l0 d0 x (b v+1)
def Gg(a b nm:Nat->Nat)(l0 d0:Fin M)(x:Nat->Fin M)(w:Nat):Fin M:=if w%2=0 then La a b nm l0 d0 x (w / 2+1) else La a b nm l0 d0 x (w / 2+1) - Dd b nm d0 x (w / 2+1)
theorem zr6(l0 d0:Fin M)(x:Nat->Fin M)(k:Nat):Gg a b nm l0 d0 x (2*k)=La a b nm l0 d0 x (k+1):=by
 unfold Gg; rw[if_pos (by lia),show 2*k / 2=k by lia]
theorem zr5(l0 d0:Fin M)(x:Nat->Fin M)(k:Nat):Gg a b nm l0 d0 x (2*k+1)=La a b nm l0 d0 x (k+1) - Dd b nm d0 x (k+1):=by
 unfold Gg; rw[if_neg (by lia),show (2*k+1) / 2=k by lia]
theorem ztv(C:Cd n a b nm){l0 d0:Fin M}{x:Nat->Fin M}(h:Cnd n a b nm l0 d0 x):Cor n a b (Gg a b nm l0 d0 x):=by
  have lp:∀ k,k < 2*n->La a b nm l0 d0 x (prv n k+1)=La a b nm l0 d0 x k:=fun k hk=>by
    unfold prv;split
    · rename_i q; subst q
      rw[show 2*n - 1+1=2*n by lia,h.1]; rfl
    · rw[show k - 1+1=k by lia]
  have h2:=h.2;refine⟨fun v hv=>?_,fun v hv=>?_,fun v hv=>?_,fun v hv=>?_⟩ <;>
  (have e1:=h2 v hv
   have e2:=lp _ (C.alt v hv);have e3:=lp _ (C.blt v hv);have e4:=zkR C d0 x (C.alt v hv);have e5:=zkR C d0 x (C.blt v hv);have e6:=ztZ C d0 x hv;have e7:=zwI C d0 x hv;have e8:=zwE C l0 d0 x hv;have e9:=zwD C l0 d0 x hv;simp only[zr6,zr5,e2,e3,e4,e5,e8,e6,e7];rw[e7] at *
   grind)
end
section
variable {M:Nat}[NeZero M]{n:Nat}{a b nm f:Nat->Nat}
def l0G(n:Nat)(G:Nat->Fin M):Fin M:=G (2*prv n 0)
def dG(G:Nat->Fin M)(k:Nat):Fin M:=G (2*k) - G (2*k+1)
def xG(n:Nat)(a:Nat->Nat)(G:Nat->Fin M)(v:Nat):Fin M:=dG G (a v) - dG G (prv n (a v))
theorem zw8(C:Cd n a b nm){G:Nat->Fin M}(h:Cor n a b G):∀ k,k<=2*n->Dd b nm (dG G (prv n 0)) (xG n a G) k=dG G (prv n k):=fun k=>by
 induction k with
 |zero=>intro _; rfl
 |succ k ih=>
  intro hk;have ih:=ih (by lia)
  have hp:prv n (k+1)=k:=by unfold prv; rw[if_neg (by lia)]; lia
  have hv:=C.nlt k (by lia)
  rw[hp];rcases C.at_ k (by lia) with q |q
  ·generalize nm k=v at hv q;subst q;rw[ztZ C _ _ hv,ih];unfold xG
   grind
  ·generalize nm k=v at hv q;subst q;rw[zwI C _ _ hv,ih];have c1:=h.c1 v hv;have c2:=h.c2 v hv;have c3:=h.c3 v hv;have c4:=h.c4 v hv;unfold xG dG
   grind
theorem ztY(C:Cd n a b nm){G:Nat->Fin M}(h:Cor n a b G):∀ k,k<=2*n->La a b nm (l0G n G) (dG G (prv n 0)) (xG n a G) k=G (2*prv n k):=fun k=>by
 induction k with
 |zero=>intro _; rfl
 |succ k ih=>
  intro hk;have ih:=ih (by lia)
  have hp:prv n (k+1)=k:=by unfold prv; rw[if_neg (by lia)]; lia
  have hv:=C.nlt k (by lia)
  rw[hp];rcases C.at_ k (by lia) with q |q
  ·generalize nm k=v at hv q;subst q;rw[zwE C _ _ _ hv,ih,zw8 C h _ (by have:=C.blt v hv; lia)]
   have c1:=h.c1 v hv;have c4:=h.c4 v hv;have hp:prv n (b v+1)=b v:=by unfold prv; rw[if_neg (by lia)]; lia
   rw[hp];unfold dG
   grind
  ·generalize nm k=v at hv q;subst q;rw[zwD C _ _ _ hv,ih,zw8 C h _ (by have:=C.alt v hv; lia)]
   have c1:=h.c1 v hv;have c3:=h.c3 v hv;unfold dG
   grind
theorem ztw(C:Cd n a b nm)(hn:0 < n){G:Nat->Fin M}(h:Cor n a b G):Cnd n a b nm (l0G n G) (dG G (prv n 0)) (xG n a G):=by
 refine⟨?_,fun v hv=>?_⟩
 ·rw[ztY C h _ (jl _)];unfold l0G
  congr 2
  unfold prv;rw[if_neg (by lia),if_pos rfl]
 ·rw[ztY C h _ (by have:=C.alt v hv; lia),ztY C h _ (by have:=C.blt v hv; lia),<-h.c1 v hv]
  congr 2
theorem zwH(C:Cd n a b nm){G:Nat->Fin M}(h:Cor n a b G):∀ w,w < 4*n->G w=Gg a b nm (l0G n G) (dG G (prv n 0)) (xG n a G) w:=by
 intro w hw;have hp:prv n (w / 2+1)=w / 2:=by unfold prv; rw[if_neg (by lia)]; lia
 unfold Gg;rw[ztY C h _ (by lia),zw8 C h _ (by lia),hp]
 split
 ·congr 1; lia
 ·unfold dG;rw[show 2*(w / 2)+1=w by lia]
  grind
def par(n:Nat)(a:Nat->Nat)(G:Nat->Fin M):Nat->Fin M
 |0=>l0G n G
 |1=>dG G (prv n 0)
 |v+2=>xG n a G v
theorem zjY(C:Cd n a b nm){d0:Fin M}{x x':Nat->Fin M}(e:∀ v,v < n->x v=x' v):∀ k,k<=2*n->Dd b nm d0 x k=Dd b nm d0 x' k:=fun k=>by
 induction k with
 |zero=>intro _; rfl
 |succ k ih=>
  intro hk;show Dd b nm d0 x k+_=Dd b nm d0 x' k+_;rw[ih (by lia),e _ (C.nlt k (by lia))]
theorem zhS(C:Cd n a b nm){l0 d0:Fin M}{x x':Nat->Fin M}(e:∀ v,v < n->x v=x' v):∀ k,k<=2*n->La a b nm l0 d0 x k=La a b nm l0 d0 x' k:=fun k=>by
 induction k with
 |zero=>intro _; rfl
 |succ k ih=>
  intro hk;show La a b nm l0 d0 x k+Cc a b nm d0 x k=La a b nm l0 d0 x' k+Cc a b nm d0 x' k;have hv:=C.nlt k (by lia)
  unfold Cc;rw[ih (by lia),zjY C e _ (by have:=C.alt _ hv; lia),zjY C e _ (by have:=C.blt _ hv; lia)]
theorem zoB(C:Cd n a b nm){l0 d0:Fin M}{x x':Nat->Fin M}(e:∀ v,v < n->x v=x' v)(h:Cnd n a b nm l0 d0 x):Cnd n a b nm l0 d0 x':=by
 refine⟨?_,fun v hv=>?_⟩
 ·rw[<-zhS C e _ (jl _)]; exact h.1
 ·rw[<-zhS C e _ (by have:=C.alt v hv; lia),<-zhS C e _ (by have:=C.blt v hv; lia)]; exact h.2 v hv
theorem zr7(C:Cd n a b nm){l0 d0:Fin M}{x x':Nat->Fin M}(e:∀ v,v < n->x v=x' v){w:Nat}(hw:w < 4*n):Gg a b nm l0 d0 x w=Gg a b nm l0 d0 x' w:=by
 unfold Gg;rw[zhS C e _ (by lia),zjY C e _ (by lia)]
structure Cls (m:Nat) (f r:Nat->Nat) (F:Nat):Prop where
 lt:∀ w,w < m->r w < F
 stay:∀ w,w < m->r (f w)=r w
 all:∀ i,i < F->∃ w,w < m/\r w=i
 one:∀ w w',w < m->w' < m->r w=r w'->Orb f w w'
theorem ztx{m:Nat}{f:Nat->Nat}(hf:Perm1 m f){L:List Nat}(h:Trav m (Orb f) L):∃ r,Cls m f r L.length:=by
 have ex:∀ w,w < m->∃ i,∃ hi:i < L.length,Orb f L[i] w:=fun w hw=>by
  obtain⟨y,hy,o⟩:=h.all w hw;obtain⟨i,hi,e⟩:=Yi hy;exact⟨i,hi,by rw[e]; exact o⟩
 have un:∀ i j (hi:i < L.length) (hj:j < L.length),Orb f L[i] L[j]->i=j:=fun i j hi hj o=>by
  have lt:∀ i j (hi:i < L.length) (hj:j < L.length),i < j->¬ Orb f L[i] L[j]:=fun i j hi hj hij=>List.pairwise_iff_getElem.mp h.one i j hi hj hij;rcases gC i j with q |q |q
  ·exact absurd o (lt i j hi hj q)
  ·exact q
  ·exact absurd (Orb.symm hf (h.lt _ (Qa hi)) o) (lt j i hj hi q)
 let r:Nat->Nat:=fun w=>open Classical in if h:∃ i,∃ hi:i < L.length,Orb f L[i] w then ZF h else 0
 have hr:∀ w,w < m->∃ hi:r w < L.length,Orb f L[r w] w:=fun w hw=>by
  have e:r w=ZF (ex w hw):=dif_pos (ex w hw);rw[show (∃ hi:r w < L.length,Orb f L[r w] w)=(∃ hi:ZF (ex w hw) < L.length,Orb f L[ZF (ex w hw)] w) by simp only[e]]
  exact NA (ex w hw)
 have ru:∀ w i (hi:i < L.length),w < m->Orb f L[i] w->r w=i:=fun w i hi hw o=>by
  obtain⟨h1,h2⟩:=hr w hw;exact un _ _ h1 hi (h2.trans (Orb.symm hf (h.lt _ (Qa hi)) o))
 refine⟨r,fun w hw=>(hr w hw).1,fun w hw=>?_,fun i hi=>⟨L[i],h.lt _ (Qa hi),ru _ i hi (h.lt _ (Qa hi)) (Orb.refl _ _)⟩,fun w w' hw hw' e=>?_⟩
 ·obtain⟨h1,h2⟩:=hr w hw;exact ru _ _ h1 (hf.lt w hw) (h2.trans ⟨1,rfl⟩)
 ·obtain⟨h1,h2⟩:=hr w hw;obtain⟨h3,h4⟩:=hr w' hw';have h5:=Orb.symm hf (h.lt _ (Qa h1)) h2;have:L[r w]=L[r w']:=by congr 1
  rw[this] at h5;exact h5.trans h4
theorem zmi{m:Nat}{f:Nat->Nat}(hf:Perm1 m f){G:Nat->Fin M}(h:∀ w,w < m->G (f w)=G w){w w':Nat}(hw:w < m)(o:Orb f w w'):G w'=G w:=by
 obtain⟨k,rfl⟩:=o
 induction k with
 |zero=>rfl
 |succ k ih=>show G (f (itr f k w))=G w; rw[h _ (hf.itr_lt k hw),ih]
theorem zlT(C:Cd n a b nm)(W:Wf n a b f)(hn:0 < n){r:Nat->Nat}{F:Nat}(h:Cls (4*n) f r F):M ^ F<=M ^ (n+2)/\(M ^ F=M ^ (n+2)->∀(l0 d0:Fin M) (x:Nat->Fin M),Cnd n a b nm l0 d0 x):=by
 have cor:∀ t,Cor n a b (fun w=>dgt M t (r w)):=fun t=>ztu C W fun w hw=>by rw[h.stay w hw]
 have key:=zp1 (A:=M ^ F) (B:=M ^ (n+2)) (F:=fun t=>enc (n+2) (par n a fun w=>dgt M t (r w))) (fun t ht=>zn0 _ _) (fun t t' ht ht' e=>by
  have e:enc (n+2) (par n a fun w=>dgt M t (r w))=enc (n+2) (par n a fun w=>dgt M t' (r w)):=e;have hp:∀ i,i < n+2->par n a (fun w=>dgt M t (r w)) i=par n a (fun w=>dgt M t' (r w)) i:=fun i hi=>by
   rw[<-zeQ (n+2) (par n a fun w=>dgt M t (r w)) i hi,e,zeQ _ _ i hi]
  have hG:∀ w,w < 4*n->dgt M t (r w)=dgt M t' (r w):=fun w hw=>by
   have e1:=zwH C (cor t) w hw;have e2:=zwH C (cor t') w hw;rw[show dgt M t (r w)=_ from e1,show dgt M t' (r w)=_ from e2];rw[show l0G n (fun w=>dgt M t (r w))=l0G n (fun w=>dgt M t' (r w)) from hp 0 (by lia),show dG (fun w=>dgt M t (r w)) (prv n 0)=dG (fun w=>dgt M t' (r w)) (prv n 0) from hp 1 (by lia)]
   exact zr7 C (fun v hv=>hp (v+2) (by lia)) hw
  rw[<-zhI F t ht,<-zhI F t' ht'];exact ziI _ _ _ fun i hi=>by
   obtain⟨w,hw,rfl⟩:=h.all i hi
   exact hG w hw)
 refine⟨key.1,fun e l0 d0 x=>?_⟩
 let p:Nat->Fin M:=fun i=>match i with
  |0=>l0
  |1=>d0
  |v+2=>x v
 obtain⟨t,ht,et⟩:=key.2 e (enc (n+2) p) (zn0 _ _);have hp:∀ i,i < n+2->par n a (fun w=>dgt M t (r w)) i=p i:=fun i hi=>by
  rw[<-zeQ (n+2) (par n a fun w=>dgt M t (r w)) i hi,<-zeQ (n+2) p i hi]
  congr 1
 have:=ztw C hn (cor t);rw[show l0G n (fun w=>dgt M t (r w))=l0 from hp 0 (by lia),show dG (fun w=>dgt M t (r w)) (prv n 0)=d0 from hp 1 (by lia)] at this
 exact zoB C (fun v hv=>hp (v+2) (by lia)) this
theorem zlU(C:Cd n a b nm)(W:Wf n a b f)(hf:Perm1 (4*n) f)(hn:0 < n){r:Nat->Nat}{F:Nat}(h:Cls (4*n) f r F)(hc:∀(l0 d0:Fin M) (x:Nat->Fin M),Cnd n a b nm l0 d0 x):M ^ (n+2)<=M ^ F:=by
 let rep:Nat->Nat:=fun i=>open Classical in if h:∃ w,w < 4*n/\r w=i then ZF h else 0
 have hrep:∀ i,i < F->rep i < 4*n/\r (rep i)=i:=fun i hi=>by
  have e:rep i=ZF (h.all i hi):=dif_pos (h.all i hi);rw[e];exact NA (h.all i hi)
 let G:Nat->Nat->Fin M:=fun t=>Gg a b nm (dgt M t 0) (dgt M t 1) (fun v=>dgt M t (v+2))
 have inv:∀ t w,w < 4*n->G t (f w)=G t w:=fun t=>zt0 C W (ztv C (hc _ _ _));refine(zp1 (A:=M ^ (n+2)) (B:=M ^ F) (F:=fun t=>enc F fun i=>G t (rep i)) (fun t ht=>zn0 _ _) (fun t t' ht ht' e=>?_)).1;have hG0:∀ i,i < F->G t (rep i)=G t' (rep i):=fun i hi=>by
  rw[<-zeQ F (fun i=>G t (rep i)) i hi,show (enc F fun i=>G t (rep i))=enc F fun i=>G t' (rep i) from e,zeQ F _ i hi]
 have hG:∀ w,w < 4*n->G t w=G t' w:=fun w hw=>by
  obtain⟨q1,q2⟩:=hrep _ (h.lt w hw);have o:=h.one _ _ q1 hw q2;rw[zmi hf (inv t) q1 o,zmi hf (inv t') q1 o];exact hG0 _ (h.lt w hw)
 have hL:∀ k,k < 2*n->La a b nm (dgt M t 0) (dgt M t 1) (fun v=>dgt M t (v+2)) (k+1)=La a b nm (dgt M t' 0) (dgt M t' 1) (fun v=>dgt M t' (v+2)) (k+1):=fun k hk=>by
  rw[<-zr6,<-zr6]; exact hG _ (by lia)
 have hD:∀ k,k < 2*n->Dd b nm (dgt M t 1) (fun v=>dgt M t (v+2)) (k+1)=Dd b nm (dgt M t' 1) (fun v=>dgt M t' (v+2)) (k+1):=fun k hk=>by
  have e1:=hG (2*k+1) (by lia)
  have e2:=hL k hk;have e3:Gg a b nm (dgt M t 0) (dgt M t 1) (fun v=>dgt M t (v+2)) (2*k+1)=Gg a b nm (dgt M t' 0) (dgt M t' 1) (fun v=>dgt M t' (v+2)) (2*k+1):=e1;rw[zr5,zr5] at e3
  grind
 have g0:dgt M t 0=dgt M t' 0:=by
  have e1:=hL (2*n - 1) (by lia)
  rw[show 2*n - 1+1=2*n by lia,(hc _ _ _).1,(hc _ _ _).1] at e1
  exact e1
 have g1:dgt M t 1=dgt M t' 1:=by
  have e1:=hD (2*n - 1) (by lia)
  rw[show 2*n - 1+1=2*n by lia,zhT C,zhT C] at e1
  exact e1
 have hD2:∀ k,k < 2*n->Dd b nm (dgt M t 1) (fun v=>dgt M t (v+2)) k=Dd b nm (dgt M t' 1) (fun v=>dgt M t' (v+2)) k:=fun k hk=>by
  rw[<-zkR C _ _ hk,<-zkR C _ _ hk];exact hD _ (zm9 hk)
 have g2:∀ v,v < n->dgt M t (v+2)=dgt M t' (v+2):=fun v hv=>by
  have e1:=hD (a v) (C.alt v hv);have e2:=hD2 (a v) (C.alt v hv);rw[ztZ C _ _ hv,ztZ C _ _ hv] at e1
  grind
 rw[<-zhI (n+2) t ht,<-zhI (n+2) t' ht'];exact ziI _ _ _ fun i hi=>by
  match i with
  |0=>exact g0
  |1=>exact g1
  |v+2=>exact g2 v (by lia)
end
abbrev F2:=Fin 2
theorem zp4(x:F2):-x=x:=by revert x; decide
theorem ziF(x:F2):x+x=0:=by revert x; decide
theorem zmW(x y:F2):x+y=y+x:=by revert x y; decide
theorem ztd(x:F2):x*x=x:=by revert x; decide
def del(u v:Nat):F2:=if u=v then 1 else 0
theorem zfv(u:Nat):del u u=1:=if_pos rfl
theorem zgk{u v:Nat}(h:u≠v):del u v=0:=if_neg h
theorem zon(u v:Nat):del u v=del v u:=by
 by_cases h:u=v
 ·rw[h]
 ·rw[zgk h,zgk (Zi h)]
theorem zdV{l:List Nat}{h:Nat->F2}(e:∀ k∈l,h k=0):sm l h=0:=by
 rw[zaA e,zlL]
theorem zrM{l:List Nat}(nd:l.Nodup){v:Nat}(hv:v∈l)(h:Nat->F2):sm l (fun u=>h u*del u v)=h v:=by
 induction l with
 |nil=>cases hv
 |cons k l ih=>
  rw[Q1] at nd;rw[zaE]
  by_cases q:k=v
  ·subst q;rw[zdV fun u hu=>by rw[zgk (fun z:u=k=>nd.1 (z▸hu))]; exact Zw _,zfv]; grind
  ·rw[ih nd.2 ((jq.mp hv).resolve_left (Zi q)),zgk q]; grind
structure Ij (n:Nat) (i j nm:Nat->Nat):Prop where
 lt:∀ v,v < n->i v < j v
 jlt:∀ v,v < n->j v < 2*n
 ni:∀ v,v < n->nm (i v)=v
 nj:∀ v,v < n->nm (j v)=v
 nlt:∀ p,p < 2*n->nm p < n
 at_:∀ p,p < 2*n->p=i (nm p)∨p=j (nm p)
def aO(i j:Nat->Nat)(hd:Nat->Bool)(v:Nat):Nat:=bif hd v then i v else j v
def bO(i j:Nat->Nat)(hd:Nat->Bool)(v:Nat):Nat:=bif hd v then j v else i v
section
variable {n:Nat}{i j nm:Nat->Nat}{hd:Nat->Bool}
theorem o_t{v:Nat}(h:hd v=true):aO i j hd v=i v/\bO i j hd v=j v:=by unfold aO bO; rw[h]; exact⟨rfl,rfl⟩
theorem o_f{v:Nat}(h:hd v=false):aO i j hd v=j v/\bO i j hd v=i v:=by unfold aO bO; rw[h]; exact⟨rfl,rfl⟩
theorem zlr(i j:Nat->Nat)(hd:Nat->Bool)(v:Nat):(aO i j hd v=i v/\bO i j hd v=j v/\hd v=true)∨(aO i j hd v=j v/\bO i j hd v=i v/\hd v=false):=by
 cases h:hd v
 ·exact .inr ⟨(o_f h).1,(o_f h).2,rfl⟩
 ·exact .inl ⟨(o_t h).1,(o_t h).2,rfl⟩
theorem Ij.cd(I:Ij n i j nm)(hd:Nat->Bool):Cd n (aO i j hd) (bO i j hd) nm:=by
 refine⟨fun v hv=>?_,fun v hv=>?_,fun v hv=>?_,fun v hv=>?_,fun v hv=>?_,I.nlt,fun p hp=>?_⟩
 ·rcases zlr i j hd v with ⟨a,b,_⟩ |⟨a,b,_⟩<;>rw[a]
  ·exact Wz (I.lt v hv) (I.jlt v hv)
  ·exact I.jlt v hv
 ·rcases zlr i j hd v with ⟨a,b,_⟩ |⟨a,b,_⟩<;>rw[b]
  ·exact I.jlt v hv
  ·exact Wz (I.lt v hv) (I.jlt v hv)
 ·rcases zlr i j hd v with ⟨a,b,_⟩ |⟨a,b,_⟩<;>rw[a]
  ·exact I.ni v hv
  ·exact I.nj v hv
 ·rcases zlr i j hd v with ⟨a,b,_⟩ |⟨a,b,_⟩<;>rw[b]
  ·exact I.nj v hv
  ·exact I.ni v hv
 ·rcases zlr i j hd v with ⟨a,b,_⟩ |⟨a,b,_⟩<;>rw[a,b]
  ·exact jB (I.lt v hv)
  ·exact Zt (I.lt v hv)
 ·rcases zlr i j hd (nm p) with ⟨a,b,_⟩ |⟨a,b,_⟩<;>rw[a,b]
  ·exact I.at_ p hp
  ·exact(I.at_ p hp).symm
def inn(i j:Nat->Nat)(u p:Nat):F2:=if i u < p/\p < j u then 1 else 0
def io(i j:Nat->Nat)(u k:Nat):F2:=if i u < k/\k<=j u then 1 else 0
def cr(i j:Nat->Nat)(u v:Nat):F2:=inn i j u (i v)+inn i j u (j v)
def eta(hd:Nat->Bool)(v:Nat):F2:=bif hd v then 0 else 1
theorem zp2{p q:Prop}[Decidable p][Decidable q](h:p↔q):(if p then (1:F2) else 0)=if q then 1 else 0:=by
 by_cases hp:p
 ·rw[if_pos hp,if_pos (h.mp hp)]
 ·rw[if_neg hp,if_neg fun z=>hp (h.mpr z)]
theorem zmH{u x:Nat}(h:x≠i u):io i j u (x+1)=inn i j u x:=zp2 (by lia)
theorem zmI{u x:Nat}(h:x≠j u):io i j u x=inn i j u x:=zp2 (by lia)
theorem zqx(u:Nat):inn i j u (i u)=0:=if_neg fun h=>Q4 _ h.1
theorem zqw(u:Nat):inn i j u (j u)=0:=if_neg fun h=>Q4 _ h.2
theorem zwv(u:Nat):io i j u (i u)=0:=if_neg fun h=>Q4 _ h.1
theorem zsZ{u:Nat}(h:i u < j u):io i j u (i u+1)=1:=if_pos ⟨gc _,h⟩
theorem zwu{u:Nat}(h:i u < j u):io i j u (j u)=1:=if_pos ⟨h,jl _⟩
theorem zsY(u:Nat):io i j u (j u+1)=0:=if_neg fun h=>Q4 _ h.2
theorem zqU(u:Nat):cr i j u u=0:=by unfold cr; rw[zqx,zqw]; rfl
theorem Ij.ne(I:Ij n i j nm){u p:Nat}(hp:p < 2*n)(hu:u < n)(h:u≠nm p):p≠i u/\p≠j u:=⟨fun e=>h (by rw[e,I.ni u hu]),fun e=>h (by rw[e,I.nj u hu])⟩
theorem zez{v:Nat}(hv:v < n)(h:Nat->F2):sm (jf n) (fun u=>h u*del u v)=h v:=zrM gP (jk.mpr hv) h
theorem zw7(I:Ij n i j nm)(d0:F2)(x:Nat->F2):∀ k,k<=2*n->Dd (bO i j hd) nm d0 x k=d0+sm (jf n) fun u=>x u*io i j u k:=fun k=>by
 induction k with
 |zero=>
  intro _;rw[zdV fun u _=>by rw[show io i j u 0=0 from if_neg fun h=>Yc _ h.1]; exact Zw _]
  exact(WE d0).symm
 |succ k ih=>
  intro hk;have hk':k < 2*n:=hk;have hv:=I.nlt k hk';have e1:Dd (bO i j hd) nm d0 x (k+1)=Dd (bO i j hd) nm d0 x k+x (nm k):=by
   show _+(if k=bO i j hd (nm k) then - x (nm k) else x (nm k))=_
   rw[zp4,ite_self]
  rw[e1,ih (Z8 hk')];have e2:(sm (jf n) fun u=>x u*io i j u (k+1))=sm (jf n) fun u=>x u*io i j u k+x u*del u (nm k):=zaA fun u hu=>by
   have hu:=jk.mp hu;have e3:io i j u (k+1)=io i j u k+del u (nm k):=by
    by_cases q:u=nm k
    ·have ha:=I.at_ k hk';have hl:=I.lt u hu;rw[<-q] at ha ⊢;rw[zfv];rcases ha with e |e
     ·rw[e,zsZ hl,zwv]; rfl
     ·rw[e,zsY,zwu hl]; rfl
    ·have hp:=I.ne hk' hu q;rw[zgk q,zmH hp.1,zmI hp.2]; exact(WE _).symm
   rw[e3]; grind
  rw[e2,zeY,zez hv]; grind
def tau(a b nm:Nat->Nat)(p:Nat):Nat:=if p=b (nm p) then a (nm p) else b (nm p)+1
def Tt(i j nm:Nat->Nat)(hd:Nat->Bool)(u k:Nat):F2:=sm (jf k) fun p=>io i j u (tau (aO i j hd) (bO i j hd) nm p)
theorem zrB{a b:Nat->Nat}(C:Cd n a b nm){p:Nat}(h:p < 2*n):tau a b nm p<=2*n:=by
 have hv:=C.nlt p h;unfold tau;split
 ·exact Z8 (C.alt _ hv)
 ·exact C.blt _ hv
def ev2(k:Nat)(d:F2):F2:=if k%2=0 then 0 else d
theorem zoa(k:Nat)(d:F2):ev2 (k+1) d=ev2 k d+d:=by
 unfold ev2;rcases Q3 k with q |q
 ·rw[if_pos q,if_neg (by lia)]; exact(Fin.zero_add d).symm
 ·rw[if_pos (c:=(k+1)%2=0) (by lia),if_neg (by lia)]; exact(ziF d).symm
theorem zj0(I:Ij n i j nm)(l0 d0:F2)(x:Nat->F2):∀ k,k<=2*n->La (aO i j hd) (bO i j hd) nm l0 d0 x k=l0+ev2 k d0+sm (jf n) fun u=>x u*Tt i j nm hd u k:=fun k=>by
 induction k with
 |zero=>
  intro _;rw[zdV fun u _=>by exact Zw (x u)]
  show l0=l0+0+0
  grind
 |succ k ih=>
  intro hk;show La (aO i j hd) (bO i j hd) nm l0 d0 x k+Cc (aO i j hd) (bO i j hd) nm d0 x k=_;have e1:Cc (aO i j hd) (bO i j hd) nm d0 x k=Dd (bO i j hd) nm d0 x (tau (aO i j hd) (bO i j hd) nm k):=by
   unfold Cc tau;split
   ·rfl
   ·rw[zp4]
  rw[e1,ih (Z8 hk),zw7 I d0 x _ (zrB (I.cd hd) hk),zoa];have e2:(sm (jf n) fun u=>x u*Tt i j nm hd u (k+1))=sm (jf n) fun u=>x u*Tt i j nm hd u k+x u*io i j u (tau (aO i j hd) (bO i j hd) nm k):=zaA fun u hu=>by
   unfold Tt;rw[zc5]; grind
  rw[e2,zeY]; grind
theorem zqV(I:Ij n i j nm):(∀(l0 d0:F2) (x:Nat->F2),Cnd n (aO i j hd) (bO i j hd) nm l0 d0 x)↔(∀ w,w < n->(i w+j w)%2=1)/\(∀ u,u < n->Tt i j nm hd u (2*n)=0)/\∀ u w,u < n->w < n->Tt i j nm hd u (bO i j hd w+1)+Tt i j nm hd u (aO i j hd w)=0:=by
 have C:=I.cd hd;have par:∀ w,(i w+j w)%2=1↔∀ d,ev2 (aO i j hd w) d=ev2 (bO i j hd w+1) d:=fun w=>by
  have key:∀ a b:Nat,(a+b)%2=1↔∀ d,ev2 a d=ev2 (b+1) d:=fun a b=>by
   unfold ev2;constructor
   ·intro h d;rcases Q3 a with q |q
    ·rw[if_pos q,if_pos (by lia)]
    ·rw[if_neg (by lia),if_neg (by lia)]
   ·intro h;have h:=h 1;rcases Q3 a with q |q<;>rcases Q3 (b+1) with q' |q'
    ·lia
    ·rw[if_pos q,if_neg (by lia)] at h; cases h
    ·rw[if_neg (by lia),if_pos q'] at h; cases h
    ·lia
  rcases zlr i j hd w with ⟨a,b,_⟩ |⟨a,b,_⟩<;>rw[a,b]
  ·exact key _ _
  ·rw[Nat.add_comm]; exact key _ _
 constructor
 ·intro h;refine⟨fun w hw=>(par w).mpr fun d=>?_,fun u hu=>?_,fun u w hu hw=>?_⟩
  ·have e:=(h 0 d fun _=>0).2 w hw;rw[zj0 I _ _ _ _ (Z8 (C.alt w hw)),zj0 I _ _ _ _ (C.blt w hw),zdV fun u _=>by exact gK _,zdV fun u _=>by exact gK _] at e
   grind
  ·have e:=(h 0 0 fun v=>del v u).1;rw[zj0 I _ _ _ _ (jl _)] at e;have:(sm (jf n) fun v=>del v u*Tt i j nm hd v (2*n))=Tt i j nm hd u (2*n):=by
    rw[<-zez hu fun v=>Tt i j nm hd v (2*n)];exact zaA fun v _=>WF _ _
   rw[this,show ev2 (2*n) (0:F2)=0 from ite_self _] at e; grind
  ·have e:=(h 0 0 fun v=>del v u).2 w hw;have z:∀ k,(sm (jf n) fun v=>del v u*Tt i j nm hd v k)=Tt i j nm hd u k:=fun k=>by
    rw[<-zez hu fun v=>Tt i j nm hd v k];exact zaA fun v _=>WF _ _
   rw[zj0 I _ _ _ _ (Z8 (C.alt w hw)),zj0 I _ _ _ _ (C.blt w hw),z,z,show ∀ k,ev2 k (0:F2)=0 from fun _=>ite_self _,show ∀ k,ev2 k (0:F2)=0 from fun _=>ite_self _] at e;have:=ziF (Tt i j nm hd u (aO i j hd w))
   grind
 ·rintro⟨hE,hC,hV⟩ l0 d0 x;refine⟨?_,fun w hw=>?_⟩
  ·rw[zj0 I _ _ _ _ (jl _),show ev2 (2*n) d0=0 from if_pos (Nat.mul_mod_right 2 n),zdV fun u hu=>by rw[hC u (jk.mp hu)]; exact Zw _]
   grind
  ·rw[zj0 I _ _ _ _ (Z8 (C.alt w hw)),zj0 I _ _ _ _ (C.blt w hw),(par w).mp (hE w hw) d0];have e1:(sm (jf n) fun u=>x u*Tt i j nm hd u (aO i j hd w))=sm (jf n) fun u=>x u*Tt i j nm hd u (bO i j hd w+1):=zaA fun u hu=>by
    have:=hV u w (jk.mp hu) hw;have:=ziF (Tt i j nm hd u (aO i j hd w))
    grind
   rw[e1]
theorem t_a(I:Ij n i j nm){u v:Nat}(hu:u < n)(hv:v < n):io i j u (tau (aO i j hd) (bO i j hd) nm (aO i j hd v))=inn i j u (bO i j hd v)+eta hd u*del u v:=by
 have C:=I.cd hd;unfold tau;rw[C.na v hv,if_neg (C.ne v hv)]
 by_cases q:u=v
 ·subst q;rw[zfv];unfold eta;rcases zlr i j hd u with ⟨_,b,h⟩ |⟨_,b,h⟩<;>rw[b,h]
  ·rw[zsY,zqw]; rfl
  ·rw[zsZ (I.lt u hu),zqx]; rfl
 ·rw[zgk q,zmH (I.ne (C.blt v hv) hu (by rw[C.nb v hv]; exact q)).1]; grind
theorem t_b(I:Ij n i j nm){u v:Nat}(hu:u < n)(hv:v < n):io i j u (tau (aO i j hd) (bO i j hd) nm (bO i j hd v))=inn i j u (aO i j hd v)+eta hd u*del u v:=by
 have C:=I.cd hd;unfold tau;rw[C.nb v hv,if_pos rfl]
 by_cases q:u=v
 ·subst q;rw[zfv];unfold eta;rcases zlr i j hd u with ⟨a,_,h⟩ |⟨a,_,h⟩<;>rw[a,h]
  ·rw[zwv,zqx]; rfl
  ·rw[zwu (I.lt u hu),zqw]; rfl
 ·rw[zgk q,zmI (I.ne (C.alt v hv) hu (by rw[C.na v hv]; exact q)).2]; grind
def znj(n:Nat)(i j:Nat->Nat)(u:Nat):F2:=sm (jf n) fun v=>cr i j u v
def znt(n:Nat)(i j:Nat->Nat)(u w:Nat):F2:=sm (jf n) fun v=>cr i j u v*cr i j w v
theorem zot(i j:Nat->Nat)(hd:Nat->Bool)(u v:Nat):cr i j u v=inn i j u (aO i j hd v)+inn i j u (bO i j hd v):=by
 unfold cr;rcases zlr i j hd v with ⟨a,b,_⟩ |⟨a,b,_⟩<;>rw[a,b]
 exact zmW _ _
theorem zrL(I:Ij n i j nm)(h:Nat->F2):sm (jf (2*n)) h=sm (jf n) fun v=>h (i v)+h (j v):=by
 rw[zec (I.cd fun _=>true)]; rfl
theorem zw3(I:Ij n i j nm){u:Nat}(hu:u < n):Tt i j nm hd u (2*n)=znj n i j u:=by
 unfold Tt znj;rw[zec (I.cd hd)];refine zaA fun v hv=>?_;have hv:=jk.mp hv;rw[t_a I hu hv,t_b I hu hv,zot i j hd];have:=ziF (eta hd u*del u v)
 grind
theorem zoH(h:Nat->F2):∀(N k:Nat),k<=N->sm (jf k) h=sm (jf N) fun p=>h p*if p < k then 1 else 0:=fun N=>by
 induction N with
 |zero=>intro k hk; rw[Nat.le_zero.mp hk]; rfl
 |succ N ih=>
  intro k hk
  by_cases q:k=N+1
  ·subst q;refine zaA fun p hp=>?_;rw[if_pos (jk.mp hp)]; exact(Fin.mul_one _).symm
  ·rw[zc5,ih k (by lia),if_neg (by lia)]; grind
theorem zrG{p x y:Nat}(h:x < y):(if p < y+1 then (1:F2) else 0)+(if p < x then 1 else 0)=(if x < p/\p < y then 1 else 0)+(del p x+del p y):=by
 unfold del;rcases gC p x with q |q |q
 ·rw[if_pos (by lia),if_pos q,if_neg (by lia),if_neg (by lia),if_neg (by lia)]; rfl
 ·rw[if_pos (by lia),if_neg (by lia),if_neg (by lia),if_pos q,if_neg (by lia)]; rfl
 ·rcases gC p y with q' |q' |q'
  ·rw[if_pos (by lia),if_neg (by lia),if_pos ⟨q,q'⟩,if_neg (by lia),if_neg (by lia)]; rfl
  ·rw[if_pos (by lia),if_neg (by lia),if_neg (by lia),if_neg (by lia),if_pos q']; rfl
  ·rw[if_neg (by lia),if_neg (by lia),if_neg (by lia),if_neg (by lia),if_neg (by lia)]; rfl
theorem zrH{p x y:Nat}(h:x < y):(if p < x+1 then (1:F2) else 0)+(if p < y then 1 else 0)=if x < p/\p < y then 1 else 0:=by
 by_cases q:p < x+1
 ·rw[if_pos q,if_pos (by lia),if_neg (by lia)]; rfl
 ·by_cases q':p < y
  ·rw[if_neg q,if_pos q',if_pos (by lia)]; rfl
  ·rw[if_neg q,if_neg q',if_neg (by lia)]; rfl
theorem ztF(I:Ij n i j nm){u w:Nat}(hu:u < n)(hw:w < n):Tt i j nm hd u (bO i j hd w+1)+Tt i j nm hd u (aO i j hd w)=(sm (jf (2*n)) fun p=>inn i j w p*io i j u (tau (aO i j hd) (bO i j hd) nm p))+(1+eta hd w)*cr i j u w:=by
 have C:=I.cd hd;have e0:cr i j u w=io i j u (tau (aO i j hd) (bO i j hd) nm (aO i j hd w))+io i j u (tau (aO i j hd) (bO i j hd) nm (bO i j hd w)):=by
  rw[t_a I hu hw,t_b I hu hw,zot i j hd];have:=ziF (eta hd u*del u w)
  grind
 rw[e0];unfold Tt;obtain⟨h,hh⟩:∃ h:Nat->F2,∀ p,io i j u (tau (aO i j hd) (bO i j hd) nm p)=h p:=⟨_,fun _=>rfl⟩;simp only[hh];have ea:=zez (n:=2*n) (C.alt w hw) h;have eb:=zez (n:=2*n) (C.blt w hw) h;rw[zoH h (2*n) _ (C.blt w hw),zoH h (2*n) _ (Z8 (C.alt w hw)),<-zeY,<-ea,<-eb,<-zeY,<-zrK,<-zeY];refine zaA fun p hp=>?_;have hk:(if p < bO i j hd w+1 then (1:F2) else 0)+(if p < aO i j hd w then 1 else 0)=inn i j w p+(1+eta hd w)*(del p (aO i j hd w)+del p (bO i j hd w)):=by
  unfold eta inn;rcases zlr i j hd w with ⟨a,b,z⟩ |⟨a,b,z⟩<;>rw[a,b,z]
  ·rw[zrG (I.lt w hw)]; show _=_+(1+0)*_; grind
  ·rw[zrH (I.lt w hw)]; show _=_+(1+1)*_; grind
 generalize h p=y;generalize (if p < bO i j hd w+1 then (1:F2) else 0)=c1 at hk
 generalize (if p < aO i j hd w then (1:F2) else 0)=c2 at hk
 generalize inn i j w p=c3 at *;generalize eta hd w=c4 at *;generalize del p (aO i j hd w)=c5 at *;generalize del p (bO i j hd w)=c6 at *
 clear hh ea eb e0 hp C
 revert y c1 c2 c3 c4 c5 c6
 decide
def Kk(n:Nat)(i j:Nat->Nat)(u w:Nat):F2:=sm (jf (2*n)) fun p=>inn i j u p*inn i j w p
theorem ztE(I:Ij n i j nm){u w:Nat}(hu:u < n)(hw:w < n):Tt i j nm hd u (bO i j hd w+1)+Tt i j nm hd u (aO i j hd w)=znt n i j u w+Kk n i j u w+eta hd u*cr i j w u+(1+eta hd w)*cr i j u w:=by
 have C:=I.cd hd;rw[ztF I hu hw];have e:(sm (jf (2*n)) fun p=>inn i j w p*io i j u (tau (aO i j hd) (bO i j hd) nm p))=znt n i j u w+Kk n i j u w+eta hd u*cr i j w u:=by
  unfold znt Kk;rw[zec C,zec C (fun p=>inn i j u p*inn i j w p)];rw[<-zez hu fun v=>eta hd u*cr i j w v,<-zeY,<-zeY];refine zaA fun v hv=>?_;have hv:=jk.mp hv;rw[t_a I hu hv,t_b I hu hv,zon u v,zot i j hd u v,zot i j hd w v];generalize inn i j u (aO i j hd v)=p1;generalize inn i j u (bO i j hd v)=p2;generalize inn i j w (aO i j hd v)=p3;generalize inn i j w (bO i j hd v)=p4;generalize eta hd u=p5;generalize del v u=p6
  revert p1 p2 p3 p4 p5 p6
  decide
 rw[e]
def n2(k:Nat):F2:=Fin.ofNat 2 k
theorem zgY{j k:Nat}(h:j%2=k%2):n2 j=n2 k:=Fin.ext h
theorem zmr(j k:Nat):n2 (j+k)=n2 j+n2 k:=Fin.ext (Nat.add_mod j k 2)
theorem n2_zero{k:Nat}:n2 k=0↔k%2=0:=⟨fun h=>congrArg Fin.val h,fun h=>zgY (k:=0) h⟩
theorem zpC(x y:Nat):∀ N,y<=N->sm (jf N) (fun p=>if x < p/\p < y then (1:F2) else 0)=n2 (y - (x+1)):=fun N h=>by
 have key:∀ N,sm (jf N) (fun p=>if x < p/\p < y then (1:F2) else 0)=n2 (min N y - (x+1)):=fun N=>by
  induction N with
  |zero=>rw[Nz,zeb,Nat.zero_min,Nat.zero_sub]; rfl
  |succ N ih=>
   rw[zc5,ih]
   by_cases q:x < N/\N < y
   ·rw[if_pos q,show min (N+1) y - (x+1)=min N y - (x+1)+1 by lia,zmr]; rfl
   ·rw[if_neg q,show min (N+1) y - (x+1)=min N y - (x+1) by lia]; exact WE _
 rw[key,Nat.min_eq_right h]
theorem zqR(I:Ij n i j nm){u:Nat}(hu:u < n):znj n i j u=n2 (j u - (i u+1)):=by
 have:znj n i j u=sm (jf (2*n)) fun p=>inn i j u p:=by
  rw[zrL I]; rfl
 rw[this];exact zpC _ _ _ (Z8 (I.jlt u hu))
theorem ord(I:Ij n i j nm){u w:Nat}(hu:u < n)(hw:w < n)(h:i u < i w)(hE:∀ w,w < n->(i w+j w)%2=1):(cr i j u w=0/\cr i j w u=0/\Kk n i j u w=0)∨(cr i j u w=1/\cr i j w u=1/\Kk n i j u w=n2 (i u)+n2 (i w)):=by
 have hne:w≠u:=fun e=>by rw[e] at h; exact Q4 _ h
 have h1:=I.lt u hu;have h2:=I.lt w hw;have h3:=I.jlt u hu;have h4:=I.jlt w hw;have d1:=(I.ne (u:=w) h3 hw (by rw[I.nj u hu]; exact hne))
 have e1:=hE u hu;have e2:=hE w hw;unfold cr Kk inn;generalize 2*n=N at h3 h4;generalize i u=x at *;generalize j u=y at *;generalize i w=k at *;generalize j w=l at *
 clear hE hne hu hw I
 rw[if_neg (c:=k < x/\x < l) (by lia)]
 rcases gJ y k with q |q
 ·refine .inl ⟨?_,?_,zdV fun p _=>?_⟩
  ·rw[if_neg (by lia),if_neg (by lia)]; rfl
  ·rw[if_neg (by lia)]; rfl
  ·by_cases z:x < p/\p < y
   ·rw[if_neg (c:=k < p/\p < l) (by lia)]; exact Zw _
   ·rw[if_neg z]; exact gK _
 ·rcases gJ y l with q' |q'
  ·refine .inr ⟨?_,?_,?_⟩
   ·rw[if_pos (by lia),if_neg (by lia)]; rfl
   ·rw[if_pos (by lia)]; rfl
   ·rw[zaA (h':=fun p=>if k < p/\p < y then (1:F2) else 0) fun p _=>?_,zpC k y N (by lia),<-zmr]
    ·exact zgY (by lia)
    ·by_cases z:k < p/\p < y
     ·rw[if_pos z,if_pos (by lia),if_pos (by lia)]; rfl
     ·rw[if_neg z]
      by_cases z':x < p/\p < y
      ·rw[if_neg (c:=k < p/\p < l) (by lia)]; exact Zw _
      ·rw[if_neg z']; exact gK _
  ·refine .inl ⟨?_,?_,?_⟩
   ·rw[if_pos (by lia),if_pos (by lia)]; rfl
   ·rw[if_neg (by lia)]; rfl
   ·rw[zaA (h':=fun p=>if k < p/\p < l then (1:F2) else 0) fun p _=>?_,zpC k l N (by lia)]
    ·exact n2_zero.mpr (by lia)
    ·by_cases z:k < p/\p < l
     ·rw[if_pos z,if_pos (by lia)]; rfl
     ·rw[if_neg z]; exact Zw _
theorem zxE(I:Ij n i j nm){u w:Nat}(hu:u < n)(hw:w < n)(h:u≠w)(hE:∀ w,w < n->(i w+j w)%2=1):cr i j w u=cr i j u w/\Kk n i j u w=cr i j u w*(n2 (i u)+n2 (i w)):=by
 have hK:Kk n i j w u=Kk n i j u w:=zaA fun p _=>WF _ _;rcases gC (i u) (i w) with q |q |q
 ·rcases ord I hu hw q hE with ⟨a,b,c⟩ |⟨a,b,c⟩<;>rw[a,b,c]
  ·exact⟨rfl,(gK _).symm⟩
  ·exact⟨rfl,(Fin.one_mul _).symm⟩
 ·exact absurd (by rw[<-I.ni u hu,q,I.ni w hw]) h
 ·rcases ord I hw hu q hE with ⟨a,b,c⟩ |⟨a,b,c⟩<;>rw[<-hK,a,b,c]
  ·exact⟨rfl,(gK _).symm⟩
  ·exact⟨rfl,by rw[Fin.one_mul]; exact zmW _ _⟩
def sdF(i:Nat->Nat)(hd:Nat->Bool)(u:Nat):F2:=n2 (i u)+eta hd u
theorem zn9(I:Ij n i j nm):(∀(l0 d0:F2) (x:Nat->F2),Cnd n (aO i j hd) (bO i j hd) nm l0 d0 x)↔(∀ u,u < n->znj n i j u=0)/\∀ u w,u < n->w < n->u≠w->znt n i j u w+cr i j u w*(sdF i hd u+sdF i hd w+1)=0:=by
 rw[zqV I];have hEd:(∀ w,w < n->(i w+j w)%2=1)↔∀ u,u < n->znj n i j u=0:=by
  refine forall_congr' fun u=>forall_congr' fun hu=>?_;rw[zqR I hu,n2_zero];have:=I.lt u hu;lia
 have key:∀ u w,u < n->w < n->u≠w->(∀ w,w < n->(i w+j w)%2=1)->Tt i j nm hd u (bO i j hd w+1)+Tt i j nm hd u (aO i j hd w)=znt n i j u w+cr i j u w*(sdF i hd u+sdF i hd w+1):=fun u w hu hw h hE=>by
  obtain⟨o1,o2⟩:=zxE I hu hw h hE;rw[ztE I hu hw,o2,o1];unfold sdF
  grind
 constructor
 ·rintro⟨hE,_,hV⟩;refine⟨hEd.mp hE,fun u w hu hw h=>?_⟩;rw[<-key u w hu hw h hE];exact hV u w hu hw
 ·rintro⟨hd',hs⟩;have hE:=hEd.mpr hd';refine⟨hE,fun u hu=>by rw[zw3 I hu]; exact hd' u hu,fun u w hu hw=>?_⟩
  by_cases h:u=w
  ·subst h
   rw[ztE I hu hw,zqU,show znt n i j u u=znj n i j u from zaA fun v _=>ztd _,hd' u hu,show Kk n i j u u=znj n i j u by
    have e1:Kk n i j u u=sm (jf (2*n)) fun p=>inn i j u p:=zaA fun v _=>ztd _
    rw[e1,zrL I]; rfl,hd' u hu,Zw,Zw]
   rfl
  ·rw[key u w hu hw h hE]; exact hs u w hu hw h
end
end Dw
set_option maxHeartbeats 4000000
namespace Dw
open PySem PySem.Spec PyProof.Rows L2 L3
def top(i:Nat):Stmt:=gD.main.body.getD i (.Pass ⟨0,0,0,0⟩)
variable {v:Ev}
abbrev zj8:Stmt:=top 25
theorem znu:FnScope ["_law_cell_here"] ["_law_cell_here"] (za1 zj8):=scm
def zjL:DS:=(zai [] (zdO (dAc (d2 zdt (d2 zhE (dV 0) (dC (.int 2))) (d2 ze9 (dV 0) (dC (.int 2)))) (dAc (d2 ze9 (dV 0) (dC (.int 2))) (dAc (d2 ze9 (d2 zhE (dV 0) (dC (.int 2))) (dC (.int 2147483647))) dAn)))))
def zd3:List T->Option T:=zni 1 zjL
abbrev zgv[TheK](v:Ev)(k:Nat):Prop:=Cl v k "_law_bag" ["_law_cell_here"] (spP .n 1 zd3)
theorem znT[tk:TheK](h:Here tk.K v.mg "_law_bag" zj8 ["_law_cell_here"]):zgv v 1:=by
 refine(h.vN 0 [] zjL znu fun f cdv A outer s H E hr=>?_ :);exact(za3 (zpT (zaS (qa_ (zaL (zfX (qv_ rfl (qpv 0)) (qeb qi_)) (qeb (zbB (qv_ rfl (qpv 0)) (qeb qi_)))) (qa_ (zbB (qv_ rfl (qpv 0)) (qeb qi_)) (qa_ (zbB (zfX (qv_ rfl (qpv 0)) (qeb qi_)) (qeb qi_)) za2))))))
abbrev zfL:Stmt:=top 26
theorem zgM:FnScope ["_law_bag_here","_law_many_here","_law_found"] ["_law_bag_here","_law_many_here"] (za1 zfL):=scm
def zgl:DS:=(zao (zcb (dB (d2 gGt (d2v za4 0 (dC (.int 0))) (dC (.int 0)))) (zao (zay 2 (d2 ze9 (d2v za4 0 (dC (.int 0))) (dV 1)))
  (zao (zfn 0 (dC (.int 0)) (d2 zhE (d2v za4 0 (dC (.int 0))) (dV 1)))
  (zai [0] (dV 2)))) zaD)
  (zao (zfn 0 (dC (.int 2)) (d2 ze9 (d2 zav (d2 zdt (d2v za4 0 (dC (.int 2))) (dC (.int 48271))) (dC (.int 11))) (dC (.int 2147483647))))
  (zai [0] (d2 ze9 (d2 zhE (d2 ze9 (d2 zdt (d2v za4 0 (dC (.int 2))) (dC (.int 16807))) (dC (.int 2147483629))) (dC (.int 8))) (dV 1)))))
def zac:List T->Option (T × T):=fnI 3 zgl
abbrev zbV[TheK](v:Ev)(k:Nat):Prop:=Cl v k "_law_digit" ["_law_bag_here","_law_many_here"] (spI .e 2 zac)
theorem zl4[tk:TheK](h:Here tk.K v.mg "_law_digit" zfL ["_law_bag_here","_law_many_here"]):zbV v 1:=by
 refine(h.vI 0 [] zgl zgM fun f cdv A outer s H E hr=>?_ :);have sc:=zgM;have hu:=zc7 hr
 exact(qs_ (M':=[0]) (zbF (M':=[0]) (zj9 (zaO rfl rfl hu (qpv 0) (qeb qi_) (fun _ _=>rfl)) (qeb qi_)) (qs_ (M':=[0]) (zad (M':=[0]) (za7 (i:=2) sc.nd rfl (jE rfl) (zbB (zaO rfl rfl hu (qpv 0) (qeb qi_) (fun _ _=>rfl)) (qeb (qv_ rfl (qpv 1))))))
  (qs_ (M':=[0]) (zfT rfl (zdm (zfX (zaO rfl rfl hu (qpv 0) (qeb qi_) (fun _ _=>rfl)) (qeb (qv_ rfl (qpv 1)))) (zfW (qpv 0) qi_ zed)))
  (za3 (za9 (qv_ rfl (qpv 2)))))) zau)
  (qs_ (M':=[0]) (zfT rfl (zdm (zbB (zap (zaL (zaO rfl rfl hu (qpv 0) (qeb qi_) (fun _ _=>rfl)) (qeb qi_)) (qeb qi_)) (qeb qi_)) (zfW (qpv 0) qi_ zed)))
  (za3 (za9 (zbB (zfX (zbB (zaL (zaO rfl rfl hu (qpv 0) (qeb qi_) (fun _ _=>rfl)) (qeb qi_)) (qeb qi_)) (qeb qi_)) (qeb (qv_ rfl (qpv 1))))))))
abbrev zhg:Stmt:=top 30
theorem zie:FnScope ["_law_cell_here","_law_bag_here"] ["_law_cell_here"] (za1 zhg):=scm
def zfx:DS:=(zao (zay 1 (zar zd3 (dAc (dV 0) dAn)))
  (zao (zcb (dB (d2 gEq (zal zac 1 (dAc (dC (.int 4)) dAn)) (dC (.int 3)))) (zai [] (zal zac 1 (dAc (dC (.int 31)) dAn))) zaD)
  (zai [] (zal zac 1 (dAc (dC (.int 9)) dAn)))))
def zes:List T->Option T:=fnP 2 zfx
abbrev zhR[TheK](v:Ev)(k:Nat):Prop:=Cl v k "_law_many" ["_law_cell_here"] (spP .e 1 zes)
theorem zml[tk:TheK](h:Here tk.K v.mg "_law_many" zhg ["_law_cell_here"])(C_l_bag:zgv v 1)(C_l_digit:zbV v 1):zhR v 2:=by
 refine(h.vP 1 [] zfx zie fun f cdv A outer s H E hr=>?_ :);have sc:=zie;have hu8:=zc4 hr
 exact(qs_ (M':=[1]) (zaN (M':=[1]) (za7 (i:=1) sc.nd rfl (jE rfl) (qcN C_l_bag hr rfl (qa_ (qv_ rfl (qpv 0)) za2) ar1)))
  (qs_ (M':=[1]) (zbF (M':=[1]) (zfS hu8 (qcI rfl C_l_digit hr rfl (qpv 1) (qa_ qi_ za2) ar1) (qeb qi_)) (za3 (za9 (qcI rfl C_l_digit hr rfl (qpv 1) (qa_ qi_ za2) ar1))) zau)
  (za3 (za9 (qcI rfl C_l_digit hr rfl (qpv 1) (qa_ qi_ za2) ar1)))))
abbrev zfK:Stmt:=top 27
theorem zgL:FnScope ["_law_bag_here","_law_many_here","_law_letters","_law_short","_law_size","_law_stem","_law_at","_law_one","_law_other","_law_made","_law_k","_law_pair","_law_name","_law_turn"] ["_law_bag_here","_law_many_here"] (za1 zfK):=scm
def zev:DS:=(zao (zay 2 (dC (.str "abcdefghijklmnopqrstuvwxyz")))
  (zao (zay 3 (d2 gEq (zal zac 0 (dAc (dC (.int 3)) dAn)) (dC (.int 2))))
  (zao (zay 4 (d2 za4 (zdO (dAc (zal zac 0 (dAc (dC (.int 7)) dAn)) (dAc (dC (.int 6)) dAn))) (d1 zt7 (dV 3))))
  (zao (zay 5 (zlm (dC (.str "")) (dLC [0] [none,some 2,some 0] (zhV (dAc (dV 4) dAn)) (dGn 0) zf8 (d2 za4 (dV 1) (zal zac 2 (dAc (dC (.int 26)) dAn))))))
  (zao (zay 6 (zal zac 0 (dAc (d2 zav (dV 4) (dC (.int 1))) dAn)))
  (zao (zay 7 (zal zac 0 (dAc (dC (.int 26)) dAn)))
  (zao (zay 8 (zal zac 0 (dAc (dC (.int 26)) dAn)))
  (zao (zay 9 (zdO dAn))
  (zao (zf9 (zhV (dAc (dV 1) dAn)) (dGn 10)
  (zao (zay 11 (d2 zav (d2 za4 (dV 2) (d2 ze9 (d2 zav (dV 7) (dV 10)) (dC (.int 26)))) (d2 za4 (dV 2) (d2 ze9 (d2 zav (dV 8) (d2 zhE (dV 10) (dC (.int 26)))) (dC (.int 26))))))
  (zao (zay 12 (d2 zav (d2 zav (dSl zkx (dV 5) dOn (dOs (dV 6))) (dV 11)) (dSl zkx (dV 5) (dOs (dV 6)) dOn)))
  (zao (zcb (ziL (zgm (dV 3)) (dB (d2 gLt (dV 10) (dC (.int 5))))) (zay 12 (dSl zkx (dV 5) dOn (dOs (d2 zav (dV 10) (dC (.int 1)))))) zaD)
  (dDo (zgn zgZ 9 (dAc (dV 12) dAn)))))))
  (zao (zay 13 (zal zac 0 (dAc (d2 zav (dV 1) (dC (.int 1))) dAn)))
  (zai [0] (d2 zav (zp7 gSl 9 (dOs (dV 13)) dOn) (zp7 gSl 9 dOn (dOs (dV 13)))))))))))))))
def zeM:List T->Option (T × T):=fnI 14 zev
abbrev zgt[TheK](v:Ev)(k:Nat):Prop:=Cl v k "_law_names" ["_law_bag_here","_law_many_here"] (spI .e 2 zeM)
theorem zl3[tk:TheK](h:Here tk.K v.mg "_law_names" zfK ["_law_bag_here","_law_many_here"])(C_l_digit:zbV v 1)(m_int:v.mg "int"=none)(m_range:v.mg "range"=none):zgt v 2:=by
 refine(h.vI 1 [] zev zgL fun f cdv A outer s H E hr=>?_ :);have sc:=zgL;have hu:=zc7 hr;have hu8:=zc4 hr
 exact(qs_ (M':=[0]) (zad (M':=[0]) (za7 (i:=2) sc.nd rfl (YF rfl) zf3))
  (qs_ (M':=[0]) (zad (M':=[0]) (za7 (i:=3) sc.nd rfl (jE rfl) (zjc hu8 (qcI rfl C_l_digit hr rfl (qpv 0) (qa_ qi_ za2) ar1) (qeb qi_))))
  (qs_ (M':=[0]) (zad (M':=[0]) (za7 (i:=4) sc.nd rfl (jE rfl) (zaf rfl hu (qne (zaS (qa_ (qcI rfl C_l_digit hr rfl (qpv 0) (qa_ qi_ za2) ar1) (qa_ qi_ za2)))) (qeb (znF rfl m_int (qeb (qv_ rfl (qpv 3))))) (fun _ _=>rfl))))
  (qs_ (M':=[0]) (zad (M':=[0]) (za7 (i:=5) sc.nd rfl (jE rfl) (zpY (zdS PySem.F.plainAttrs_str PySem.F.slot_str_join PySem.F.type_str_join zql zf3 (zkh (qnb (zgB (Mi:=[2]) rfl (zbC (i:=0)) zdP (zdR (N:=["_law_k","_law_letters","_law_bag_here"]) (caps:=[none,some 2,some 0]) rfl (zbP rfl m_range (qa_ (qv_ rfl (qpv 4)) za2)) (fun _ _ _ _ _=>(za8 (i:=0) (show (["_law_k","_law_letters","_law_bag_here"]:List Str).Nodup by decide +kernel) rfl (jE rfl))) zbg (fun _ _ _ _ _=>zbL) (fun _ _ _ _ _=>(zaf rfl hu (qv_ rfl (qpv 1)) (qeb (qcI rfl C_l_digit hr rfl (qpv 2) (qa_ qi_ za2) ar1)) (fun _ _=>rfl)))))) zlY)))))
  (qs_ (M':=[0]) (zad (M':=[0]) (za7 (i:=6) sc.nd rfl (jE rfl) (qcI rfl C_l_digit hr rfl (qpv 0) (qa_ (zap (qv_ rfl (qpv 4)) (qeb qi_)) za2) ar1)))
  (qs_ (M':=[0]) (zad (M':=[0]) (za7 (i:=7) sc.nd rfl (jE rfl) (qcI rfl C_l_digit hr rfl (qpv 0) (qa_ qi_ za2) ar1)))
  (qs_ (M':=[0]) (zad (M':=[0]) (za7 (i:=8) sc.nd rfl (jE rfl) (qcI rfl C_l_digit hr rfl (qpv 0) (qa_ qi_ za2) ar1)))
  (qs_ (M':=[0,9]) (zaN (M':=[0,9]) (za7 (i:=9) sc.nd rfl (jE rfl) (zaS za2)))
  (qs_ (M':=[0,9]) (zcl (zbe jO rfl (zbP rfl m_range (qa_ (qv_ rfl (qpv 1)) za2)) (zbG (za8 (i:=10) sc.nd rfl (jE rfl)))
  (qs_ (M':=[0,9]) (zad (M':=[0,9]) (za7 (i:=11) sc.nd rfl (jE rfl) (zap (zaf rfl hu (qv_ rfl (qpv 2)) (qeb (zbB (zap (qv_ rfl (qpv 7)) (qeb (qv_ rfl (qpv 10)))) (qeb qi_))) (fun _ _=>rfl)) (qeb (zaf rfl hu (qv_ rfl (qpv 2)) (qeb (zbB (zap (qv_ rfl (qpv 8)) (qeb (zfX (qv_ rfl (qpv 10)) (qeb qi_)))) (qeb qi_))) (fun _ _=>rfl))))))
  (qs_ (M':=[0,9]) (zad (M':=[0,9]) (za7 (i:=12) sc.nd rfl (jE rfl) (zap (zap (zgR rfl (qv_ rfl (qpv 5)) zdn (zcm (qv_ rfl (qpv 6)))) (qeb (qv_ rfl (qpv 11)))) (qeb (zgR rfl (qv_ rfl (qpv 5)) (zcm (qv_ rfl (qpv 6))) zdn)))))
  (qs_ (M':=[0,9]) (zbF (M':=[0,9]) (QW.pt (zgP (zcO (qeb (qv_ rfl (qpv 3)))) (zfR (zpR (qv_ rfl (qpv 10)) (qeb qi_))))) (za3 (zad (M':=[0,9]) (za7 (i:=12) sc.nd rfl (jE rfl) (zgR rfl (qv_ rfl (qpv 5)) zdn (zcm (zap (qv_ rfl (qpv 10)) (qeb qi_))))))) zau)
  (za3 (zgA (.inl rfl) (zcn rfl (zdS jL Qd Qe zbs (qpv 9) (qa_ (qv_ rfl (qpv 12)) za2))))))))))
  (qs_ (M':=[0,9]) (zad (M':=[0,9]) (za7 (i:=13) sc.nd rfl (jE rfl) (qcI rfl C_l_digit hr rfl (qpv 0) (qa_ (zap (qv_ rfl (qpv 1)) (qeb qi_)) za2) ar1)))
  (za3 (za9 (zap (qne (zlZ rfl rfl (qpv 9) (zcm (qv_ rfl (qpv 13))) zdn)) (qnb (zlZ rfl rfl (qpv 9) zdn (zcm (qv_ rfl (qpv 13))))))))))))))))))
abbrev zhi:Stmt:=top 24
theorem zlR:FnScope ["_law_script","_law_k"] ["_law_script","_law_k"] (za1 zhi):=scm
def zhJ:DS:=(zao (zcb (dB (d2 gLt (dV 1) (d1 zcF (dV 0)))) (zai [] (d2 za4 (dV 0) (dV 1))) zaD)
  (zai [] (dC (.int 0))))
def zaW:List T->Option T:=fnP 2 zhJ
abbrev zfC[TheK](v:Ev)(k:Nat):Prop:=Cl v k "_law_cell" ["_law_script","_law_k"] (spP .e 2 zaW)
theorem zmn[tk:TheK](h:Here tk.K v.mg "_law_cell" zhi ["_law_script","_law_k"])(m_len:v.mg "len"=none):zfC v 1:=by
 refine(h.vP 0 [] zhJ zlR fun f cdv A outer s H E hr=>?_ :);have hu:=zc7 hr
 exact(qs_ (M':=[]) (zbF (M':=[]) (zpR (qv_ rfl (qpv 1)) (qeb (zbr rfl rfl m_len (qeb (qv_ rfl (qpv 0)))))) (za3 (za9 (zaf rfl hu (qv_ rfl (qpv 0)) (qeb (qv_ rfl (qpv 1))) (fun _ _=>rfl)))) zau)
  (za3 (za9 qi_)))
abbrev zeC:Stmt:=top 28
theorem zfI:FnScope ["_law_bag_here","_law_many_here","_law_places","_law_k","_law_free"] ["_law_bag_here","_law_many_here"] (za1 zeC):=scm
def zdG:DS:=(zao (zay 2 (dLC [0] [none] (zhV (dAc (d2 zdt (dC (.int 2)) (dV 1)) dAn)) (dGn 0) zf8 (dC .non)))
  (zao (zf9 (zhV (dAc (dV 1) dAn)) (dGn 3)
  (zao (zay 4 (dLC [0,2] [none,some 2] (zhV (dAc (d2 zdt (dC (.int 2)) (dV 1)) dAn)) (dGn 0) (dB (d2 gIs (d2v za4 1 (dV 0)) (dC .non))) (dV 0)))
  (zao (zfn 2 (d2 za4 (dV 4) (d2 zav (dC (.int 1)) (zal zac 0 (dAc (d2 gSb (d1 zcF (dV 4)) (dC (.int 1))) dAn)))) (dV 3))
  (zfn 2 (d2 za4 (dV 4) (dC (.int 0))) (dV 3)))))
  (zai [0] (dV 2))))
def zd2:List T->Option (T × T):=fnI 5 zdG
abbrev zeV[TheK](v:Ev)(k:Nat):Prop:=Cl v k "_law_paired" ["_law_bag_here","_law_many_here"] (spI .e 2 zd2)
theorem zjm[tk:TheK](h:Here tk.K v.mg "_law_paired" zeC ["_law_bag_here","_law_many_here"])(C_l_digit:zbV v 1)(m_range:v.mg "range"=none)(m_len:v.mg "len"=none):zeV v 2:=by
 refine(h.vI 1 [] zdG zfI fun f cdv A outer s H E hr=>?_ :);have sc:=zfI;have hu:=zc7 hr
 exact(qs_ (M':=[0,2]) (zaN (M':=[0,2]) (za7 (i:=2) sc.nd rfl (YF rfl) (zgB (Mi:=[]) rfl (zbC (i:=0)) zdP (zdR (N:=["_law_k"]) (caps:=[none]) rfl (zbP rfl m_range (qa_ (zaL qi_ (qeb (qv_ rfl (qpv 1)))) za2)) (fun _ _ _ _ _=>(za8 (i:=0) (show (["_law_k"]:List Str).Nodup by decide +kernel) rfl (jE rfl))) zbg (fun _ _ _ _ _=>zbL) (fun _ _ _ _ _=>zdo)))))
  (qs_ (M':=[0,2]) (zcl (zbe jO rfl (zbP rfl m_range (qa_ (qv_ rfl (qpv 1)) za2)) (zbG (za8 (i:=3) sc.nd rfl (jE rfl)))
  (qs_ (M':=[0,2]) (zad (M':=[0,2]) (zs6 (zpU (Mi:=[1]) rfl (zbC (i:=0)) (fun _ _ _ h=>h) (zfU (i:=4) sc.nd rfl rfl (N:=["_law_at","_law_places"]) (caps:=[none,some 2]) rfl (zbP rfl m_range (qa_ (zaL qi_ (qeb (qv_ rfl (qpv 1)))) za2)) (fun _ _ _ _ _=>(za8 (i:=0) (show (["_law_at","_law_places"]:List Str).Nodup by decide +kernel) rfl (jE rfl))) zbg (fun _ _ _ _ _=>(zel (zs5 (zaO rfl rfl hu (qpv 1) (qeb (qv_ rfl (qpv 0))) (fun _ _=>rfl)) (qeb zdo)))) (fun _ _ _ _ _=>(qv_ rfl (qpv 0)))))))
  (qs_ (M':=[0,2]) (zfT rfl (zdm (qv_ rfl (qpv 3)) (zfW (qpv 2) (zaf rfl hu (qv_ rfl (qpv 4)) (qeb (zap qi_ (qeb (qcI rfl C_l_digit hr rfl (qpv 0) (qa_ (zki (zbr rfl rfl m_len (qeb (qv_ rfl (qpv 4)))) (qeb qi_)) za2) ar1)))) (fun _ _=>rfl)) zed)))
  (za3 (zfT rfl (zdm (qv_ rfl (qpv 3)) (zfW (qpv 2) (zaf rfl hu (qv_ rfl (qpv 4)) (qeb qi_) (fun _ _=>rfl)) zed))))))))
  (za3 (zkf (M':=[0]) (za9 (qv_ rfl (qpv 2)))))))
abbrev zfM:Stmt:=top 29
theorem zgN:FnScope ["_law_bag_here","_law_many_here","_law_shapes","_law_made","_law_count","_law_shape","_law_at"] ["_law_bag_here","_law_many_here"] (za1 zfM):=scm
def zew:DS:=(zao (zay 2 (zdO (dAc (zdO (dAc (dC (.int 0)) (dAc (dC (.int 0)) dAn))) (dAc (zdO (dAc (dC (.int 0)) (dAc (dC (.int 1)) (dAc (dC (.int 2)) (dAc (dC (.int 0)) (dAc (dC (.int 1)) (dAc (dC (.int 2)) dAn))))))) (dAc (zdO (dAc (dC (.int 0)) (dAc (dC (.int 1)) (dAc (dC (.int 2)) (dAc (dC (.int 0)) (dAc (dC (.int 3)) (dAc (dC (.int 2)) (dAc (dC (.int 1)) (dAc (dC (.int 3)) dAn))))))))) (dAc (zdO (dAc (dC (.int 0)) (dAc (dC (.int 1)) (dAc (dC (.int 2)) (dAc (dC (.int 3)) (dAc (dC (.int 4)) (dAc (dC (.int 0)) (dAc (dC (.int 1)) (dAc (dC (.int 2)) (dAc (dC (.int 3)) (dAc (dC (.int 4)) dAn))))))))))) dAn))))))
  (zao (dDo (zgn zgZ 2 (dAc (zdO (dAc (dC (.int 0)) (dAc (dC (.int 1)) (dAc (dC (.int 2)) (dAc (dC (.int 3)) (dAc (dC (.int 4)) (dAc (dC (.int 5)) (dAc (dC (.int 6)) (dAc (dC (.int 0)) (dAc (dC (.int 1)) (dAc (dC (.int 2)) (dAc (dC (.int 3)) (dAc (dC (.int 4)) (dAc (dC (.int 5)) (dAc (dC (.int 6)) dAn))))))))))))))) dAn)))
  (zao (dDo (zgn zgZ 2 (dAc (zdO (dAc (dC (.int 0)) (dAc (dC (.int 1)) (dAc (dC (.int 2)) (dAc (dC (.int 3)) (dAc (dC (.int 4)) (dAc (dC (.int 5)) (dAc (dC (.int 6)) (dAc (dC (.int 7)) (dAc (dC (.int 8)) (dAc (dC (.int 0)) (dAc (dC (.int 1)) (dAc (dC (.int 2)) (dAc (dC (.int 3)) (dAc (dC (.int 4)) (dAc (dC (.int 5)) (dAc (dC (.int 6)) (dAc (dC (.int 7)) (dAc (dC (.int 8)) dAn))))))))))))))))))) dAn)))
  (zao (zay 3 (zdO dAn))
  (zao (zay 4 (dC (.int 0)))
  (zao (zbN (dB (d2 gLt (dV 4) (dV 1)))
  (zao (zay 5 (d2v za4 2 (zal zac 0 (dAc (dC (.int 6)) dAn))))
  (zao (zcb (dB (d2 gGt (d2 zav (dV 4) (d2 zhE (d1 zcF (dV 5)) (dC (.int 2)))) (dV 1))) (zay 5 (d2v za4 2 (dC (.int 0)))) zaD)
  (zao (zay 6 (zal zac 0 (dAc (d2 zav (d1 zcF (dV 3)) (dC (.int 1))) dAn)))
  (zao (zay 3 (d2 zav (d2 zav (dSl zkx (dV 3) dOn (dOs (dV 6))) (dLC [0,2] [none,some 4] (zdc (dV 5)) (dGn 0) zf8 (d2 zav (dV 1) (dV 0)))) (dSl zkx (dV 3) (dOs (dV 6)) dOn)))
  (zts 4 (d2 zhE (d1 zcF (dV 5)) (dC (.int 2)))))))) 100)
  (zai [0] (dV 3))))))))
def zeN:List T->Option (T × T):=fnI 7 zew
abbrev zgu[TheK](v:Ev)(k:Nat):Prop:=Cl v k "_law_built" ["_law_bag_here","_law_many_here"] (spI .e 2 zeN)
theorem zl5[tk:TheK](h:Here tk.K v.mg "_law_built" zfM ["_law_bag_here","_law_many_here"])(C_l_digit:zbV v 1)(m_len:v.mg "len"=none):zgu v 2:=by
 refine(h.vI 1 [] zew zgN fun f cdv A outer s H E hr=>?_ :);have sc:=zgN;have hu:=zc7 hr
 exact(qs_ (M':=[0,2]) (zaN (M':=[0,2]) (za7 (i:=2) sc.nd rfl (jE rfl) (zaS (qa_ (qne (zaS (qa_ qi_ (qa_ qi_ za2)))) (qa_ (qne (zaS (qa_ qi_ (qa_ qi_ (qa_ qi_ (qa_ qi_ (qa_ qi_ (qa_ qi_ za2)))))))) (qa_ (qne (zaS (qa_ qi_ (qa_ qi_ (qa_ qi_ (qa_ qi_ (qa_ qi_ (qa_ qi_ (qa_ qi_ (qa_ qi_ za2)))))))))) (qa_ (qne (zaS (qa_ qi_ (qa_ qi_ (qa_ qi_ (qa_ qi_ (qa_ qi_ (qa_ qi_ (qa_ qi_ (qa_ qi_ (qa_ qi_ (qa_ qi_ za2)))))))))))) za2)))))))
  (qs_ (M':=[0,2]) (zgA (.inl rfl) (zcn rfl (zdS jL Qd Qe zbs (qpv 2) (qa_ (qne (zaS (qa_ qi_ (qa_ qi_ (qa_ qi_ (qa_ qi_ (qa_ qi_ (qa_ qi_ (qa_ qi_ (qa_ qi_ (qa_ qi_ (qa_ qi_ (qa_ qi_ (qa_ qi_ (qa_ qi_ (qa_ qi_ za2)))))))))))))))) za2))))
  (qs_ (M':=[0,2]) (zgA (.inl rfl) (zcn rfl (zdS jL Qd Qe zbs (qpv 2) (qa_ (qne (zaS (qa_ qi_ (qa_ qi_ (qa_ qi_ (qa_ qi_ (qa_ qi_ (qa_ qi_ (qa_ qi_ (qa_ qi_ (qa_ qi_ (qa_ qi_ (qa_ qi_ (qa_ qi_ (qa_ qi_ (qa_ qi_ (qa_ qi_ (qa_ qi_ (qa_ qi_ (qa_ qi_ za2)))))))))))))))))))) za2))))
  (qs_ (M':=[0,2]) (zad (M':=[0,2]) (za7 (i:=3) sc.nd rfl (jE rfl) (qne (zaS za2))))
  (qs_ (M':=[0,2]) (zad (M':=[0,2]) (za7 (i:=4) sc.nd rfl (YF rfl) qi_))
  (qs_ (M':=[0,2]) (zek 100 jO (zpR (qv_ rfl (qpv 4)) (qeb (qv_ rfl (qpv 1))))
  (qs_ (M':=[0,2]) (zad (M':=[0,2]) (za7 (i:=5) sc.nd rfl (jE rfl) (zaO rfl rfl hu (qpv 2) (qeb (qcI rfl C_l_digit hr rfl (qpv 0) (qa_ qi_ za2) ar1)) (fun _ _=>rfl))))
  (qs_ (M':=[0,2]) (zbF (M':=[0,2]) (zj9 (zap (qv_ rfl (qpv 4)) (qeb (zfX (zbr rfl rfl m_len (qeb (qv_ rfl (qpv 5)))) (qeb qi_)))) (qeb (qv_ rfl (qpv 1)))) (za3 (zad (M':=[0,2]) (za7 (i:=5) sc.nd rfl (jE rfl) (zaO rfl rfl hu (qpv 2) (qeb qi_) (fun _ _=>rfl))))) zau)
  (qs_ (M':=[0,2]) (zad (M':=[0,2]) (za7 (i:=6) sc.nd rfl (jE rfl) (qcI rfl C_l_digit hr rfl (qpv 0) (qa_ (zap (zbr rfl rfl m_len (qeb (qv_ rfl (qpv 3)))) (qeb qi_)) za2) ar1)))
  (qs_ (M':=[0,2]) (zad (M':=[0,2]) (za7 (i:=3) sc.nd rfl (jE rfl) (zap (zap (zgR rfl (qv_ rfl (qpv 3)) zdn (zcm (qv_ rfl (qpv 6)))) (qnb (zgB (Mi:=[]) rfl (zbC (i:=0)) zdP (zdR (N:=["_law_one","_law_count"]) (caps:=[none,some 4]) rfl (zbq rfl (qv_ rfl (qpv 5))) (fun _ _ _ _ _=>(za8 (i:=0) (show (["_law_one","_law_count"]:List Str).Nodup by decide +kernel) rfl (jE rfl))) zbg (fun _ _ _ _ _=>zbL) (fun _ _ _ _ _=>(zap (qv_ rfl (qpv 1)) (qeb (qv_ rfl (qpv 0))))))))) (qeb (zgR rfl (qv_ rfl (qpv 3)) (zcm (qv_ rfl (qpv 6))) zdn)))))
  (za3 (zs7 rfl (zpV (i:=4) sc.nd rfl (YF rfl) (zfX (zbr rfl rfl m_len (qeb (qv_ rfl (qpv 5)))) (qeb qi_)) zsX))))))))
  (za3 (za9 (qv_ rfl (qpv 3))))))))))
abbrev zhf:Stmt:=top 31
theorem zid:FnScope ["_law_script","_law_many_here","_law_names_here","_law_bag_here"] ["_law_script"] (za1 zhf):=scm
def zfw:DS:=(zao (zay 1 (zar zes (dAc (zar zaW (dAc (dV 0) (dAc (dC (.int 0)) dAn))) dAn)))
  (zao (zay 2 (zgo zeM (zar zd3 (dAc (zar zaW (dAc (dV 0) (dAc (dC (.int 1)) dAn))) dAn)) (dAc (dV 1) dAn)))
  (zao (zay 3 (zar zd3 (dAc (zar zaW (dAc (dV 0) (dAc (dC (.int 2)) dAn))) dAn)))
  (zao (zcb (ziL (dB (d2 gEq (d2v za4 3 (dC (.int 1))) (dC (.int 0)))) (dB (d2 gEq (zal zac 3 (dAc (dC (.int 2)) dAn)) (dC (.int 1))))) (zai [] (dLC [3] [none,some 2] (zdc (zal zeN 3 (dAc (dV 1) dAn))) (dGn 0) zf8 (d2 za4 (dV 1) (dV 0)))) zaD)
  (zai [] (dLC [3] [none,some 2] (zdc (zal zd2 3 (dAc (dV 1) dAn))) (dGn 0) zf8 (d2 za4 (dV 1) (dV 0))))))))
def zge:List T->Option T:=fnP 4 zfw
abbrev zhQ[TheK](v:Ev)(k:Nat):Prop:=Cl v k "_law_word" ["_law_script"] (spP .e 1 zge)
theorem zmk[tk:TheK](h:Here tk.K v.mg "_law_word" zhf ["_law_script"])(C_l_many:zhR v 2)(C_l_cell:zfC v 2)(C_l_names:zgt v 2)(C_l_bag:zgv v 2)(C_l_digit:zbV v 2)(C_l_built:zgu v 2)(C_l_paired:zeV v 2):zhQ v 3:=by
 refine(h.vP 2 [] zfw zid fun f cdv A outer s H E hr=>?_ :);have sc:=zid;have hu:=zc7 hr;have hu8:=zc4 hr
 exact(qs_ (M':=[]) (zad (M':=[]) (za7 (i:=1) sc.nd rfl (jE rfl) (qc C_l_many hr rfl (qa_ (qc C_l_cell hr rfl (qa_ (qv_ rfl (qpv 0)) (qa_ qi_ za2)) ar2) za2) ar1)))
  (qs_ (M':=[]) (zad (M':=[]) (za7 (i:=2) sc.nd rfl (YF rfl) (qcT (.inl rfl) C_l_names hr rfl (qcN C_l_bag hr rfl (qa_ (qc C_l_cell hr rfl (qa_ (qv_ rfl (qpv 0)) (qa_ qi_ za2)) ar2) za2) ar1) (qa_ (qv_ rfl (qpv 1)) za2) ar1)))
  (qs_ (M':=[3]) (zaN (M':=[3]) (za7 (i:=3) sc.nd rfl (jE rfl) (qcN C_l_bag hr rfl (qa_ (qc C_l_cell hr rfl (qa_ (qv_ rfl (qpv 0)) (qa_ qi_ za2)) ar2) za2) ar1)))
  (qs_ (M':=[3]) (zbF (M':=[3]) (QW.pt (zgP (zfS hu8 (zaO rfl rfl hu (qpv 3) (qeb qi_) (fun _ _=>rfl)) (qeb qi_)) (zfR (zfS hu8 (qcI rfl C_l_digit hr rfl (qpv 3) (qa_ qi_ za2) ar1) (qeb qi_))))) (za3 (za9 (qne (zgB (Mi:=[]) rfl (zbC (i:=0)) zdP (zdR (N:=["_law_k","_law_names_here"]) (caps:=[none,some 2]) rfl (zbq rfl (qcI rfl C_l_built hr rfl (qpv 3) (qa_ (qv_ rfl (qpv 1)) za2) ar1)) (fun _ _ _ _ _=>(za8 (i:=0) (show (["_law_k","_law_names_here"]:List Str).Nodup by decide +kernel) rfl (jE rfl))) zbg (fun _ _ _ _ _=>zbL) (fun _ _ _ _ _=>(zaf rfl hu (qv_ rfl (qpv 1)) (qeb (qv_ rfl (qpv 0))) (fun _ _=>rfl)))))))) zau)
  (za3 (za9 (qne (zgB (Mi:=[]) rfl (zbC (i:=0)) zdP (zdR (N:=["_law_k","_law_names_here"]) (caps:=[none,some 2]) rfl (zbq rfl (qcI rfl C_l_paired hr rfl (qpv 3) (qa_ (qv_ rfl (qpv 1)) za2) ar1)) (fun _ _ _ _ _=>(za8 (i:=0) (show (["_law_k","_law_names_here"]:List Str).Nodup by decide +kernel) rfl (jE rfl))) zbg (fun _ _ _ _ _=>zbL) (fun _ _ _ _ _=>(zaf rfl hu (qv_ rfl (qpv 1)) (qeb (qv_ rfl (qpv 0))) (fun _ _=>rfl))))))))))))
abbrev zfJ:Stmt:=top 32
theorem zgK:FnScope ["_law_word_here","_law_spots_here","_law_at","_law_name"] ["_law_word_here"] (za1 zfJ):=scm
def zeL:List T->Option T:=zjD
abbrev zgs[TheK](v:Ev)(k:Nat):Prop:=Cl v k "_law_spots" ["_law_word_here"] (spP .e 1 zeL)
theorem zl2[tk:TheK](h:Here tk.K v.mg "_law_spots" zfJ ["_law_word_here"])(m_enumerate:v.mg "enumerate"=none):zgs v 1:=by
 refine h.ok zgK (fun vs H Q E ⟨C,ts,t,hl,r,_⟩=>by rw[r.1,hl]; rfl) (fun fa cdv A outer s H vs Q E hr hsp=>?_)
 obtain⟨C,ts,t,hl,rr,hf,q⟩:=hsp;obtain⟨t0,rfl⟩:=ZJ.mp hl;obtain⟨ts0,rfl⟩:∃ ts0,t0=.lst ts0:=by cases t0<;>first |exact⟨_,rfl⟩ |cases hf
 obtain⟨wd,hw,hf⟩:=Qb (show ((zdM ts0).bind fun wd=>if wd.length<=1000 then some (zam wd) else none)=some t from hf)
 split at hf
 case isFalse=>cases hf
 rename_i hl;injection hf with hf;subst hf;obtain⟨v0,rfl⟩:=ZJ.mp (show vs.length=1 from rr.1);obtain⟨a,us,rfl,ha,ra⟩:=BRep.lst (.inl rr.head);obtain rfl:=zea ra hw;have hS:∀ H',SameH H H'->SqL tk.K H' a (wd.map V.str):=fun H' e=>SqL.of (e _ _ ha);have sc:=zgK;have hu:=zc7 hr
 refine⟨_,(zhr (zoP (i:=1) sc.nd rfl (jE rfl) zkk)
  (zhr (zoQ jO rfl (zmb rfl m_enumerate (zqe (pv 0) zdb)) (zmd rfl (zht (zjh (i:=2) sc.nd rfl (jE rfl)) (zht (zjh (i:=3) sc.nd rfl (jE rfl)) zmc)))
  (zfY (zsh (zoO (zsA hu (pv 3) (pv 1))) (zfY (zm7 (zsy jL Qd Qe zbs (zji hu (pv 1) (pv 3) (fun _ _=>rfl)) (zqe (pv 2) zdb)))) (zfY (zm8 hu (pv 1) (pv 3) (zoR (zqe (pv 2) zdb)) rfl)))))
  (zfY (zkj (znQ (pv 1)))))),?_⟩
 intro r hr0;refine⟨_,rfl,a,rfl,⟨_,hS _ (zcN hr0 _)⟩,?_⟩;refine zo8 (xs:=wd.map V.str) (fun n sg H'=>SameH H H'/\(∃ kvs f,Spots wd n r H' kvs f/\∀ x,x∈wd.take n->H (f x)=none/\f x≠r)/\∃ x y,sg=[some (.ref a),some (.ref r),x,y]) ?_ ?_ ?_ ?_
 ·exact⟨zcN hr0 _,⟨[],fun _=>0,⟨zae,rfl,(fun x hx=>by simp at hx),(fun x _=>rfl),(fun x y hx=>by simp at hx)⟩,fun x hx=>by simp at hx⟩,_,_,rfl⟩
 ·rintro n sg H' _ ⟨e,_⟩;exact hS _ e
 ·rintro n v sg H' p hv ⟨e,⟨kvs,f,S,fr⟩,_,_,rfl⟩ hp;have hn:n < wd.length:=by
   have:=(j9.mp hv).1
   rwa [j6] at this
  have hx:wd[n]?=some wd[n]:=j3 hn;rw[ji,hx] at hv;obtain rfl:V.str wd[n]=v:=jd hv;generalize wd[n]=x at hx;have e1:=zcN hp (.tup [.int n,.str x]);have hk1:=e1 _ _ S.here;have e2:=e.trans e1;have h1:∀ b u,H' b=some u->upd H' p (.tup [.int n,.str x]) b=some u:=e1;refine⟨p,[.int n,.str x],rfl,SqT.of zae,rfl,_,_,rfl,_,_,rfl,rfl,?_⟩;generalize upd H' p (.tup [.int n,.str x])=H1 at e1 hk1 e2 h1 ⊢;refine⟨_,rfl,_,rfl,r,_,rfl,DGet.k (k:=Z2 x) hk1,_,rfl,?_⟩;refine zxH (fun c=>?_) (fun c=>?_)
  ·have hin:x∈wd.take n:=Yx fun z=>by rw[S.no x z] at c; cases c
   have hfi:za0 (wd.take (n+1))=za0 (wd.take n):=by rw[ze2 hx]; unfold stp; rw[if_pos (mem_firsts.mpr hin)]
   obtain⟨v1,v2⟩:=S.yes x hin;have g1:DGet H1 r (.str x) (some (.ref (f x))):=by rw[<-v1]; exact DGet.k (k:=Z2 x) hk1
   refine⟨_,rfl,_,rfl,r,.ref (f x),rfl,g1,.inl ⟨rfl,_,SqL.of (h1 _ _ v2)⟩,_,rfl,?_⟩;refine⟨f x,_,_,rfl,rfl,h1 _ _ v2,?_,?_⟩
   ·unfold vNs zc6;rw[j6];refine zi8 (Q5 (ZO _ _) ?_);rw[QM];lia
   refine⟨e2.updNew (fr x hin).1 _,⟨kvs,f,⟨?_,by rw[hfi]; exact S.keys,?_,?_,?_⟩,?_⟩,_,_,rfl⟩
   ·rw[za5 (Zi (fr x hin).2)];exact hk1
   ·intro y hy;have hy':y∈wd.take n:=((zan hx y).mp hy).elim id fun z=>z▸hin;refine⟨(S.yes y hy').1,?_⟩
    by_cases hxy:y=x
    ·subst hxy;rw[zae,zf4 hx];simp[vNs]
    ·rw[za5 (fun z=>hxy (S.inj y x hy' hin z)),zfZ (fun z=>hxy (jd (z.symm.trans hx)))];exact h1 _ _ (S.yes y hy').2
   ·intro y hy;exact S.no y fun z=>hy ((zan hx y).mpr (.inl z))
   ·intro y z hy hz;exact S.inj y z (((zan hx y).mp hy).elim id fun z=>z▸hin) (((zan hx z).mp hz).elim id fun z=>z▸hin)
   ·intro y hy;exact fr y (((zan hx y).mp hy).elim id fun z=>z▸hin)
  ·have hout:x∉wd.take n:=fun z=>c (by rw[(S.yes x z).1]; rfl)
   have hfi:za0 (wd.take (n+1))=za0 (wd.take n)++[x]:=by rw[ze2 hx]; unfold stp; rw[if_neg (fun z=>hout (mem_firsts.mp z))]
   refine⟨_,rfl,(by show 1<=jh; decide),fun t ht=>?_⟩
   have hk2:=zcN ht (.lst [.int n]) _ _ hk1;have h2:∀ b u,H' b=some u->upd H1 t (.lst [.int n]) b=some u:=fun b u z=>zcN ht _ _ _ (h1 _ _ z);have e3:=e2.trans (zcN ht (.lst [.int n]));have hth:upd H1 t (.lst [.int n]) t=some (.lst [.int n]):=zae;have tH:H t=none:=e2.free ht;have tr:t≠r:=Zi (za6 hk1 ht);have tf:∀ y,y∈wd.take n->f y≠t:=fun y hy=>za6 (h1 _ _ (S.yes y hy).2) ht;generalize upd H1 t (.lst [.int n])=H2 at hk2 h2 e3 hth ⊢;have few:=S.few;refine⟨_,rfl,_,rfl,r,_,rfl,DPut.k (k:=Z2 x) hk2 (zi8 (Q5 few (by lia))),?_⟩
   refine⟨e3.updNew hr0 _,⟨zfh kvs (.inr x) (.ref t),fun y=>if y=x then t else f y,⟨zae,by rw[znZ _ (S.no x hout),S.keys,hfi,jA]; rfl,?_,?_,?_⟩,?_⟩,_,_,rfl⟩
   ·intro y hy;rw[zk1]
    by_cases hxy:y=x
    ·subst hxy;rw[if_pos rfl,if_pos rfl,za5 tr,zf4 hx,zhs hout];exact⟨rfl,hth⟩
    ·have hy':=((zan hx y).mp hy).resolve_right hxy;rw[if_neg (fun z=>hxy (ZK z)),if_neg hxy,za5 (fr y hy').2,zfZ (fun z=>hxy (jd (z.symm.trans hx)))];exact⟨(S.yes y hy').1,h2 _ _ (S.yes y hy').2⟩
   ·intro y hy;have hxy:¬ y=x:=fun z=>hy ((zan hx y).mpr (.inr z));rw[zk1,if_neg (fun z=>hxy (ZK z))];exact S.no y fun z=>hy ((zan hx y).mpr (.inl z))
   ·intro y z hy hz hyz;rcases(zan hx y).mp hy with hy' |rfl
    ·have n1:¬ y=x:=fun z=>hout (z▸hy');rw[if_neg n1] at hyz;rcases(zan hx z).mp hz with hz' |rfl
     ·have n2:¬ z=x:=fun z=>hout (z▸hz');rw[if_neg n2] at hyz;exact S.inj y z hy' hz' hyz
     ·rw[if_pos rfl] at hyz;exact absurd hyz (tf y hy')
    ·rw[if_pos rfl] at hyz;rcases(zan hx z).mp hz with hz' |rfl
     ·have n2:¬ z=y:=fun z=>hout (z▸hz');rw[if_neg n2] at hyz;exact absurd hyz.symm (tf z hz')
     ·rfl
   ·intro y hy;rcases(zan hx y).mp hy with hy' |rfl
    ·have n1:¬ y=x:=fun z=>hout (z▸hy');dsimp only;rw[if_neg n1];exact fr y hy'
    ·dsimp only;rw[if_pos rfl];exact⟨tH,tr⟩
 ·rintro sg H' ⟨e,⟨kvs,f,S,fr⟩,_,_,rfl⟩;rw[j6] at S fr;refine⟨_,rfl,r,kvs,S.here,fun o=>q _ _ ⟨fun b u z=>?_,fun b z=>?_,?_⟩⟩
  ·rw[za5 (za6 z hr0)]; exact e b u z
  ·unfold upd at z;split at z
   ·cases z
   ·exact e.free z
  ·exact S.rep _ (.inr hr0) (fun x hx=>⟨.inr (fr x hx).1,(fr x hx).2⟩) o
abbrev zdj:Stmt:=top 7
theorem zeg:FnScope ["mates","name"] ["mates"] (za1 zdj):=scm
def zbS:DS:=(zao (zf9 (zdc (dV 0)) (dGn 1)
  (zcb (dB (d2 gEq (d2 ze9 (d1 zcF (d2 za4 (dV 0) (dV 1))) (dC (.int 2))) (dC (.int 1)))) (zai [] (dV 1)) zaD))
  (zai [] (dC .non)))
def zd1:List T->Option T:=fnP 2 zbS
abbrev zdD[TheK](v:Ev)(k:Nat):Prop:=Cl v k "odd_name" ["mates"] (spP .e 1 zd1)
theorem zhz[tk:TheK](h:Here tk.K v.mg "odd_name" zdj ["mates"])(m_len:v.mg "len"=none):zdD v 1:=by
 refine(h.vP 0 [] zbS zeg fun f cdv A outer s H E hr=>?_ :);have sc:=zeg;have hu:=zc7 hr;have hu8:=zc4 hr
 exact(qs_ (M':=[]) (zcl (zbe jO rfl (zbq rfl (qv_ rfl (qpv 0))) (zbG (za8 (i:=1) sc.nd rfl (jE rfl)))
  (za3 (zbF (M':=[]) (zfS hu8 (zbB (zbr rfl rfl m_len (qeb (zaf rfl hu (qv_ rfl (qpv 0)) (qeb (qv_ rfl (qpv 1))) (fun _ _=>rfl)))) (qeb qi_)) (qeb qi_)) (za3 (za9 (qv_ rfl (qpv 1)))) zau))))
  (za3 (za9 zdo)))
abbrev zbE:Stmt:=top 8
theorem zeh:FnScope ["mates","one","other"] ["mates","one","other"] (za1 zbE):=scm
def zb1:DS:=(zai [] (d2 gEq (d2 ze9 (d2 zgc (d2 za4 (dV 0) (dV 1)) (d2 za4 (dV 0) (dV 2))) (dC (.int 2))) (dC (.int 0))))
def zaP:List T->Option T:=fnP 3 zb1
abbrev zb2[TheK](v:Ev)(k:Nat):Prop:=Cl v k "evenly_shared" ["mates","one","other"] (spP .e 3 zaP)
theorem zeo[tk:TheK](h:Here tk.K v.mg "evenly_shared" zbE ["mates","one","other"])(m_len:v.mg "len"=none)(m_set:v.mg "set"=none):zb2 v 1:=by
 refine(h.vP 0 [] zb1 zeh fun f cdv A outer s H E hr=>?_ :);have hu:=zc7 hr;have hu8:=zc4 hr;exact(za3 (za9 (zjc hu8 (zbB (zm3 rfl rfl rfl m_len rfl m_set (qeb (zaf rfl hu (qv_ rfl (qpv 0)) (qeb (qv_ rfl (qpv 1))) (fun _ _=>rfl))) (qeb (zaf rfl hu (qv_ rfl (qpv 0)) (qeb (qv_ rfl (qpv 2))) (fun _ _=>rfl)))) (qeb qi_)) (qeb qi_))))
abbrev zdi:Stmt:=top 9
theorem zef:FnScope ["mates","one","other","apart"] ["mates"] (za1 zdi):=scm
def zbR:DS:=(zao (zf9 (zdc (dV 0)) (dGn 1)
  (zf9 (zdc (dV 0)) (dGn 2)
  (zao (zay 3 (zjO (d2 gNe (dV 2) (dV 1)) (d2 zbH (dV 2) (d2 za4 (dV 0) (dV 1)))))
  (zcb (ziL (zgm (dV 3)) (znl (zgm (zar zaP (dAc (dV 0) (dAc (dV 1) (dAc (dV 2) dAn))))))) (zai [] (zlu (dAc (dV 1) (dAc (dV 2) dAn)))) zaD))))
  (zai [] (dC .non)))
def zd0:List T->Option T:=fnP 4 zbR
abbrev zdC[TheK](v:Ev)(k:Nat):Prop:=Cl v k "odd_pair" ["mates"] (spP .e 1 zd0)
theorem zhy[tk:TheK](h:Here tk.K v.mg "odd_pair" zdi ["mates"])(C_p_evenly_shared:zb2 v 1):zdC v 2:=by
 refine(h.vP 1 [] zbR zef fun f cdv A outer s H E hr=>?_ :);have sc:=zef;have hu:=zc7 hr;have hu8:=zc4 hr
 exact(qs_ (M':=[]) (zcl (zbe jO rfl (zbq rfl (qv_ rfl (qpv 0))) (zbG (za8 (i:=1) sc.nd rfl (jE rfl)))
  (za3 (zcl (zbe jO rfl (zbq rfl (qv_ rfl (qpv 0))) (zbG (za8 (i:=2) sc.nd rfl (jE rfl)))
  (qs_ (M':=[]) (zad (M':=[]) (za7 (i:=3) sc.nd rfl (jE rfl) (zm6 (zsb hu8 (qv_ rfl (qpv 2)) (qeb (qv_ rfl (qpv 1)))) (zm1 (zm2 hu (qv_ rfl (qpv 2)) (qeb (zaf rfl hu (qv_ rfl (qpv 0)) (qeb (qv_ rfl (qpv 1))) (fun _ _=>rfl))) (by with_unfolding_all rfl))))))
  (za3 (zbF (M':=[]) (QW.pt (zgP (zcO (qeb (qv_ rfl (qpv 3)))) (zfR (zgQ (zcO (qeb (qc C_p_evenly_shared hr rfl (qa_ (qv_ rfl (qpv 0)) (qa_ (qv_ rfl (qpv 1)) (qa_ (qv_ rfl (qpv 2)) za2))) ar3))))))) (za3 (za9 (zf2 (qa_ (qv_ rfl (qpv 1)) (qa_ (qv_ rfl (qpv 2)) za2))))) zau))))))))
  (za3 (za9 zdo)))
abbrev zcD:Stmt:=top 11
theorem zdg:FnScope ["mates","origins","beginning","waiting","name","fresh","mate"] ["mates"] (za1 zcD):=scm
def zb7:DS:=(zao (zay 1 zln)
  (zao (zf9 (zdc (dV 0)) (dGn 2)
  (zcb (dB (d2 zbH (dV 2) (dV 1))) (zao (zp8 1 (dV 2) (dC .non))
  (zao (zay 3 (zdO (dAc (dV 2) dAn)))
  (zbN (zgm (dV 3))
  (zao (zay 4 (zgn znX 3 dAn))
  (zao (zay 5 (dLC [1,3] [none,some 1] (zdc (d2 za4 (dV 0) (dV 4))) (dGn 0) (dB (d2 zbH (dV 0) (dV 1))) (dV 0)))
  (zao (zf9 (zdc (dV 5)) (dGn 6)
  (zp8 1 (dV 6) (dV 4)))
  (dDo (zgn zqn 3 (dAc (dV 5) dAn)))))) 100))) zaD))
  (zp9 1 (zai [] (dV 1)))))
def zcr:List T->Option T:=fnP 7 zb7
abbrev zcI[TheK](v:Ev)(k:Nat):Prop:=Cl v k "found_from" ["mates"] (spP .e 1 zcr)
theorem zg3[tk:TheK](h:Here tk.K v.mg "found_from" zcD ["mates"]):zcI v 1:=by
 refine(h.vP 0 [] zb7 zdg fun f cdv A outer s H E hr=>?_ :);have sc:=zdg;have hu:=zc7 hr
 exact(qs_ (M':=[1]) (zaN (M':=[1]) (za7 (i:=1) sc.nd rfl (YF rfl) zjd))
  (qs_ (M':=[1]) (zcl (zbe jO rfl (zbq rfl (qv_ rfl (qpv 0))) (zbG (za8 (i:=2) sc.nd rfl (jE rfl)))
  (za3 (zbF (M':=[1]) (zij hu (qv_ rfl (qpv 2)) (zgS rfl (qpv 1)) (by with_unfolding_all rfl)) (zkd (M':=[1,3]) (qs_ (M':=[1]) (zke rfl (zfs hu (qpv 1) (qv_ rfl (qpv 2)) zdo rfl))
  (qs_ (M':=[1,3]) (zaN (M':=[1,3]) (za7 (i:=3) sc.nd rfl (jE rfl) (zaS (qa_ (qv_ rfl (qpv 2)) za2))))
  (za3 (zek 100 jO (zcO (zgS rfl (qpv 3)))
  (qs_ (M':=[1,3]) (zad (M':=[1,3]) (za7 (i:=4) sc.nd rfl (jE rfl) (zm0 rfl (zjb jL gL gM zmt (qpv 3)))))
  (qs_ (M':=[1,3]) (zad (M':=[1,3]) (zs6 (zpU (Mi:=[1]) rfl (zbC (i:=0)) (fun _ _ _ h=>h) (zfU (i:=5) sc.nd rfl rfl (N:=["mate","origins"]) (caps:=[none,some 1]) rfl (zbq rfl (zaf rfl hu (qv_ rfl (qpv 0)) (qeb (qv_ rfl (qpv 4))) (fun _ _=>rfl))) (fun _ _ _ _ _=>(za8 (i:=0) (show (["mate","origins"]:List Str).Nodup by decide +kernel) rfl (jE rfl))) zbg (fun _ _ _ _ _=>(zel (zij hu (qv_ rfl (qpv 0)) (zgS rfl (qpv 1)) (by with_unfolding_all rfl)))) (fun _ _ _ _ _=>(qv_ rfl (qpv 0)))))))
  (qs_ (M':=[1,3]) (zcl (zbe jO rfl (zbq rfl (qv_ rfl (qpv 5))) (zbG (za8 (i:=6) sc.nd rfl (jE rfl)))
  (za3 (zke rfl (zfs hu (qpv 1) (qv_ rfl (qpv 6)) (qv_ rfl (qpv 4)) rfl)))))
  (za3 (zgA (.inl rfl) (zm4 rfl (zdS jL PySem.F.slot_list_extend PySem.F.type_list_extend zmu (qpv 3) (qa_ (qv_ rfl (qpv 5)) za2))))))))))))) zau))))
  (za3 (znD (i:=1) (M':=[]) (za9 (qv_ rfl (qpv 1)))))))
abbrev zcj:Stmt:=top 12
theorem zfd:FnScope ["mates","sides","name","mate"] ["mates","sides","name","mate"] (za1 zcj):=scm
def zbw:DS:=(zai [] (dIf (zgm (zar zaP (dAc (dV 0) (dAc (dV 2) (dAc (dV 3) dAn))))) (d2 gSb (dC (.int 1)) (d2 za4 (dV 1) (dV 2))) (d2 za4 (dV 1) (dV 2))))
def zba:List T->Option T:=fnP 4 zbw
abbrev zby[TheK](v:Ev)(k:Nat):Prop:=Cl v k "side_beside" ["mates","sides","name","mate"] (spP .e 4 zba)
theorem zfj[tk:TheK](h:Here tk.K v.mg "side_beside" zcj ["mates","sides","name","mate"])(C_p_evenly_shared:zb2 v 1):zby v 2:=by
 refine(h.vP 1 [] zbw zfd fun f cdv A outer s H E hr=>?_ :);have hu:=zc7 hr;exact(za3 (za9 (zsc (zcO (qeb (qc C_p_evenly_shared hr rfl (qa_ (qv_ rfl (qpv 0)) (qa_ (qv_ rfl (qpv 2)) (qa_ (qv_ rfl (qpv 3)) za2))) ar3))) (zki qi_ (qeb (zaf rfl hu (qv_ rfl (qpv 1)) (qeb (qv_ rfl (qpv 2))) (fun _ _=>rfl)))) (zaf rfl hu (qv_ rfl (qpv 1)) (qeb (qv_ rfl (qpv 2))) (fun _ _=>rfl)))))
abbrev zci:Stmt:=top 13
theorem zd9:FnScope ["mates","origins","sides","name","origin"] ["mates","origins"] (za1 zci):=scm
def zbv:DS:=(zao (zay 2 zln)
  (zao (zf9 (zdc (dV 1)) (dGn 3)
  (zao (zay 4 (d2 za4 (dV 1) (dV 3)))
  (zp8 2 (dV 3) (dIf (dB (d2 gIs (dV 4) (dC .non))) (dC (.int 0)) (zeR zba 2 (dV 0) (dAc (dV 4) (dAc (dV 3) dAn)))))))
  (zp9 2 (zai [] (dV 2)))))
def zc0:List T->Option T:=fnP 5 zbv
abbrev zct[TheK](v:Ev)(k:Nat):Prop:=Cl v k "sides_along" ["mates","origins"] (spP .e 2 zc0)
theorem zfi[tk:TheK](h:Here tk.K v.mg "sides_along" zci ["mates","origins"])(C_p_side_beside:zby v 2):zct v 3:=by
 refine(h.vP 2 [] zbv zd9 fun f cdv A outer s H E hr=>?_ :);have sc:=zd9;have hu:=zc7 hr
 exact(qs_ (M':=[2]) (zaN (M':=[2]) (za7 (i:=2) sc.nd rfl (jE rfl) zjd))
  (qs_ (M':=[2]) (zcl (zbe jO rfl (zbq rfl (qv_ rfl (qpv 1))) (zbG (za8 (i:=3) sc.nd rfl (jE rfl)))
  (qs_ (M':=[2]) (zad (M':=[2]) (za7 (i:=4) sc.nd rfl (jE rfl) (zaf rfl hu (qv_ rfl (qpv 1)) (qeb (qv_ rfl (qpv 3))) (fun _ _=>rfl))))
  (za3 (zke rfl (zfs hu (qpv 2) (qv_ rfl (qpv 3)) (zsc (zs5 (qv_ rfl (qpv 4)) (qeb zdo)) qi_ (zxB rfl C_p_side_beside hr rfl (qv_ rfl (qpv 0)) (qpv 2) (qa_ (qv_ rfl (qpv 4)) (qa_ (qv_ rfl (qpv 3)) za2)) ar2)) rfl))))))
  (za3 (znD (i:=2) (M':=[]) (za9 (qv_ rfl (qpv 2)))))))
abbrev zcC:Stmt:=top 14
theorem zdf:FnScope ["mates","sides","name","mate"] ["mates","sides"] (za1 zcC):=scm
def zb6:DS:=(zao (zf9 (zdc (dV 0)) (dGn 2)
  (zf9 (zdc (d2 za4 (dV 0) (dV 2))) (dGn 3)
  (zcb (dB (d2 gNe (zar zba (dAc (dV 0) (dAc (dV 1) (dAc (dV 2) (dAc (dV 3) dAn))))) (d2 za4 (dV 1) (dV 3)))) (zai [] (zlu (dAc (dV 2) (dAc (dV 3) dAn)))) zaD)))
  (zai [] (dC .non)))
def zcp:List T->Option T:=fnP 4 zb6
abbrev zcH[TheK](v:Ev)(k:Nat):Prop:=Cl v k "wrong_step" ["mates","sides"] (spP .e 2 zcp)
theorem zg2[tk:TheK](h:Here tk.K v.mg "wrong_step" zcC ["mates","sides"])(C_p_side_beside:zby v 2):zcH v 3:=by
 refine(h.vP 2 [] zb6 zdf fun f cdv A outer s H E hr=>?_ :);have sc:=zdf;have hu:=zc7 hr;have hu8:=zc4 hr
 exact(qs_ (M':=[]) (zcl (zbe jO rfl (zbq rfl (qv_ rfl (qpv 0))) (zbG (za8 (i:=2) sc.nd rfl (jE rfl)))
  (za3 (zcl (zbe jO rfl (zbq rfl (zaf rfl hu (qv_ rfl (qpv 0)) (qeb (qv_ rfl (qpv 2))) (fun _ _=>rfl))) (zbG (za8 (i:=3) sc.nd rfl (jE rfl)))
  (za3 (zbF (M':=[]) (zhp hu8 (qc C_p_side_beside hr rfl (qa_ (qv_ rfl (qpv 0)) (qa_ (qv_ rfl (qpv 1)) (qa_ (qv_ rfl (qpv 2)) (qa_ (qv_ rfl (qpv 3)) za2)))) ar4) (qeb (zaf rfl hu (qv_ rfl (qpv 1)) (qeb (qv_ rfl (qpv 3))) (fun _ _=>rfl)))) (za3 (za9 (zf2 (qa_ (qv_ rfl (qpv 2)) (qa_ (qv_ rfl (qpv 3)) za2))))) zau)))))))
  (za3 (za9 zdo)))
abbrev zdh:Stmt:=top 15
theorem zee:FnScope ["origins","name","way"] ["origins","name"] (za1 zdh):=scm
def zcz:DS:=(zao (zay 2 (zdO (dAc (dV 1) dAn)))
  (zao (zbN (dB (d2 zbm (d2 za4 (dV 0) (d2v za4 2 (d1 zlf (dC (.int 1))))) (dC .non)))
  (dDo (zgn zgZ 2 (dAc (d2 za4 (dV 0) (d2v za4 2 (d1 zlf (dC (.int 1))))) dAn))) 100)
  (zai [] (dV 2))))
def zc9:List T->Option T:=zni 3 zcz
abbrev zdB[TheK](v:Ev)(k:Nat):Prop:=Cl v k "way_back" ["origins","name"] (spP .n 2 zc9)
theorem zhx[tk:TheK](h:Here tk.K v.mg "way_back" zdh ["origins","name"]):zdB v 1:=by
 refine(h.vN 0 [] zcz zee fun f cdv A outer s H E hr=>?_ :);have sc:=zee;have hu:=zc7 hr
 exact(qs_ (M':=[2]) (zaN (M':=[2]) (za7 (i:=2) sc.nd rfl (jE rfl) (zaS (qa_ (qv_ rfl (qpv 1)) za2))))
  (qs_ (M':=[2]) (zek 100 jO (zfr (zaf rfl hu (qv_ rfl (qpv 0)) (qeb (zaO rfl rfl hu (qpv 2) (qeb (zgT (qeb qi_))) (fun _ _=>rfl))) (fun _ _=>rfl)) (qeb zdo))
  (za3 (zgA (.inl rfl) (zcn rfl (zdS jL Qd Qe zbs (qpv 2) (qa_ (zaf rfl hu (qv_ rfl (qpv 0)) (qeb (zaO rfl rfl hu (qpv 2) (qeb (zgT (qeb qi_))) (fun _ _=>rfl))) (fun _ _=>rfl)) za2))))))
  (za3 (zpS rfl rfl (qpv 2)))))
abbrev zbX:Stmt:=top 16
theorem zcK:FnScope ["origins","one","other","far","near"] ["origins","one","other"] (za1 zbX):=scm
def zaM:DS:=(zao (zay 3 (zar zc9 (dAc (dV 0) (dAc (dV 1) dAn))))
  (zao (zay 4 (zar zc9 (dAc (dV 0) (dAc (dV 2) dAn))))
  (zao (zbN (ziL (dB (d2 gGt (d1 zcF (dV 3)) (dC (.int 1)))) (ziL (dB (d2 gGt (d1 zcF (dV 4)) (dC (.int 1)))) (dB (d2 gEq (d2v za4 3 (d1 zlf (dC (.int 2)))) (d2v za4 4 (d1 zlf (dC (.int 2))))))))
  (zao (dDo (zgn znX 3 dAn))
  (dDo (zgn znX 4 dAn))) 100)
  (zai [] (d2v zls 3 (ztU (zp7 gSl 4 dOn (dOs (d1 zlf (dC (.int 1))))) (dOs (d1 zlf (dC (.int 1))))))))))
def zbI:List T->Option T:=fnP 5 zaM
abbrev zc1[TheK](v:Ev)(k:Nat):Prop:=Cl v k "ring_through" ["origins","one","other"] (spP .e 3 zbI)
theorem zeE[tk:TheK](h:Here tk.K v.mg "ring_through" zbX ["origins","one","other"])(C_p_way_back:zdB v 1)(m_len:v.mg "len"=none):zc1 v 2:=by
 refine(h.vP 1 [] zaM zcK fun f cdv A outer s H E hr=>?_ :);have sc:=zcK;have hu:=zc7 hr;have hu8:=zc4 hr
 exact(qs_ (M':=[3]) (zaN (M':=[3]) (za7 (i:=3) sc.nd rfl (jE rfl) (qcN C_p_way_back hr rfl (qa_ (qv_ rfl (qpv 0)) (qa_ (qv_ rfl (qpv 1)) za2)) ar2)))
  (qs_ (M':=[3,4]) (zaN (M':=[3,4]) (za7 (i:=4) sc.nd rfl (jE rfl) (qcN C_p_way_back hr rfl (qa_ (qv_ rfl (qpv 0)) (qa_ (qv_ rfl (qpv 2)) za2)) ar2)))
  (qs_ (M':=[3,4]) (zek 100 jO (QW.pt (zgP (zj9 (zbr rfl rfl m_len (zgS rfl (qpv 3))) (qeb qi_)) (zgP (zj9 (zbr rfl rfl m_len (zgS rfl (qpv 4))) (qeb qi_)) (zfR (zfS hu8 (zaO rfl rfl hu (qpv 3) (qeb (zgT (qeb qi_))) (fun _ _=>rfl)) (qeb (zaO rfl rfl hu (qpv 4) (qeb (zgT (qeb qi_))) (fun _ _=>rfl))))))))
  (qs_ (M':=[3,4]) (zgA (.inl rfl) (zm0 rfl (zjb jL gL gM zmt (qpv 3))))
  (za3 (zgA (.inl rfl) (zm0 rfl (zjb jL gL gM zmt (qpv 4)))))))
  (za3 (za9 (qne (zpZ rfl (qpv 3) (qnb (zsa rfl (qne (zlZ rfl rfl (qpv 4) zdn (zcm (zgT (qeb qi_))))) (zcm (zgT (qeb qi_))))))))))))
abbrev zbD:Stmt:=top 10
theorem zcv:FnScope ["mates","origins","sides","step"] ["mates"] (za1 zbD):=scm
def zaH:DS:=(zao (zay 1 (zar zcr (dAc (dV 0) dAn)))
  (zao (zay 2 (zar zc0 (dAc (dV 0) (dAc (dV 1) dAn))))
  (zao (zay 3 (zar zcp (dAc (dV 0) (dAc (dV 2) dAn))))
  (zao (zcb (dB (d2 zbm (dV 3) (dC .non))) (zai [] (zlu (dAc (dC (.str "ring")) (dAc (zar zbI (dAc (dV 1) (dAc (d2 za4 (dV 3) (dC (.int 0))) (dAc (d2 za4 (dV 3) (dC (.int 1))) dAn)))) dAn)))) zaD)
  (zai [] (zlu (dAc (dC (.str "sides")) (dAc (dLC [] [none,some 2] (zdc (dV 0)) (dGn 0) zf8 (d2 za4 (dV 1) (dV 0))) dAn))))))))
def zbu:List T->Option T:=fnP 4 zaH
abbrev zbJ[TheK](v:Ev)(k:Nat):Prop:=Cl v k "sides_or_ring" ["mates"] (spP .e 1 zbu)
theorem zen[tk:TheK](h:Here tk.K v.mg "sides_or_ring" zbD ["mates"])(C_p_found_from:zcI v 3)(C_p_sides_along:zct v 3)(C_p_wrong_step:zcH v 3)(C_p_ring_through:zc1 v 3):zbJ v 4:=by
 refine(h.vP 3 [] zaH zcv fun f cdv A outer s H E hr=>?_ :);have sc:=zcv;have hu:=zc7 hr
 exact(qs_ (M':=[]) (zad (M':=[]) (za7 (i:=1) sc.nd rfl (jE rfl) (qc C_p_found_from hr rfl (qa_ (qv_ rfl (qpv 0)) za2) ar1)))
  (qs_ (M':=[]) (zad (M':=[]) (za7 (i:=2) sc.nd rfl (YF rfl) (qc C_p_sides_along hr rfl (qa_ (qv_ rfl (qpv 0)) (qa_ (qv_ rfl (qpv 1)) za2)) ar2)))
  (qs_ (M':=[]) (zad (M':=[]) (za7 (i:=3) sc.nd rfl (jE rfl) (qc C_p_wrong_step hr rfl (qa_ (qv_ rfl (qpv 0)) (qa_ (qv_ rfl (qpv 2)) za2)) ar2)))
  (qs_ (M':=[]) (zbF (M':=[]) (zfr (qv_ rfl (qpv 3)) (qeb zdo)) (za3 (za9 (zf2 (qa_ zf3 (qa_ (qc C_p_ring_through hr rfl (qa_ (qv_ rfl (qpv 1)) (qa_ (zaf rfl hu (qv_ rfl (qpv 3)) (qeb qi_) (fun _ _=>rfl)) (qa_ (zaf rfl hu (qv_ rfl (qpv 3)) (qeb qi_) (fun _ _=>rfl)) za2))) ar3) za2))))) zau)
  (za3 (za9 (zf2 (qa_ zf3 (qa_ (qne (zgB (Mi:=[]) rfl (zbC (i:=0)) zdP (zdR (N:=["name","sides"]) (caps:=[none,some 2]) rfl (zbq rfl (qv_ rfl (qpv 0))) (fun _ _ _ _ _=>(za8 (i:=0) (show (["name","sides"]:List Str).Nodup by decide +kernel) rfl (jE rfl))) zbg (fun _ _ _ _ _=>zbL) (fun _ _ _ _ _=>(zaf rfl hu (qv_ rfl (qpv 1)) (qeb (qv_ rfl (qpv 0))) (fun _ _=>rfl)))))) za2)))))))))
abbrev zcV:Stmt:=top 2
theorem zgz:FnScope ["word","name"] ["word","name"] (za1 zcV):=scm
def zca:DS:=(zai [] (dLC [] [none,none,some 1] (dEn (dAc (dV 0) dAn)) (dGt [0,1]) (dB (d2 gEq (dV 1) (dV 2))) (dV 0)))
def zb5:List T->Option T:=fnP 2 zca
abbrev zcd[TheK](v:Ev)(k:Nat):Prop:=Cl v k "standings" ["word","name"] (spP .e 2 zb5)
theorem zgD[tk:TheK](h:Here tk.K v.mg "standings" zcV ["word","name"])(m_enumerate:v.mg "enumerate"=none):zcd v 1:=by
 refine(h.vP 0 [] zca zgz fun f cdv A outer s H E hr=>?_ :);have hu8:=zc4 hr;exact(za3 (za9 (qne (zgB (Mi:=[]) rfl (zoF (K:=tk.K) (is:=[0,1]) (n:=2)) (fun _ _ _ h=>h) (zdR (N:=["at","other","name"]) (caps:=[none,none,some 1]) (g:=zkw tk.K 2 (gsN [0,1])) rfl (zpX rfl m_enumerate (qa_ (qv_ rfl (qpv 0)) za2)) (fun _ _ _ _ _=>(zkg (K:=tk.K) rfl rfl (zaq (za8 (i:=0) (show (["at","other","name"]:List Str).Nodup by decide +kernel) rfl (jE rfl)) (zaq (za8 (i:=1) (show (["at","other","name"]:List Str).Nodup by decide +kernel) rfl (jE rfl)) zbM)))) zmA (fun _ _ _ _ _=>(zel (zfS hu8 (qv_ rfl (qpv 1)) (qeb (qv_ rfl (qpv 2)))))) (fun _ _ _ _ _=>(qv_ rfl (qpv 0))))))))
abbrev zdX:Stmt:=top 3
theorem zf0:FnScope ["word","name","low","high"] ["word","name"] (za1 zdX):=scm
def zd6:DS:=(zao (dUn [2,3] (zar zb5 (dAc (dV 0) (dAc (dV 1) dAn))))
  (zai [] (dSl zkx (dV 0) (dOs (d2 zav (dV 2) (dC (.int 1)))) (dOs (dV 3)))))
def zdv:List T->Option T:=fnP 4 zd6
abbrev ze4[TheK](v:Ev)(k:Nat):Prop:=Cl v k "between" ["word","name"] (spP .e 2 zdv)
theorem zio[tk:TheK](h:Here tk.K v.mg "between" zdX ["word","name"])(C_p_standings:zcd v 1):ze4 v 2:=by
 refine(h.vP 1 [] zd6 zf0 fun f cdv A outer s H E hr=>?_ :);have sc:=zf0
 exact(qs_ (M':=[]) (zlW (is:=[2,3]) (n:=2) (K:=tk.K) (zdm (qc C_p_standings hr rfl (qa_ (qv_ rfl (qpv 0)) (qa_ (qv_ rfl (qpv 1)) za2)) ar2) (zpW (zja rfl (zaq (za8 (i:=2) sc.nd rfl (jE rfl)) (zaq (za8 (i:=3) sc.nd rfl (jE rfl)) zbM))) (zfV rfl (zaq (za8 (i:=2) sc.nd rfl (jE rfl)) (zaq (za8 (i:=3) sc.nd rfl (jE rfl)) zbM))))) rfl rfl rfl)
  (za3 (za9 (zgR rfl (qv_ rfl (qpv 0)) (zcm (zap (qv_ rfl (qpv 2)) (qeb qi_))) (zcm (qv_ rfl (qpv 3)))))))
abbrev zdk:Stmt:=top 1
theorem zhe:FnScope ["word"] ["word"] (za1 zdk):=scm
def zcA:DS:=(zai [] (d1 zdT (dDC [] [none] (zdc (dV 0)) (dGn 0) zf8 (dV 0) (dC (.bl true)))))
def zaC:List T->Option T:=fnP 1 zcA
abbrev zbU[TheK](v:Ev)(k:Nat):Prop:=Cl v k "names_of" ["word"] (spP .e 1 zaC)
theorem zhA[tk:TheK](h:Here tk.K v.mg "names_of" zdk ["word"])(m_list:v.mg "list"=none):zbU v 1:=by
 refine(h.vP 0 [] zcA zhe fun f cdv A outer s H E hr=>?_ :);exact(za3 (za9 (qne (zhq rfl rfl rfl m_list (qnb (zv4 (Mi:=[]) rfl (zbC (i:=0)) zdP (zs8 (N:=["name"]) (caps:=[none]) rfl (zbq rfl (qv_ rfl (qpv 0))) (fun _ _ _ _ _=>(za8 (i:=0) (show (["name"]:List Str).Nodup by decide +kernel) rfl (jE rfl))) zbg (fun _ _ _ _ _=>zbL) (fun _ _ _ _ _=>(qv_ rfl (qpv 0))) (fun _ _ _ _ _=>zff))))))))
abbrev zbZ:Stmt:=top 4
theorem zcM:FnScope ["word","name","inside"] ["word","name"] (za1 zbZ):=scm
def zbd:DS:=(zao (zay 2 (zar zdv (dAc (dV 0) (dAc (dV 1) dAn))))
  (zai [] (dLC [] [none,some 2] (zdc (zar zaC (dAc (dV 0) dAn))) (dGn 0) (dB (d2 gEq (d2L zgd (dV 1) (dV 0)) (dC (.int 1)))) (dV 0))))
def zb0:List T->Option T:=fnP 3 zbd
abbrev zc3[TheK](v:Ev)(k:Nat):Prop:=Cl v k "crossed_with" ["word","name"] (spP .e 2 zb0)
theorem zeG[tk:TheK](h:Here tk.K v.mg "crossed_with" zbZ ["word","name"])(C_p_between:ze4 v 2)(C_p_names_of:zbU v 2):zc3 v 3:=by
 refine(h.vP 2 [] zbd zcM fun f cdv A outer s H E hr=>?_ :);have sc:=zcM;have hu8:=zc4 hr
 exact(qs_ (M':=[]) (zad (M':=[]) (za7 (i:=2) sc.nd rfl (YF rfl) (qc C_p_between hr rfl (qa_ (qv_ rfl (qpv 0)) (qa_ (qv_ rfl (qpv 1)) za2)) ar2)))
  (za3 (za9 (qne (zgB (Mi:=[]) rfl (zbC (i:=0)) (fun _ _ _ h=>h) (zdR (N:=["other","inside"]) (caps:=[none,some 2]) rfl (zbq rfl (qc C_p_names_of hr rfl (qa_ (qv_ rfl (qpv 0)) za2) ar1)) (fun _ _ _ _ _=>(za8 (i:=0) (show (["other","inside"]:List Str).Nodup by decide +kernel) rfl (jE rfl))) zbg (fun _ _ _ _ _=>(zel (zfS hu8 (znG (zdS jL PySem.F.slot_list_count PySem.F.type_list_count zmv (qv_ rfl (qpv 1)) (zkh (qeb (qv_ rfl (qpv 0))) zlY))) (qeb qi_)))) (fun _ _ _ _ _=>(qv_ rfl (qpv 0)))))))))
abbrev zeB:Stmt:=top 6
theorem zfH:FnScope ["word","mates","odd","pair"] ["word"] (za1 zeB):=scm
def zcR:DS:=(zao (zay 1 (dDC [] [none,some 0] (zdc (zar zaC (dAc (dV 0) dAn))) (dGn 0) zf8 (dV 0) (zar zb0 (dAc (dV 1) (dAc (dV 0) dAn)))))
  (zao (zp9 1 (zay 2 (zar zd1 (dAc (dV 1) dAn))))
  (zao (zcb (dB (d2 zbm (dV 2) (dC .non))) (zai [] (zlu (dAc (dC (.str "odd")) (dAc (dV 2) dAn)))) zaD)
  (zao (zay 3 (zar zd0 (dAc (dV 1) dAn)))
  (zao (zcb (dB (d2 zbm (dV 3) (dC .non))) (zai [] (zlu (dAc (dC (.str "pair")) (dAc (d2 za4 (dV 3) (dC (.int 0))) (dAc (d2 za4 (dV 3) (dC (.int 1))) dAn))))) zaD)
  (zai [] (zar zbu (dAc (dV 1) dAn))))))))
def zcq:List T->Option T:=fnP 4 zcR
abbrev zdJ[TheK](v:Ev)(k:Nat):Prop:=Cl v k "looked" ["word"] (spP .e 1 zcq)
theorem zjl[tk:TheK](h:Here tk.K v.mg "looked" zeB ["word"])(C_p_names_of:zbU v 4)(C_p_crossed_with:zc3 v 4)(C_p_odd_name:zdD v 4)(C_p_odd_pair:zdC v 4)(C_p_sides_or_ring:zbJ v 4):zdJ v 5:=by
 refine(h.vP 4 [] zcR zfH fun f cdv A outer s H E hr=>?_ :);have sc:=zfH;have hu:=zc7 hr
 exact(qs_ (M':=[1]) (zaN (M':=[1]) (zv3 (Mi:=[]) rfl (zbC (i:=0)) zdP (zlX (i:=1) sc.nd rfl rfl (N:=["name","word"]) (caps:=[none,some 0]) rfl (zbq rfl (qc C_p_names_of hr rfl (qa_ (qv_ rfl (qpv 0)) za2) ar1)) (fun _ _ _ _ _=>(za8 (i:=0) (show (["name","word"]:List Str).Nodup by decide +kernel) rfl (jE rfl))) zbg (fun _ _ _ _ _=>zbL) (fun _ _ _ _ _=>(qv_ rfl (qpv 0))) (fun _ _ _ _ _=>(qc C_p_crossed_with hr rfl (qa_ (qv_ rfl (qpv 1)) (qa_ (qv_ rfl (qpv 0)) za2)) ar2)))))
  (qs_ (M':=[]) (znD (i:=1) (M':=[]) (zad (M':=[]) (za7 (i:=2) sc.nd rfl (jE rfl) (qc C_p_odd_name hr rfl (qa_ (qv_ rfl (qpv 1)) za2) ar1))))
  (qs_ (M':=[]) (zbF (M':=[]) (zfr (qv_ rfl (qpv 2)) (qeb zdo)) (za3 (za9 (zf2 (qa_ zf3 (qa_ (qv_ rfl (qpv 2)) za2))))) zau)
  (qs_ (M':=[]) (zad (M':=[]) (za7 (i:=3) sc.nd rfl (jE rfl) (qc C_p_odd_pair hr rfl (qa_ (qv_ rfl (qpv 1)) za2) ar1)))
  (qs_ (M':=[]) (zbF (M':=[]) (zfr (qv_ rfl (qpv 3)) (qeb zdo)) (za3 (za9 (zf2 (qa_ zf3 (qa_ (zaf rfl hu (qv_ rfl (qpv 3)) (qeb qi_) (fun _ _=>rfl)) (qa_ (zaf rfl hu (qv_ rfl (qpv 3)) (qeb qi_) (fun _ _=>rfl)) za2)))))) zau)
  (za3 (za9 (qc C_p_sides_or_ring hr rfl (qa_ (qv_ rfl (qpv 1)) za2) ar1))))))))
abbrev zbY:Stmt:=top 22
theorem zcL:FnScope ["word","name","side","first","second"] ["word","name","side"] (za1 zbY):=scm
def zbc:DS:=(zao (dUn [3,4] (zar zb5 (dAc (dV 0) (dAc (dV 1) dAn))))
  (zao (zcb (dB (d2 gEq (d2 ze9 (d2 zav (dV 2) (dV 3)) (dC (.int 2))) (dC (.int 0)))) (zai [] (zdO (dAc (d2 zdt (dC (.int 2)) (dV 3)) (dAc (d2 zdt (dC (.int 2)) (dV 4)) (dAc (d2 zav (d2 zdt (dC (.int 2)) (dV 3)) (dC (.int 1))) (dAc (d2 zav (d2 zdt (dC (.int 2)) (dV 4)) (dC (.int 1))) dAn)))))) zaD)
  (zai [] (zdO (dAc (d2 zdt (dC (.int 2)) (dV 3)) (dAc (d2 zav (d2 zdt (dC (.int 2)) (dV 4)) (dC (.int 1))) (dAc (d2 zav (d2 zdt (dC (.int 2)) (dV 3)) (dC (.int 1))) (dAc (d2 zdt (dC (.int 2)) (dV 4)) dAn))))))))
def zaZ:List T->Option T:=fnP 5 zbc
abbrev zc2[TheK](v:Ev)(k:Nat):Prop:=Cl v k "ends_by_side" ["word","name","side"] (spP .e 3 zaZ)
theorem zeF[tk:TheK](h:Here tk.K v.mg "ends_by_side" zbY ["word","name","side"])(C_p_standings:zcd v 1):zc2 v 2:=by
 refine(h.vP 1 [] zbc zcL fun f cdv A outer s H E hr=>?_ :);have sc:=zcL;have hu8:=zc4 hr
 exact(qs_ (M':=[]) (zlW (is:=[3,4]) (n:=2) (K:=tk.K) (zdm (qc C_p_standings hr rfl (qa_ (qv_ rfl (qpv 0)) (qa_ (qv_ rfl (qpv 1)) za2)) ar2) (zpW (zja rfl (zaq (za8 (i:=3) sc.nd rfl (jE rfl)) (zaq (za8 (i:=4) sc.nd rfl (jE rfl)) zbM))) (zfV rfl (zaq (za8 (i:=3) sc.nd rfl (jE rfl)) (zaq (za8 (i:=4) sc.nd rfl (jE rfl)) zbM))))) rfl rfl rfl)
  (qs_ (M':=[]) (zbF (M':=[]) (zfS hu8 (zbB (zap (qv_ rfl (qpv 2)) (qeb (qv_ rfl (qpv 3)))) (qeb qi_)) (qeb qi_)) (za3 (za9 (qne (zaS (qa_ (zaL qi_ (qeb (qv_ rfl (qpv 3)))) (qa_ (zaL qi_ (qeb (qv_ rfl (qpv 4)))) (qa_ (zap (zaL qi_ (qeb (qv_ rfl (qpv 3)))) (qeb qi_)) (qa_ (zap (zaL qi_ (qeb (qv_ rfl (qpv 4)))) (qeb qi_)) za2)))))))) zau)
  (za3 (za9 (qne (zaS (qa_ (zaL qi_ (qeb (qv_ rfl (qpv 3)))) (qa_ (zap (zaL qi_ (qeb (qv_ rfl (qpv 4)))) (qeb qi_)) (qa_ (zap (zaL qi_ (qeb (qv_ rfl (qpv 3)))) (qeb qi_)) (qa_ (zaL qi_ (qeb (qv_ rfl (qpv 4)))) za2))))))))))
abbrev zdW:Stmt:=top 21
theorem zeZ:FnScope ["word","told"] ["word"] (za1 zdW):=scm
def zd5:DS:=(zao (zay 1 (zar zcq (dAc (dV 0) dAn)))
  (zao (zcb (dB (d2 gNe (d2 za4 (dV 1) (dC (.int 0))) (dC (.str "sides")))) zn4 zaD)
  (zai [] (dLC [] [none,none,some 0] (ztq (dAc (zar zaC (dAc (dV 0) dAn)) (dAc (d2 za4 (dV 1) (dC (.int 1))) dAn))) (dGt [0,1]) zf8 (zlu (dAc (dV 0) (dAc (zar zaZ (dAc (dV 2) (dAc (dV 0) (dAc (dV 1) dAn)))) dAn)))))))
def zdu:List T->Option T:=fnP 2 zd5
abbrev ze3[TheK](v:Ev)(k:Nat):Prop:=Cl v k "drawing" ["word"] (spP .e 1 zdu)
theorem zin[tk:TheK](h:Here tk.K v.mg "drawing" zdW ["word"])(C_p_looked:zdJ v 5)(C_p_names_of:zbU v 5)(C_p_ends_by_side:zc2 v 5)(m_zip:v.mg "zip"=none):ze3 v 6:=by
 refine(h.vP 5 [] zd5 zeZ fun f cdv A outer s H E hr=>?_ :);have sc:=zeZ;have hu:=zc7 hr;have hu8:=zc4 hr
 exact(qs_ (M':=[]) (zad (M':=[]) (za7 (i:=1) sc.nd rfl (jE rfl) (qc C_p_looked hr rfl (qa_ (qv_ rfl (qpv 0)) za2) ar1)))
  (qs_ (M':=[]) (zbF (M':=[]) (zhp hu8 (zaf rfl hu (qv_ rfl (qpv 1)) (qeb qi_) (fun _ _=>rfl)) (qeb zf3)) (za3 znC) zau)
  (za3 (za9 (qne (zgB (Mi:=[]) rfl (zoF (K:=tk.K) (is:=[0,1]) (n:=2)) zdP (zdR (N:=["name","side","word"]) (caps:=[none,none,some 0]) (g:=zkw tk.K 2 (gsN [0,1])) rfl (zs9 rfl rfl m_zip (qa_ (qc C_p_names_of hr rfl (qa_ (qv_ rfl (qpv 0)) za2) ar1) (qa_ (zaf rfl hu (qv_ rfl (qpv 1)) (qeb qi_) (fun _ _=>rfl)) za2))) (fun _ _ _ _ _=>(zkg (K:=tk.K) rfl rfl (zaq (za8 (i:=0) (show (["name","side","word"]:List Str).Nodup by decide +kernel) rfl (jE rfl)) (zaq (za8 (i:=1) (show (["name","side","word"]:List Str).Nodup by decide +kernel) rfl (jE rfl)) zbM)))) zmA (fun _ _ _ _ _=>zbL) (fun _ _ _ _ _=>(zf2 (qa_ (qv_ rfl (qpv 0)) (qa_ (qc C_p_ends_by_side hr rfl (qa_ (qv_ rfl (qpv 2)) (qa_ (qv_ rfl (qpv 0)) (qa_ (qv_ rfl (qpv 1)) za2))) ar3) za2)))))))))))
abbrev zhh:Stmt:=top 37
theorem zif:FnScope ["_law_spots_here","_law_from_right","_law_i","_law_j"] ["_law_spots_here","_law_from_right"] (za1 zhh):=scm
def zfy:DS:=(zao (dUn [2,3] (dV 0))
  (zao (zcb (zgm (dV 1)) (zai [] (zdO (dAc (d2 zdt (dC (.int 2)) (dV 2)) (dAc (d2 zdt (dC (.int 2)) (dV 3)) (dAc (d2 zav (d2 zdt (dC (.int 2)) (dV 2)) (dC (.int 1))) (dAc (d2 zav (d2 zdt (dC (.int 2)) (dV 3)) (dC (.int 1))) dAn)))))) zaD)
  (zai [] (zdO (dAc (d2 zdt (dC (.int 2)) (dV 2)) (dAc (d2 zav (d2 zdt (dC (.int 2)) (dV 3)) (dC (.int 1))) (dAc (d2 zav (d2 zdt (dC (.int 2)) (dV 2)) (dC (.int 1))) (dAc (d2 zdt (dC (.int 2)) (dV 3)) dAn))))))))
def zdw:List T->Option T:=fnP 4 zfy
abbrev zfB[TheK](v:Ev)(k:Nat):Prop:=Cl v k "_law_ends" ["_law_spots_here","_law_from_right"] (spP .e 2 zdw)
theorem zmm[tk:TheK](h:Here tk.K v.mg "_law_ends" zhh ["_law_spots_here","_law_from_right"]):zfB v 1:=by
 refine(h.vP 0 [] zfy zif fun f cdv A outer s H E hr=>?_ :);have sc:=zif
 exact(qs_ (M':=[]) (zlW (is:=[2,3]) (n:=2) (K:=tk.K) (zdm (qv_ rfl (qpv 0)) (zpW (zja rfl (zaq (za8 (i:=2) sc.nd rfl (jE rfl)) (zaq (za8 (i:=3) sc.nd rfl (jE rfl)) zbM))) (zfV rfl (zaq (za8 (i:=2) sc.nd rfl (jE rfl)) (zaq (za8 (i:=3) sc.nd rfl (jE rfl)) zbM))))) rfl rfl rfl)
  (qs_ (M':=[]) (zbF (M':=[]) (zcO (qeb (qv_ rfl (qpv 1)))) (za3 (za9 (qne (zaS (qa_ (zaL qi_ (qeb (qv_ rfl (qpv 2)))) (qa_ (zaL qi_ (qeb (qv_ rfl (qpv 3)))) (qa_ (zap (zaL qi_ (qeb (qv_ rfl (qpv 2)))) (qeb qi_)) (qa_ (zap (zaL qi_ (qeb (qv_ rfl (qpv 3)))) (qeb qi_)) za2)))))))) zau)
  (za3 (za9 (qne (zaS (qa_ (zaL qi_ (qeb (qv_ rfl (qpv 2)))) (qa_ (zap (zaL qi_ (qeb (qv_ rfl (qpv 3)))) (qeb qi_)) (qa_ (zap (zaL qi_ (qeb (qv_ rfl (qpv 2)))) (qeb qi_)) (qa_ (zaL qi_ (qeb (qv_ rfl (qpv 3)))) za2))))))))))
abbrev zbo:Stmt:=top 38
theorem zch:FnScope ["_law_spots_here","_law_found","_law_name","_law_one"] ["_law_spots_here","_law_found"] (za1 zbo):=scm
def zaQ:DS:=(zao (zcb (dOr (znl (zgm (zlv "list" (dV 1)))) (dB (d2 gNe (d1 zcF (dV 1)) (d1 zcF (dV 0))))) (zai [] (dC (.bl false))) zaD)
  (zao (zf9 (zll (dAc (dV 0) (dAc (dV 1) dAn))) (dGt [2,3])
  (zao (zcb (dOr (znl (zgm (zlv "tuple" (dV 3)))) (dOr (dB (d2 gNe (d1 zcF (dV 3)) (dC (.int 2)))) (dOr (dB (d2 gNe (d2 za4 (dV 3) (dC (.int 0))) (dV 2))) (znl (zgm (zlv "list" (d2 za4 (dV 3) (dC (.int 1))))))))) (zai [] (dC (.bl false))) zaD)
  (zao (zcb (dB (d2 gGt (d1 zcF (dLC [] [none] (zdc (d2 za4 (dV 3) (dC (.int 1)))) (dGn 0) (dOr (znl (zgm (zlv "int" (dV 0)))) (zgm (zlv "bool" (dV 0)))) (dV 0))) (dC (.int 0)))) (zai [] (dC (.bl false))) zaD)
  (zcb (ziL (dB (d2 gNe (d2 za4 (dV 3) (dC (.int 1))) (zar zdw (dAc (d2 za4 (dV 0) (dV 2)) (dAc (dC (.bl true)) dAn))))) (dB (d2 gNe (d2 za4 (dV 3) (dC (.int 1))) (zar zdw (dAc (d2 za4 (dV 0) (dV 2)) (dAc (dC (.bl false)) dAn)))))) (zai [] (dC (.bl false))) zaD))))
  (zai [] (dC (.bl true)))))
def zbh:List T->Option T:=fnP 4 zaQ
abbrev zbz[TheK](v:Ev)(k:Nat):Prop:=Cl v k "_law_crossings_told" ["_law_spots_here","_law_found"] (spP .e 2 zbh)
theorem ze0[tk:TheK](h:Here tk.K v.mg "_law_crossings_told" zbo ["_law_spots_here","_law_found"])(C_l_ends:zfB v 1)(m_len:v.mg "len"=none)(m_isinstance:v.mg "isinstance"=none)(m_list:v.mg "list"=none)(m_zip:v.mg "zip"=none)(m_tuple:v.mg "tuple"=none)(m_bool:v.mg "bool"=none)(m_int:v.mg "int"=none):zbz v 2:=by
 refine(h.vP 1 [] zaQ zch fun f cdv A outer s H E hr=>?_ :);have sc:=zch;have hu:=zc7 hr;have hu8:=zc4 hr
 exact(qs_ (M':=[]) (zbF (M':=[]) (QW.pt (zl0 (zgQ (zcO (qeb (zgU (cn:="list") rfl rfl m_isinstance (qeb (qv_ rfl (qpv 1))) (zdF (v:=.ty "list") rfl m_list zjT rfl))))) (zkc (zhp hu8 (zbr rfl rfl m_len (qeb (qv_ rfl (qpv 1)))) (qeb (zbr rfl rfl m_len (qeb (qv_ rfl (qpv 0))))))))) (za3 (za9 zff)) zau)
  (qs_ (M':=[]) (zcl (zbe jO rfl (znE rfl rfl m_zip (qa_ (qv_ rfl (qpv 0)) (qa_ (qv_ rfl (qpv 1)) za2))) (zoL (K:=tk.K) (is:=[2,3]) (n:=2) (zfV rfl (zaq (za8 (i:=2) sc.nd rfl (jE rfl)) (zaq (za8 (i:=3) sc.nd rfl (jE rfl)) zbM))))
  (qs_ (M':=[]) (zbF (M':=[]) (QW.pt (zl0 (zgQ (zcO (qeb (zgU (cn:="tuple") rfl rfl m_isinstance (qeb (qv_ rfl (qpv 3))) (zdF (v:=.ty "tuple") rfl m_tuple zkJ rfl))))) (zl0 (zhp hu8 (zbr rfl rfl m_len (qeb (qv_ rfl (qpv 3)))) (qeb qi_)) (zl0 (zhp hu8 (zaf rfl hu (qv_ rfl (qpv 3)) (qeb qi_) (fun _ _=>rfl)) (qeb (qv_ rfl (qpv 2)))) (zkc (zgQ (zcO (qeb (zgU (cn:="list") rfl rfl m_isinstance (qeb (zaf rfl hu (qv_ rfl (qpv 3)) (qeb qi_) (fun _ _=>rfl))) (zdF (v:=.ty "list") rfl m_list zjT rfl)))))))))) (za3 (za9 zff)) zau)
  (qs_ (M':=[]) (zbF (M':=[]) (zj9 (zbr rfl rfl m_len (qnb (zgB (Mi:=[]) rfl (zbC (i:=0)) (fun _ _ _ h=>h) (zdR (N:=["_law_end"]) (caps:=[none]) rfl (zbq rfl (zaf rfl hu (qv_ rfl (qpv 3)) (qeb qi_) (fun _ _=>rfl))) (fun _ _ _ _ _=>(za8 (i:=0) (show (["_law_end"]:List Str).Nodup by decide +kernel) rfl (jE rfl))) zbg (fun _ _ _ _ _=>(zel (QW.pt (zl0 (zgQ (zcO (qeb (zgU (cn:="int") rfl rfl m_isinstance (qeb (qv_ rfl (qpv 0))) (zdF (v:=.ty "int") rfl m_int zpd rfl))))) (zkc (zcO (qeb (zgU (cn:="bool") rfl rfl m_isinstance (qeb (qv_ rfl (qpv 0))) (zdF (v:=.ty "bool") rfl m_bool zqY rfl))))))))) (fun _ _ _ _ _=>(qv_ rfl (qpv 0))))))) (qeb qi_)) (za3 (za9 zff)) zau)
  (za3 (zbF (M':=[]) (QW.pt (zgP (zhp hu8 (zaf rfl hu (qv_ rfl (qpv 3)) (qeb qi_) (fun _ _=>rfl)) (qeb (qc C_l_ends hr rfl (qa_ (zaf rfl hu (qv_ rfl (qpv 0)) (qeb (qv_ rfl (qpv 2))) (fun _ _=>rfl)) (qa_ zff za2)) ar2))) (zfR (zhp hu8 (zaf rfl hu (qv_ rfl (qpv 3)) (qeb qi_) (fun _ _=>rfl)) (qeb (qc C_l_ends hr rfl (qa_ (zaf rfl hu (qv_ rfl (qpv 0)) (qeb (qv_ rfl (qpv 2))) (fun _ _=>rfl)) (qa_ zff za2)) ar2)))))) (za3 (za9 zff)) zau))))))
  (za3 (za9 zff))))
abbrev zfN:Stmt:=top 34
theorem zgO:FnScope ["_law_crossings","_law_ahead_here","_law_name","_law_ends_here","_law_k"] ["_law_crossings"] (za1 zfN):=scm
def zdz:DS:=(zao (zay 1 zln)
  (zao (zf9 (zdc (dV 0)) (dGt [2,3])
  (zf9 (zhV (dAc (dC (.int 4)) dAn)) (dGn 4)
  (zp8 1 (d2 za4 (dV 3) (dV 4)) (d2 za4 (dV 3) (d2 ze9 (d2 zav (dV 4) (dC (.int 3))) (dC (.int 4)))))))
  (zp9 1 (zai [] (dV 1)))))
def zeO:List T->Option T:=fnP 5 zdz
abbrev zgw[TheK](v:Ev)(k:Nat):Prop:=Cl v k "_law_ahead" ["_law_crossings"] (spP .e 1 zeO)
theorem zl6[tk:TheK](h:Here tk.K v.mg "_law_ahead" zfN ["_law_crossings"])(m_range:v.mg "range"=none):zgw v 1:=by
 refine(h.vP 0 [] zdz zgO fun f cdv A outer s H E hr=>?_ :);have sc:=zgO;have hu:=zc7 hr
 exact(qs_ (M':=[1]) (zaN (M':=[1]) (za7 (i:=1) sc.nd rfl (jE rfl) zjd))
  (qs_ (M':=[1]) (zcl (zbe jO rfl (zbq rfl (qv_ rfl (qpv 0))) (zoL (K:=tk.K) (is:=[2,3]) (n:=2) (zfV rfl (zaq (za8 (i:=2) sc.nd rfl (jE rfl)) (zaq (za8 (i:=3) sc.nd rfl (jE rfl)) zbM))))
  (za3 (zcl (zbe jO rfl (zbP rfl m_range (qa_ qi_ za2)) (zbG (za8 (i:=4) sc.nd rfl (jE rfl)))
  (za3 (zke rfl (zfs hu (qpv 1) (zaf rfl hu (qv_ rfl (qpv 3)) (qeb (qv_ rfl (qpv 4))) (fun _ _=>rfl)) (zaf rfl hu (qv_ rfl (qpv 3)) (qeb (zbB (zap (qv_ rfl (qpv 4)) (qeb qi_)) (qeb qi_))) (fun _ _=>rfl)) rfl))))))))
  (za3 (znD (i:=1) (M':=[]) (za9 (qv_ rfl (qpv 1)))))))
abbrev zck:Stmt:=top 35
theorem zda:FnScope ["_law_walker","_law_ahead_here","_law_many_here","_law_came","_law_leaving"] ["_law_walker","_law_ahead_here","_law_many_here"] (za1 zck):=scm
def zbx:DS:=(zao (zay 3 (d2 gSb (dV 0) (dC (.int 1))))
  (zao (zcb (dB (d2 gEq (d2 ze9 (dV 0) (dC (.int 2))) (dC (.int 0)))) (zay 3 (d2 zav (d2 ze9 (d2 zav (dV 0) (dC (.int 2))) (d2 zdt (dC (.int 2)) (dV 2))) (dC (.int 1)))) zaD)
  (zao (zay 4 (d2 za4 (dV 1) (dV 3)))
  (zao (zcb (dB (d2 gEq (d2 ze9 (dV 4) (dC (.int 2))) (dC (.int 0)))) (zai [] (dV 4)) zaD)
  (zai [] (d2 ze9 (d2 gSb (dV 4) (dC (.int 2))) (d2 zdt (dC (.int 2)) (dV 2))))))))
def zbb:List T->Option T:=fnP 5 zbx
abbrev zcu[TheK](v:Ev)(k:Nat):Prop:=Cl v k "_law_next_walker" ["_law_walker","_law_ahead_here","_law_many_here"] (spP .e 3 zbb)
theorem zfk[tk:TheK](h:Here tk.K v.mg "_law_next_walker" zck ["_law_walker","_law_ahead_here","_law_many_here"]):zcu v 1:=by
 refine(h.vP 0 [] zbx zda fun f cdv A outer s H E hr=>?_ :);have sc:=zda;have hu:=zc7 hr;have hu8:=zc4 hr
 exact(qs_ (M':=[]) (zad (M':=[]) (za7 (i:=3) sc.nd rfl (jE rfl) (zki (qv_ rfl (qpv 0)) (qeb qi_))))
  (qs_ (M':=[]) (zbF (M':=[]) (zfS hu8 (zbB (qv_ rfl (qpv 0)) (qeb qi_)) (qeb qi_)) (za3 (zad (M':=[]) (za7 (i:=3) sc.nd rfl (jE rfl) (zap (zbB (zap (qv_ rfl (qpv 0)) (qeb qi_)) (qeb (zaL qi_ (qeb (qv_ rfl (qpv 2)))))) (qeb qi_))))) zau)
  (qs_ (M':=[]) (zad (M':=[]) (za7 (i:=4) sc.nd rfl (jE rfl) (zaf rfl hu (qv_ rfl (qpv 1)) (qeb (qv_ rfl (qpv 3))) (fun _ _=>rfl))))
  (qs_ (M':=[]) (zbF (M':=[]) (zfS hu8 (zbB (qv_ rfl (qpv 4)) (qeb qi_)) (qeb qi_)) (za3 (za9 (qv_ rfl (qpv 4)))) zau)
  (za3 (za9 (zbB (zki (qv_ rfl (qpv 4)) (qeb qi_)) (qeb (zaL qi_ (qeb (qv_ rfl (qpv 2))))))))))))
abbrev zdY:Stmt:=top 36
theorem zf1:FnScope ["_law_many_here","_law_crossings","_law_ahead_here","_law_left","_law_made","_law_start","_law_patch","_law_walker"] ["_law_many_here","_law_crossings"] (za1 zdY):=scm
def zcs:DS:=(zao (zcb (dB (d2 gEq (dV 0) (dC (.int 0)))) (zai [] (zdO (dAc (zdO dAn) (dAc (zdO dAn) dAn)))) zaD)
  (zao (zay 2 (zar zeO (dAc (dV 1) dAn)))
  (zao (zay 3 (dLC [] [none] (zhV (dAc (d2 zdt (dC (.int 2)) (dV 0)) dAn)) (dGn 0) zf8 (dC (.bl true))))
  (zao (zay 4 (zdO dAn))
  (zao (zf9 (zhV (dAc (d2 zdt (dC (.int 2)) (dV 0)) dAn)) (dGn 5)
  (zao (zay 6 (zdO dAn))
  (zao (zay 7 (dV 5))
  (zao (zbN (zgm (d2v za4 3 (dV 7)))
  (zao (zfn 3 (dV 7) (dC (.bl false)))
  (zao (dDo (zgn zgZ 6 (dAc (dV 7) dAn)))
  (zay 7 (zar zbb (dAc (dV 7) (dAc (dV 2) (dAc (dV 0) dAn))))))) 300)
  (zcb (dB (d2 gGt (d1 zcF (dV 6)) (dC (.int 0)))) (dDo (zgn zgZ 4 (dAc (dV 6) dAn))) zaD)))))
  (zai [] (dV 4)))))))
def zcy:List T->Option T:=fnP 8 zcs
abbrev ze5[TheK](v:Ev)(k:Nat):Prop:=Cl v k "_law_patches" ["_law_many_here","_law_crossings"] (spP .e 2 zcy)
theorem ziq[tk:TheK](h:Here tk.K v.mg "_law_patches" zdY ["_law_many_here","_law_crossings"])(C_l_ahead:zgw v 1)(C_l_next_walker:zcu v 1)(m_range:v.mg "range"=none)(m_len:v.mg "len"=none):ze5 v 2:=by
 refine(h.vP 1 [] zcs zf1 fun f cdv A outer s H E hr=>?_ :);have sc:=zf1;have hu:=zc7 hr;have hu8:=zc4 hr
 exact(qs_ (M':=[]) (zbF (M':=[]) (zfS hu8 (qv_ rfl (qpv 0)) (qeb qi_)) (za3 (za9 (qne (zaS (qa_ (qne (zaS za2)) (qa_ (qne (zaS za2)) za2)))))) zau)
  (qs_ (M':=[]) (zad (M':=[]) (za7 (i:=2) sc.nd rfl (jE rfl) (qc C_l_ahead hr rfl (qa_ (qv_ rfl (qpv 1)) za2) ar1)))
  (qs_ (M':=[3]) (zaN (M':=[3]) (zpU (Mi:=[]) rfl (zbC (i:=0)) zdP (zfU (i:=3) sc.nd rfl rfl (N:=["_law_walker"]) (caps:=[none]) rfl (zbP rfl m_range (qa_ (zaL qi_ (qeb (qv_ rfl (qpv 0)))) za2)) (fun _ _ _ _ _=>(za8 (i:=0) (show (["_law_walker"]:List Str).Nodup by decide +kernel) rfl (jE rfl))) zbg (fun _ _ _ _ _=>zbL) (fun _ _ _ _ _=>zff))))
  (qs_ (M':=[3,4]) (zaN (M':=[3,4]) (za7 (i:=4) sc.nd rfl (jE rfl) (zaS za2)))
  (qs_ (M':=[3,4]) (zcl (zbe jO rfl (zbP rfl m_range (qa_ (zaL qi_ (qeb (qv_ rfl (qpv 0)))) za2)) (zbG (za8 (i:=5) sc.nd rfl (jE rfl)))
  (qs_ (M':=[3,4,6]) (zaN (M':=[3,4,6]) (za7 (i:=6) sc.nd rfl (jE rfl) (zaS za2)))
  (qs_ (M':=[3,4,6]) (zad (M':=[3,4,6]) (za7 (i:=7) sc.nd rfl (jE rfl) (qv_ rfl (qpv 5))))
  (qs_ (M':=[3,4,6]) (zek 300 jO (zcO (qeb (zaO rfl rfl hu (qpv 3) (qeb (qv_ rfl (qpv 7))) (fun _ _=>rfl))))
  (qs_ (M':=[3,4,6]) (zfT rfl (zdm zff (zfW (qpv 3) (qv_ rfl (qpv 7)) zed)))
  (qs_ (M':=[3,4,6]) (zgA (.inl rfl) (zcn rfl (zdS jL Qd Qe zbs (qpv 6) (qa_ (qv_ rfl (qpv 7)) za2))))
  (za3 (zad (M':=[3,4,6]) (za7 (i:=7) sc.nd rfl (jE rfl) (qc C_l_next_walker hr rfl (qa_ (qv_ rfl (qpv 7)) (qa_ (qv_ rfl (qpv 2)) (qa_ (qv_ rfl (qpv 0)) za2))) ar3)))))))
  (za3 (zbF (M':=[3,4]) (zj9 (zbr rfl rfl m_len (zgS rfl (qpv 6))) (qeb qi_)) (za3 (zkf (M':=[3,4]) (zgA (.inl rfl) (zcn rfl (zdS jL Qd Qe zbs (qpv 4) (qa_ (qv_ rfl (qpv 6)) za2)))))) (zkd (M':=[3,4,6]) zau))))))))
  (za3 (zkf (M':=[3]) (za9 (qv_ rfl (qpv 4))))))))))
abbrev zpK:Stmt:=top 39
theorem zoK:FnScope ["_law_script","_law_word_here","_law_spots_here","_law_bag_here","_law_rule","_law_made","_law_name","_law_hand","_law_told","_law_found"] ["_law_script"] (za1 zpK):=scm
def zoo:DS:=(zao (zay 1 (zar zge (dAc (dV 0) dAn)))
  (zao (zay 2 (zar zeL (dAc (dV 1) dAn)))
  (zao (zay 3 (zar zd3 (dAc (zar zaW (dAc (dV 0) (dAc (dC (.int 3)) dAn))) dAn)))
  (zao (zay 4 (zal zac 3 (dAc (dC (.int 3)) dAn)))
  (zao (zay 5 (zdO dAn))
  (zao (zf9 (zdc (dV 2)) (dGn 6)
  (zao (zay 7 (d2 gEq (zal zac 3 (dAc (dC (.int 2)) dAn)) (dC (.int 0))))
  (zao (zcb (dB (d2 gGt (dV 4) (dC (.int 0)))) (zay 7 (d2 gNe (d2 gEq (d2 ze9 (d2 za4 (d2 za4 (dV 2) (dV 6)) (dC (.int 0))) (dC (.int 2))) (dC (.int 0))) (zjO (d2 gEq (dV 4) (dC (.int 2))) (d2 gEq (zal zac 3 (dAc (dC (.int 5)) dAn)) (dC (.int 1)))))) zaD)
  (dDo (zgn zgZ 5 (dAc (zlu (dAc (dV 6) (dAc (zar zdw (dAc (d2 za4 (dV 2) (dV 6)) (dAc (dV 7) dAn))) dAn))) dAn))))))
  (zao (zcb (dB (d2 gNe (d1 zcF (zar zcy (dAc (d1 zcF (dV 1)) (dAc (dV 5) dAn)))) (d2 zav (d1 zcF (dV 5)) (dC (.int 2))))) (zai [] (dC (.bl true))) zaD)
  (zao (zay 8 (zar zcq (dAc (d1 zdT (dV 1)) dAn)))
  (zao (zcb (dOr (znl (zgm (zlv "tuple" (dV 8)))) (dB (d2 gNe (d2 za4 (dV 8) (dC (.int 0))) (dC (.str "sides"))))) (zai [] (dC (.bl false))) zaD)
  (zao (zay 9 (zar zdu (dAc (d1 zdT (dV 1)) dAn)))
  (zai [] (zjO (zar zbh (dAc (dV 2) (dAc (dV 9) dAn))) (d2 gEq (d1 zcF (zar zcy (dAc (d1 zcF (dV 1)) (dAc (dV 9) dAn)))) (d2 zav (d1 zcF (dV 5)) (dC (.int 2))))))))))))))))
def zta:List T->Option T:=fnP 10 zoo
theorem zvZ[tk:TheK](C_l_word:zhQ v 6)(C_l_spots:zgs v 6)(C_l_bag:zgv v 6)(C_l_cell:zfC v 6)(C_l_digit:zbV v 6)(C_l_ends:zfB v 6)(C_l_patches:ze5 v 6)(C_p_looked:zdJ v 6)(C_p_drawing:ze3 v 6)(C_l_crossings_told:zbz v 6)(m_len:v.mg "len"=none)(m_list:v.mg "list"=none)(m_isinstance:v.mg "isinstance"=none)(m_tuple:v.mg "tuple"=none)  :QBody tk v.P v.w v.mg v.base 6 "law" zpK ["_law_script","_law_word_here","_law_spots_here","_law_bag_here","_law_rule","_law_made","_law_name","_law_hand","_law_told","_law_found"] (cS .e [] [] [] [] zoo):=by
 intro f cdv A outer s H E hr;have sc:=zoK;have hu:=zc7 hr;have hu8:=zc4 hr
 exact(qs_ (M':=[]) (zad (M':=[]) (za7 (i:=1) sc.nd rfl (jE rfl) (qc C_l_word hr rfl (qa_ (qv_ rfl (qpv 0)) za2) ar1)))
  (qs_ (M':=[]) (zad (M':=[]) (za7 (i:=2) sc.nd rfl (jE rfl) (qc C_l_spots hr rfl (qa_ (qv_ rfl (qpv 1)) za2) ar1)))
  (qs_ (M':=[3]) (zaN (M':=[3]) (za7 (i:=3) sc.nd rfl (jE rfl) (qcN C_l_bag hr rfl (qa_ (qc C_l_cell hr rfl (qa_ (qv_ rfl (qpv 0)) (qa_ qi_ za2)) ar2) za2) ar1)))
  (qs_ (M':=[3]) (zad (M':=[3]) (za7 (i:=4) sc.nd rfl (jE rfl) (qcI rfl C_l_digit hr rfl (qpv 3) (qa_ qi_ za2) ar1)))
  (qs_ (M':=[3,5]) (zaN (M':=[3,5]) (za7 (i:=5) sc.nd rfl (jE rfl) (zaS za2)))
  (qs_ (M':=[3,5]) (zcl (zbe jO rfl (zbq rfl (qv_ rfl (qpv 2))) (zbG (za8 (i:=6) sc.nd rfl (jE rfl)))
  (qs_ (M':=[3,5]) (zad (M':=[3,5]) (za7 (i:=7) sc.nd rfl (jE rfl) (zjc hu8 (qcI rfl C_l_digit hr rfl (qpv 3) (qa_ qi_ za2) ar1) (qeb qi_))))
  (qs_ (M':=[3,5]) (zbF (M':=[3,5]) (zj9 (qv_ rfl (qpv 4)) (qeb qi_)) (za3 (zad (M':=[3,5]) (za7 (i:=7) sc.nd rfl (jE rfl) (zsb hu8 (zjc hu8 (zbB (zaf rfl hu (zaf rfl hu (qv_ rfl (qpv 2)) (qeb (qv_ rfl (qpv 6))) (fun _ _=>rfl)) (qeb qi_) (fun _ _=>rfl)) (qeb qi_)) (qeb qi_)) (qeb (zm6 (zjc hu8 (qv_ rfl (qpv 4)) (qeb qi_)) (zm1 (zjc hu8 (qcI rfl C_l_digit hr rfl (qpv 3) (qa_ qi_ za2) ar1) (qeb qi_))))))))) zau)
  (za3 (zgA (.inl rfl) (zcn rfl (zdS jL Qd Qe zbs (qpv 5) (qa_ (zf2 (qa_ (qv_ rfl (qpv 6)) (qa_ (qc C_l_ends hr rfl (qa_ (zaf rfl hu (qv_ rfl (qpv 2)) (qeb (qv_ rfl (qpv 6))) (fun _ _=>rfl)) (qa_ (qv_ rfl (qpv 7)) za2)) ar2) za2))) za2)))))))))
  (qs_ (M':=[3]) (zkf (M':=[3]) (zbF (M':=[3]) (zhp hu8 (zbr rfl rfl m_len (qeb (qc C_l_patches hr rfl (qa_ (zbr rfl rfl m_len (qeb (qv_ rfl (qpv 1)))) (qa_ (qv_ rfl (qpv 5)) za2)) ar2))) (qeb (zap (zbr rfl rfl m_len (qeb (qv_ rfl (qpv 5)))) (qeb qi_)))) (za3 (za9 zff)) zau))
  (qs_ (M':=[3]) (zad (M':=[3]) (za7 (i:=8) sc.nd rfl (jE rfl) (qc C_p_looked hr rfl (qa_ (qne (zhq rfl rfl rfl m_list (qeb (qv_ rfl (qpv 1))))) za2) ar1)))
  (qs_ (M':=[3]) (zbF (M':=[3]) (QW.pt (zl0 (zgQ (zcO (qeb (zgU (cn:="tuple") rfl rfl m_isinstance (qeb (qv_ rfl (qpv 8))) (zdF (v:=.ty "tuple") rfl m_tuple zkJ rfl))))) (zkc (zhp hu8 (zaf rfl hu (qv_ rfl (qpv 8)) (qeb qi_) (fun _ _=>rfl)) (qeb zf3))))) (za3 (za9 zff)) zau)
  (qs_ (M':=[3]) (zad (M':=[3]) (za7 (i:=9) sc.nd rfl (jE rfl) (qc C_p_drawing hr rfl (qa_ (qne (zhq rfl rfl rfl m_list (qeb (qv_ rfl (qpv 1))))) za2) ar1)))
  (za3 (za9 (zm6 (qc C_l_crossings_told hr rfl (qa_ (qv_ rfl (qpv 2)) (qa_ (qv_ rfl (qpv 9)) za2)) ar2) (zm1 (zjc hu8 (zbr rfl rfl m_len (qeb (qc C_l_patches hr rfl (qa_ (zbr rfl rfl m_len (qeb (qv_ rfl (qpv 1)))) (qa_ (qv_ rfl (qpv 9)) za2)) ar2))) (qeb (zap (zbr rfl rfl m_len (qeb (qv_ rfl (qpv 5)))) (qeb qi_))))))))))))))))))
end Dw
set_option maxHeartbeats 1000000
namespace Dw
open PySem L2 L3
theorem zhN(ns:List Int)(k:Nat):zaW [.scr ns,.int k]=some (.int (ns.getD k 0)):=by
 unfold zaW fnP zhJ
 by_cases h:k < ns.length
 ·have e:atI ns (k:Int)=some ns[k]:=ziY (j3 h);simp[zao,zaD,zcb,zai,dV,dC,d2,d1,dB,gLt,zo7,zcF,za4,orG,gIx,zaB,hasAll,h,e]
 ·simp[zao,zaD,zcb,zai,dV,dC,d2,d1,dB,gLt,zo7,zcF,za4,orG,gIx,zaB,hasAll,h]
structure Bag where
 (a b c:Int)
def Bag.t(x:Bag):T:=.lst [.int x.a,.int x.b,.int x.c]
structure Bag.Ok (x:Bag):Prop where
 c0:0<=x.c
 c1:x.c < 2147483647
 b0:0<=x.b
 b1:x.b < 2
def zjU(n:Int):Bag:=⟨n / 2*(n%2),n%2,n / 2%2147483647⟩
theorem zfz(n:Int):(zjU n).Ok:=by constructor<;>simp[zjU]<;>lia
theorem zkM(n:Int):zd3 [.int n]=some (zjU n).t:=by
 unfold zd3 zni zjL;have h1:zlw (n / 2) (n%2)=true:=by unfold zlw; rw[Z4,decide_eq_true_iff,decide_eq_true_iff]; right; lia
 have h2:(3:Nat)<=jh:=by decide
 simp[zai,zdO,dAc,dAn,d2,dV,dC,zdt,zhE,ze9,gI,zpe,zqZ,zaB,hasAll,h1,h2,zjU,Bag.t]
def dig(x:Bag)(n:Int):Int × Bag:=if 0 < x.a then (x.a%n,{ x with a:=x.a / n }) else ((x.c*48271+11)%2147483647*16807%2147483629 / 8%n,{ x with c:=(x.c*48271+11)%2147483647 })
theorem ztn{x:Bag}(h:x.Ok){n:Int}(hn:0 < n):(dig x n).2.Ok/\0<=(dig x n).1/\(dig x n).1 < n:=by
 unfold dig;split
 ·exact⟨⟨h.c0,h.c1,h.b0,h.b1⟩,NB _ (by lia),Yq _ hn⟩
 ·exact⟨⟨NB _ (by lia),Yq _ (by lia),h.b0,h.b1⟩,NB _ (by lia),Yq _ hn⟩
theorem zom{x:Bag}(h:x.Ok){n:Int}(hn:0 < n)(hn2:n < 1073741824):zac [x.t,.int n]=some (.int (dig x n).1,(dig x n).2.t):=by
 have h0:=h.c0;have h1:=h.c1;have m1:zlw x.c 48271=true:=by unfold zlw; rw[Z4,decide_eq_true_iff]; left; lia
 have m2:zlw ((x.c*48271+11)%2147483647) 16807=true:=by unfold zlw; rw[Z4,decide_eq_true_iff]; left; lia
 have m3:zqZ x.a n=true:=decide_eq_true hn;have m4:zpe x.a n=true:=decide_eq_true ⟨hn,hn2⟩;have m5:zqZ ((x.c*48271+11)%2147483647*16807%2147483629 / 8) n=true:=decide_eq_true hn;unfold zac fnI zgl dig Bag.t
 by_cases hp:0 < x.a
 ·simp[zao,zaD,zcb,zay,zfn,zai,dV,dC,d2,d2v,d1,dB,gGt,gI1,za4,orG,gIx,ze9,zhE,gI,zaB,hasAll,atI,ixN,hp,m3,m4]
 ·simp[zao,zaD,zcb,zay,zfn,zai,dV,dC,d2,d2v,d1,dB,gGt,gI1,za4,orG,gIx,ze9,zhE,zdt,zav,ziC,gI,zaB,hasAll,atI,ixN,hp,m1,m2,m5,zqZ,zpe,hn]
theorem zol{x:Bag}(h:x.Ok)(n:Int)(hn:0 < n)(hn2:n < 1073741824):∃(d:Int) (y:Bag),zac [x.t,.int n]=some (.int d,y.t)/\y.Ok/\0<=d/\d < n/\y.b=x.b:=by
 obtain⟨h1,h2,h3⟩:=ztn h hn;refine⟨_,_,zom h hn hn2,h1,h2,h3,?_⟩;unfold dig;split<;>rfl
theorem dg_{x:Bag}(h:x.Ok)(n:Int)(hn:0 < n)(hn2:n < 1073741824){G:Prop}(g:∀(d:Int)(y:Bag),zac [x.t,.int n]=some (.int d,y.t)->y.Ok->0<=d->d < n->G):G:=by
 obtain⟨d,y,e,o,a,b,_⟩:=zol h n hn hn2;exact g d y e o a b
theorem zqm(n:Int):∃ m:Nat,zes [.int n]=some (.int m)/\m<=30:=by
 refine dg_ (zfz n) 4 (by decide) (by decide) fun d y e1 o1 a1 b1=>?_
 have eb:=zkM n;unfold zes
 by_cases h:d=3
 ·refine dg_ o1 31 (by decide) (by decide) fun z2 y2 e2 o2 a2 b2=>?_
  subst h;refine⟨z2.toNat,?_,by lia⟩
  rw[Yj a2];simp[fnP,zfx,zao,zaD,zcb,zay,zai,dV,dC,d2,dB,gEq,zar,zal,dAc,dAn,zaB,hasAll,eb,e1,e2,zdx]
 ·refine dg_ o1 9 (by decide) (by decide) fun z2 y2 e2 o2 a2 b2=>?_
  refine⟨z2.toNat,?_,by lia⟩
  rw[Yj a2];simp[fnP,zfx,zao,zaD,zcb,zay,zai,dV,dC,d2,dB,gEq,zar,zal,dAc,dAn,zaB,hasAll,eb,e1,e2,zdx,h]
def zgx(names:List Str)(n:Nat):Prop:=names.length=n/\names.Nodup/\∀ x∈names,zj1 x
theorem zwf(c:Nat):(⟨#[c]⟩:Str)=Sx [c]:=rfl
theorem zg6{z:Int}(hz:0<=z)(j:Nat):atI letters.cps.toList ((z+(j:Int))%26)=some (97+(z.toNat+j)%26):=by
 have e:(z+(j:Int))%26=(((z.toNat+j)%26:Nat):Int):=by lia
 rw[e];exact zh0 (by lia) (by lia)
theorem znV{x:Bag}(h:x.Ok){n:Nat}(hn:n<=31):∃(names:List Str) (y:Bag),zeM [x.t,.int n]=some (.lst (names.map T.str),y.t)/\y.Ok/\zgx names n:=by
 refine dg_ h 3 (by decide) (by decide) fun z1 y1 e1 o1 a1 b1=>?_
 refine dg_ o1 7 (by decide) (by decide) fun z2 y2 e2 o2 a2 b2=>?_
 obtain⟨short,hshort⟩:∃ short:Bool,(z1 == 2)=short:=⟨_,rfl⟩;obtain⟨sz,hsz,szs⟩:∃ sz:Nat,atI [T.int z2,T.int 6] (if short=true then 1 else 0)=some (.int sz)/\sz<=6/\(short=true->sz=6):=by
  cases short with
  |true=>exact⟨6,rfl,by lia,fun _=>rfl⟩
  |false=>exact⟨z2.toNat,by rw[Yj a2]; rfl,by lia,fun z=>by cases z⟩
 -- the stem
 obtain⟨acc,s5,lc,l,y5,rfl,rfl,o5,hl5,hc5⟩:∃ acc s5,ziv [0] [none,some 2,some 0] (dGn 0) zf8 (d2 za4 (dV 1) (zal zac 2 (dAc (dC (.int 26)) dAn))) (zaR 0 sz) []
   [some y2.t,some (.int n),some (.str letters),some (.bl short),some (.int sz),none,none,none,none,none,none,none,none,none]=some (acc,s5) /\
   ∃(l:List Nat) (y5:Bag),acc=(l.map fun c=>Sx [c]).map T.str/\s5=[some y5.t,some (.int n),some (.str letters),some (.bl short),some (.int sz),none,none,none,none,none,none,none,none,none]/\y5.Ok/\l.length=sz/\∀ c∈l,97<=c/\c<=122:=by
  obtain⟨acc,s5,e,l,y5,h1,h2,h3,h4,h5⟩:=zoW (M:=[0]) (caps:=[none,some 2,some 0]) (dg:=dGn 0) (ft:=zf8) (fe:=d2 za4 (dV 1) (zal zac 2 (dAc (dC (.int 26)) dAn)))
   (fun i acc s=>∃(l:List Nat) (y5:Bag),acc=(l.map fun c=>Sx [c]).map T.str/\s=[some y5.t,some (.int n),some (.str letters),some (.bl short),some (.int sz),none,none,none,none,none,none,none,none,none]/\y5.Ok/\l.length=i/\∀ c∈l,97<=c/\c<=122)
   (zaR 0 sz) 0 [] _ ⟨[],y2,rfl,rfl,o2,rfl,fun c hc=>by cases hc⟩ (by
    rintro j x acc s hx ⟨l,y,rfl,rfl,oy,hl,hc⟩;refine dg_ oy 26 (by decide) (by decide) fun d y' e o' a' b'=>?_
    refine⟨[some x,some (.str letters),some y.t],true,[some x,some (.str letters),some y.t],rfl,rfl,?_⟩;rw[if_pos rfl];refine⟨.str (Sx [97+d.toNat]),[some x,some (.str letters),some y'.t],?_,l++[97+d.toNat],y',by simp,rfl,o',by simp[hl],fun c hc'=>?_⟩
    ·simp[d2,dV,zal,dAc,dAn,dC,e,za4,orG,gIx,zh0 a' b',zg7,zwf]
    ·rcases jz.mp hc' with z |z
     ·exact hc c z
     ·have:c=97+d.toNat:=by simpa using z
      lia)
  exact⟨acc,s5,e,l,y5,h1,h2,h3,by rw[h4,zbO]; lia,h5⟩
 obtain⟨szl,szs⟩:=szs;refine dg_ o5 (sz+1) (by lia) (by lia) fun z6 y6 e6 o6 a6 b6=>?_
 refine dg_ o6 26 (by decide) (by decide) fun z7 y7 e7 o7 a7 b7=>?_
 refine dg_ o7 26 (by decide) (by decide) fun z8 y8 e8 o8 a8 b8=>?_
 have hj:zo6 "" (.lst ((l.map fun c=>Sx [c]).map T.str))=some (.str (Sx l)):=by
  have hs:((l.map fun c=>Sx [c]).map (·.length)).sum=l.length:=by
   rw[jU]
   clear lc hc5 hl5
   induction l with
   |nil=>rfl
   |cons c r ih=>rw[jj,Y2,ih,jm]; show 1+r.length=_; lia
  have e0:(Zu "").length=0:=by decide +kernel
  show ((zdM ((l.map fun c=>Sx [c]).map T.str)).bind fun ys=>if (ys.map (·.length)).sum+ys.length*(Zu "").length<=16777216 then some (T.str (WR (Zu "") ys)) else none)=_
  rw[zgH,j5,hs,e0,if_pos (by lia)]
  exact congrArg (fun z=>some (T.str z)) (zr3 l)
 have hszl:sz<=jh:=zat (by lia)
 have lS:(Sx l).length<=jh:=by rw[zfa]; exact zat (by lia)
 obtain⟨t,u,e,names,y,rfl,rfl,oy,gn⟩:=zjE (n:=14) (d:=zev) (ts:=[x.t,.int n]) (Q:=fun t u=>∃(names:List Str) (y:Bag),t=.lst (names.map T.str)/\u=y.t/\y.Ok/\zgx names n) (by
  unfold zev;refine zaj (s':=[some x.t,some (.int n),some (.str letters),none,none,none,none,none,none,none,none,none,none,none]) (by simp[zay,dC,zaB]) ?_
  refine zaj (s':=[some y1.t,some (.int n),some (.str letters),some (.bl short),none,none,none,none,none,none,none,none,none,none]) (by simp[zay,d2,zal,dAc,dAn,dC,e1,gEq,zdx,hshort]) ?_
  refine zaj (s':=[some y2.t,some (.int n),some (.str letters),some (.bl short),some (.int sz),none,none,none,none,none,none,none,none,none]) (by
   have h2:(2:Nat)<=jh:=by decide
   simp[zay,d2,d1,zdO,zal,dAc,dAn,dC,dV,e2,za4,orG,gIx,zt7,h2,hsz]) ?_
  refine zaj (s':=[some y5.t,some (.int n),some (.str letters),some (.bl short),some (.int sz),some (.str (Sx l)),none,none,none,none,none,none,none,none]) (by
   have hr:zhV (dAc (dV 4) dAn) [some y2.t,some (.int n),some (.str letters),some (.bl short),some (.int sz),none,none,none,none,none,none,none,none,none]=some (zaR 0 sz,[some y2.t,some (.int n),some (.str letters),some (.bl short),some (.int sz),none,none,none,none,none,none,none,none,none]):=by
    simp[zhV,dAc,dAn,dV,zeD (j:=(sz:Int)) (by lia) (by lia)]
   have hz:sz<=zdN:=zjt (by lia)
   simp[zay,zlm,dC,dLC,hr,zbO,hz,lc,hj,-jU]) ?_
  refine zaj (s':=[some y6.t,some (.int n),some (.str letters),some (.bl short),some (.int sz),some (.str (Sx l)),some (.int z6),none,none,none,none,none,none,none]) (by simp[zay,d2,zal,dAc,dAn,dC,dV,zav,orG,ziC,e6]) ?_
  refine zaj (s':=[some y7.t,some (.int n),some (.str letters),some (.bl short),some (.int sz),some (.str (Sx l)),some (.int z6),some (.int z7),none,none,none,none,none,none]) (by simp[zay,zal,dAc,dAn,dC,e7]) ?_
  refine zaj (s':=[some y8.t,some (.int n),some (.str letters),some (.bl short),some (.int sz),some (.str (Sx l)),some (.int z6),some (.int z7),some (.int z8),none,none,none,none,none]) (by simp[zay,zal,dAc,dAn,dC,e8]) ?_
  refine zaj (s':=[some y8.t,some (.int n),some (.str letters),some (.bl short),some (.int sz),some (.str (Sx l)),some (.int z6),some (.int z7),some (.int z8),some (.lst []),none,none,none,none]) (by simp[zay,zdO,dAn]) ?_
  refine zcW (its:=zaR 0 n) (fun i s=>∃ a b c,s=[some y8.t,some (.int n),some (.str letters),some (.bl short),some (.int sz),some (.str (Sx l)),some (.int z6),some (.int z7),some (.int z8),some (.lst ((zaG l z6.toNat z7.toNat z8.toNat short i).map T.str)),a,b,c,none])
   (s1:=[some y8.t,some (.int n),some (.str letters),some (.bl short),some (.int sz),some (.str (Sx l)),some (.int z6),some (.int z7),some (.int z8),some (.lst []),none,none,none,none]) (by simp[zhV,dAc,dAn,dV,zeD (j:=(n:Int)) (by lia) (by lia)]) ⟨_,_,_,rfl⟩ ?_ ?_
  ·rintro j x s hx ⟨a,b,c,rfl⟩;obtain⟨hj,rfl⟩:=zfQ hx;refine⟨[some y8.t,some (.int n),some (.str letters),some (.bl short),some (.int sz),some (.str (Sx l)),some (.int z6),some (.int z7),some (.int z8),some (.lst ((zaG l z6.toNat z7.toNat z8.toNat short j).map T.str)),some (.int (0+j)),b,c,none],by simp[dGn],?_⟩
   have f7:=zg6 a7 j;have f8:atI letters.cps.toList ((z8+(j:Int) / 26)%26)=some (97+(z8.toNat+j / 26)%26):=zg6 a8 (j / 26);have hp:(Sx [97+(z7.toNat+j)%26]).length+(Sx [97+(z8.toNat+j / 26)%26]).length<=jh:=by rw[zfa,zfa]; exact zat (by simp)
   have c1:=ztG l a6 (by lia)
   have c2:=zr4 l a6 (by lia)
   have q1:(Sx (l.take z6.toNat)).length+(Sx [97+(z7.toNat+j)%26,97+(z8.toNat+j / 26)%26]).length<=jh:=by rw[zfa,zfa,jQ]; exact zat (by simp; lia)
   have q2:(Sx (l.take z6.toNat++[97+(z7.toNat+j)%26,97+(z8.toNat+j / 26)%26])).length+(Sx (l.drop z6.toNat)).length<=jh:=by rw[zfa,zfa,ju,jQ,QH]; exact zat (by simp; lia)
   refine zaj (s':=[some y8.t,some (.int n),some (.str letters),some (.bl short),some (.int sz),some (.str (Sx l)),some (.int z6),some (.int z7),some (.int z8),some (.lst ((zaG l z6.toNat z7.toNat z8.toNat short j).map T.str)),some (.int (0+j)),some (.str (Sx [97+(z7.toNat+j)%26,97+(z8.toNat+j / 26)%26])),c,none]) (by
    simp[zay,d2,dV,dC,zav,orG,ziC,ze9,zhE,gI,zqZ,zpe,za4,gIx,zg7,f7,f8,zwf,hp,zkP]) ?_
   refine zaj (s':=[some y8.t,some (.int n),some (.str letters),some (.bl short),some (.int sz),some (.str (Sx l)),some (.int z6),some (.int z7),some (.int z8),some (.lst ((zaG l z6.toNat z7.toNat z8.toNat short j).map T.str)),some (.int (0+j)),some (.str (Sx [97+(z7.toNat+j)%26,97+(z8.toNat+j / 26)%26])),some (.str (Sx (l.take z6.toNat++[97+(z7.toNat+j)%26,97+(z8.toNat+j / 26)%26]++l.drop z6.toNat))),none]) (by
    simp[zay,d2,dV,dSl,dOn,dOs,zkx,zqC,lS,c1,c2,zav,orG,ziC,q1,q2,zkP,-jZ]) ?_
   refine zaj (s':=[some y8.t,some (.int n),some (.str letters),some (.bl short),some (.int sz),some (.str (Sx l)),some (.int z6),some (.int z7),some (.int z8),some (.lst ((zaG l z6.toNat z7.toNat z8.toNat short j).map T.str)),some (.int (0+j)),some (.str (Sx [97+(z7.toNat+j)%26,97+(z8.toNat+j / 26)%26])),some (.str (Sx (zfl l z6.toNat z7.toNat z8.toNat short j))),none]) (by
    by_cases hk:short=true/\j < 5
    ·have c3:=ztG l (j:=(0+(j:Int))+1) (by lia) (by have:=szs hk.1; lia)
     rw[show ((0+(j:Int))+1).toNat=j+1 by lia,Nx] at c3
     have hk2:(j:Int) < 5:=by lia
     simp[zcb,ziL,zgm,tru,dB,d2,dV,dC,gLt,zo7,zay,dSl,dOn,dOs,zkx,zqC,zav,orG,ziC,lS,c3,hk.1,hk2,zfl,hk]
    ·have:zfl l z6.toNat z7.toNat z8.toNat short j=l.take z6.toNat++[97+(z7.toNat+j)%26,97+(z8.toNat+j / 26)%26]++l.drop z6.toNat:=by unfold zfl; rw[if_neg hk]
     rw[this]
     by_cases h1:short=true
     ·have h2:¬ (j:Int) < 5:=fun z=>hk ⟨h1,by lia⟩
      simp[zcb,ziL,zgm,tru,dB,d2,dV,dC,gLt,zo7,zaD,h1,h2]
     ·have h1':short=false:=by simpa using h1
      simp[zcb,ziL,zgm,tru,dV,zaD,h1']) ?_
   refine zb3 (r:=.nx _) (by
    have hl:(zaG l z6.toNat z7.toNat z8.toNat short j).length < jh:=by unfold zaG; rw[j6,QM]; exact zbK (by lia)
    simp[dDo,zgn,ziy,dAc,dAn,dV,zgZ,hl]
    rfl) ⟨some (.int j),some (.str (Sx [97+(z7.toNat+j)%26,97+(z8.toNat+j / 26)%26])),some (.str (Sx (zfl l z6.toNat z7.toNat z8.toNat short j))),?_⟩
   rw[zjp,jA];rfl
  ·rintro s ⟨a,b,c,rfl⟩;rw[zbO];refine dg_ o8 (n+1) (by lia) (by lia) fun z9 y9 e9 o9 a9 b9=>?_
   refine zaj (s':=[some y9.t,some (.int n),some (.str letters),some (.bl short),some (.int sz),some (.str (Sx l)),some (.int z6),some (.int z7),some (.int z8),some (.lst ((zaG l z6.toNat z7.toNat z8.toNat short n).map T.str)),a,b,c,some (.int z9)]) (by simp[zay,d2,zal,dAc,dAn,dC,dV,zav,orG,ziC,e9]) ?_
   have hlen:(zaG l z6.toNat z7.toNat z8.toNat short n).length=n:=by unfold zaG; rw[j6,QM]
   have hlen2:((zaG l z6.toNat z7.toNat z8.toNat short n).map T.str).length=n:=by rw[j6,hlen]
   have k1:=ziM ((zaG l z6.toNat z7.toNat z8.toNat short n).map T.str) a9 (by lia)
   have k2:=zn5 ((zaG l z6.toNat z7.toNat z8.toNat short n).map T.str) a9 (by lia)
   have k3:(((zaG l z6.toNat z7.toNat z8.toNat short n).map T.str).drop z9.toNat).length+(((zaG l z6.toNat z7.toNat z8.toNat short n).map T.str).take z9.toNat).length<=jh:=by rw[QH,jQ,hlen2]; exact zat (by lia)
   refine zb3 (r:=.rt (.lst (((zaG l z6.toNat z7.toNat z8.toNat short n).drop z9.toNat++(zaG l z6.toNat z7.toNat z8.toNat short n).take z9.toNat).map T.str)) [some y9.t,some (.int n),some (.str letters),some (.bl short),some (.int sz),some (.str (Sx l)),some (.int z6),some (.int z7),some (.int z8),some (.lst ((zaG l z6.toNat z7.toNat z8.toNat short n).map T.str)),a,b,c,some (.int z9)]) (by
    rw[jA,YW,YX];generalize (zaG l z6.toNat z7.toNat z8.toNat short n).map T.str=L at k1 k2 k3;simp only[zai,d2,zp7,dOs,dOn,dV,gSl,zav,orG,ziC,zls,k1,k2,jx,jD,zaV,j5,jo];rw[if_pos k3]
    rfl) ⟨_,y9.t,_,rfl,_,y9,rfl,rfl,o9,?_⟩
   have perm:JF ((zaG l z6.toNat z7.toNat z8.toNat short n).drop z9.toNat++(zaG l z6.toNat z7.toNat z8.toNat short n).take z9.toNat) (zaG l z6.toNat z7.toNat z8.toNat short n):=by
    refine Nm.trans ?_;rw[QL]
   refine⟨by rw[perm.length_eq,hlen],perm.nodup_iff.mpr (zis (by lia) (fun z=>by have:=szs z; lia) (by lia) (by lia)),fun x hx=>?_⟩
   have hx':=perm.mem_iff.mp hx;unfold zaG at hx';obtain⟨k,hk,rfl⟩:=jy.mp hx'
   exact znW (by lia) (fun z=>by have:=szs z; lia) (by lia) hc5)
 exact⟨names,y,e,oy,gn⟩
def tO:Option Nat->T
 |none=>.non
 |some j=>.int j
def tN(k:Nat):T:=.int k
theorem zkb(m:Nat):zaR 0 m=(jf m).map tN:=by
 unfold zaR tN;refine Qv fun i _=>?_;rw[Nx]
theorem zjx{n j:Nat}(h:j < n):ixN n (j:Int)=some j:=by
 unfold ixN;rw[if_pos (by lia),if_pos (by lia),QN]
theorem zw0(n:Nat)(h:n<=1000):zlw 2 (n:Int)=true:=by unfold zlw; rw[Z4,decide_eq_true_iff]; left; decide
theorem zmf{x:Bag}(h:x.Ok){n:Nat}(hn:n<=30):∃(ps:List Nat) (y:Bag),zd2 [x.t,.int n]=some (.lst (ps.map tN),y.t)/\y.Ok/\Pairing ps n:=by
 have hm:=zw0 n (by lia)
 have hr2:znh (2*(n:Int))=true:=zeD (by lia) (by lia)
 have hr1:znh (n:Int)=true:=zeD (by lia) (by lia)
 have e2:(2*(n:Int)).toNat=2*n:=by lia
 have hlc:2*n<=zdN:=zjt (by lia)
 obtain⟨t,u,e,ps,y,rfl,rfl,oy,gn⟩:=zjE (n:=5) (d:=zdG) (ts:=[x.t,.int n]) (Q:=fun t u=>∃(ps:List Nat) (y:Bag),t=.lst (ps.map tN)/\u=y.t/\y.Ok/\Pairing ps n) (by
  unfold zdG
  refine zaj (s':=[some x.t,some (.int n),some (.lst ((ZX (2*n) none).map tO)),none,none]) (by
   have l1:=zmz (M:=[0]) (caps:=[none]) (dg:=dGn 0) (fe:=dC .non) (s:=[some x.t,some (.int n),none,none,none]) (fun _=>.non) (zaR 0 (2*n)) [] fun z _=>⟨[some z],rfl,rfl,rfl⟩;have l2:(zaR 0 (2*n)).map (fun _=>T.non)=(ZX (2*n) none).map tO:=by
    rw[Wg];refine(List.eq_replicate_iff (a:=tO none)).mpr ⟨by rw[j6,zbO],fun b hb=>?_⟩
    obtain⟨_,_,h⟩:=jy.mp hb;exact h.symm
   rw[l2,Zb] at l1
   simp[zay,dLC,zhV,dAc,dAn,d2,dC,dV,zdt,gI,hm,hr2,e2,zbO,hlc,zaB,l1,-Wg]) ?_
  refine zcW (its:=zaR 0 n) (fun i s=>∃(y:Bag) (pl:List (Option Nat)) (a b:Option T),s=[some y.t,some (.int n),some (.lst (pl.map tO)),a,b]/\y.Ok/\Half pl n i) (s1:=[some x.t,some (.int n),some (.lst ((ZX (2*n) none).map tO)),none,none])
   (by simp[zhV,dAc,dAn,dV,hr1]) ⟨x,_,_,_,rfl,h,.start n⟩ ?_ ?_
  ·rintro i z s hz ⟨y,pl,a,b,rfl,oy,hp⟩;obtain⟨hi,rfl⟩:=zfQ hz;refine⟨[some y.t,some (.int n),some (.lst (pl.map tO)),some (.int i),b],by simp[dGn],?_⟩
   have hpl:=hp.len;have fl:(zaw pl).length+2*i=2*n:=by rw[zlh]; exact hp.free
   -- the free places
   refine zaj (s':=[some y.t,some (.int n),some (.lst (pl.map tO)),some (.int i),some (.lst ((zaw pl).map tN))]) (by
    have l1:=zjs (M:=[0,2]) (caps:=[none,some 2]) (dg:=dGn 0) (ft:=dB (d2 gIs (d2v za4 1 (dV 0)) (dC .non))) (fe:=dV 0) (s:=[some y.t,some (.int n),some (.lst (pl.map tO)),some (.int i),b])
     (fun t=>match t with | .int j=>decide (pl[j.toNat]?=some none) | _=>false) id (zaR 0 (2*n)) [] (fun z hz=>by
      rw[zkb] at hz;obtain⟨j,hj,rfl⟩:=jy.mp hz;have hj':j < pl.length:=by rw[hpl]; exact jk.mp hj
      have a1:atI (pl.map tO) (j:Int)=some (tO pl[j]):=ziY (by rw[ji,j3 hj']; rfl)
      refine⟨[some (tN j),some (.lst (pl.map tO))],rfl,?_,fun _=>rfl,rfl⟩;cases ho:pl[j] with
      |none=>simp[dB,d2,d2v,dV,dC,tN,za4,orG,gIx,a1,ho,tO,gIs,isN,hj']
      | some k=>simp[dB,d2,d2v,dV,dC,tN,za4,orG,gIx,a1,ho,tO,gIs,isN,hj'])
    have l2:((zaR 0 (2*n)).filter (fun t=>match t with |.int j=>decide (pl[j.toNat]?=some none) |_=>false)).map id=(zaw pl).map tN:=by
     rw[zkb,gq,List.map_id,zaw,hpl];refine congrArg _ (YL fun j _=>?_);simp[tN]
    rw[l2,Zb] at l1
    simp[zay,dLC,zhV,dAc,dAn,d2,dC,dV,zdt,gI,hm,hr2,e2,zbO,hlc,l1]) ?_
   have hl0:0 < (zaw pl).length:=by lia
   refine dg_ oy ((zaw pl).length - 1) (by lia) (by lia) fun z y' e o' a' b'=>?_
   have hl1:1+z.toNat < (zaw pl).length:=by lia
   have m0:=zh3 (Qa hl0);have m1:=zh3 (Qa hl1);have ne:(zaw pl)[0]≠(zaw pl)[1+z.toNat]:=fun q=>by
    have:=(ZB (ziD pl)).mp q;lia
   have g1:atI ((zaw pl).map tN) (1+z)=some (tN (zaw pl)[1+z.toNat]):=by
    rw[show (1+z:Int)=((1+z.toNat:Nat):Int) by lia]
    exact ziY (by rw[ji,j3 hl1]; rfl)
   have g0:atI ((zaw pl).map tN) 0=some (tN (zaw pl)[0]):=by
    have:=ziY (xs:=(zaw pl).map tN) (i:=0) (x:=tN (zaw pl)[0]) (by rw[ji,j3 hl0]; rfl)
    simpa using this
   have i1:=zjx m1.1;have i0:=zjx m0.1;have st1:((pl.map tO).set (zaw pl)[1+z.toNat] (T.int i))=(pl.set (zaw pl)[1+z.toNat] (some i)).map tO:=by rw[WG]; rfl
   have st2:(((pl.set (zaw pl)[1+z.toNat] (some i)).map tO).set (zaw pl)[0] (T.int i))=((pl.set (zaw pl)[1+z.toNat] (some i)).set (zaw pl)[0] (some i)).map tO:=(WG (l:=pl.set (zaw pl)[1+z.toNat] (some i)) (a:=some i) (f:=tO)).symm
   refine zaj (s':=[some y'.t,some (.int n),some (.lst ((pl.set (zaw pl)[1+z.toNat] (some i)).map tO)),some (.int i),some (.lst ((zaw pl).map tN))]) (by
    rw[<-st1]
    simp only[zfn,d2,d1,dV,dC,zal,dAc,dAn,za4,orG,gIx,zav,ziC,gSb,gI,zcF,g1,j6,e,tN,i1,jx,jD,zaV,j5,jo,if_true,Qs,Qt]) ?_
   refine zb3 (r:=.nx [some y'.t,some (.int n),some (.lst (((pl.set (zaw pl)[1+z.toNat] (some i)).set (zaw pl)[0] (some i)).map tO)),some (.int i),some (.lst ((zaw pl).map tN))]) (by
    rw[<-st2];have i0':ixN ((pl.set (zaw pl)[1+z.toNat] (some i)).map tO).length (((zaw pl)[0]:Nat):Int)=some (zaw pl)[0]:=by rw[j6,Q2]; exact i0
    simp only[zfn,d2,dV,dC,za4,orG,gIx,g0,tN,i0',jx,jD,zaV,j5,jo,Qs,Qt]) ⟨y',_,_,_,rfl,o',hp.next hi m0.2 m1.2 ne⟩
  ·rintro s ⟨y,pl,a,b,rfl,oy,hp⟩;rw[zbO] at hp;obtain⟨ps,pr,rfl⟩:=hp.done;refine zb3 (r:=.rt (.lst ((ps.map some).map tO)) [some y.t,some (.int n),some (.lst ((ps.map some).map tO)),a,b]) (by simp[zai,dV,hasAll]) ⟨_,_,_,rfl,ps,y,?_,rfl,oy,pr⟩
   rw[jU]
   rfl)
 exact⟨ps,y,e,oy,gn⟩
def shp:List (List Nat):=[[0,0],[0,1,2,0,1,2],[0,1,2,0,3,2,1,3],[0,1,2,3,4,0,1,2,3,4],[0,1,2,3,4,5,6,0,1,2,3,4,5,6],[0,1,2,3,4,5,6,7,8,0,1,2,3,4,5,6,7,8]]
def tL(l:List Nat):T:=.lst (l.map tN)
theorem zrO{z:Int}(h0:0<=z)(h:z < 6):∃(sh:List Nat) (m:Nat),atI (shp.map tL) z=some (tL sh)/\Pairing sh m/\1<=m/\m<=9/\sh∈shp:=by
 have:z=0∨z=1∨z=2∨z=3∨z=4∨z=5:=by lia
 rcases this with rfl |rfl |rfl |rfl |rfl |rfl
 ·exact⟨_,1,rfl,.of_dec rfl rfl rfl,by lia,by lia,by simp[shp]⟩
 ·exact⟨_,3,rfl,.of_dec rfl rfl rfl,by lia,by lia,by simp[shp]⟩
 ·exact⟨_,4,rfl,.of_dec rfl rfl rfl,by lia,by lia,by simp[shp]⟩
 ·exact⟨_,5,rfl,.of_dec rfl rfl rfl,by lia,by lia,by simp[shp]⟩
 ·exact⟨_,7,rfl,.of_dec rfl rfl rfl,by lia,by lia,by simp[shp]⟩
 ·exact⟨_,9,rfl,.of_dec rfl rfl rfl,by lia,by lia,by simp[shp]⟩
def zwC(c:Nat):T->T
 |.int k=>.int (c+k)
 |t=>t
def zvi(n:Nat):Sg->Nat
 |_::_::_::_::some (T.int c)::_=>n - c.toNat
 |_=>0
theorem zow{x:Bag}(h:x.Ok){n:Nat}(hn:n<=30):∃(ps:List Nat) (y:Bag),zeN [x.t,.int n]=some (.lst (ps.map tN),y.t)/\y.Ok/\Pairing ps n:=by
 obtain⟨t,u,e,ps,y,rfl,rfl,oy,gn⟩:=zjE (n:=7) (d:=zew) (ts:=[x.t,.int n]) (Q:=fun t u=>∃(ps:List Nat) (y:Bag),t=.lst (ps.map tN)/\u=y.t/\y.Ok/\Pairing ps n) (by
  unfold zew;have q2:2<=jh:=zat (by lia)
  have q4:4<=jh:=zat (by lia)
  have q6:6<=jh:=zat (by lia)
  have q8:8<=jh:=zat (by lia)
  have q10:10<=jh:=zat (by lia)
  have q14:14<=jh:=zat (by lia)
  have q18:18<=jh:=zat (by lia)
  have q4':4 < jh:=zbK (by lia)
  have q5':5 < jh:=zbK (by lia)
  refine zaj (s':=[some x.t,some (.int n),some (.lst ((shp.take 4).map tL)),none,none,none,none]) (by
   simp[zay,zdO,dAc,dAn,dC,zaB,shp,tL,tN,q2,q4,q6,q8,q10]) ?_
  refine zaj (s':=[some x.t,some (.int n),some (.lst ((shp.take 5).map tL)),none,none,none,none]) (by
   simp[dDo,zgn,zdO,dAc,dAn,dC,shp,tL,tN,q14,q4',zgZ,ziy]) ?_
  refine zaj (s':=[some x.t,some (.int n),some (.lst (shp.map tL)),none,none,none,none]) (by
   simp[dDo,zgn,zdO,dAc,dAn,dC,shp,tL,tN,q18,q5',zgZ,ziy]) ?_
  refine zaj (s':=[some x.t,some (.int n),some (.lst (shp.map tL)),some (.lst ([].map tN)),none,none,none]) (by
   simp[zay,zdO,dAc,dAn]) ?_
  refine zaj (s':=[some x.t,some (.int n),some (.lst (shp.map tL)),some (.lst ([].map tN)),some (.int ((0:Nat):Int)),none,none]) (by
   simp[zay,dC]) ?_
  refine zdl (fun s=>∃(y:Bag) (ps:List Nat) (c:Nat) (a b:Option T),s=[some y.t,some (.int n),some (.lst (shp.map tL)),some (.lst (ps.map tN)),some (.int c),a,b]/\y.Ok/\Pairing ps c/\c<=n)
   (zvi n) (by show n - ((0:Nat):Int).toNat < 100; lia) ⟨x,[],0,_,_,rfl,h,.nil,by lia⟩ ?_ ?_
  ·rintro s ⟨y,ps,c,a,b,rfl,oy,hp,hc⟩;refine⟨decide ((c:Int) < n),[some y.t,some (.int n),some (.lst (shp.map tL)),some (.lst (ps.map tN)),some (.int c),a,b],by simp[dB,d2,dV,gLt,zo7],?_⟩
   rcases gJ c n with hlt |hlt
   case inr=>rw[if_neg (by simpa using hlt)]; trivial
   rw[if_pos (by simpa using hlt)]
   refine dg_ oy 6 (by decide) (by decide) fun z y1 e1 o1 a1 b1=>?_
   obtain⟨sh0,m0,at0,hp0,hm0,hm0',hs0⟩:=zrO a1 b1;have hl0:=hp0.1;have hpl:=hp.1
   refine zaj (s':=[some y1.t,some (.int n),some (.lst (shp.map tL)),some (.lst (ps.map tN)),some (.int c),some (tL sh0),b]) (by
    simp only[zay,d2,d2v,dV,dC,zal,dAc,dAn,e1,za4,orG,gIx,at0,jx,jD,zaV,j5,jo,Qs,Qt]
    rfl) ?_
   obtain⟨sh,m,eif,hps,hm1,hm2,hcm,hss⟩:∃ sh m,zcb (dB (d2 gGt (d2 zav (dV 4) (d2 zhE (d1 zcF (dV 5)) (dC (.int 2)))) (dV 1))) (zay 5 (d2v za4 2 (dC (.int 0)))) zaD [some y1.t,some (.int n),some (.lst (shp.map tL)),some (.lst (ps.map tN)),some (.int c),some (tL sh0),b]=some (.nx [some y1.t,some (.int n),some (.lst (shp.map tL)),some (.lst (ps.map tN)),some (.int c),some (tL sh),b])/\Pairing sh m/\1<=m/\m<=9/\c+m<=n/\sh∈shp:=by
    have ed:(((sh0.length:Nat):Int)) / 2=m0:=by lia
    have hd:zpe ((sh0.length:Nat):Int) 2=true:=rfl
    by_cases hg:c+m0<=n
    ·refine⟨sh0,m0,?_,hp0,hm0,hm0',hg,hs0⟩;have hg':¬ (n:Int) < c+m0:=by lia
     simp[zcb,dB,d2,d1,dV,dC,gGt,gI1,zav,orG,ziC,zhE,gI,zcF,tL,j6,hd,ed,hg',zaD]
    ·refine⟨[0,0],1,?_,.of_dec rfl rfl rfl,by lia,by lia,by lia,by simp[shp]⟩
     have hg':(n:Int) < c+m0:=by lia
     have a0:atI (shp.map tL) 0=some (tL [0,0]):=rfl;simp only[zcb,dB,d2,d2v,d1,dV,dC,gGt,gI1,zav,orG,ziC,zhE,gI,zcF,tL,j6,hd,ed,hg',zay,za4,gIx,jx,jD,zaV,j5,jo,if_true,decide_true,Qs,Qt];rfl
   refine zaj eif ?_;have hl:=hps.1;refine dg_ o1 ((ps.length:Int)+1) (by lia) (by lia) fun z2 y2 e2 o2 a2 b2=>?_
   refine zaj (s':=[some y2.t,some (.int n),some (.lst (shp.map tL)),some (.lst (ps.map tN)),some (.int c),some (tL sh),some (.int z2)]) (by
    simp only[zay,d2,d1,dV,dC,zal,dAc,dAn,e2,zav,orG,ziC,zcF,j6,jx,jD,zaV,j5,jo,Qs,Qt]
    rfl) ?_
   have c1:=zn5 (ps.map tN) a2 (by rw[j6]; lia)
   have c2:=ziM (ps.map tN) a2 (by rw[j6]; lia)
   have l1:=zmz (M:=[0,2]) (caps:=[none,some 4]) (dg:=dGn 0) (fe:=d2 zav (dV 1) (dV 0)) (s:=[some y2.t,some (.int n),some (.lst (shp.map tL)),some (.lst (ps.map tN)),some (.int c),some (tL sh),some (.int z2)]) (zwC c) (sh.map tN) [] fun z hz=>by
    obtain⟨k,_,rfl⟩:=jy.mp hz;exact⟨[some (tN k),some (.int c)],rfl,rfl,rfl⟩
   have l2:(sh.map tN).map (zwC c)=(sh.map fun k=>c+k).map tN:=by
    rw[jU,jU];refine Qv fun k _=>?_;show T.int ((c:Int)+k)=T.int ((c+k:Nat):Int);rw[J4]
   rw[l2,Zb] at l1;have hlc:sh.length<=zdN:=zjt (by lia)
   have z2l:z2.toNat<=ps.length:=by lia
   have s1:((ps.map tN).take z2.toNat).length+((sh.map fun k=>c+k).map tN).length<=jh:=zat (by rw[jQ,j6,j6,j6]; lia)
   have s2:((ps.map tN).take z2.toNat++(sh.map fun k=>c+k).map tN).length+((ps.map tN).drop z2.toNat).length<=jh:=zat (by rw[ju,jQ,j6,j6,j6,QH,j6]; lia)
   refine zaj (s':=[some y2.t,some (.int n),some (.lst (shp.map tL)),some (.lst ((ps.take z2.toNat++(sh.map fun k=>c+k)++ps.drop z2.toNat).map tN)),some (.int c),some (tL sh),some (.int z2)]) (by
    have l3:(ps.take z2.toNat++(sh.map fun k=>c+k)++ps.drop z2.toNat).map tN=(ps.map tN).take z2.toNat++(sh.map fun k=>c+k).map tN++(ps.map tN).drop z2.toNat:=by
     rw[jA,jA,YX,YW]
    rw[l3];have l1':=l1;simp only[zay,d2,dV,dSl,dOn,dOs,zkx,gSl,c1,c2,dLC,zdc,tL,l1,zav,orG,ziC,zls,s1,s2,hlc,j6,jx,jD,zaV,j5,jo,if_true,Qs,Qt] at l1' ⊢;rw[l1'];simp only[s1,s2,c2,jx,jD,zaV,j5,jo,if_true,Qs,Qt]
    rfl) ?_
   refine zb3 (r:=.nx [some y2.t,some (.int n),some (.lst (shp.map tL)),some (.lst ((ps.take z2.toNat++(sh.map fun k=>c+k)++ps.drop z2.toNat).map tN)),some (.int ((c+m:Nat):Int)),some (tL sh),some (.int z2)]) (by
    have ed:(((sh.length:Nat):Int)) / 2=m:=by lia
    have hd:zpe ((sh.length:Nat):Int) 2=true:=rfl;rw[J4]
    simp only[zts,d2,d1,dV,dC,zhE,gI,zcF,tL,j6,hd,ed,jx,jD,zaV,j5,jo,if_true,Qs,Qt]) ⟨⟨y2,_,_,_,_,rfl,o2,hp.put hps,hcm⟩,?_⟩
   show n - ((c+m:Nat):Int).toNat < n - (c:Int).toNat;lia
  ·rintro s0 s ⟨y,ps,c,a,b,rfl,oy,hp,hc⟩ ht;have hlt:¬ c < n/\s=[some y.t,some (.int n),some (.lst (shp.map tL)),some (.lst (ps.map tN)),some (.int c),a,b]:=by
    simp[dB,d2,dV,gLt,zo7] at ht;exact⟨by lia,ht.2.symm⟩
   obtain⟨hge,rfl⟩:=hlt;have:c=n:=by lia
   subst this
   exact zb3 (r:=.rt (.lst (ps.map tN)) [some y.t,some (.int c),some (.lst (shp.map tL)),some (.lst (ps.map tN)),some (.int c),a,b]) (by simp[zai,dV,hasAll]) ⟨_,_,_,rfl,ps,y,rfl,rfl,oy,hp⟩)
 exact⟨ps,y,e,oy,gn⟩
def zmq(names:List Str):T->T
 |.int k=>.str (names.getD k.toNat jS)
 |t=>t
theorem zk0{f:List T->Option (T × T)}{s0:T}{m:Nat}{names:List Str}{ps:List Nat}{y y':Bag}(hm:m<=30)(hN:zgx names m)(hp:Pairing ps m)(e:f [y.t,.int m]=some (.lst (ps.map tN),y'.t)) :
  zai [] (dLC [3] [none,some 2] (zdc (zal f 3 (dAc (dV 1) dAn))) (dGn 0) zf8 (d2 za4 (dV 1) (dV 0))) [some s0,some (.int m),some (.lst (names.map T.str)),some y.t]
   = some (.rt (.lst ((ps.map fun k=>names.getD k jS).map T.str)) [some s0,some (.int m),some (.lst (names.map T.str)),some y'.t]):=by
 have hl:=hp.1;have l1:=zmz (M:=[3]) (caps:=[none,some 2]) (dg:=dGn 0) (fe:=d2 za4 (dV 1) (dV 0)) (s:=[some s0,some (.int m),some (.lst (names.map T.str)),some y'.t]) (zmq names) (ps.map tN) [] fun z hz=>by
  obtain⟨k,hk,rfl⟩:=jy.mp hz;have hk':k < names.length:=by rw[hN.1]; exact hp.2 k hk
  have a1:atI (names.map T.str) (k:Int)=some (zmq names (tN k)):=ziY (by
   rw[ji,j3 hk'];show _=some (T.str (names.getD ((k:Int).toNat) jS))
   rw[QN,zhD hk']; rfl)
  refine⟨[some (tN k),some (.lst (names.map T.str))],rfl,?_,rfl⟩;simp only[d2,dV,za4,orG,gIx,tN,a1,jx,jD,zaV,j5,jo]
 have l2:(ps.map tN).map (zmq names)=(ps.map fun k=>names.getD k jS).map T.str:=by
  rw[jU,jU];refine Qv fun k _=>?_;show T.str (names.getD ((k:Int).toNat) jS)=T.str (names.getD k jS);rw[QN]
 rw[l2,Zb] at l1;have hlc:ps.length<=zdN:=zjt (by lia)
 simp only[zai,dLC,zdc,zal,dAc,dAn,dV,e,l1,hlc,j6,jx,jD,zaV,j5,jo,Qs,Qt,if_true];rfl
theorem zpg(ns:List Int):∃ wd:List Str,zge [.scr ns]=some (.lst (wd.map T.str))/\GoodWord wd:=by
 have c0:zaW [.scr ns,.int 0]=some (.int (ns.getD 0 0)):=zhN ns 0;have c1:zaW [.scr ns,.int 1]=some (.int (ns.getD 1 0)):=zhN ns 1;have c2:zaW [.scr ns,.int 2]=some (.int (ns.getD 2 0)):=zhN ns 2;generalize ns.getD 0 0=k0 at c0;generalize ns.getD 1 0=k1 at c1;generalize ns.getD 2 0=k2 at c2;obtain⟨m,em,hm⟩:=zqm k0;obtain⟨names,y0,en,o0,gN⟩:=znV (zfz k1) (n:=m) (by lia)
 have ob:=zfz k2;have b1:=zkM k1;have b2:=zkM k2;generalize zjU k2=B at ob b2;generalize zjU k1=B1 at b1 en
 obtain⟨t,e,wd,rfl,gw⟩:=zcG (n:=4) (d:=zfw) (ts:=[.scr ns]) (Q:=fun t=>∃ wd:List Str,t=.lst (wd.map T.str)/\GoodWord wd) (by
  unfold zfw
  refine zaj (s':=[some (.scr ns),some (.int m),none,none]) (by
   simp[zay,zar,dAc,dAn,dV,dC,zaB,em,c0]) ?_
  refine zaj (s':=[some (.scr ns),some (.int m),some (.lst (names.map T.str)),none]) (by
   simp[zay,zar,zgo,dAc,dAn,dV,dC,c1,b1,en]) ?_
  refine zaj (s':=[some (.scr ns),some (.int m),some (.lst (names.map T.str)),some B.t]) (by
   simp[zay,zar,dAc,dAn,dV,dC,c2,b2]) ?_
  have tail:∀ y:Bag,y.Ok->Run (zai [] (dLC [3] [none,some 2] (zdc (zal zd2 3 (dAc (dV 1) dAn))) (dGn 0) zf8 (d2 za4 (dV 1) (dV 0)))) [some (.scr ns),some (.int m),some (.lst (names.map T.str)),some y.t] (fun r=>∃ t s,r=.rt t s/\∃ wd:List Str,t=.lst (wd.map T.str)/\GoodWord wd):=by
   intro y oy;obtain⟨ps,y',e,o',hp⟩:=zmf oy hm;exact zb3 (zk0 hm gN hp e) ⟨_,_,rfl,_,rfl,zgb hm gN.1 gN.2.1 gN.2.2 hp⟩
  refine dg_ ob 2 (by decide) (by decide) fun z y e o a b=>?_
  have i1:za4 B.t (.int 1)=some (.int B.b):=rfl;have t1:dB (d2 gEq (d2v za4 3 (dC (.int 1))) (dC (.int 0))) [some (.scr ns),some (.int m),some (.lst (names.map T.str)),some B.t]=some (B.b == 0,[some (.scr ns),some (.int m),some (.lst (names.map T.str)),some B.t]):=by
   simp only[dB,d2,d2v,dC,i1,gEq,zdx,jx,jD,zaV,j5,jo]
  have t2:dB (d2 gEq (zal zac 3 (dAc (dC (.int 2)) dAn)) (dC (.int 1))) [some (.scr ns),some (.int m),some (.lst (names.map T.str)),some B.t]=some (z == 1,[some (.scr ns),some (.int m),some (.lst (names.map T.str)),some y.t]):=by
   simp only[dB,d2,zal,dAc,dAn,dC,e,gEq,zdx,jx,jD,zaV,j5,jo,Qs,Qt]
  by_cases hb:B.b=0
  ·by_cases hz:z=1
   ·obtain⟨ps,y',e',o',hp⟩:=zow o hm;have wr:=zk0 (s0:=.scr ns) hm gN hp e';refine⟨_,zlP (s':=[some (.scr ns),some (.int m),some (.lst (names.map T.str)),some y'.t]) (t:=.lst ((ps.map fun k=>names.getD k jS).map T.str)) ?_,_,_,rfl,_,rfl,zgb hm gN.1 gN.2.1 gN.2.2 hp⟩;rw[<-wr];simp only[zcb,ziL,t1,t2,hb,hz,beq_self_eq_true,j5,if_true]
   ·refine zaj (s':=[some (.scr ns),some (.int m),some (.lst (names.map T.str)),some y.t]) ?_ (tail y o);have hz':(z == 1)=false:=by simpa using hz
    simp only[zcb,ziL,t1,t2,hb,hz',beq_self_eq_true,j5,if_true];rfl
  ·refine zaj (s':=[some (.scr ns),some (.int m),some (.lst (names.map T.str)),some B.t]) ?_ (tail B ob);have hb':(B.b == 0)=false:=by simpa using hb
   simp only[zcb,ziL,t1,hb',j5]
   rfl)
 exact⟨wd,e,gw⟩
end Dw
local macro_rules | `(tactic| simp_all? [$args,*]) => `(tactic| simp (disch := (first | lia | (simp only [List.length_map, List.length_append, List.length_cons, List.length_nil, List.length_reverse, List.length_range, List.length_set, List.length_take, List.length_drop, List.length_zipIdx]; lia))) only [L3.vdV, L3.vdC, L3.vd2, L3.zwW, L3.vdB, L3.zu8, L3.zun, L3.zwN, L3.zuf, L3.zrp, L3.zwP, L3.zwU, L3.zwV, L3.zuh, L3.zu7, L3.zrn, L3.zwO, L3.zwM, L3.zwL, L3.zu9, L3.zub, L3.zrl, L3.zua, L3.zuk, L3.zwT, L3.zrk, L3.zug, L3.zue, L3.zrj, L3.zum, L3.zwK, L3.zuc, L3.zwS, L3.zwR, L3.zwQ, L3.zro, L3.zpj, L3.zpi, L3.vd1, L3.zrm, L3.zwX, L3.zui, L3.zud, L3.zul, L3.znp, L3.zu5, L3.zri, L3.zuj, L3.zu6, L3.vnT, L3.zrr, L3.zrq, L3.zuD, L3.vSb, L3.zx1, L3.zxa, L3.zx2, L3.zwY, L3.vLt, L3.vLe, L3.vGt, L3.vGe, L3.zx8, L3.zwZ, L3.zx9, L3.zx0, L3.zx7, L3.zwc, L3.zuB, L3.zuw, L3.zuC, L3.zrs, L3.zlC, L3.zux, L3.zuA, L3.zuy, L3.zk3, L3.zrv, L3.zlD, L3.zpp, L3.zuu, L3.zus, L3.zut, L3.zru, L3.zrt, L3.zrw, L3.zuE, L3.zpl, L3.zx3, L3.zx4, L3.zpm, L3.zx5, L3.zpn, L3.zpq, L3.zlB, L3.zrf, L3.zrg, L3.zrh, L3.zlA, L3.zre, L3.zle, L3.zuq, L3.zup, L3.zuo, L3.zuG, L3.zuF, L3.zmG, L3.zu4, L3.sz0, L3.sz1, L3.sz2, L3.sz3, L3.sz4, List.getElem?_cons_zero, List.getElem?_cons_succ, L3.zaV, Option.bind_some, Option.map_some, List.set_cons_succ, List.set_cons_zero, List.length_cons, List.length_nil, List.length_map, if_true, if_false, Bool.not_true, Bool.not_false, decide_true, decide_false, Bool.false_eq_true, L3.zbA, L3.zkt, Nat.reduceAdd, Nat.reduceLT, Int.zero_add, $args,*])
namespace Dw
open PySem L2 L3
def zkB(l:List Str):List (Key × T):=l.map fun x=>(.inr x,.bl true)
theorem zfh(l:List Str)(x:Str):zfg (zkB l) (.inr x) (.bl true)=zkB (stp l x):=by
 have ha:((zkB l).any fun kv=>decide (kv.1=Z2 x))=decide (x∈l):=by
  unfold zkB;rw[WD]
  induction l with
  |nil=>rfl
  |cons y l ih=>
   rw[Z7,ih]
   by_cases h:y=x
   ·subst h; simp
   ·have:¬ x=y:=fun q=>h q.symm;simp[h,this]
 unfold zfg stp;rw[ha]
 by_cases h:x∈l
 ·rw[if_pos (by simpa using h),if_pos h]
  unfold zkB;rw[jU];refine Qv fun y _=>?_;show (if (Z2 y:Key)=Z2 x then _ else _)=_
  split<;>rfl
 ·rw[if_neg (by simpa using h),if_neg h]
  unfold zkB;rw[jA]; rfl
theorem zkD(s:Sg):∀(wd acc:List Str),znk [] [none] (dGn 0) zf8 (dV 0) (dC (.bl true)) (wd.map T.str) (zkB acc) s=some (zkB (wd.foldl stp acc),s)
 |[],acc=>rfl
 |x::wd,acc=>by
  show znk [] [none] (dGn 0) zf8 (dV 0) (dC (.bl true)) (wd.map T.str) (zfg (zkB acc) (.inr x) (.bl true)) s=_;rw[zfh,zkD s wd,Zr]
theorem zgX{wd:List Str}(h:wd.length<=1000):zcA [some (.lst (wd.map T.str))]=some (.rt (.lst ((za0 wd).map T.str)) [some (.lst (wd.map T.str))]):=by
 have h1:=zkD [some (.lst (wd.map T.str))] wd [];have hlc:wd.length<=zdN:=zjt (by lia)
 have e0:zkB []=[]:=rfl;rw[e0] at h1;have l1:zdT (.dct (zkB (za0 wd)))=some (.lst ((za0 wd).map T.str)):=by
  show some (T.lst ((zkB (za0 wd)).map fun kv=>kT kv.1))=_;unfold zkB;rw[jU]; rfl
 have h2:dDC [] [none] (zdc (dV 0)) (dGn 0) zf8 (dV 0) (dC (.bl true)) [some (.lst (wd.map T.str))]=some (.dct (zkB (za0 wd)),[some (.lst (wd.map T.str))]):=by
  unfold dDC
  simp_all?[hlc,h1]
  rfl
 unfold zcA
 simp_all?[h2,l1]
theorem ze1{wd:List Str}(h:wd.length<=1000):zaC [.lst (wd.map T.str)]=some (.lst ((za0 wd).map T.str)):=by
 first
  |exact zmR (zgX h)
  |exact zmP (zgX h)
theorem zeX{wd:List Str}(h:wd.length<=1000)(x:Str):zb5 [.lst (wd.map T.str),.str x]=some (.lst ((zaa wd x).map nT)):=by
 have e:=ziu (M:=[]) (caps:=[none,none,some 1]) (fi:=dEn (dAc (dV 0) dAn)) (dg:=dGt [0,1]) (ft:=dB (d2 gEq (dV 1) (dV 2))) (fe:=dV 0) (s:=[some (.lst (wd.map T.str)),some (.str x)]) wd.zipIdx (fun p=>T.tup [.int (p.2:Nat),.str p.1]) (fun p=>decide (p.1=x)) (fun p=>nT p.2) (by simp_all?[zoc]) (by simp; lia) (by
  intro p hp
  refine⟨_,by simp_all?[]<;>rfl,by simp_all?[],fun _=>by simp_all?[],rfl⟩)
 have e2:(wd.zipIdx.filter fun p=>decide (p.1=x)).map (fun p=>nT p.2)=(zaa wd x).map nT:=by
  rw[show (fun(p:Str × Nat)=>nT p.2)=nT∘JO from rfl,<-jU]
  congr 1
  unfold zaa;refine(?_:_=(jf wd.length).filter _);have q:∀(l:List Str) (n:Nat) (g:Nat->Bool),(∀ j (hj:j < l.length),g (n+j)=decide (l[j]=x))->((l.zipIdx n).filter fun p=>decide (p.1=x)).map JO=((jf l.length).map (n+·)).filter g:=by
   intro l
   induction l with
   |nil=>intro n g _; rfl
   |cons y l ih=>
    intro n g hg;have h0:=hg 0 (by simp)
    rw[N4,Qk,jm,ZI,jj,Qk];have hr:=ih (n+1) g (fun j hj=>by have:=hg (j+1) (by simp; lia); rw[show n+1+j=n+(j+1) by lia]; simpa using this)
    have hm:(List.map (fun x=>n+x) (List.map JN (jf l.length)))=(jf l.length).map (fun x=>n+1+x):=by
     rw[jU]; refine Qv fun j _=>?_;show n+(j+1)=n+1+j; lia
    rw[hm];have h0':g (n+0)=decide (y=x):=by simpa using h0
    simp only[Nat.add_zero] at h0' ⊢;rw[h0']
    by_cases hy:y=x
    ·simp only[hy,decide_true,if_true,jj,hr]
    ·simp only[hy,decide_false,QC,if_false,hr]
  have:=q wd 0 (fun j=>decide (wd[j]?=some x)) (fun j hj=>by rw[Z5,j3 hj]; simp)
  rw[this]
  congr 1
  simp
 rw[e2] at e;refine zcQ ?_;show Run zca [some (.lst (wd.map T.str)),some (.str x)] _;unfold zca;exact zbp (by simp_all?[e]<;>rfl) rfl
theorem zlp{wd:List Str}(h:wd.length<=1000){x:Str}{i j:Nat}(hp:zaa wd x=[i,j]):zdv [.lst (wd.map T.str),.str x]=some (.lst ((zkL wd i j).map T.str)):=by
 have st:=zeX h x;rw[hp] at st;obtain⟨h1,h2⟩:=zaT hp;refine zcQ ?_;show Run zd6 [some (.lst (wd.map T.str)),some (.str x),none,none] _;unfold zd6;refine zab (by simp_all?[st,jj,Z3]<;>rfl) ?_
 have c:=zor (wd.map T.str) (t:=(i:Int)+1) (u:=(j:Int)) (by lia) (by lia) (by simp; lia)
 have e1:((i:Int)+1).toNat=i+1:=by lia
 rw[e1,QN] at c;refine zbp (by simp_all?[zkx,gSl,c]<;>rfl) ?_
 unfold zkL;rw[YX,YW]
theorem zgp{wd:List Str}(h:wd.length<=1000){x:Str}{i j:Nat}(hp:zaa wd x=[i,j]):zb0 [.lst (wd.map T.str),.str x]=some (.lst (((za0 wd).filter (crs wd x)).map T.str)):=by
 have hb:=zlp h hp;have hn:=ze1 h;have hf:=zeu wd
 have e:=ziu (M:=[]) (caps:=[none,some 2]) (fi:=zdc (zar zaC (dAc (dV 0) dAn))) (dg:=dGn 0) (ft:=dB (d2 gEq (d2L zgd (dV 1) (dV 0)) (dC (.int 1)))) (fe:=dV 0) (s:=[some (.lst (wd.map T.str)),some (.str x),some (.lst ((zkL wd i j).map T.str))]) (za0 wd) T.str (crs wd x) T.str (by simp_all?[hn]) (by lia) (by
  intro y hy;refine⟨_,by simp_all?[]<;>rfl,?_,fun _=>by simp_all?[],rfl⟩
  have e1:decide (((((zkL wd i j).count y:Nat):Int))=1)=decide ((zkL wd i j).count y=1):=by
   by_cases q:(zkL wd i j).count y=1
   ·rw[q]; rfl
   ·rw[decide_eq_false q,decide_eq_false (by lia)]
  simp_all?[e1,zh6 hp])
 have key:Run zbd [some (.lst (wd.map T.str)),some (.str x),none] fun r=>∃ s,r=.rt (.lst (((za0 wd).filter (crs wd x)).map T.str)) s:=by
  unfold zbd;refine zab (by simp_all?[hb]<;>rfl) ?_
  exact zbp (by simp_all?[e]<;>rfl) rfl
 first
  |exact zmQ key
  |exact zcQ key
def zak(ns:List Str)(adj:Str->Str->Bool):T:=.fd (ns.map fun x=>(Z2 x,.lst ((mts ns adj x).map T.str)))
theorem zcw{ns:List Str}{adj:Str->Str->Bool}{x:Str}(h:x∈ns):za4 (zak ns adj) (.str x)=some (.lst ((mts ns adj x).map T.str)):=by
 unfold zak;rw[zey,zep,zhG h];rfl
theorem zcg(ns:List Str)(adj:Str->Str->Bool)(s s':Sg)(f:DE)(h:f s=some (zak ns adj,s')):zdc f s=some (ns.map T.str,s'):=by
 unfold zdc;rw[h];unfold zak;simp only[j5,jU];rfl
theorem zms{ns:List Str}{adj:Str->Str->Bool}(g:Gr ns adj)(x:Str):(mts ns adj x).length<=30:=Q5 (ZO _ _) g.len
theorem zeW{ns:List Str}{j:Nat}{z:T}(h:(ns.map T.str)[j]?=some z):∃ x,ns[j]?=some x/\z=.str x:=by
 rw[ji] at h;obtain⟨x,h1,h2⟩:=Qm h;exact⟨x,h1,h2.symm⟩
theorem zaY{ns:List Str}{P:Str->Prop}{j:Nat}{x:Str}(h:∀ y∈ns.take j,P y)(hx:ns[j]?=some x)(p:P x):∀ y∈ns.take (j+1),P y:=by
 intro y hy;rw[ZG,hx] at hy;rcases jz.mp hy with hy |hy
 ·exact h y hy
 ·have:y=x:=by simpa using hy
  rw[this]; exact p
def zhU:Option Str->T
 |none=>.non
 |some x=>.str x
theorem zjo{ns:List Str}{adj:Str->Str->Bool}(g:Gr ns adj):∃ r:Option Str,zd1 [zak ns adj]=some (zhU r)/\(∀ x,r=some x->x∈ns/\(mts ns adj x).length%2=1)/\(r=none->∀ x∈ns,(mts ns adj x).length%2=0):=by
 obtain⟨t,h,r,rfl,h1,h2⟩:=zcG (n:=2) (d:=zbS) (ts:=[zak ns adj]) (Q:=fun t=>∃ r:Option Str,t=zhU r/\(∀ x,r=some x->x∈ns/\(mts ns adj x).length%2=1)/\(r=none->∀ x∈ns,(mts ns adj x).length%2=0)) (by
  show Run zbS [some (zak ns adj),none] _;unfold zbS;refine zhj (its:=ns.map T.str) (fun j s=>(∀ y∈ns.take j,(mts ns adj y).length%2=0)/\∃ a,s=[some (zak ns adj),a]) (zcg ns adj _ _ _ rfl) ⟨fun y hy=>by simp at hy,_,rfl⟩ ?_ ?_
  ·rintro j z s hz ⟨hj,a,rfl⟩;obtain⟨x,hx,rfl⟩:=zeW hz;have hxn:=jJ hx;refine⟨_,by simp_all?[]<;>rfl,?_⟩
   by_cases hp:(mts ns adj x).length%2=1
   ·have e1:decide ((((mts ns adj x).length:Nat):Int)%2=1)=true:=decide_eq_true (by lia)
    exact zjk (by simp_all?[zcw hxn,e1]<;>rfl) ⟨_,_,rfl,some x,rfl,fun y e=>by injection e with e; subst e; exact⟨hxn,hp⟩,fun e=>by cases e⟩
   ·have e1:decide ((((mts ns adj x).length:Nat):Int)%2=1)=false:=decide_eq_false (by lia)
    exact zg1 (by simp_all?[zcw hxn,e1]<;>rfl) ⟨zaY hj hx (by lia),_,rfl⟩
  ·rintro s ⟨hj,a,rfl⟩;refine zb3 (by simp_all?[]<;>rfl) ⟨_,_,rfl,none,rfl,fun x e=>(by cases e),fun _ x hx=>hj x ?_⟩
   rw[j6,Qw]; exact hx)
 exact⟨r,h,h1,h2⟩
theorem ziE:∀(l acc:List Str),(acc++l).Nodup->l.foldl stp acc=acc++l
 |[],acc,_=>by simp
 |x::l,acc,h=>by
  rw[Zr];have hx:x∉acc:=fun z=>(jW.mp h).2.2 x z x (.head _) rfl;have e:stp acc x=acc++[x]:=by unfold stp; rw[if_neg hx]
  rw[e,ziE l (acc++[x]) (by simpa using h)]
  simp
theorem zgf{l:List Str}(h:l.Nodup):za0 l=l:=by
 have:=ziE l [] (by simpa using h)
 rw[Zb] at this;exact this
theorem zox{ns:List Str}{adj:Str->Str->Bool}(g:Gr ns adj)(x y:Str):znd (mts ns adj x) (mts ns adj y)=shr ns adj x y:=by
 unfold znd shr mts;rw[zgf (g.nd.filter _),zgf (g.nd.filter _)];rw[Wd]
 congr 1
 refine YL fun z hz=>?_;rw[Jx]
 congr 1
 simp[jR,hz]
theorem zgG:∀(l:List Str),zdM (l.map T.str)=some l
 |[]=>rfl
 |k::l=>by show (zdM (l.map T.str)).map (k::·)=_; rw[zgG l]; rfl
theorem zpo{a b:List Str}(ha:a.length < 900)(hb:b.length < 900):zgc (.lst (a.map T.str)) (.lst (b.map T.str))=some (.int (znd a b:Nat)):=by
 simp only[zgc,zgG,j5];rw[if_pos ha,if_pos hb]
theorem ziG{ns:List Str}{adj:Str->Str->Bool}(g:Gr ns adj){x y:Str}(hx:x∈ns)(hy:y∈ns):zaP [zak ns adj,.str x,.str y]=some (.bl (evn ns adj x y)):=by
 have h1:=zms g x;have h2:=zms g y;refine zcQ ?_;show Run zb1 [some (zak ns adj),some (.str x),some (.str y)] _;unfold zb1;refine zbp (by simp_all?[zcw hx,zcw hy,zpo (a:=mts ns adj x) (b:=mts ns adj y) (by lia) (by lia),zox g]<;>rfl) ?_
 unfold evn
 congr 1
 rw[decide_eq_decide];lia
theorem mem_mts{ns:List Str}{adj:Str->Str->Bool}{x y:Str}:y∈mts ns adj x↔y∈ns/\adj x y=true:=by unfold mts; rw[jR]
def zd8(ns:List Str)(adj:Str->Str->Bool)(x y:Str):Prop:=x≠y/\adj x y=false/\evn ns adj x y=false
theorem zjn{ns:List Str}{adj:Str->Str->Bool}(g:Gr ns adj):∃ r:Option (Str × Str),zd0 [zak ns adj]=some (match r with |none=>.non |some (x,y)=>.tup [.str x,.str y])/\(∀ x y,r=some (x,y)->x∈ns/\y∈ns/\zd8 ns adj x y)/\(r=none->∀ x∈ns,∀ y∈ns,¬ zd8 ns adj x y):=by
 obtain⟨t,h,r,rfl,h1,h2⟩:=zcG (n:=4) (d:=zbR) (ts:=[zak ns adj]) (Q:=fun t=>∃ r:Option (Str × Str),t=(match r with | none=>.non | some (x,y)=>.tup [.str x,.str y])/\(∀ x y,r=some (x,y)->x∈ns/\y∈ns/\zd8 ns adj x y)/\(r=none->∀ x∈ns,∀ y∈ns,¬ zd8 ns adj x y)) (by
  show Run zbR [some (zak ns adj),none,none,none] _;unfold zbR;refine zhj (its:=ns.map T.str) (fun j s=>(∀ x∈ns.take j,∀ y∈ns,¬ zd8 ns adj x y)/\∃ a b c,s=[some (zak ns adj),a,b,c]) (zcg ns adj _ _ _ rfl) ⟨fun y hy=>by simp at hy,_,_,_,rfl⟩ ?_ ?_
  ·rintro j z s hz ⟨hj,a,b,c,rfl⟩;obtain⟨x,hx,rfl⟩:=zeW hz;have hxn:=jJ hx;refine⟨_,by simp_all?[]<;>rfl,?_⟩
   refine zei (its:=ns.map T.str) (fun j s=>(∀ y∈ns.take j,¬ zd8 ns adj x y)/\∃ b c,s=[some (zak ns adj),some (.str x),b,c]) (zcg ns adj _ _ _ rfl) ⟨fun y hy=>by simp at hy,_,_,rfl⟩ ?_ ?_
   ·rintro i z s hz ⟨hi,b,c,rfl⟩;obtain⟨y,hy,rfl⟩:=zeW hz;have hyn:=jJ hy;refine⟨_,by simp_all?[]<;>rfl,?_⟩
    have ev:=ziG g hxn hyn;have e1:(decide (y∈mts ns adj x))=adj x y:=by
     rw[ZM,decide_eq_true_iff,mem_mts];exact⟨fun h=>h.2,fun h=>⟨hyn,h⟩⟩
    by_cases hxy:y=x
    ·subst hxy;refine zab (by simp_all?[]<;>rfl) ?_
     exact zg1 (by simp_all?[]<;>rfl) ⟨zaY hi hy (fun q=>q.1 rfl),_,_,rfl⟩
    ·have hxy':¬ x=y:=fun e=>hxy e.symm;cases ha:adj x y with
     |true=>
      rw[ha] at e1;refine zab (by simp_all?[zcw hxn,hxy,e1]<;>rfl) ?_
      refine zg1 (by simp_all?[]<;>rfl) ⟨zaY hi hy (fun q=>?_),_,_,rfl⟩
      rw[q.2.1] at ha; cases ha
     |false=>
      rw[ha] at e1;refine zab (by simp_all?[zcw hxn,hxy,e1]<;>rfl) ?_
      cases hE:evn ns adj x y with
      |true=>
       rw[hE] at ev;refine zg1 (by simp_all?[ev]<;>rfl) ⟨zaY hi hy (fun q=>?_),_,_,rfl⟩
       rw[q.2.2] at hE; cases hE
      |false=>
       rw[hE] at ev;exact zjk (by simp_all?[ev]<;>rfl) ⟨_,_,rfl,some (x,y),rfl,fun u v e=>by injection e with e; injection e with e1 e2; subst e1 e2; exact⟨hxn,hyn,hxy',ha,hE⟩,fun e=>by cases e⟩
   ·rintro s ⟨hi,b,c,rfl⟩;rw[j6,Qw] at hi;exact⟨zaY hj hx hi,_,_,_,rfl⟩
  ·rintro s ⟨hj,a,b,c,rfl⟩;rw[j6,Qw] at hj
   exact zb3 (by simp_all?[]<;>rfl) ⟨_,_,rfl,none,rfl,fun x y e=>(by cases e),fun _=>hj⟩)
 exact⟨r,h,h1,h2⟩
theorem zkZ{ft:DT}{db:DS}{n:Nat}{s:Sg}{Q:Fl->Prop}(I:Sg->Prop)(μ:Sg->Nat)(hn:μ s < n)(h0:I s)(hs:∀ s,I s->∃ b s1,ft s=some (b,s1)/\if b=true then Run db s1 (ztK fun s2=>I s2/\μ s2 < μ s) else True)
  (k:∀ s0 s',I s0->ft s0=some (false,s')->Q (.nx s')):Run (zbN ft db n) s Q:=by
 obtain⟨r,h1,h2⟩:=zdl (d:=zaD) (Q:=fun r=>∃ s',r=.nx s'/\∃ s0,I s0/\ft s0=some (false,s')) I μ hn h0 hs fun s0 s' a b=>⟨_,rfl,s',rfl,s0,a,b⟩;obtain⟨s',rfl,s0,a,b⟩:=h2;refine⟨.nx s',?_,k s0 s' a b⟩;unfold zao at h1;obtain⟨r,h3,h4⟩:=Qb h1;cases r with
 |nx s2=>
  have h4:zaD s2=some (.nx s'):=h4;injection h4 with h4;injection h4 with h4;rw[h3,h4]
 |rt t s2=>cases h4
 |bk s2=>cases h4
 |ct s2=>cases h4
theorem zcP:∀(l m:List Str),l.Nodup->(∀ x∈l,x∈m)->l.length<=m.length
 |[],m,_,_=>Zj _
 |x::l,m,nd,h=>by
  obtain⟨n1,n2⟩:=Q1.mp nd;have hx:=h x (.head _);have ih:=zcP l (m.erase x) n2 fun y hy=>(gU (fun e:y=x=>n1 (by rw[<-e]; exact hy))).mpr (h y (.tail _ hy))
  have:=YM hx;have hp:0 < m.length:=Nb hx;rw[jm];lia
theorem zpN{c:DT}{f g:DS}{s s':Sg}{Q:Fl->Prop}(h:c s=some (true,s'))(k:Run f s' Q):Run (zcb c f g) s Q:=by
 obtain⟨r,h1,h2⟩:=k;refine⟨r,?_,h2⟩;unfold zcb;rw[h,j5];exact h1
def zbW(O:Org):List (Key × T):=O.map fun e=>(Z2 e.1,zhU e.2)
theorem znS{O:Org}:∀(x:Str),((O.find? fun e=>decide ((Z2 e.1:Key)=Z2 x)).map fun e=>zhU e.2).isSome=decide (x∈kys O):=fun x=>by
 rw[gA,ZM,List.find?_isSome,decide_eq_true_iff];constructor
 ·rintro⟨e,he,h⟩;have:=ZK (of_decide_eq_true h);rw[<-this]; exact zdr he
 ·intro h;obtain⟨o,ho⟩:=zqq h;exact⟨_,ho,decide_eq_true rfl⟩
theorem zhw(O:Org)(x:Str):(zbt (zbW O) (.inr x)).isSome=decide (x∈kys O):=by
 unfold zbW;rw[zep,znS]
theorem zmh{O:Org}(nd:(kys O).Nodup){x:Str}{o:Option Str}(h:(x,o)∈O):za4 (.fd (zbW O)) (.str x)=some (zhU o):=by
 rw[zey];unfold zbW;rw[zep];cases hf:O.find? fun e=>decide ((Z2 e.1:Key)=Z2 x) with
 |none=>exact absurd (decide_eq_true rfl) (Wc.mp hf _ h)
 |some e=>
  have h1:=List.mem_of_find?_eq_some hf;have h2:e.1=x:=by have:=List.find?_some hf; simpa using this
  obtain⟨x',o'⟩:=e;dsimp only at h2;subst h2;rw[zgi nd h h1];rfl
theorem zmg{O:Org}{x:Str}{o:Option Str}(h:x∉kys O):zfg (zbW O) (.inr x) (zhU o)=zbW (O++[(x,o)]):=by
 rw[zje]
 ·unfold zbW; rw[jA]; rfl
 ·unfold zbW;rw[jU];intro hm;obtain⟨e,he,h2⟩:=jy.mp hm;exact h (ZK h2▸zdr he)
theorem zuv(w:List Str)(x:Str):znX (.lst ((w++[x]).map T.str)) []=some (.lst (w.map T.str),.str x):=by
 simp[znX]
theorem zx6{a b:List Str}(h:a.length+b.length<=1000000):zqn (.lst (a.map T.str)) [.lst (b.map T.str)]=some (.lst ((a++b).map T.str),.non):=by
 have q:(a.map T.str).length+(b.map T.str).length<=jh:=zat (by simpa using h)
 simp only[zqn,q,if_true,jA]
def muF:Sg->Nat
 |[_,some (.dct kvs),_,some (.lst w),_,_,_]=>2*(31 - kvs.length)+w.length
 |_=>0
theorem zhF{ns:List Str}{adj:Str->Str->Bool}(g:Gr ns adj):∃ O:Org,zcr [zak ns adj]=some (.fd (zbW O))/\Fo ns adj O/\∀ x∈ns,x∈kys O:=by
 obtain⟨t,h,O,rfl,h1,h2⟩:=zcG (n:=7) (d:=zb7) (ts:=[zak ns adj]) (Q:=fun t=>∃ O:Org,t=.fd (zbW O)/\Fo ns adj O/\∀ x∈ns,x∈kys O) (by
  show Run zb7 [some (zak ns adj),none,none,none,none,none,none] _;unfold zb7;refine zab (by simp_all?[]<;>rfl) ?_
  refine zcW (its:=ns.map T.str) (fun j s=>∃ O a b c d e,Fo ns adj O/\(∀ y∈ns.take j,y∈kys O)/\s=[some (zak ns adj),some (.dct (zbW O)),a,b,c,d,e]) (zcg ns adj _ _ _ rfl) ⟨[],_,_,_,_,_,Fo.nil,fun y hy=>by simp at hy,rfl⟩ ?_ ?_
  ·rintro j z s hz ⟨O0,a,b,c,d,e,F0,hj,rfl⟩;obtain⟨x,hx,rfl⟩:=zeW hz;have hxn:=jJ hx;have bnd:∀ {O:Org},(kys O).Nodup->(∀ x∈kys O,x∈ns)->O.length<=30:=fun {O} h1 h2=>by
    have:=zcP _ _ h1 h2;have:=g.len;unfold kys at *;simp at *;lia
   refine⟨_,by simp_all?[]<;>rfl,?_⟩
   by_cases hk:x∈kys O0
   ·have e1:decide (x∈kys O0)=true:=decide_eq_true hk;exact zaX (by simp_all?[zhw,e1]<;>rfl) ⟨O0,_,_,_,_,_,F0,zaY hj hx hk,rfl⟩
   ·have e1:decide (x∈kys O0)=false:=decide_eq_false hk;have b0:=bnd F0.nd F0.sub;have l0:(zbW O0).length < jh:=zbK (by unfold zbW; rw[j6]; lia)
    have D0:=Dfs.start F0 hxn hk;have hp:zfg (zbW O0) (.inr x) .non=zbW (O0++[(x,none)]):=zmg (o:=none) hk;refine zpN (by simp_all?[zhw,e1]<;>rfl) ?_
    refine zab (by simp_all?[l0,zh1,hp]<;>rfl) (zab (by simp_all?[]<;>rfl) ?_)
    refine zkZ (fun s=>∃ O wt c d e,Dfs ns adj x O0 O wt/\wt.length<=O.length/\x∈kys O/\s=[some (zak ns adj),some (.dct (zbW O)),some (.str x),some (.lst (wt.map T.str)),c,d,e]) muF ?_ ⟨_,[x],_,_,_,D0,by simp,by rw[zaJ]; simp[kys],rfl⟩ ?_ ?_
    ·show 2*(31 - (zbW (O0++[(x,none)])).length)+1 < 100;lia
    ·rintro s ⟨O,wt,c,d,e,D,hw,hxO,rfl⟩;have bO:=bnd D.nd D.sub
     by_cases hwt:wt=[]
     ·subst hwt;exact⟨false,_,by simp_all?[]<;>rfl,trivial⟩
     ·obtain⟨w',y,rfl⟩:∃ w' y,wt=w'++[y]:=⟨wt.dropLast,wt.getLast hwt,(Q7 hwt).symm⟩;obtain⟨hyk,hy0⟩:=D.ws y (by simp)
      have hyn:=D.sub y hyk
      refine⟨true,[some (zak ns adj),some (.dct (zbW O)),some (.str x),some (.lst ((w'++[y]).map T.str)),c,d,e],by
       simp_all?[]
       simp,?_⟩
      have D1:=D.step g;have ml:=zms g y;generalize hfr:((mts ns adj y).filter fun z=>decide (z∉kys O))=fr at D1;have frl:fr.length<=30:=by rw[<-hfr]; exact Q5 (ZO _ _) ml
      have b1:=bnd D1.nd D1.sub;rw[ju,j6] at b1;rw[ju] at hw;rw[if_pos rfl]
      have elc:=ziu (M:=[1,3]) (caps:=[none,some 1]) (fi:=zdc (d2 za4 (dV 0) (dV 4))) (dg:=dGn 0) (ft:=dB (d2 zbH (dV 0) (dV 1))) (fe:=dV 0) (s:=[some (zak ns adj),some (.dct (zbW O)),some (.str x),some (.lst (w'.map T.str)),some (.str y),d,e]) (mts ns adj y) T.str (fun z=>decide (z∉kys O)) T.str (by simp_all?[zcw hyn]) (by lia) (by
       intro z hz
       exact⟨_,by simp_all?[]<;>rfl,by simp_all?[zhw,decide_not],fun _=>by simp_all?[],rfl⟩)
      rw[hfr] at elc;refine zab (s':=[some (zak ns adj),some (.dct (zbW O)),some (.str x),some (.lst (w'.map T.str)),some (.str y),d,e]) (by simp_all?[zuv]<;>rfl) (zab (by simp_all?[elc]<;>rfl) ?_)
      have frn:fr.Nodup:=by rw[<-hfr]; exact(g.nd.filter _).filter _
      have frk:∀ z∈fr,z∉kys O:=fun z hz=>by rw[<-hfr] at hz; exact of_decide_eq_true (jR.mp hz).2
      refine zcW (its:=fr.map T.str) (fun i s=>∃ e,s=[some (zak ns adj),some (.dct (zbW (O++(fr.take i).map fun z=>(z,some y)))),some (.str x),some (.lst (w'.map T.str)),some (.str y),some (.lst (fr.map T.str)),e]) (by simp_all?[]<;>rfl) ⟨e,by simp⟩ ?_ ?_
      ·rintro i z s hz ⟨e,rfl⟩;obtain⟨u,hu,rfl⟩:=zeW hz;refine⟨_,by simp_all?[]<;>rfl,?_⟩
       have hun:u∉kys (O++(fr.take i).map fun z=>(z,some y)):=by
        rw[zaJ];intro hm;rcases jz.mp hm with hm |hm
        ·exact frk u (jJ hu) hm
        ·have hm:u∈fr.take i:=by
          unfold kys at hm;rw[jU] at hm;obtain⟨v,hv,rfl⟩:=jy.mp hm;exact hv
         obtain⟨k,hk1,hk2⟩:=Yi hm;rw[Wx] at hk2;rw[jQ] at hk1;have hiu:=(j9.mp hu);obtain⟨hi1,hi2⟩:=hiu;have:=(ZB frn).mp (hk2.trans hi2.symm);lia
       have ll:(zbW (O++(fr.take i).map fun z=>(z,some y))).length < jh:=zbK (by unfold zbW; simp; lia)
       have hp:zfg (zbW (O++(fr.take i).map fun z=>(z,some y))) (.inr u) (.str y)=_:=zmg (o:=some y) hun;refine zaX (by simp_all?[ll,zh1,hp]<;>rfl) ⟨some (.str u),?_⟩
       rw[ZG,hu];simp
      ·rintro s ⟨e,rfl⟩;rw[j6,Qw];refine zaX (by simp_all?[zx6 (a:=w') (b:=fr) (by lia)]<;>rfl) ⟨⟨_,_,_,_,_,D1,?_,by rw[zaJ]; exact jv _ hxO,rfl⟩,?_⟩
       ·rw[ju,ju,j6];simp at hw;lia
       ·show 2*(31 - (zbW (O++fr.map fun z=>(z,some y))).length)+((w'++fr).map T.str).length < 2*(31 - (zbW O).length)+((w'++[y]).map T.str).length;unfold zbW;simp;lia
    ·rintro s0 s' ⟨O,wt,c,d,e,D,hw,hxO,rfl⟩ hf
     by_cases hwt:wt=[]
     ·subst hwt;have hf:some (false,[some (zak ns adj),some (T.dct (zbW O)),some (T.str x),some (T.lst (([]:List Str).map T.str)),c,d,e])=some (false,s'):=hf;injection hf with hf;injection hf with _ hf;subst hf;have F1:=D.fin g F0;refine⟨O,_,_,_,_,_,F1,zaY (fun y hy=>?_) hx ?_,rfl⟩
      ·obtain⟨r,hr⟩:=D.pre;rw[hr,zaJ]; exact jv _ (hj y hy)
      ·exact hxO
     ·exfalso
      have h2:zgm (dV 3) [some (zak ns adj),some (.dct (zbW O)),some (.str x),some (.lst (wt.map T.str)),c,d,e]=some (true,[some (zak ns adj),some (.dct (zbW O)),some (.str x),some (.lst (wt.map T.str)),c,d,e]):=by
       simp_all?[]
       simp[hwt]
      rw[h2] at hf;cases hf
  ·rintro s ⟨O,a,b,c,d,e,F,hj,rfl⟩;rw[j6,Qw] at hj
   exact zb3 (by simp_all?[]<;>rfl) ⟨_,_,rfl,O,rfl,F,hj⟩)
 exact⟨O,h,h1,h2⟩
def bI(b:Bool):Int:=if b then 1 else 0
theorem zdQ{ns:List Str}{adj:Str->Str->Bool}(g:Gr ns adj){x y:Str}(hx:x∈ns)(hy:y∈ns){S:T}{b:Bool}(hS:za4 S (.str x)=some (.int (bI b))):zba [zak ns adj,S,.str x,.str y]=some (.int (bI (evn ns adj x y != b))):=by
 have ev:=ziG g hx hy;refine zcQ ?_;show Run zbw [some (zak ns adj),some S,some (.str x),some (.str y)] _;unfold zbw;cases hE:evn ns adj x y with
 |true=>
  rw[hE] at ev;refine zbp (by simp_all?[ev,hS]<;>rfl) ?_
  cases b<;>rfl
 |false=>
  rw[hE] at ev;refine zbp (by simp_all?[ev,hS]<;>rfl) ?_
  cases b<;>rfl
def zbk(sd:Str->Bool)(l:List Str):List (Key × T):=l.map fun z=>(Z2 z,.int (bI (sd z)))
theorem zfp{sd:Str->Bool}{l:List Str}{x:Str}(h:x∈l):zbt (zbk sd l) (.inr x)=some (.int (bI (sd x))):=by
 unfold zbk;rw[zep,zhG h];rfl
theorem zgy{ns:List Str}{adj:Str->Str->Bool}(g:Gr ns adj){O:Org}(F:Fo ns adj O):zc0 [zak ns adj,.fd (zbW O)]=some (.fd (zbk (zeA (evn ns adj) O) (kys O))):=by
 have bO:O.length<=30:=by
  have:=zcP _ _ F.nd F.sub;have:=g.len;unfold kys at *;simp at *;lia
 refine zcQ ?_;show Run zbv [some (zak ns adj),some (.fd (zbW O)),none,none,none] _;unfold zbv;refine zab (by simp_all?[]<;>rfl) ?_
 have it:zdc (dV 1) [some (zak ns adj),some (.fd (zbW O)),some (T.dct []),none,none]=some (O.map fun e=>T.str e.1,[some (zak ns adj),some (.fd (zbW O)),some (T.dct []),none,none]):=by
  unfold zdc zbW
  simp_all?[]
  simp only[jU];rfl
 refine zcW (its:=O.map fun e=>T.str e.1) (fun j s=>∃ a b,s=[some (zak ns adj),some (.fd (zbW O)),some (.dct (zbk (zeA (evn ns adj) O) (kys (O.take j)))),a,b]) it ⟨none,none,rfl⟩ ?_ ?_
 ·rintro j z s hz ⟨a,b,rfl⟩;rw[ji] at hz;obtain⟨⟨x,o⟩,hx,rfl⟩:=Qm hz;have hm:(x,o)∈O:=jJ hx;have hxn:=F.sub x (zdr hm);have at1:=zmh F.nd hm;have sd1:=F.side (evn ns adj) hx;have tk:O.take (j+1)=O.take j++[(x,o)]:=by rw[ZG,hx]; rfl
  have hnk:x∉kys (O.take j):=by
   have nd:=F.nd;rw[<-QL (j+1) O,tk,zaJ,zaJ] at nd;intro h;exact(jW.mp (jW.mp nd).1).2.2 x h x (by simp[kys]) rfl
  have ll:(zbk (zeA (evn ns adj) O) (kys (O.take j))).length < jh:=zbK (by unfold zbk kys; simp; lia)
  have hp:zfg (zbk (zeA (evn ns adj) O) (kys (O.take j))) (.inr x) (.int (bI (zeA (evn ns adj) O x)))=zbk (zeA (evn ns adj) O) (kys (O.take (j+1))):=by
   rw[zje]
   ·rw[tk,zaJ]; unfold zbk; rw[jA]; rfl
   ·unfold zbk;rw[jU];intro hm;obtain⟨e,he,h2⟩:=jy.mp hm;exact hnk (ZK h2▸he)
  refine⟨_,by simp_all?[]<;>rfl,?_⟩
  cases o with
  |none=>
   dsimp only at sd1;rw[sd1] at hp;refine zab (by simp_all?[at1,zhU]<;>rfl) ?_
   exact zaX (by simp_all?[zhU,gIs,isN,zh1,ll]; rw[show (T.int 0)=T.int (bI false) from rfl,hp]) ⟨_,_,rfl⟩
  |some p=>
   dsimp only at sd1;obtain⟨_,hpk⟩:=F.ord j x p hx;have hpn:p∈ns:=F.sub p (by rw[<-QL j O,zaJ]; exact jv _ hpk)
   have sb:=zdQ g hpn hxn (S:=.dct (zbk (zeA (evn ns adj) O) (kys (O.take j)))) (b:=zeA (evn ns adj) O p) (by rw[zlD]; exact zfp hpk)
   rw[<-sd1] at sb;refine zab (by simp_all?[at1,zhU]<;>rfl) ?_
   exact zaX (by simp_all?[zhU,gIs,isN,sb,zmS,zh1,ll,hp]<;>rfl) ⟨_,_,rfl⟩
 ·rintro s ⟨a,b,rfl⟩;rw[j6,Qw];exact zbp (by simp_all?[]<;>rfl) rfl
theorem zh7{ns:List Str}{adj:Str->Str->Bool}(g:Gr ns adj){sd:Str->Bool}{l:List Str}(hl:∀ x∈ns,x∈l):∃ r:Option (Str × Str),zcp [zak ns adj,.fd (zbk sd l)]=some (match r with |none=>.non |some (x,y)=>.tup [.str x,.str y])/\(∀ x y,r=some (x,y)->x∈ns/\y∈ns/\adj x y=true/\evn ns adj x y≠(sd x != sd y))/\(r=none->∀ x∈ns,∀ y∈ns,adj x y=true->evn ns adj x y=(sd x != sd y)):=by
 obtain⟨t,h,r,rfl,h1,h2⟩:=zcG (n:=4) (d:=zb6) (ts:=[zak ns adj,.fd (zbk sd l)]) (Q:=fun t=>∃ r:Option (Str × Str),t=(match r with | none=>.non | some (x,y)=>.tup [.str x,.str y])/\(∀ x y,r=some (x,y)->x∈ns/\y∈ns/\adj x y=true/\evn ns adj x y≠(sd x != sd y))/\(r=none->∀ x∈ns,∀ y∈ns,adj x y=true->evn ns adj x y=(sd x != sd y))) (by
  show Run zb6 [some (zak ns adj),some (.fd (zbk sd l)),none,none] _;unfold zb6;refine zhj (its:=ns.map T.str) (fun j s=>(∀ x∈ns.take j,∀ y∈ns,adj x y=true->evn ns adj x y=(sd x != sd y))/\∃ a b,s=[some (zak ns adj),some (.fd (zbk sd l)),a,b]) (zcg ns adj _ _ _ rfl) ⟨fun y hy=>by simp at hy,_,_,rfl⟩ ?_ ?_
  ·rintro j z s hz ⟨hj,a,b,rfl⟩;obtain⟨x,hx,rfl⟩:=zeW hz;have hxn:=jJ hx;refine⟨_,by simp_all?[]<;>rfl,?_⟩
   refine zei (its:=(mts ns adj x).map T.str) (fun j s=>(∀ y∈(mts ns adj x).take j,evn ns adj x y=(sd x != sd y))/\∃ b,s=[some (zak ns adj),some (.fd (zbk sd l)),some (.str x),b]) (by simp_all?[zcw hxn]<;>rfl) ⟨fun y hy=>by simp at hy,_,rfl⟩ ?_ ?_
   ·rintro i z s hz ⟨hi,b,rfl⟩;obtain⟨y,hy,rfl⟩:=zeW hz;obtain⟨hyn,hyx⟩:=mem_mts.mp (jJ hy);refine⟨_,by simp_all?[]<;>rfl,?_⟩
    have sb:=zdQ g hxn hyn (S:=.fd (zbk sd l)) (b:=sd x) (by rw[zey]; exact zfp (hl x hxn))
    have sy:za4 (.fd (zbk sd l)) (.str y)=some (.int (bI (sd y))):=by rw[zey]; exact zfp (hl y hyn)
    have key:decide (bI (evn ns adj x y != sd x)=bI (sd y))=decide (evn ns adj x y=(sd x != sd y)):=by cases evn ns adj x y<;>cases sd x<;>cases sd y<;>rfl
    by_cases hE:evn ns adj x y=(sd x != sd y)
    ·rw[decide_eq_true hE] at key;exact zg1 (by simp_all?[sb,sy,key]<;>rfl) ⟨zaY hi hy hE,_,rfl⟩
    ·rw[decide_eq_false hE] at key;exact zjk (by simp_all?[sb,sy,key]<;>rfl) ⟨_,_,rfl,some (x,y),rfl,fun u v e=>by injection e with e; injection e with e1 e2; subst e1 e2; exact⟨hxn,hyn,hyx,hE⟩,fun e=>by cases e⟩
   ·rintro s ⟨hi,b,rfl⟩;rw[j6,Qw] at hi;exact⟨zaY hj hx fun y hyn ha=>hi y (mem_mts.mpr ⟨hyn,ha⟩),_,_,rfl⟩
  ·rintro s ⟨hj,a,b,rfl⟩;rw[j6,Qw] at hj
   exact zb3 (by simp_all?[]<;>rfl) ⟨_,_,rfl,none,rfl,fun x y e=>(by cases e),fun _=>hj⟩)
 exact⟨r,h,h1,h2⟩
theorem zoy{α:Type}{a b:List α}{z:α}{k:Int}(hk:k=-((b.length:Int)+1)):atI (a++z::b) k=some z:=by
 unfold atI ixN;have hl:(a++z::b).length=a.length+b.length+1:=by simp; lia
 rw[if_neg (by lia),if_pos (by rw[hl]; lia),j5]
 have:(k+((a++z::b).length:Int)).toNat=a.length:=by rw[hl]; lia
 rw[this];simp
theorem zi1{a b:List Str}{z:Str}{k:Int}(hk:k=-((b.length:Int)+1)):za4 (.lst ((a++z::b).map T.str)) (.int k)=some (.str z):=by
 have e:gIx (.lst ((a++z::b).map T.str)) (.int k)=some (.str z):=by
  show atI ((a++z::b).map T.str) k=_;rw[jA,jj];exact zoy (by simpa using hk)
 unfold za4 orG;rw[e]
theorem zds(a:List Str)(z:Str):za4 (.lst ((a++[z]).map T.str)) (.int (-1))=some (.str z):=zi1 (b:=[]) (by simp)
theorem zl9(a:List Str)(z m:Str):za4 (.lst (((a++[z])++[m]).map T.str)) (.int (-2))=some (.str z):=by
 have:=zi1 (a:=a) (b:=[m]) (z:=z) (k:=-2) (by simp)
 rw[jZ];exact this
def muW:Sg->Nat
 |[_,_,some (.lst w)]=>40 - w.length
 |_=>0
theorem zfE{ns:List Str}{adj:Str->Str->Bool}(g:Gr ns adj){O:Org}(F:Fo ns adj O){x:Str}{w:List Str}(hw:Way O x w):zc9 [.fd (zbW O),.str x]=some (.lst (w.map T.str)):=by
 have wl:w.length<=30:=by
  have:=zcP _ _ (hw.nodup F.nd) (fun y hy=>F.sub y (hw.key y hy));have:=g.len;lia
 have key:Run zcz [some (.fd (zbW O)),some (.str x),none] fun r=>∃ s,r=.rt (.lst (w.map T.str)) s:=by
  unfold zcz;refine zab (by simp_all?[]<;>rfl) ?_
  obtain⟨w0,rfl⟩:=hw.head;have at_:∀ {a:List Str} {z:Str} {c:List Str},x::w0=a++z::c->∃ o,za4 (.fd (zbW O)) (.str z)=some (zhU o)/\(match o with |none=>c=[] |some p=>∃ c',c=p::c'):=fun {a z c} e=>by
   have k:=hw.from e;cases k with
   |root h=>exact⟨none,zmh F.nd h,rfl⟩
   |step h k2=>
    obtain⟨t,ht⟩:=k2.head;exact⟨_,zmh F.nd h,t,ht⟩
  refine zdl (fun s=>∃ a z c,x::w0=a++z::c/\s=[some (.fd (zbW O)),some (.str x),some (.lst ((a++[z]).map T.str))]) muW ?_ ⟨[],x,w0,rfl,rfl⟩ ?_ ?_
  ·show 40 - 1 < 100;lia
  ·rintro s ⟨a,z,c,e,rfl⟩;obtain⟨o,h1,h2⟩:=at_ e;have hl:(x::w0).length=a.length+c.length+1:=by rw[e]; simp; lia
   cases o with
   |none=>exact⟨false,_,by simp_all?[zds,h1,zhU,zbm,isN]<;>rfl,trivial⟩
   |some p=>
    obtain⟨c',rfl⟩:=h2;refine⟨true,_,by simp_all?[zds,h1,zhU,zbm,isN]<;>rfl,?_⟩
    rw[if_pos rfl];refine zaX (s':=[some (.fd (zbW O)),some (.str x),some (.lst (((a++[z])++[p]).map T.str))]) (by simp_all?[zds,h1,zhU,zrw (xs:=a++[z]) p (by simp; lia)]) ⟨⟨a++[z],p,c',by rw[e]; simp,rfl⟩,?_⟩
    show 40 - (((a++[z])++[p]).map T.str).length < 40 - ((a++[z]).map T.str).length;have hl3:a.length+(p::c').length+1<=30:=by rw[<-hl]; exact wl
    rw[jm] at hl3;have e9:(((a++[z])++[p]).map T.str).length=a.length+2:=by simp
    have e8:((a++[z]).map T.str).length=a.length+1:=by simp
    rw[e9,e8];lia
  ·rintro s0 s' ⟨a,z,c,e,rfl⟩ hf;obtain⟨o,h1,h2⟩:=at_ e;cases o with
   |none=>
    have h2:c=[]:=h2;subst h2;have h3:dB (d2 zbm (d2 za4 (dV 0) (d2v za4 2 (d1 zlf (dC (.int 1))))) (dC .non)) [some (.fd (zbW O)),some (.str x),some (.lst ((a++[z]).map T.str))]=some (false,[some (.fd (zbW O)),some (.str x),some (.lst ((a++[z]).map T.str))]):=by simp_all?[zds,h1,zhU,zbm,isN]<;>rfl
    rw[h3] at hf;injection hf with hf;injection hf with _ hf;subst hf;exact zbp (by simp_all?[]<;>rfl) (by rw[e])
   |some p=>
    have h3:dB (d2 zbm (d2 za4 (dV 0) (d2v za4 2 (d1 zlf (dC (.int 1))))) (dC .non)) [some (.fd (zbW O)),some (.str x),some (.lst ((a++[z]).map T.str))]=some (true,[some (.fd (zbW O)),some (.str x),some (.lst ((a++[z]).map T.str))]):=by simp_all?[zds,h1,zhU,zbm,isN]<;>rfl
    rw[h3] at hf;cases hf
 first
  |exact zmQ key
  |exact zcQ key
theorem zpD(n:List Str)(m:Str):gSl (.lst ((n++[m]).map T.str)) none (some (-1))=some (.lst (n.map T.str)):=by
 show some (T.lst (zkF ((n++[m]).map T.str) none (some (-1))))=_;refine congrArg some (congrArg T.lst ?_);unfold zkF HT.sIx;simp;have:(-1+((n.length:Int)+1)).toNat=n.length:=by lia
 rw[this];simp
theorem zmM(n:List Str):ztT (.lst (n.map T.str))=some (.lst (n.reverse.map T.str)):=by
 show some (T.lst (n.map T.str).reverse)=_;rw[List.map_reverse]
theorem gt1(a:List Str)(m:Str):decide ((1:Int) < (((a++[m]).length:Nat):Int))=!a.isEmpty:=by
 cases a with
 |nil=>rfl
 |cons c a=>rw[decide_eq_true (by simp; lia)]; rfl
def muR:Sg->Nat
 |[_,_,_,some (.lst w),_]=>w.length
 |_=>0
def ztI(f n:List Str):Prop:=f=[]∨n=[]∨f.getLast?≠n.getLast?
theorem zfO{ns:List Str}{adj:Str->Str->Bool}(g:Gr ns adj){O:Org}(F:Fo ns adj O){x y:Str}{w w':List Str}(hw:Way O x w)(hw':Way O y w')(hl:w.getLast?=w'.getLast?) :
  ∃ f n c m,w=f++m::c/\w'=n++m::c/\ztI f n/\zbI [.fd (zbW O),.str x,.str y]=some (.lst ((f++m::n.reverse).map T.str)):=by
 have w1:=zfE g F hw;have w2:=zfE g F hw';have wl:∀ {z:Str} {u:List Str},Way O z u->u.length<=30:=fun {z u} h=>by
  have:=zcP _ _ (h.nodup F.nd) (fun y hy=>F.sub y (h.key y hy));have:=g.len;lia
 have l1:=wl hw;have l2:=wl hw'
 obtain⟨t,h,f,n,c,m,h1,h2,h3,rfl⟩:=zcG (n:=5) (d:=zaM) (ts:=[.fd (zbW O),.str x,.str y]) (Q:=fun t=>∃ f n c m,w=f++m::c/\w'=n++m::c/\ztI f n/\t=.lst ((f++m::n.reverse).map T.str)) (by
  show Run zaM [some (.fd (zbW O)),some (.str x),some (.str y),none,none] _;unfold zaM;refine zab (by simp_all?[w1]<;>rfl) (zab (by simp_all?[w2]<;>rfl) ?_)
  have tst:∀(f n:List Str) (m:Str),f.length+n.length<=100->(ziL (dB (d2 gGt (d1 zcF (dV 3)) (dC (.int 1)))) (ziL (dB (d2 gGt (d1 zcF (dV 4)) (dC (.int 1)))) (dB (d2 gEq (d2v za4 3 (d1 zlf (dC (.int 2)))) (d2v za4 4 (d1 zlf (dC (.int 2)))))))) [some (.fd (zbW O)),some (.str x),some (.str y),some (.lst ((f++[m]).map T.str)),some (.lst ((n++[m]).map T.str))]=some (!f.isEmpty&&(!n.isEmpty&&decide (f.getLast?=n.getLast?)),[some (.fd (zbW O)),some (.str x),some (.str y),some (.lst ((f++[m]).map T.str)),some (.lst ((n++[m]).map T.str))]):=by
   intro f n m hfn
   by_cases hf:f=[]
   ·subst hf
    simp_all?[gt1]
    rfl
   ·obtain⟨f',u,rfl⟩:∃ f' u,f=f'++[u]:=⟨f.dropLast,f.getLast hf,(Q7 hf).symm⟩;have e1:(f'++[u]).isEmpty=false:=by simp
    by_cases hn:n=[]
    ·subst hn
     simp_all?[gt1,e1]
     rfl
    ·obtain⟨n',v,rfl⟩:∃ n' v,n=n'++[v]:=⟨n.dropLast,n.getLast hn,(Q7 hn).symm⟩;have e2:(n'++[v]).isEmpty=false:=by simp
     have e3:decide ((f'++[u]).getLast?=(n'++[v]).getLast?)=decide (u=v):=by simp
     simp_all?[gt1,e1,e2,e3,zl9,Jw]
  refine zdl (fun s=>∃ f n c m,w=f++m::c/\w'=n++m::c/\s=[some (.fd (zbW O)),some (.str x),some (.str y),some (.lst ((f++[m]).map T.str)),some (.lst ((n++[m]).map T.str))]) muR ?_ ?_ ?_ ?_
  ·show (w.map T.str).length < 100;rw[j6]; lia
  ·obtain⟨t,rfl⟩:=hw.head;obtain⟨t',rfl⟩:=hw'.head;have n1:x::t≠[]:=by simp
   have n2:y::t'≠[]:=by simp
   have e1:=(Q7 n1).symm;have e2:=(Q7 n2).symm;have e3:(x::t).getLast n1=(y::t').getLast n2:=by
    rw[gT n1,gT n2] at hl;exact jd hl
   rw[<-e3] at e2;exact⟨_,_,[],_,e1,e2,by rw[<-e1,<-e2]⟩
  ·rintro s ⟨f,n,c,m,e1,e2,rfl⟩;have hfn:f.length+n.length<=100:=by
    rw[e1] at l1;rw[e2] at l2;simp at l1 l2;lia
   refine⟨_,_,tst f n m hfn,?_⟩;split
   ·rename_i hb;rw[jI,jI] at hb;obtain⟨b1,b2,b3⟩:=hb;have hf:f≠[]:=by intro e; subst e; cases b1
    have hn:n≠[]:=by intro e; subst e; cases b2
    obtain⟨f',u,rfl⟩:∃ f' u,f=f'++[u]:=⟨f.dropLast,f.getLast hf,(Q7 hf).symm⟩;obtain⟨n',v,rfl⟩:∃ n' v,n=n'++[v]:=⟨n.dropLast,n.getLast hn,(Q7 hn).symm⟩;have:u=v:=by have:=of_decide_eq_true b3; simpa using this
    subst this;refine zab (by simp_all?[zuv]<;>rfl) ?_
    refine zaX (by simp_all?[zuv]<;>rfl) ⟨⟨f',n',m::c,u,by rw[e1]; simp,by rw[e2]; simp,rfl⟩,?_⟩
    show ((f'++[u]).map T.str).length < (((f'++[u])++[m]).map T.str).length;simp
   ·trivial
  ·rintro s0 s' ⟨f,n,c,m,e1,e2,rfl⟩ hf;have hfn:f.length+n.length<=100:=by
    rw[e1] at l1;rw[e2] at l2;simp at l1 l2;lia
   rw[tst f n m hfn] at hf;injection hf with hf;injection hf with hf1 hf2;subst hf2;refine zb3 (by simp_all?[zpD,zmM]<;>rfl) ⟨_,_,rfl,f,n,c,m,e1,e2,?_,by simp⟩
   by_cases q1:f=[]
   ·exact .inl q1
   ·by_cases q2:n=[]
    ·exact .inr (.inl q2)
    ·refine .inr (.inr fun q3=>?_);have i1:f.isEmpty=false:=by simpa using q1
     have i2:n.isEmpty=false:=by simpa using q2
     rw[i1,i2,decide_eq_true q3] at hf1
     cases hf1)
 exact⟨f,n,c,m,h1,h2,h3,h⟩
theorem zwe(a b:T):za4 (.tup [a,b]) (.int 0)=some a:=rfl
theorem zwd(a b:T):za4 (.tup [a,b]) (.int 1)=some b:=rfl
structure RingOk (ns:List Str) (adj:Str->Str->Bool) (r:List Str):Prop where
 nd:r.Nodup
 sub:∀ x∈r,x∈ns
 len:3<=r.length
 chn:Chn (fun a b=>adj a b=true) r
 ends:∃ x y,r.head?=some x/\r.getLast?=some y/\adj y x=true/\((if evn ns adj y x then 1 else 0)+evs (evn ns adj) r)%2=1
structure SidesOk (ns:List Str) (adj:Str->Str->Bool) (sd:Str->Bool):Prop where
 even:∀ x∈ns,(mts ns adj x).length%2=0
 pair:∀ x∈ns,∀ y∈ns,¬ zd8 ns adj x y
 fit:∀ x∈ns,∀ y∈ns,adj x y=true->evn ns adj x y=(sd x != sd y)
inductive Told (ns:List Str) (adj:Str->Str->Bool):T->Prop
 |odd (x:Str) (hx:x∈ns) (h:(mts ns adj x).length%2=1):Told ns adj (.tup [.str "odd",.str x])
 |pair (x y:Str) (hx:x∈ns) (hy:y∈ns) (h:zd8 ns adj x y):Told ns adj (.tup [.str "pair",.str x,.str y])
 |ring (r:List Str) (h:RingOk ns adj r):Told ns adj (.tup [.str "ring",.lst (r.map T.str)])
 |sides (sd:Str->Bool) (h:SidesOk ns adj sd):Told ns adj (.tup [.str "sides",.lst (ns.map fun x=>.int (bI (sd x)))])
theorem zfc{ns:List Str}{adj:Str->Str->Bool}(g:Gr ns adj)(he:∀ x∈ns,(mts ns adj x).length%2=0)(hp:∀ x∈ns,∀ y∈ns,¬ zd8 ns adj x y):∃ t,zbu [zak ns adj]=some t/\Told ns adj t:=by
 obtain⟨O,h1,F,hall⟩:=zhF g;have h2:=zgy g F;generalize hsd:zeA (evn ns adj) O=sd at h2;obtain⟨r,h3,hr1,hr2⟩:=zh7 g (sd:=sd) (l:=kys O) hall;refine zcG (n:=4) (d:=zaH) (ts:=[zak ns adj]) (Q:=Told ns adj) ?_;show Run zaH [some (zak ns adj),none,none,none] _;unfold zaH;refine zab (by simp_all?[h1]<;>rfl) (zab (by simp_all?[h2]<;>rfl) ?_)
 cases r with
 |none=>
  have hfit:=hr2 rfl;refine zab (by simp_all?[h3]<;>rfl) (zab (by simp_all?[zbm,isN]<;>rfl) ?_)
  have e:=zju (M:=[]) (caps:=[none,some 2]) (fi:=zdc (dV 0)) (dg:=dGn 0) (fe:=d2 za4 (dV 1) (dV 0)) (s:=[some (zak ns adj),some (.fd (zbW O)),some (.fd (zbk sd (kys O))),some .non]) ns T.str (fun x=>.int (bI (sd x))) (zcg ns adj _ _ _ rfl) (by have:=g.len; lia) (by
   intro x hx;have sx:za4 (.fd (zbk sd (kys O))) (.str x)=some (.int (bI (sd x))):=by rw[zey]; exact zfp (hall x hx)
   exact⟨_,by simp_all?[]<;>rfl,by simp_all?[sx],rfl⟩)
  exact zb3 (by simp_all?[e]<;>rfl) ⟨_,_,rfl,.sides sd ⟨he,hp,hfit⟩⟩
 |some xy=>
  obtain⟨x,y⟩:=xy;obtain⟨hx,hy,ha,hw⟩:=hr1 x y rfl;obtain⟨w,hwx⟩:=F.way x (hall x hx);obtain⟨w',hwy⟩:=F.way y (hall y hy);have hl:=F.rt x (hall x hx) y (hall y hy) ha w w' hwx hwy;obtain⟨f,n,c,m,e1,e2,he3,h4⟩:=zfO g F hwx hwy hl;rw[e1] at hwx;rw[e2] at hwy;have hyx:adj y x=true:=by rw[<-g.sym x hx y hy]; exact ha
  have hw2:evn ns adj y x≠(sd y != sd x):=by
   rw[zjF];intro q;apply hw;rw[q];cases sd x<;>cases sd y<;>rfl
  obtain⟨k1,k2,k3,k4,k5,k6,k7⟩:=zpP (adj:=adj) (ev:=evn ns adj) (sd:=sd) F.nd (fun a b hab=>by rw[<-hsd]; exact F.edge g hab) hwx hwy he3 (g.irr x hx) hyx hw2 (zjF _ _ _ _)
  refine zab (by simp_all?[h3]<;>rfl) (zka (by simp_all?[zbm,isN,zwe,zwd,h4]<;>rfl) ⟨_,_,rfl,.ring _ ⟨k1,fun z hz=>F.sub z (k2 z hz),k3,k4,x,y,k5,k6,hyx,k7⟩⟩)
theorem zqB{wd:List Str}(g:GoodWord wd):Gr (za0 wd) (crs wd):=by
 refine⟨zbn wd,fun x hx y hy=>zqT g (mem_firsts.mp hx) (mem_firsts.mp hy),fun x hx=>zos g (mem_firsts.mp hx),?_⟩;have:=zdU g.two;have:=g.len;lia
theorem zmx{wd:List Str}(gw:GoodWord wd):∃ t,zcq [.lst (wd.map T.str)]=some t/\Told (za0 wd) (crs wd) t:=by
 have g:=zqB gw;have gl:=gw.len;have hn:=ze1 (wd:=wd) (by lia)
 obtain⟨r,h1,o1,o2⟩:=zjo g;obtain⟨r2,h2,p1,p2⟩:=zjn g;refine zcG (n:=4) (d:=zcR) (ts:=[.lst (wd.map T.str)]) (Q:=Told (za0 wd) (crs wd)) ?_;show Run zcR [some (.lst (wd.map T.str)),none,none,none] _;unfold zcR;have hf:=zeu wd
 have e:=ztp (M:=[]) (caps:=[none,some 0]) (fi:=zdc (zar zaC (dAc (dV 0) dAn))) (dg:=dGn 0) (fk:=dV 0) (fe:=zar zb0 (dAc (dV 1) (dAc (dV 0) dAn))) (s:=[some (.lst (wd.map T.str)),none,none,none]) (za0 wd) T.str T.str Z2 (fun x=>.lst ((mts (za0 wd) (crs wd) x).map T.str)) (by simp_all?[hn]) (by lia) (Zo.mpr ((zbn wd).imp fun h e=>h (ZK e))) (by
  intro x hx;obtain⟨i,j,hp⟩:=gw.places (mem_firsts.mp hx);have hc:=zgp (wd:=wd) (by lia) hp
  refine⟨_,by simp_all?[]<;>rfl,by simp_all?[],rfl,?_,rfl⟩
  simp_all?[hc]
  rfl)
 refine zab (by simp_all?[e]<;>rfl) ?_
 have fz:T.fd ((za0 wd).map fun x=>((Z2 x:Key),T.lst ((mts (za0 wd) (crs wd) x).map T.str)))=zak (za0 wd) (crs wd):=rfl;cases r with
 |some x=>
  obtain⟨hx,ho⟩:=o1 x rfl;refine zab (by simp_all?[fz,h1]<;>rfl) (zka (by simp_all?[zhU,zbm,isN]<;>rfl) ⟨_,_,rfl,.odd x hx ho⟩)
 |none=>
  have ho:=o2 rfl;refine zab (by simp_all?[fz,h1]<;>rfl) (zab (by simp_all?[zhU,zbm,isN]<;>rfl) ?_)
  cases r2 with
  |some xy=>
   obtain⟨x,y⟩:=xy;obtain⟨hx,hy,hxy⟩:=p1 x y rfl;refine zab (by simp_all?[h2]<;>rfl) (zka (by simp_all?[zbm,isN,zwe,zwd]<;>rfl) ⟨_,_,rfl,.pair x y hx hy hxy⟩)
  |none=>
   obtain⟨t,h3,tt⟩:=zfc g ho (p2 rfl);refine zab (by simp_all?[h2]<;>rfl) (zab (by simp_all?[zbm,isN]<;>rfl) ?_)
   exact zb3 (by simp_all?[h3]<;>rfl) ⟨_,_,rfl,tt⟩
def zoA(wd:List Str):Prop:=∃ sd,SidesOk (za0 wd) (crs wd) sd
theorem Told.sides_of{wd:List Str}(g:GoodWord wd){t:T}(h:Told (za0 wd) (crs wd) t)(hs:zoA wd):∃ sd,t=.tup [.str "sides",.lst ((za0 wd).map fun x=>.int (bI (sd x)))]/\SidesOk (za0 wd) (crs wd) sd:=by
 obtain⟨sd,hs⟩:=hs;cases h with
 |odd x hx h=>have:=hs.even x hx; lia
 |pair x y hx hy h=>exact absurd h (hs.pair x hx y hy)
 |sides sd' h=>exact⟨sd',rfl,h⟩
 |ring r h=>
  exfalso
  obtain⟨x,y,hx,hy,ha,ho⟩:=h.ends;have hxm:x∈za0 wd:=h.sub x (List.mem_of_mem_head? hx);have hym:y∈za0 wd:=h.sub y (List.mem_of_getLast? hy);obtain⟨l,hl⟩:∃ l,r=x::l:=by
   cases r with
   |nil=>cases hx
   |cons a l=>injection hx with hx; exact⟨l,by rw[hx]⟩
  have ce:Chn (fun a b=>evn (za0 wd) (crs wd) a b=(sd a != sd b)) r:=by
   have:∀ {l:List Str},(∀ z∈l,z∈za0 wd)->Chn (fun a b=>crs wd a b=true) l->Chn (fun a b=>evn (za0 wd) (crs wd) a b=(sd a != sd b)) l:=by
    intro l
    induction l with
    |nil=>intro _ _; trivial
    |cons a l ih=>
     cases l with
     |nil=>intro _ _; trivial
     |cons b l=>intro hm hc; exact⟨hs.fit a (hm a (by simp)) b (hm b (by simp)) hc.1,ih (fun z hz=>hm z (by simp[hz])) hc.2⟩
   exact this h.sub h.chn
  subst hl;have e:=zgh l x y ce hy;have e2:=hs.fit y hym x hxm ha;rw[e2] at ho;cases h1:sd x<;>cases h2:sd y<;>rw[h1,h2] at e ho<;>simp at e ho<;>lia
def zfe(r:List Nat):T:=.lst (r.map nT)
def zaI(f:Nat->Nat)(k s:Nat):List Nat:=(jf k).map fun i=>itr f i s
theorem zdE(f:Nat->Nat)(k s:Nat):zaI f (k+1) s=zaI f k s++[itr f k s]:=by unfold zaI; rw[gm,jA]; rfl
theorem zlK{f:Nat->Nat}{k s:Nat}(h:itr f k s∈zaI f k s):∀ m,itr f m s∈zaI f k s:=by
 obtain⟨i,hi,e⟩:=jy.mp h;have hi:=jk.mp hi;intro m
 induction m using Nat.strongRecOn with
 |_ m ih=>
  by_cases hm:m < k
  ·exact jy.mpr ⟨m,jk.mpr hm,rfl⟩
  ·have e1:itr f m s=itr f (m - k+i) s:=by
    rw[zeJ,e,<-zeJ,show m - k+k=m by lia]
   rw[e1];exact ih _ (by lia)
def lenB:T->Nat
 |.lst xs=>xs.length
 |_=>0
def Ew(n w:Nat):Nat:=if w%2=1 then w - 1 else if w / 2+1=n then 1 else w+3
def Bw(n e:Nat):Nat:=if e%2=0 then e else if e=1 then 2*n - 1 else e - 2
def fl(w:Nat):Nat:=if w%2=0 then w+1 else w - 1
theorem zng{n w:Nat}(h:w < 2*n):Ew n w < 2*n:=by
 unfold Ew;split
 ·lia
 ·split<;>lia
theorem zw9{n e:Nat}(h:e < 2*n):Bw n e < 2*n:=by
 unfold Bw;split
 ·lia
 ·split<;>lia
theorem ztc(w:Nat):fl (fl w)=w:=by unfold fl; split<;>split<;>lia
theorem zw5{n e:Nat}(h:e < 2*n):Ew n (fl (Bw n e))=e:=by
 by_cases h0:e%2=0
 ·have b:Bw n e=e:=if_pos h0;have f:fl e=e+1:=if_pos h0;rw[b,f];unfold Ew;rw[if_pos (by lia)]
  lia
 ·by_cases h1:e=1
  ·have b:Bw n e=2*n - 1:=by unfold Bw; rw[if_neg h0,if_pos h1]
   have f:fl (2*n - 1)=2*n - 2:=by unfold fl; rw[if_neg (by lia)]; lia
   rw[b,f];unfold Ew;rw[if_neg (by lia),if_pos (by lia),h1]
  ·have b:Bw n e=e - 2:=by unfold Bw; rw[if_neg h0,if_neg h1]
   have f:fl (e - 2)=e - 3:=by unfold fl; rw[if_neg (by lia)]; lia
   rw[b,f];unfold Ew;rw[if_neg (by lia),if_neg (by lia)]
   lia
theorem zwa{n w:Nat}(h:w < 2*n):Bw n (Ew n w)=fl w:=by
 by_cases h0:w%2=1
 ·have b:Ew n w=w - 1:=if_pos h0;have f:fl w=w - 1:=if_neg (by lia)
  rw[b,f];exact if_pos (by lia)
 ·have f:fl w=w+1:=if_pos (by lia)
  by_cases h1:w / 2+1=n
  ·have b:Ew n w=1:=by unfold Ew; rw[if_neg h0,if_pos h1]
   rw[b,f];unfold Bw;rw[if_neg (by lia),if_pos rfl]
   lia
  ·have b:Ew n w=w+3:=by unfold Ew; rw[if_neg h0,if_neg h1]
   rw[b,f];unfold Bw;rw[if_neg (by lia),if_neg (by lia)]
   lia
def ptn(wd:List Str)(p:Nat):Nat:=match zaa wd (wd.getD p jS) with
 |[i,j]=>if p=i then j else i
 |_=>p
theorem zoN{wd:List Str}(g:∀ x∈wd,wd.count x=2){p:Nat}(hp:p < wd.length):∃ i j,zaa wd wd[p]=[i,j]/\i < j/\j < wd.length/\wd[i]?=some wd[p]/\wd[j]?=some wd[p]/\((p=i/\ptn wd p=j)∨(p=j/\ptn wd p=i)):=by
 obtain⟨i,j,e⟩:=zce (g wd[p] (Qa hp));obtain⟨h1,h2⟩:=zaT e;have hm:p∈zaa wd wd[p]:=jR.mpr ⟨jk.mpr hp,decide_eq_true (j3 hp)⟩;have ei:=zbl (wd:=wd) (x:=wd[p]) (k:=i) (by rw[e]; simp)
 have ej:=zbl (wd:=wd) (x:=wd[p]) (k:=j) (by rw[e]; simp)
 refine⟨i,j,e,h1,h2,ei,ej,?_⟩;have eq:ptn wd p=if p=i then j else i:=by
  unfold ptn;rw[js,j3 hp];show (match zaa wd wd[p] with |[i,j]=>if p=i then j else i |_=>p)=_
  rw[e]
 rw[e] at hm;simp at hm;rcases hm with rfl |rfl
 ·exact .inl ⟨rfl,by rw[eq,if_pos rfl]⟩
 ·exact .inr ⟨rfl,by rw[eq,if_neg (by lia)]⟩
theorem zoM{wd:List Str}(g:∀ x∈wd,wd.count x=2){p:Nat}(hp:p < wd.length):ptn wd p < wd.length/\ptn wd p≠p/\ptn wd (ptn wd p)=p/\wd.getD (ptn wd p) jS=wd.getD p jS:=by
 obtain⟨i,j,e,h1,h2,ei,ej,h3⟩:=zoN g hp;have gp:wd.getD p jS=wd[p]:=by rw[js,j3 hp]; rfl
 have gi:wd.getD i jS=wd[p]:=by rw[js,ei]; rfl
 have gj:wd.getD j jS=wd[p]:=by rw[js,ej]; rfl
 have pi:ptn wd i=j:=by
  unfold ptn;rw[gi,e];exact if_pos rfl
 have pj:ptn wd j=i:=by
  unfold ptn;rw[gj,e];exact if_neg (by lia)
 rcases h3 with ⟨rfl,h3⟩ |⟨rfl,h3⟩
 ·rw[h3]; exact⟨h2,by lia,pj,by rw[gj,gp]⟩
 ·rw[h3]; exact⟨by lia,by lia,pi,by rw[gi,gp]⟩
def Aw(wd:List Str)(hd:Str->Bool)(e:Nat):Nat:=2*ptn wd (e / 2)+(if decide (e / 2 < ptn wd (e / 2))=hd (wd.getD (e / 2) jS) then 1 - e%2 else e%2)
theorem zr8{wd:List Str}(g:∀ x∈wd,wd.count x=2)(hd:Str->Bool){e:Nat}(h:e < 2*wd.length):Aw wd hd e < 2*wd.length:=by
 have:=(zoM g (p:=e / 2) (by lia)).1
 unfold Aw;split<;>lia
theorem zwb{wd:List Str}(g:∀ x∈wd,wd.count x=2){hd he:Str->Bool}(hh:∀ x,he x=!hd x){e:Nat}(h:e < 2*wd.length):Aw wd he (Aw wd hd e)=e:=by
 obtain⟨h1,h2,h3,h4⟩:=zoM g (p:=e / 2) (by lia)
 generalize hb:(if decide (e / 2 < ptn wd (e / 2))=hd (wd.getD (e / 2) jS) then 1 - e%2 else e%2)=b
 have b2:b < 2:=by rw[<-hb]; split<;>lia
 have q:Aw wd hd e=2*ptn wd (e / 2)+b:=by unfold Aw; rw[hb]
 rw[q];unfold Aw;rw[show (2*ptn wd (e / 2)+b) / 2=ptn wd (e / 2) by lia,show (2*ptn wd (e / 2)+b)%2=b by lia,h3,h4,hh]
 have low:decide (ptn wd (e / 2) < e / 2)=!decide (e / 2 < ptn wd (e / 2)):=by
  by_cases c:e / 2 < ptn wd (e / 2)
  ·rw[decide_eq_true c,decide_eq_false (by lia)]; rfl
  ·rw[decide_eq_false c,decide_eq_true (by lia)]; rfl
 rw[low]
 by_cases c:decide (e / 2 < ptn wd (e / 2))=hd (wd.getD (e / 2) jS)
 ·rw[if_pos c] at hb;rw[if_pos (by rw[c]),<-hb]
  lia
 ·rw[if_neg c] at hb;rw[if_neg (fun z=>c (Bool.not_inj z)),<-hb];lia
def fw(wd:List Str)(hd:Str->Bool)(w:Nat):Nat:=Bw wd.length (Aw wd hd (Ew wd.length w))
theorem zmO{wd:List Str}(g:∀ x∈wd,wd.count x=2){hd he:Str->Bool}(hh:∀ x,he x=!hd x){w:Nat}(h:w < 2*wd.length):fw wd he (fl (fw wd hd w))=fl w:=by
 unfold fw;rw[zw5 (zr8 g hd (zng h)),zwb g hh (zng h),zwa h]
theorem zmN{wd:List Str}(g:∀ x∈wd,wd.count x=2)(hd:Str->Bool):Perm1 (2*wd.length) (fw wd hd):=by
 refine⟨fun w h=>zw9 (zr8 g hd (zng h)),fun x y hx hy e=>?_⟩;have a:=zmO g (hd:=hd) (he:=fun x=>!hd x) (fun _=>rfl) hx;have b:=zmO g (hd:=hd) (he:=fun x=>!hd x) (fun _=>rfl) hy;rw[e,b] at a;rw[<-ztc x,<-a,ztc]
theorem zaU(p:Key × T)(r:List (Key × T))(k:Key):zbt (p::r) k=if p.1=k then some p.2 else zbt r k:=by
 unfold zbt;rw[QX]
 by_cases h:p.1=k
 ·rw[if_pos h,decide_eq_true h]; rfl
 ·rw[if_neg h,decide_eq_false h]
theorem zkp(kvs:List (Key × T))(k k':Key)(v:T):zbt (zfg kvs k v) k'=if k=k' then some v else zbt kvs k':=by
 unfold zfg;split
 ·rename_i h
  induction kvs with
  |nil=>simp at h
  |cons p r ih=>
   rw[jj]
   by_cases hp:p.1=k
   ·rw[if_pos hp,zaU,zaU]
    by_cases hk:k=k'
    ·rw[if_pos hk];show (if p.1=k' then some v else _)=some v
     rw[if_pos (hp.trans hk)]
    ·rw[if_neg hk];show (if p.1=k' then some v else _)=_
     rw[if_neg (fun z=>hk (hp.symm.trans z)),if_neg (fun z=>hk (hp.symm.trans z))]
     clear ih h
     induction r with
     |nil=>rfl
     |cons q r ih2=>
      rw[jj]
      by_cases hq:q.1=k
      ·rw[if_pos hq,zaU,zaU];show (if q.1=k' then some v else _)=_
       rw[if_neg (fun z=>hk (hq.symm.trans z)),if_neg (fun z=>hk (hq.symm.trans z)),ih2]
      ·rw[if_neg hq,zaU,zaU,ih2]
   ·rw[if_neg hp,zaU,zaU];have h2:(r.any fun kv=>decide (kv.1=k))=true:=by
     rw[Z7,decide_eq_false hp,W5] at h;exact h
    rw[ih h2]
    by_cases hk:k=k'
    ·simp only[if_pos hk,if_neg (fun z:p.1=k'=>hp (z.trans hk.symm))]
    ·simp only[if_neg hk]
 ·rename_i h;have h':(kvs.any fun kv=>decide (kv.1=k))=false:=by rw[Bool.not_eq_true] at h; exact h
  clear h
  induction kvs with
  |nil=>
   show zbt [(k,v)] k'=_;rw[zaU]
  |cons p r ih=>
   rw[Z7,Bool.or_eq_false_iff] at h';have hp:p.1≠k:=of_decide_eq_false h'.1;rw[gO,zaU,zaU,ih h'.2]
   by_cases hk:k=k'
   ·simp only[if_pos hk,if_neg (fun z:p.1=k'=>hp (z.trans hk.symm))]
   ·simp only[if_neg hk]
theorem zq2(kvs:List (Key × T))(k:Key)(v:T):(zfg kvs k v).length<=kvs.length+1:=by
 unfold zfg;split
 ·rw[j6]; lia
 ·simp
def zd4(i j:Nat)(h:Bool):List Nat:=if h then [2*i,2*j,2*i+1,2*j+1] else [2*i,2*j+1,2*i+1,2*j]
theorem zhB(i j:Nat)(h:Bool):zdw [.lst [.int i,.int j],.bl h]=some (.lst ((zd4 i j h).map nT)):=by
 refine zcQ ?_;show Run zfy [some (.lst [.int i,.int j]),some (.bl h),none,none] _;unfold zfy;refine zab (s':=[some (.lst [.int i,.int j]),some (.bl h),some (.int i),some (.int j)]) (by simp_all?[]) ?_
 cases h with
 |true=>
  refine zfq (s':=[some (.lst [.int i,.int j]),some (.bl true),some (.int i),some (.int j)]) (by simp_all?[]<;>rfl) ?_
  unfold zd4 nT;simp
 |false=>
  refine zab (s':=[some (.lst [.int i,.int j]),some (.bl false),some (.int i),some (.int j)]) (by simp_all?[]) ?_
  refine zbp (s':=[some (.lst [.int i,.int j]),some (.bl false),some (.int i),some (.int j)]) (by simp_all?[]<;>rfl) ?_
  unfold zd4 nT;simp
def crT(c:Str × List Nat):T:=.tup [.str c.1,.lst (c.2.map nT)]
def Four(A:Nat->Nat)(l:List Nat):Prop:=∃ a b c d,l=[a,b,c,d]/\A a=d/\A b=a/\A c=b/\A d=c
theorem Four.len{A:Nat->Nat}{l:List Nat}(h:Four A l):l.length=4:=by obtain⟨a,b,c,d,rfl,_⟩:=h; rfl
theorem Four.at_{A:Nat->Nat}{l:List Nat}(h:Four A l){k:Nat}(hk:k < 4):∃ e,l[k]?=some e/\l[(k+3)%4]?=some (A e):=by
 obtain⟨a,b,c,d,rfl,h1,h2,h3,h4⟩:=h
 match k,hk with
 |0,_=>exact⟨a,rfl,by rw[h1]; rfl⟩
 |1,_=>exact⟨b,rfl,by rw[h2]; rfl⟩
 |2,_=>exact⟨c,rfl,by rw[h3]; rfl⟩
 |3,_=>exact⟨d,rfl,by rw[h4]; rfl⟩
def Knows(A:Nat->Nat)(kvs:List (Key × T))(e:Nat):Prop:=zbt kvs (.inl (e:Int))=some (.int (A e:Nat))
theorem Knows.put{A:Nat->Nat}{kvs:List (Key × T)}{e:Nat}(h:Knows A kvs e)(d:Nat):Knows A (zfg kvs (.inl (d:Int)) (.int (A d:Nat))) e:=by
 unfold Knows;rw[zkp]
 by_cases q:(d:Int)=(e:Int)
 ·rw[if_pos (congrArg NO q),show d=e by lia]
 ·rw[if_neg (fun z=>q (JI z))];exact h
theorem Knows.new{A:Nat->Nat}{kvs:List (Key × T)}(d:Nat):Knows A (zfg kvs (.inl (d:Int)) (.int (A d:Nat))) d:=by
 unfold Knows;rw[zkp,if_pos rfl]
theorem zqr(e:Nat):zh1 (nT e)=some (.inl (e:Int)):=rfl
theorem zvk{A:Nat->Nat}{l:List Nat}(h:Four A l){k:Nat}(hk:k < 4){e:Nat}(he:l[k]?=some e):za4 (.lst (l.map nT)) (.int ((k:Int) - 1))=some (nT (A e)):=by
 obtain⟨a,b,c,d,rfl,h1,h2,h3,h4⟩:=h
 match k,hk with
 |0,_=>obtain rfl:a=e:=jd he; rw[h1]; rfl
 |1,_=>obtain rfl:b=e:=jd he; rw[h2]; rfl
 |2,_=>obtain rfl:c=e:=jd he; rw[h3]; rfl
 |3,_=>obtain rfl:d=e:=jd he; rw[h4]; rfl
theorem zo2{A:Nat->Nat}{l:List Nat}(h:Four A l){k:Nat}(hk:k < 4){e:Nat}(he:l[k]?=some e):za4 (.lst (l.map nT)) (.int (((k:Int)+3)%4))=some (nT (A e)):=by
 obtain⟨a,b,c,d,rfl,h1,h2,h3,h4⟩:=h
 match k,hk with
 |0,_=>obtain rfl:a=e:=jd he; rw[h1]; rfl
 |1,_=>obtain rfl:b=e:=jd he; rw[h2]; rfl
 |2,_=>obtain rfl:c=e:=jd he; rw[h3]; rfl
 |3,_=>obtain rfl:d=e:=jd he; rw[h4]; rfl
theorem zi4{α:Type}{l:List α}{k:Nat}{x:α}(h:l[k]?=some x):l.take (k+1)=l.take k++[x]:=by rw[ZG,h]; rfl
theorem zla{A:Nat->Nat}{cs:List (Str × List Nat)}(h:∀ c∈cs,Four A c.2)(hl:cs.length<=100):∃ kvs,zeO [.lst (cs.map crT)]=some (.fd kvs)/\∀ c∈cs,∀ e∈c.2,Knows A kvs e:=by
 obtain⟨t,e,kvs,rfl,hk⟩:=zcG (n:=5) (d:=zdz) (ts:=[.lst (cs.map crT)]) (Q:=fun t=>∃ kvs,t=.fd kvs/\∀ c∈cs,∀ e∈c.2,Knows A kvs e) (by
  show Run zdz [some (.lst (cs.map crT)),none,none,none,none] _;unfold zdz;refine zab (s':=[some (.lst (cs.map crT)),some (.dct []),none,none,none]) (by simp_all?[]) ?_
  refine zcW (its:=cs.map crT) (fun j s=>∃ kvs a b c,s=[some (.lst (cs.map crT)),some (.dct kvs),a,b,c]/\kvs.length<=4*j/\∀ c∈cs.take j,∀ e∈c.2,Knows A kvs e) (s1:=[some (.lst (cs.map crT)),some (.dct []),none,none,none]) (by simp_all?[]) ⟨[],_,_,_,rfl,by simp,by simp⟩ ?_ ?_
  ·rintro j z s hz ⟨kvs,a,b,c,rfl,hlen,hkn⟩;rw[ji] at hz;obtain⟨⟨x,es⟩,hj,rfl⟩:=Qm hz;have hF:Four A es:=h (x,es) (jJ hj);have hjl:=(j9.mp hj).1;have hel:=hF.len;refine⟨[some (.lst (cs.map crT)),some (.dct kvs),some (.str x),some (.lst (es.map nT)),c],rfl,?_⟩;refine zig (its:=(jf 4).map nT) (fun k s=>∃ kvs c,s=[some (.lst (cs.map crT)),some (.dct kvs),some (.str x),some (.lst (es.map nT)),c]/\kvs.length<=4*j+k/\(∀ c∈cs.take j,∀ e∈c.2,Knows A kvs e)/\∀ e∈es.take k,Knows A kvs e) (s1:=[some (.lst (cs.map crT)),some (.dct kvs),some (.str x),some (.lst (es.map nT)),c]) (by simp_all?[zeD (j:=4) (by decide) (by decide)]<;>rfl) ⟨kvs,_,rfl,by lia,hkn,by simp⟩ ?_ ?_
   ·rintro k z s hz ⟨kvs,c,rfl,l1,k1,k2⟩;rw[ji] at hz;obtain⟨k',hz',rfl⟩:=Qm hz;obtain⟨hk4,rfl⟩:=j9.mp hz';rw[Yo];rw[QM] at hk4;obtain⟨e',he,_⟩:=hF.at_ hk4;have it:=zo2 hF hk4 he;have it0:za4 (.lst (es.map nT)) (.int (k:Int))=some (nT e'):=by rw[zk3,ji,he]; rfl
    have sz:kvs.length < jh:=zbK (by lia)
    have ky:=zqr e';refine⟨[some (.lst (cs.map crT)),some (.dct kvs),some (.str x),some (.lst (es.map nT)),some (.int (k:Nat))],rfl,?_⟩
    refine zaX (s':=[some (.lst (cs.map crT)),some (.dct (zfg kvs (.inl (e':Int)) (.int (A e':Nat)))),some (.str x),some (.lst (es.map nT)),some (.int (k:Nat))]) (by
     unfold zp8;have f1:d2 za4 (dV 3) (d2 ze9 (d2 zav (dV 4) (dC (.int 3))) (dC (.int 4))) [some (.lst (cs.map crT)),some (.dct kvs),some (.str x),some (.lst (es.map nT)),some (.int (k:Nat))]=some (nT (A e'),[some (.lst (cs.map crT)),some (.dct kvs),some (.str x),some (.lst (es.map nT)),some (.int (k:Nat))]):=by simp_all?[]; rw[it]; rfl
     have f2:d2 za4 (dV 3) (dV 4) [some (.lst (cs.map crT)),some (.dct kvs),some (.str x),some (.lst (es.map nT)),some (.int (k:Nat))]=some (nT e',[some (.lst (cs.map crT)),some (.dct kvs),some (.str x),some (.lst (es.map nT)),some (.int (k:Nat))]):=by unfold d2 dV; simp only[jD,jx,zaV,j5,jo]; rw[it0]; rfl
     rw[f1,j5];show (((dV 4 |> fun _=>d2 za4 (dV 3) (dV 4)) _).bind _)=_
     simp only[f2,j5,jD,jx,zaV,ky,sz,if_true]
     rfl) ⟨_,_,rfl,?_,fun c hc e he=>(k1 c hc e he).put _,fun e hm=>?_⟩
    ·have:=zq2 kvs (.inl (e':Int)) (.int (A e':Nat));lia
    ·rw[zi4 he] at hm;rcases jz.mp hm with q |q
     ·exact(k2 e q).put _
     ·rw[jG.mp q]; exact .new _
   ·rintro s ⟨kvs,c,rfl,l1,k1,k2⟩;rw[j6,QM] at l1 k2;refine⟨kvs,_,_,_,rfl,by lia,fun c hc e he=>?_⟩
    rw[zi4 hj] at hc;rcases jz.mp hc with q |q
    ·exact k1 c q e he
    ·rw[jG.mp q] at he;exact k2 e (by rw[QD (by lia)]; exact he)
  ·rintro s ⟨kvs,a,b,c,rfl,hlen,hkn⟩;rw[j6,QD (jl _)] at hkn
   exact zb3 (r:=.rt (.fd kvs) [some (.lst (cs.map crT)),some (.fd kvs),a,b,c]) (by simp_all?[]) ⟨_,_,rfl,kvs,rfl,hkn⟩)
 exact⟨kvs,e,hk⟩
structure Crs (wd:List Str) (hd:Str->Bool) (cs:List (Str × List Nat)):Prop where
 two:∀ x∈wd,wd.count x=2
 len:wd.length<=60
 cl:cs.length<=30
 four:∀ c∈cs,Four (Aw wd hd) c.2
 all:∀ e,e < 2*wd.length->∃ c∈cs,e∈c.2
def Cnt(wd:List Str)(hd:Str->Bool)(m:Nat):Prop:=(wd=[]/\m=2)∨(wd≠[]/\∃ L,Trav (2*wd.length) (Orb (fw wd hd)) L/\m=L.length)
theorem zqj{wd:List Str}{hd:Str->Bool}(g:∀ x∈wd,wd.count x=2)(hl:wd.length<=60){kvs:List (Key × T)}{w:Nat}(hw:w < 2*wd.length)(hk:Knows (Aw wd hd) kvs (Ew wd.length w)):zbb [.int w,.fd kvs,.int (wd.length:Nat)]=some (.int (fw wd hd w:Nat)):=by
 refine zcQ ?_;show Run zbx [some (.int w),some (.fd kvs),some (.int (wd.length:Nat)),none,none] _;unfold zbx;refine zab (s':=[some (.int w),some (.fd kvs),some (.int (wd.length:Nat)),some (.int ((w:Int) - 1)),none]) (by simp_all?[]) ?_
 obtain⟨z,ez,hz⟩:∃ z:Option T,zcb (dB (d2 gEq (d2 ze9 (dV 0) (dC (.int 2))) (dC (.int 0)))) (zay 3 (d2 zav (d2 ze9 (d2 zav (dV 0) (dC (.int 2))) (d2 zdt (dC (.int 2)) (dV 2))) (dC (.int 1)))) zaD [some (.int w),some (.fd kvs),some (.int (wd.length:Nat)),some (.int ((w:Int) - 1)),none]=some (.nx [some (.int w),some (.fd kvs),some (.int (wd.length:Nat)),some (.int (Ew wd.length w:Nat)),none])/\z=none:=by
  refine⟨none,?_,rfl⟩
  by_cases h1:w%2=1
  ·have hd:decide (((w:Nat):Int)%2=0)=false:=decide_eq_false (by lia)
   have e:((Ew wd.length w:Nat):Int)=(w:Int) - 1:=by unfold Ew; rw[if_pos h1]; lia
   rw[e]
   simp_all?[hd]
  ·have hd:decide (((w:Nat):Int)%2=0)=true:=decide_eq_true (by lia)
   have e:((w:Int)+2)%(2*((wd.length:Nat):Int))+1=((Ew wd.length w:Nat):Int):=by
    unfold Ew;rw[if_neg h1]
    by_cases h2:w / 2+1=wd.length
    ·rw[if_pos h2,show (w:Int)+2=2*((wd.length:Nat):Int) by lia,Int.emod_self]; rfl
    ·rw[if_neg h2,YN (by lia) (by lia)]; lia
   simp_all?[hd,e]
 refine zab ez ?_;have e2:za4 (.fd kvs) (.int (Ew wd.length w:Nat))=some (.int (Aw wd hd (Ew wd.length w):Nat)):=hk;have hA:=zr8 g hd (zng hw);unfold fw;generalize Aw wd hd (Ew wd.length w)=a at e2 hA;generalize Ew wd.length w=ew at e2;refine zab (s':=[some (.int w),some (.fd kvs),some (.int (wd.length:Nat)),some (.int (ew:Nat)),some (.int (a:Nat))]) (by simp_all?[e2]) ?_
 by_cases h1:a%2=0
 ·have hd:decide (((a:Nat):Int)%2=0)=true:=decide_eq_true (by lia)
  refine zfq (s':=[some (.int w),some (.fd kvs),some (.int (wd.length:Nat)),some (.int (ew:Nat)),some (.int (a:Nat))]) (by simp_all?[hd]<;>rfl) ?_
  unfold Bw;rw[if_pos h1]
 ·have hd:decide (((a:Nat):Int)%2=0)=false:=decide_eq_false (by lia)
  refine zab (s':=[some (.int w),some (.fd kvs),some (.int (wd.length:Nat)),some (.int (ew:Nat)),some (.int (a:Nat))]) (by simp_all?[hd]) ?_
  have e:((a:Int) - 2)%(2*((wd.length:Nat):Int))=((Bw wd.length a:Nat):Int):=by
   unfold Bw;rw[if_neg h1]
   by_cases h2:a=1
   ·rw[if_pos h2,h2,<-Int.add_emod_right,YN (by lia) (by lia)]; lia
   ·rw[if_neg h2,YN (by lia) (by lia)]; lia
  exact zbp (s':=[some (.int w),some (.fd kvs),some (.int (wd.length:Nat)),some (.int (ew:Nat)),some (.int (a:Nat))]) (by simp_all?[e]<;>rfl) rfl
structure Wkl (n:Nat) (f:Nat->Nat) (lf:List Bool) (Wl L:List Nat) (s:Nat):Prop where
 ll:lf.length=n
 set:∀ x:Nat,x < n->lf[x]?=some (decide (x∉Wl))
 nd:Wl.Nodup
 lt:∀ x∈Wl,x < n
 mem:∀ x,x∈Wl↔x < n/\∃ t∈L,Orb f t x
 ltL:∀ x∈L,x < n
 one:L.Pairwise fun x y=>¬ Orb f x y
 all:∀ x,x < s->∃ t∈L,Orb f t x
def zvh(s:Sg):Nat:=300 - lenB ((s[6]?).join.getD .non) - 1
theorem zf7{wd:List Str}{hd:Str->Bool}{cs:List (Str × List Nat)}(h:Crs wd hd cs):∃ rows:List (List Nat),zcy [.int (wd.length:Nat),.lst (cs.map crT)]=some (.lst (rows.map zfe))/\Cnt wd hd rows.length:=by
 have hcl:=h.cl;have hlen:=h.len
 obtain⟨t,e,rows,rfl,hc⟩:=zcG (n:=8) (d:=zcs) (ts:=[.int (wd.length:Nat),.lst (cs.map crT)]) (Q:=fun t=>∃ rows:List (List Nat),t=.lst (rows.map zfe)/\Cnt wd hd rows.length) (by
  show Run zcs [some (.int (wd.length:Nat)),some (.lst (cs.map crT)),none,none,none,none,none,none] _;unfold zcs
  by_cases h0:wd=[]
  ·subst h0;exact zka (t:=.lst [.lst [],.lst []]) (s':=[some (.int (([]:List Str).length:Nat)),some (.lst (cs.map crT)),none,none,none,none,none,none]) (by simp_all?[]<;>rfl) ⟨_,_,rfl,[[],[]],rfl,.inl ⟨rfl,rfl⟩⟩
  ·have hp:=NV.mpr h0;have hz0:decide (((wd.length:Nat):Int)=0)=false:=decide_eq_false (by lia)
   obtain⟨kvs,ek,hk⟩:=zla h.four (by lia)
   have hf:=zmN h.two hd;have nx:∀ w,w < 2*wd.length->zbb [.int w,.fd kvs,.int (wd.length:Nat)]=some (.int (fw wd hd w:Nat)):=fun w hw=>by
    obtain⟨c,hc,he⟩:=h.all _ (zng hw);exact zqj h.two hlen hw (hk c hc _ he)
   generalize hff:fw wd hd=f at hf nx;generalize hn:2*wd.length=n at hf nx;have hn120:n<=120:=by lia
   have mn:(2:Int)*((wd.length:Nat):Int)=(n:Int):=by lia
   refine zab (s':=[some (.int (wd.length:Nat)),some (.lst (cs.map crT)),none,none,none,none,none,none]) (by simp_all?[hz0]) ?_
   refine zab (s':=[some (.int (wd.length:Nat)),some (.lst (cs.map crT)),some (.fd kvs),none,none,none,none,none]) (by simp_all?[ek]) ?_
   have r1:znh (n:Int)=true:=zeD (by lia) (by lia)
   have e3:=zju (M:=[]) (caps:=[none]) (fi:=zhV (dAc (d2 zdt (dC (.int 2)) (dV 0)) dAn)) (dg:=dGn 0) (fe:=dC (.bl true)) (s:=[some (.int (wd.length:Nat)),some (.lst (cs.map crT)),some (.fd kvs),none,none,none,none,none]) (jf n) nT (fun _=>.bl true) (by simp_all?[mn,r1,QN,znz]) (by simp; lia) (by
    intro w hw
    exact⟨[some (nT w)],rfl,rfl,rfl⟩)
   rw[show (jf n).map (fun _=>T.bl true)=((jf n).map fun _=>true).map T.bl by rw[jU]; rfl] at e3
   refine zab (s':=[some (.int (wd.length:Nat)),some (.lst (cs.map crT)),some (.fd kvs),some (.lst (((jf n).map fun _=>true).map T.bl)),none,none,none,none]) (by simp_all?[e3]) ?_
   refine zab (s':=[some (.int (wd.length:Nat)),some (.lst (cs.map crT)),some (.fd kvs),some (.lst (((jf n).map fun _=>true).map T.bl)),some (.lst []),none,none,none]) (by simp_all?[]<;>rfl) ?_
   generalize hU:some (T.int ((wd.length:Nat):Int))=U;generalize hV:some (T.lst (cs.map crT))=V;refine zcW (its:=zaR 0 n) (fun s st=>∃(rows:List (List Nat)) (L Wl:List Nat) (lf:List Bool) (a b c:Option T),st=[U,V,some (.fd kvs),some (.lst (lf.map T.bl)),some (.lst (rows.map zfe)),a,b,c]/\Wkl n f lf Wl L s/\rows.length=L.length/\rows.length<=s)
    (s1:=[U,V,some (.fd kvs),some (.lst (((jf n).map fun _=>true).map T.bl)),some (.lst (([]:List (List Nat)).map zfe)),none,none,none]) (by rw[<-hU]; simp_all?[mn,r1,QN]<;>rfl) ⟨[],[],[],(jf n).map fun _=>true,none,none,none,rfl,⟨by simp,fun x hx=>by rw[ji,gf hx]; rfl,gE,fun x hx=>by simp at hx,fun x=>by simp,fun x hx=>by simp at hx,YE,fun x hx=>by lia⟩,rfl,jl _⟩ ?_ ?_
   ·rintro s z st hz ⟨rows,L,Wl,lf,a,b,c,rfl,hW,hrl,hrs⟩;obtain⟨hs,rfl⟩:s < n/\z=.int (s:Int):=by
     obtain⟨h1,h2⟩:=zfQ hz;exact⟨h1,by rw[h2,Nx]⟩
    refine⟨[U,V,some (.fd kvs),some (.lst (lf.map T.bl)),some (.lst (rows.map zfe)),some (.int (s:Int)),b,c],rfl,?_⟩;refine zab (s':=[U,V,some (.fd kvs),some (.lst (lf.map T.bl)),some (.lst (rows.map zfe)),some (.int (s:Int)),some (.lst []),c]) (by simp_all?[]<;>rfl) ?_
    refine zab (s':=[U,V,some (.fd kvs),some (.lst (lf.map T.bl)),some (.lst (rows.map zfe)),some (.int (s:Int)),some (.lst []),some (.int (s:Int))]) (by simp_all?[]) ?_
    refine zdl (fun st=>∃(k:Nat) (lf':List Bool),st=[U,V,some (.fd kvs),some (.lst (lf'.map T.bl)),some (.lst (rows.map zfe)),some (.int (s:Int)),some (.lst ((zaI f k s).map nT)),some (.int ((itr f k s:Nat):Int))]/\lf'.length=n/\(∀ x:Nat,x < n->lf'[x]?=some (decide (x∉Wl++zaI f k s)))/\(Wl++zaI f k s).Nodup) zvh ?_ ⟨0,lf,rfl,hW.ll,by simpa[zaI] using hW.set,by simpa[zaI] using hW.nd⟩ ?_ ?_
    ·show 300 - 0 - 1 < 300;lia
    ·rintro st ⟨k,lf',rfl,h1,h2,h3⟩;have hx:=hf.itr_lt k hs;have hlen:(Wl++zaI f k s).length<=n:=by
      have:=zdq (m:=jf n) h3 fun x hx=>by
       refine jk.mpr ?_;rcases jz.mp hx with q |q
       ·exact hW.lt x q
       ·obtain⟨i,_,rfl⟩:=jy.mp q;exact hf.itr_lt i hs
      rwa [QM] at this
     have it:za4 (.lst (lf'.map T.bl)) (.int ((itr f k s:Nat):Int))=some (.bl (decide (itr f k s∉Wl++zaI f k s))):=by rw[zk3,ji,h2 _ hx]; rfl
     refine⟨decide (itr f k s∉Wl++zaI f k s),[U,V,some (.fd kvs),some (.lst (lf'.map T.bl)),some (.lst (rows.map zfe)),some (.int (s:Int)),some (.lst ((zaI f k s).map nT)),some (.int ((itr f k s:Nat):Int))],by simp_all?[it],?_⟩
     split
     ·rename_i hc;have hni:itr f k s∉Wl++zaI f k s:=of_decide_eq_true hc;have hsl:(zaI f k s).length=k:=by unfold zaI; simp
      have hkn:k<=n:=by rw[ju,hsl] at hlen; lia
      have ix:ixN n ((itr f k s:Nat):Int)=some (itr f k s):=zjx hx;have sv:(lf'.map T.bl).set (itr f k s) (.bl false)=(lf'.set (itr f k s) false).map T.bl:=by rw[WG]
      refine zab (s':=[U,V,some (.fd kvs),some (.lst ((lf'.set (itr f k s) false).map T.bl)),some (.lst (rows.map zfe)),some (.int (s:Int)),some (.lst ((zaI f k s).map nT)),some (.int ((itr f k s:Nat):Int))]) (by
       simp_all?[h1,ix,sv]) ?_
      refine zab (s':=[U,V,some (.fd kvs),some (.lst ((lf'.set (itr f k s) false).map T.bl)),some (.lst (rows.map zfe)),some (.int (s:Int)),some (.lst ((zaI f (k+1) s).map nT)),some (.int ((itr f k s:Nat):Int))]) (by
       simp_all?[zpr,zdE,jA,jj,Z3]<;>rfl) ?_
      have nw:=nx _ hx;refine zaX (s':=[U,V,some (.fd kvs),some (.lst ((lf'.set (itr f k s) false).map T.bl)),some (.lst (rows.map zfe)),some (.int (s:Int)),some (.lst ((zaI f (k+1) s).map nT)),some (.int ((itr f (k+1) s:Nat):Int))]) (by rw[<-hU]; simp_all?[nw]<;>rfl) ⟨⟨k+1,_,rfl,by rw[Q2]; exact h1,fun x hx2=>?_,?_⟩,?_⟩
      ·rw[zdE,<-jZ,Ws]
       by_cases q:itr f k s=x
       ·rw[if_pos q,if_pos (by rw[h1]; exact hx),decide_eq_false]
        rw[<-q];simp
       ·rw[if_neg q,h2 x hx2];refine congrArg some (decide_eq_decide.mpr ?_);rw[jz (s:=Wl++zaI f k s),jG];constructor
        ·intro z y;rcases y with y |y
         ·exact z y
         ·exact q y.symm
        ·intro z y;exact z (.inl y)
      ·rw[zdE,<-jZ,jW];exact⟨h3,by simp,fun x hx y hy e=>hni (by rw[jG] at hy; subst hy; exact e▸hx)⟩
      ·show 300 - ((zaI f (k+1) s).map nT).length - 1 < 300 - ((zaI f k s).map nT).length - 1;rw[j6,j6,zdE,ju,hsl];simp;lia
     ·trivial
    ·rintro st0 st' ⟨k,lf',rfl,h1,h2,h3⟩ hfalse;have hx:=hf.itr_lt k hs;have it:za4 (.lst (lf'.map T.bl)) (.int ((itr f k s:Nat):Int))=some (.bl (decide (itr f k s∉Wl++zaI f k s))):=by rw[zk3,ji,h2 _ hx]; rfl
     have hE:zgm (d2v za4 3 (dV 7)) [U,V,some (.fd kvs),some (.lst (lf'.map T.bl)),some (.lst (rows.map zfe)),some (.int (s:Int)),some (.lst ((zaI f k s).map nT)),some (.int ((itr f k s:Nat):Int))]=some (decide (itr f k s∉Wl++zaI f k s),[U,V,some (.fd kvs),some (.lst (lf'.map T.bl)),some (.lst (rows.map zfe)),some (.int (s:Int)),some (.lst ((zaI f k s).map nT)),some (.int ((itr f k s:Nat):Int))]):=by simp_all?[it]
     rw[hE] at hfalse;injection hfalse with hfalse;injection hfalse with hb hst;subst hst;have hin:itr f k s∈Wl++zaI f k s:=gb fun z=>of_decide_eq_false hb z;cases k with
     |zero=>
      have hsW:s∈Wl:=by simpa[zaI,itr] using hin
      refine zaX (s':=[U,V,some (.fd kvs),some (.lst (lf'.map T.bl)),some (.lst (rows.map zfe)),some (.int (s:Int)),some (.lst ((zaI f 0 s).map nT)),some (.int ((itr f 0 s:Nat):Int))]) (by simp_all?[zaI,Nz,Z3]<;>rfl) ⟨rows,L,Wl,lf',_,_,_,rfl,⟨h1,by simpa[zaI] using h2,hW.nd,hW.lt,hW.mem,hW.ltL,hW.one,fun x hx=>?_⟩,hrl,by lia⟩
      by_cases q:x=s
      ·rw[q]; exact((hW.mem s).mp hsW).2
      ·exact hW.all x (by lia)
     |succ k=>
      have hs0:s∈zaI f (k+1) s:=jy.mpr ⟨0,by simp,rfl⟩
      have hsn:s∉Wl:=fun z=>(jW.mp h3).2.2 s z s hs0 rfl;have hin2:itr f (k+1) s∈zaI f (k+1) s:=by
       rcases jz.mp hin with q |q
       ·exfalso
        obtain⟨_,t,ht,o⟩:=(hW.mem _).mp q;have o2:Orb f (itr f (k+1) s) s:=Orb.symm hf hs ⟨k+1,rfl⟩;exact hsn ((hW.mem s).mpr ⟨hs,t,ht,o.trans o2⟩)
       ·exact q
      have hall:=zlK hin2;have hsl:(zaI f (k+1) s).length=k+1:=by unfold zaI; simp
      have hgt:decide (((k+1:Nat):Int) > 0)=true:=decide_eq_true (by lia)
      refine zaX (s':=[U,V,some (.fd kvs),some (.lst (lf'.map T.bl)),some (.lst ((rows++[zaI f (k+1) s]).map zfe)),some (.int (s:Int)),some (.lst ((zaI f (k+1) s).map nT)),some (.int ((itr f (k+1) s:Nat):Int))]) (by simp_all?[hsl,hgt,zpr,jA,jj,Z3,zfe]<;>rfl) ⟨rows++[zaI f (k+1) s],L++[s],Wl++zaI f (k+1) s,lf',_,_,_,rfl,⟨h1,h2,h3,fun x hx=>?_,fun x=>?_,fun x hx=>?_,?_,fun x hx=>?_⟩,by rw[ju,ju,hrl]; rfl,by rw[ju,gG]; lia⟩
      ·rcases jz.mp hx with q |q
       ·exact hW.lt x q
       ·obtain⟨i,_,rfl⟩:=jy.mp q;exact hf.itr_lt i hs
      ·rw[jz,hW.mem];constructor
       ·rintro(⟨q1,t,ht,o⟩ |q)
        ·exact⟨q1,t,jv _ ht,o⟩
        ·obtain⟨i,_,rfl⟩:=jy.mp q;exact⟨hf.itr_lt i hs,s,by simp,i,rfl⟩
       ·rintro⟨q1,t,ht,o⟩;rcases jz.mp ht with q |q
        ·exact .inl ⟨q1,t,q,o⟩
        ·rw[jG.mp q] at o;obtain⟨i,rfl⟩:=o;exact .inr (hall i)
      ·rcases jz.mp hx with q |q
       ·exact hW.ltL x q
       ·rw[jG.mp q]; exact hs
      ·rw[List.pairwise_append];refine⟨hW.one,by simp,fun x hx y hy o=>?_⟩
       rw[jG.mp hy] at o;exact hsn ((hW.mem s).mpr ⟨hs,x,hx,o⟩)
      ·by_cases q:x=s
       ·exact⟨s,by simp,by rw[q]; exact Orb.refl f s⟩
       ·obtain⟨t,ht,o⟩:=hW.all x (by lia)
        exact⟨t,jv _ ht,o⟩
   ·rintro st ⟨rows,L,Wl,lf,a,b,c,rfl,hW,hrl,hrs⟩;rw[zbO] at hW;refine zb3 (r:=.rt (.lst (rows.map zfe)) [U,V,some (.fd kvs),some (.lst (lf.map T.bl)),some (.lst (rows.map zfe)),a,b,c]) (by simp_all?[]) ⟨_,_,rfl,rows,rfl,.inr ⟨h0,L,?_,hrl⟩⟩
    rw[hff,hn]
    exact⟨hW.ltL,hW.one,hW.all⟩)
 exact⟨rows,e,hc⟩
def zbQ(wd:List Str)(x:Str)(h:Bool):List Nat:=match zaa wd x with
 |[i,j]=>zd4 i j h
 |_=>[]
theorem zdy{wd:List Str}{x:Str}{i j:Nat}(e:zaa wd x=[i,j])(h:Bool):zbQ wd x h=zd4 i j h:=by unfold zbQ; rw[e]
def zkG(wd:List Str)(hd:Str->Bool):List (Str × List Nat):=(za0 wd).map fun x=>(x,zbQ wd x (hd x))
theorem zj3{wd:List Str}{hd:Str->Bool}{p q:Nat}{x:Str}(hp:ptn wd p=q)(hx:wd.getD p jS=x){b:Nat}(hb:b < 2):Aw wd hd (2*p+b)=2*q+(if decide (p < q)=hd x then 1 - b else b):=by
 unfold Aw;rw[show (2*p+b) / 2=p by lia,show (2*p+b)%2=b by lia,hp,hx]
theorem zn7{wd:List Str}(g:GoodWord wd)(hd:Str->Bool):Crs wd hd (zkG wd hd):=by
 have tl:=zdU g.two;have hl:=g.len;refine⟨g.two,hl,by unfold zkG; rw[j6]; lia,fun c hc=>?_,fun e he=>?_⟩
 ·unfold zkG at hc;obtain⟨x,hx,rfl⟩:=jy.mp hc;have hx:=mem_firsts.mp hx;obtain⟨i,j,e⟩:=zce (g.two x hx);obtain⟨h1,h2⟩:=zaT e;have ei:=zbl (wd:=wd) (x:=x) (k:=i) (by rw[e]; simp)
  have ej:=zbl (wd:=wd) (x:=x) (k:=j) (by rw[e]; simp)
  have gi:wd.getD i jS=x:=by rw[js,ei]; rfl
  have gj:wd.getD j jS=x:=by rw[js,ej]; rfl
  have pi:ptn wd i=j:=by
   unfold ptn;rw[gi,e];exact if_pos rfl
  have pj:ptn wd j=i:=by
   unfold ptn;rw[gj,e];exact if_neg (by lia)
  have dij:decide (i < j)=true:=decide_eq_true h1;have dji:decide (j < i)=false:=decide_eq_false (by lia)
  have i0:=zj3 (hd:=hd) pi gi (b:=0) (by lia)
  have i1:=zj3 (hd:=hd) pi gi (b:=1) (by lia)
  have j0:=zj3 (hd:=hd) pj gj (b:=0) (by lia)
  have j1:=zj3 (hd:=hd) pj gj (b:=1) (by lia)
  rw[dij] at i0 i1;rw[dji] at j0 j1;show Four (Aw wd hd) (zbQ wd x (hd x));rw[zdy e];cases hh:hd x with
  |true=>
   rw[hh] at i0 i1 j0 j1;rw[if_pos rfl] at i0 i1;rw[if_neg (by simp)] at j0 j1
   exact⟨2*i,2*j,2*i+1,2*j+1,rfl,i0,j0,i1,j1⟩
  |false=>
   rw[hh] at i0 i1 j0 j1;rw[if_neg (by simp)] at i0 i1
   rw[if_pos rfl] at j0 j1;exact⟨2*i,2*j+1,2*i+1,2*j,rfl,i0,j1,i1,j0⟩
 ·obtain⟨i,j,e1,h1,h2,ei,ej,h3⟩:=zoN g.two (p:=e / 2) (by lia)
  have hm:wd[e / 2]∈wd:=Qa _;refine⟨(wd[e / 2],zbQ wd wd[e / 2] (hd wd[e / 2])),jy.mpr ⟨_,mem_firsts.mpr hm,rfl⟩,?_⟩;show e∈zbQ wd wd[e / 2] (hd wd[e / 2]);rw[zdy e1];have h4:e=2*i∨e=2*i+1∨e=2*j∨e=2*j+1:=by
   rcases h3 with ⟨h3,_⟩ |⟨h3,_⟩<;>lia
  cases hd wd[e / 2] with
  |true=>
   show e∈[2*i,2*j,2*i+1,2*j+1];simp;lia
  |false=>
   show e∈[2*i,2*j+1,2*i+1,2*j];simp;lia
def pl1(wd:List Str)(x:Str):Nat:=(zaa wd x).getD 0 0
def pl2(wd:List Str)(x:Str):Nat:=(zaa wd x).getD 1 0
def nsN(wd:List Str)(v:Nat):Str:=(za0 wd).getD v jS
def iN(wd:List Str)(v:Nat):Nat:=pl1 wd (nsN wd v)
def jN(wd:List Str)(v:Nat):Nat:=pl2 wd (nsN wd v)
def hN(wd:List Str)(hd:Str->Bool)(v:Nat):Bool:=hd (nsN wd v)
def nmN(wd:List Str)(p:Nat):Nat:=(za0 wd).idxOf (wd.getD p jS)
theorem zco{wd:List Str}{v:Nat}(hv:v < (za0 wd).length):nsN wd v∈za0 wd:=by
 unfold nsN;rw[js,j3 hv];exact Qa hv
theorem zeH{wd:List Str}{x:Str}(h:x∈za0 wd):nsN wd ((za0 wd).idxOf x)=x:=by
 unfold nsN;have:=Qf.mpr h;rw[js,j3 this];exact Yr this
theorem zhC{wd:List Str}{v:Nat}(hv:v < (za0 wd).length):(za0 wd).idxOf (nsN wd v)=v:=by
 have h1:=zco hv;have h2:=Qf.mpr h1;have h3:(za0 wd)[(za0 wd).idxOf (nsN wd v)]=(za0 wd)[v]:=by
  rw[Yr h2];unfold nsN;rw[js,j3 hv]; rfl
 exact(ZB (zbn wd)).mp h3
theorem zjg{wd:List Str}{x:Str}(h:wd.count x=2):zaa wd x=[pl1 wd x,pl2 wd x]/\pl1 wd x < pl2 wd x/\pl2 wd x < wd.length/\wd.getD (pl1 wd x) jS=x/\wd.getD (pl2 wd x) jS=x:=by
 obtain⟨i,j,e⟩:=zce h;obtain⟨h1,h2⟩:=zaT e;have ei:=zbl (wd:=wd) (x:=x) (k:=i) (by rw[e]; simp)
 have ej:=zbl (wd:=wd) (x:=x) (k:=j) (by rw[e]; simp)
 unfold pl1 pl2;rw[e];exact⟨rfl,h1,h2,by show wd.getD i _=x; rw[js,ei]; rfl,by show wd.getD j _=x; rw[js,ej]; rfl⟩
theorem zqy{wd:List Str}(g:∀ x∈wd,wd.count x=2):Ij (za0 wd).length (iN wd) (jN wd) (nmN wd):=by
 have hl:=zdU g;have pl:∀ v,v < (za0 wd).length->zaa wd (nsN wd v)=[pl1 wd (nsN wd v),pl2 wd (nsN wd v)]/\pl1 wd (nsN wd v) < pl2 wd (nsN wd v)/\pl2 wd (nsN wd v) < wd.length/\wd.getD (pl1 wd (nsN wd v)) jS=(nsN wd v)/\wd.getD (pl2 wd (nsN wd v)) jS=(nsN wd v):=fun v hv=>zjg (g _ (mem_firsts.mp (zco hv)));have hm:∀ p,p < 2*(za0 wd).length->wd.getD p jS∈za0 wd/\p∈zaa wd (wd.getD p jS):=fun p hp=>by
  have hp:p < wd.length:=hl▸hp;rw[js,j3 hp];exact⟨mem_firsts.mpr (Qa hp),jR.mpr ⟨jk.mpr hp,decide_eq_true (j3 hp)⟩⟩
 refine⟨fun v hv=>(pl v hv).2.1,fun v hv=>hl▸(pl v hv).2.2.1,fun v hv=>?_,fun v hv=>?_,fun p hp=>Qf.mpr (hm p hp).1,fun p hp=>?_⟩
 ·unfold nmN iN;rw[(pl v hv).2.2.2.1]; exact zhC hv
 ·unfold nmN jN;rw[(pl v hv).2.2.2.2]; exact zhC hv
 ·obtain⟨h1,h2⟩:=hm p hp;have e:nsN wd (nmN wd p)=wd.getD p jS:=zeH h1;unfold iN jN;rw[e];rw[(zjg (g _ (mem_firsts.mp h1))).1] at h2;exact(jq.mp h2).imp id jG.mp
theorem zsf{wd:List Str}(g:∀ x∈wd,wd.count x=2){x:Str}(hx:x∈wd):ptn wd (pl1 wd x)=pl2 wd x/\ptn wd (pl2 wd x)=pl1 wd x:=by
 obtain⟨h1,h2,h3,h4,h5⟩:=zjg (g x hx);unfold ptn;rw[h4,h5,h1];exact⟨if_pos rfl,if_neg (by lia)⟩
theorem zu0{wd:List Str}(g:∀ x∈wd,wd.count x=2)(hd:Str->Bool):Wf (za0 wd).length (aO (iN wd) (jN wd) (hN wd hd)) (bO (iN wd) (jN wd) (hN wd hd)) (fw wd hd):=by
 have hl:=zdU g;have C:=(zqy g).cd (hN wd hd);have AA:∀ v,v < (za0 wd).length->∀ t,t < 2->Aw wd hd (2*aO (iN wd) (jN wd) (hN wd hd) v+t)=2*bO (iN wd) (jN wd) (hN wd hd) v+(1 - t)/\Aw wd hd (2*bO (iN wd) (jN wd) (hN wd hd) v+t)=2*aO (iN wd) (jN wd) (hN wd hd) v+t:=fun v hv t ht=>by
  have hx:=mem_firsts.mp (zco hv);obtain⟨_,h2,h3,h4,h5⟩:=zjg (g _ hx);obtain⟨p1,p2⟩:=zsf g hx;rcases zlr (iN wd) (jN wd) (hN wd hd) v with ⟨a,b,z⟩ |⟨a,b,z⟩<;>rw[a,b]<;>unfold iN jN<;>unfold hN at z
  ·rw[zj3 p1 h4 ht,zj3 p2 h5 ht,z,decide_eq_true h2,decide_eq_false (Nat.lt_asymm h2)]; exact⟨rfl,rfl⟩
  ·rw[zj3 p1 h4 ht,zj3 p2 h5 ht,z,decide_eq_true h2,decide_eq_false (Nat.lt_asymm h2)]; exact⟨rfl,rfl⟩
 have Ee:∀ p,p < wd.length->Ew wd.length (2*prv (za0 wd).length p)=2*p+1:=fun p hp=>by
  unfold Ew prv
  by_cases q:p=0
  ·rw[if_pos q,if_neg (by lia),if_pos (by lia),q]
  ·rw[if_neg q,if_neg (by lia),if_neg (by lia)]; lia
 have Eo:∀ p,Ew wd.length (2*p+1)=2*p:=fun p=>if_pos (by lia)
 have Be:∀ p,Bw wd.length (2*p)=2*p:=fun p=>if_pos (by lia)
 have Bo:∀ p,p < wd.length->Bw wd.length (2*p+1)=2*prv (za0 wd).length p+1:=fun p hp=>by
  unfold Bw prv;rw[if_neg (by lia)]
  by_cases q:p=0
  ·rw[if_pos q,if_pos (by lia)]; lia
  ·rw[if_neg q,if_neg (by lia)]; lia
 have ha:∀ v,v < (za0 wd).length->aO (iN wd) (jN wd) (hN wd hd) v < wd.length:=fun v hv=>by rw[hl]; exact C.alt v hv
 have hb:∀ v,v < (za0 wd).length->bO (iN wd) (jN wd) (hN wd hd) v < wd.length:=fun v hv=>by rw[hl]; exact C.blt v hv
 refine⟨fun v hv=>?_,fun v hv=>?_,fun v hv=>?_,fun v hv=>?_⟩<;>unfold fw
 ·rw[Ee _ (ha v hv),(AA v hv 1 (by decide)).1]; exact Be _
 ·rw[Eo,show ∀ k,2*k=2*k+0 from fun _=>rfl,(AA v hv 0 (by decide)).1]; exact Bo _ (hb v hv)
 ·rw[Ee _ (hb v hv),(AA v hv 1 (by decide)).2]; exact Bo _ (ha v hv)
 ·rw[Eo,show ∀ k,2*k=2*k+0 from fun _=>rfl,(AA v hv 0 (by decide)).2]; exact Be _
def bF(b:Bool):F2:=if b then 1 else 0
theorem crN{wd:List Str}(g:∀ x∈wd,wd.count x=2){u v:Nat}(hu:u < (za0 wd).length)(hv:v < (za0 wd).length):cr (iN wd) (jN wd) u v=bF (crs wd (nsN wd u) (nsN wd v)):=by
 obtain⟨e1,h1,h2,_⟩:=zjg (g _ (mem_firsts.mp (zco hu)));obtain⟨e3,_⟩:=zjg (g _ (mem_firsts.mp (zco hv)));rw[zh6 e1,zdH _ h1 h2,e3];unfold cr inn zer iN jN;generalize pl1 wd (nsN wd u)=i;generalize pl2 wd (nsN wd u)=j;generalize pl1 wd (nsN wd v)=k;generalize pl2 wd (nsN wd v)=l;have f:∀ k (r:List Nat),(J5 (fun k=>decide (i < k)&&decide (k < j)) (k::r))=if i < k/\k < j then k::J5 (fun k=>decide (i < k)&&decide (k < j)) r else J5 (fun k=>decide (i < k)&&decide (k < j)) r:=fun k r=>by
  rw[Qk]
  by_cases q:i < k/\k < j
  ·rw[if_pos q,if_pos (by simpa using q)]
  ·rw[if_neg q,if_neg (by simpa using q)]
 rw[f,f]
 by_cases q:i < k/\k < j<;>by_cases q':i < l/\l < j
 ·rw[if_pos q,if_pos q',if_pos q,if_pos q']; rfl
 ·rw[if_pos q,if_neg q',if_pos q,if_neg q']; rfl
 ·rw[if_neg q,if_pos q',if_neg q,if_pos q']; rfl
 ·rw[if_neg q,if_neg q',if_neg q,if_neg q']; rfl
theorem zlM(p:Nat->Bool):∀ l:List Nat,sm l (fun v=>bF (p v))=n2 (l.filter p).length:=fun l=>by
 induction l with
 |nil=>rfl
 |cons k l ih=>
  rw[zaE,ih];cases h:p k
  ·rw[List.filter_cons_of_neg (by simp[h])]
   show (0:F2)+_=_
   grind
  ·rw[List.filter_cons_of_pos h,jm,zmr];show (1:F2)+_=_+1
   grind
theorem zmT(wd:List Str):za0 wd=(jf (za0 wd).length).map (nsN wd):=by
 refine WO (by simp) fun i h1 h2=>?_
 rw[N5,Yo];unfold nsN;rw[js,j3 h1]; rfl
theorem zi9(wd:List Str)(p:Str->Bool):sm (jf (za0 wd).length) (fun v=>bF (p (nsN wd v)))=n2 ((za0 wd).filter p).length:=by
 rw[zlM];have e:(za0 wd).filter p=((jf (za0 wd).length).filter fun v=>p (nsN wd v)).map (nsN wd):=by
  conv=>lhs; rw[zmT wd]
  rw[gq]; rfl
 rw[e,j6]
def sdh(wd:List Str)(hd:Str->Bool)(x:Str):Bool:=decide (pl1 wd x%2=1) != !hd x
theorem sdN(wd:List Str)(hd:Str->Bool)(v:Nat):sdF (iN wd) (hN wd hd) v=bF (sdh wd hd (nsN wd v)):=by
 unfold sdF sdh eta iN hN;have e2:n2 (pl1 wd (nsN wd v))=bF (decide (pl1 wd (nsN wd v)%2=1)):=by
  rcases Q3 (pl1 wd (nsN wd v)) with q |q
  ·rw[zgY (k:=0) q,decide_eq_false (by rw[q]; decide)]; rfl
  ·rw[zgY (k:=1) q,decide_eq_true q]; rfl
 rw[e2];cases hd (nsN wd v)<;>cases decide (pl1 wd (nsN wd v)%2=1)<;>rfl
theorem zlO{wd:List Str}(g:∀ x∈wd,wd.count x=2)(hd:Str->Bool):(∀(l0 d0:F2) (x:Nat->F2),Cnd (za0 wd).length (aO (iN wd) (jN wd) (hN wd hd)) (bO (iN wd) (jN wd) (hN wd hd)) (nmN wd) l0 d0 x)↔SidesOk (za0 wd) (crs wd) (sdh wd hd):=by
 rw[zn9 (zqy g)];have hdeg:∀ v,v < (za0 wd).length->znj (za0 wd).length (iN wd) (jN wd) v=n2 (mts (za0 wd) (crs wd) (nsN wd v)).length:=fun v hv=>by
  unfold znj mts;rw[<-zi9];exact zaA fun u hu=>crN g hv (jk.mp hu)
 have hshr:∀ u v,u < (za0 wd).length->v < (za0 wd).length->znt (za0 wd).length (iN wd) (jN wd) u v=n2 (shr (za0 wd) (crs wd) (nsN wd u) (nsN wd v)):=fun u v hu hv=>by
  unfold znt shr;rw[<-zi9 wd fun z=>crs wd (nsN wd u) z&&crs wd (nsN wd v) z];refine zaA fun w hw=>?_;have hw:=jk.mp hw;rw[crN g hu hw,crN g hv hw];cases crs wd (nsN wd u) (nsN wd w)<;>cases crs wd (nsN wd v) (nsN wd w)<;>rfl
 have hall:∀ {P:Str->Prop},(∀ x∈za0 wd,P x)↔∀ v,v < (za0 wd).length->P (nsN wd v):=fun {P}=>by
  constructor
  ·intro h v hv; exact h _ (zco hv)
  ·intro h x hx;rw[<-zeH hx];exact h _ (Qf.mpr hx)
 have fit:∀ u v,u < (za0 wd).length->v < (za0 wd).length->(znt (za0 wd).length (iN wd) (jN wd) u v+cr (iN wd) (jN wd) u v*(sdF (iN wd) (hN wd hd) u+sdF (iN wd) (hN wd hd) v+1)=0↔(crs wd (nsN wd u) (nsN wd v)=false->evn (za0 wd) (crs wd) (nsN wd u) (nsN wd v)=true)/\(crs wd (nsN wd u) (nsN wd v)=true->evn (za0 wd) (crs wd) (nsN wd u) (nsN wd v)=(sdh wd hd (nsN wd u) != sdh wd hd (nsN wd v)))):=fun u v hu hv=>by
  rw[hshr u v hu hv,crN g hu hv,sdN,sdN];unfold evn;rcases Q3 (shr (za0 wd) (crs wd) (nsN wd u) (nsN wd v)) with q |q
  ·rw[zgY (k:=0) q,decide_eq_true q];cases crs wd (nsN wd u) (nsN wd v)<;>cases sdh wd hd (nsN wd u)<;>cases sdh wd hd (nsN wd v)<;>decide
  ·rw[zgY (k:=1) q,decide_eq_false (by lia)]
   cases crs wd (nsN wd u) (nsN wd v)<;>cases sdh wd hd (nsN wd u)<;>cases sdh wd hd (nsN wd v)<;>decide
 constructor
 ·rintro⟨h1,h2⟩;have key:∀ x∈za0 wd,∀ y∈za0 wd,x≠y->(crs wd x y=false->evn (za0 wd) (crs wd) x y=true)/\(crs wd x y=true->evn (za0 wd) (crs wd) x y=(sdh wd hd x != sdh wd hd y)):=fun x hx y hy hne=>by
   have h:=h2 _ _ (Qf.mpr hx) (Qf.mpr hy) fun e=>hne (by rw[<-zeH hx,e,zeH hy])
   rw[fit _ _ (Qf.mpr hx) (Qf.mpr hy),zeH hx,zeH hy] at h;exact h
  refine⟨hall.mpr fun v hv=>?_,fun x hx y hy ho=>?_,fun x hx y hy ha=>?_⟩
  ·exact n2_zero.mp (by rw[<-hdeg v hv]; exact h1 v hv)
  ·have:=(key x hx y hy ho.1).1 ho.2.1;rw[ho.2.2] at this;cases this
  ·refine(key x hx y hy fun e=>?_).2 ha;rw[<-e] at ha;have hm:=mem_firsts.mp hx;obtain⟨i,j,hp⟩:=zce (g x hm);rw[zh6 hp,zgq hp] at ha;cases ha
 ·intro h;refine⟨fun v hv=>?_,fun u v hu hv hne=>?_⟩
  ·rw[hdeg v hv]; exact n2_zero.mpr (h.even _ (zco hv))
  ·rw[fit u v hu hv];refine⟨fun hf=>?_,fun ht=>h.fit _ (zco hu) _ (zco hv) ht⟩;cases q:evn (za0 wd) (crs wd) (nsN wd u) (nsN wd v)
   ·refine absurd ⟨fun e=>hne ?_,hf,q⟩ (h.pair _ (zco hu) _ (zco hv));rw[<-zhC hu,e,zhC hv]
   ·rfl
theorem zjf{j k:Nat}(h:2 ^ j=2 ^ k):j=k:=Nat.pow_right_inj (by lia) |>.mp h
theorem zn8{wd:List Str}(g:∀ x∈wd,wd.count x=2){hd:Str->Bool}{m:Nat}(h:Cnt wd hd m):m=(za0 wd).length+2↔SidesOk (za0 wd) (crs wd) (sdh wd hd):=by
 rcases h with ⟨rfl,rfl⟩ |⟨hne,L,hT,rfl⟩
 ·exact⟨fun _=>⟨fun x hx=>(by cases hx),fun x hx=>(by cases hx),fun x hx=>(by cases hx)⟩,fun _=>rfl⟩
 ·have hl:=zdU g;have hn:0 < (za0 wd).length:=by have:=NV.mpr hne; lia
  have hNN:2*wd.length=4*(za0 wd).length:=by lia
  have hP:=zmN g hd;rw[hNN] at hT hP;obtain⟨r,hr⟩:=ztx hP hT;have C:=(zqy g).cd (hN wd hd);have W:=zu0 g hd;rw[<-zlO g hd];obtain⟨k1,k2⟩:=zlT (M:=2) C W hn hr;constructor
  ·intro e;exact k2 (by rw[e])
  ·intro hc;exact zjf (J0 k1 (zlU C W hP hn hr hc))
theorem zgj{wd:List Str}(g:GoodWord wd){x:Str}(hx:x∈za0 wd)(b:Bool):zaZ [.lst (wd.map T.str),.str x,.int (bI b)]=some (.lst ((zbQ wd x (decide ((bI b+(pl1 wd x:Int))%2=0))).map nT)):=by
 have hm:=mem_firsts.mp hx;obtain⟨e,h1,h2,_⟩:=zjg (g.two x hm);have hl:=g.len;have es:=zeX (wd:=wd) (by lia) x
 rw[e] at es;rw[zdy e];generalize pl1 wd x=i at es h1;generalize pl2 wd x=j at es h1 h2;have es:zb5 [.lst (wd.map T.str),.str x]=some (.lst [.int (i:Nat),.int (j:Nat)]):=es;generalize wd.map T.str=W at es;refine zcQ ?_;show Run zbc [some (.lst W),some (.str x),some (.int (bI b)),none,none] _;unfold zbc;refine zab (s':=[some (.lst W),some (.str x),some (.int (bI b)),some (.int (i:Nat)),some (.int (j:Nat))]) (by simp_all?[es]) ?_
 have two:∀ k:Nat,(2:Int)*(k:Int)=((2*k:Nat):Int):=fun k=>by lia
 by_cases q:(bI b+(i:Int))%2=0
 ·rw[decide_eq_true q];refine zfq (s':=[some (.lst W),some (.str x),some (.int (bI b)),some (.int (i:Nat)),some (.int (j:Nat))]) (by simp_all?[decide_eq_true q]<;>rfl) ?_
  show T.lst [.int (2*(i:Int)),.int (2*(j:Int)),.int (2*(i:Int)+1),.int (2*(j:Int)+1)]=.lst [nT (2*i),nT (2*j),nT (2*i+1),nT (2*j+1)];rw[two,two]; rfl
 ·rw[decide_eq_false q];refine zab (s':=[some (.lst W),some (.str x),some (.int (bI b)),some (.int (i:Nat)),some (.int (j:Nat))]) (by simp_all?[decide_eq_false q]<;>rfl) ?_
  refine zbp (s':=[some (.lst W),some (.str x),some (.int (bI b)),some (.int (i:Nat)),some (.int (j:Nat))]) (by simp_all?[]<;>rfl) ?_
  show T.lst [.int (2*(i:Int)),.int (2*(j:Int)+1),.int (2*(i:Int)+1),.int (2*(j:Int))]=.lst [nT (2*i),nT (2*j+1),nT (2*i+1),nT (2*j)];rw[two,two]; rfl
def hds(wd:List Str)(sd:Str->Bool)(x:Str):Bool:=decide ((bI (sd x)+(pl1 wd x:Int))%2=0)
theorem zpG(wd:List Str)(sd:Str->Bool):sdh wd (hds wd sd)=sd:=by
 funext x
 unfold sdh hds bI;cases sd x<;>rcases Q3 (pl1 wd x) with q |q
 ·rw[decide_eq_false (by lia),decide_eq_true (by simp; lia)]; rfl
 ·rw[decide_eq_true q,decide_eq_false (by simp; lia)]; rfl
 ·rw[decide_eq_false (by lia),decide_eq_false (by simp; lia)]; rfl
 ·rw[decide_eq_true q,decide_eq_true (by simp; lia)]; rfl
theorem zhW(ns:List Str)(f:Str->T):zlq (ns.map T.str) (ns.map f)=ns.map fun x=>T.tup [.str x,f x]:=by
 unfold zlq
 induction ns with
 |nil=>rfl
 |cons x ns ih=>rw[jj,jj,List.zip_cons_cons,jj,ih]; rfl
theorem zlk{wd:List Str}(g:GoodWord wd){sd:Str->Bool}(e:zcq [.lst (wd.map T.str)]=some (.tup [.str "sides",.lst ((za0 wd).map fun x=>.int (bI (sd x)))])):zdu [.lst (wd.map T.str)]=some (.lst ((zkG wd (hds wd sd)).map crT)):=by
 have hl:=g.len;have en:=ze1 (wd:=wd) (by lia)
 refine zcQ ?_;show Run zd5 [some (.lst (wd.map T.str)),none] _;unfold zd5;generalize hW:wd.map T.str=W at e en;refine zab (s':=[some (.lst W),some (.tup [.str "sides",.lst ((za0 wd).map fun x=>.int (bI (sd x)))])]) (by simp_all?[e]) ?_
 have i0:za4 (.tup [.str "sides",.lst ((za0 wd).map fun x=>.int (bI (sd x)))]) (.int 0)=some (.str "sides"):=rfl;have i1:za4 (.tup [.str "sides",.lst ((za0 wd).map fun x=>.int (bI (sd x)))]) (.int 1)=some (.lst ((za0 wd).map fun x=>.int (bI (sd x)))):=rfl;have n0:gNe (.str "sides") (.str "sides")=some (.bl false):=rfl;refine zab (s':=[some (.lst W),some (.tup [.str "sides",.lst ((za0 wd).map fun x=>.int (bI (sd x)))])]) (by simp_all?[i0,n0]<;>rfl) ?_
 have e:=zju (M:=[]) (caps:=[none,none,some 0]) (fi:=ztq (dAc (zar zaC (dAc (dV 0) dAn)) (dAc (d2 za4 (dV 1) (dC (.int 1))) dAn))) (dg:=dGt [0,1]) (fe:=zlu (dAc (dV 0) (dAc (zar zaZ (dAc (dV 2) (dAc (dV 0) (dAc (dV 1) dAn)))) dAn))) (s:=[some (.lst W),some (.tup [.str "sides",.lst ((za0 wd).map fun x=>.int (bI (sd x)))])]) (za0 wd) (fun x=>T.tup [.str x,.int (bI (sd x))]) (fun x=>crT (x,zbQ wd x (hds wd sd x))) (by simp_all?[en,i1,zhW]) (by have:=zeu wd; lia) (by
  intro x hx;have ee:=zgj g hx (sd x);rw[hW] at ee
  exact⟨[some (.str x),some (.int (bI (sd x))),some (.lst W)],rfl,by simp_all?[ee]<;>rfl,rfl⟩)
 refine zbp (s':=[some (.lst W),some (.tup [.str "sides",.lst ((za0 wd).map fun x=>.int (bI (sd x)))])]) (by simp_all?[e]<;>rfl) ?_
 unfold zkG;rw[jU]; rfl
theorem zeS{wd:List Str}(g:GoodWord wd)(hd:Str->Bool):zbh [zam wd,.lst ((zkG wd hd).map crT)]=some (.bl true):=by
 have hl:=g.len;have tl:=zdU g.two;have hc:((zkG wd hd).map crT).length=(za0 wd).length:=by unfold zkG; simp
 have ls:zcF (zam wd)=some (.int ((za0 wd).length:Nat)):=by unfold zam; rw[zuz,j6]
 refine zcQ ?_;show Run zaQ [some (zam wd),some (.lst ((zkG wd hd).map crT)),none,none] _;unfold zaQ;generalize hC:(zkG wd hd).map crT=C at hc;have il:isi "list" (.lst C)=some true:=zlB _;refine zab (s':=[some (zam wd),some (.lst C),none,none]) (by simp_all?[ls,hc,il]<;>rfl) ?_
 have ez:zll (dAc (dV 0) (dAc (dV 1) dAn)) [some (zam wd),some (.lst C),none,none]=some ((za0 wd).map fun x=>T.tup [.str x,crT (x,zbQ wd x (hd x))],[some (zam wd),some (.lst C),none,none]):=by
  unfold zll dAc dAn dV zam;simp only[jD,jx,zaV,jo,j5];rw[<-hC];unfold zkG;rw[jU,jU];exact congrArg (fun l=>some (l,_)) (zhW (za0 wd) fun x=>crT (x,zbQ wd x (hd x)))
 refine zcW (its:=(za0 wd).map fun x=>T.tup [.str x,crT (x,zbQ wd x (hd x))]) (fun j s=>∃ a b,s=[some (zam wd),some (.lst C),a,b]) (s1:=[some (zam wd),some (.lst C),none,none]) ez ⟨_,_,rfl⟩ ?_ ?_
 ·rintro j z s hz ⟨a,b,rfl⟩;rw[ji] at hz;obtain⟨x,hx,rfl⟩:=Qm hz;have hm:=mem_firsts.mp (jJ hx);obtain⟨i,j,e⟩:=zce (g.two x hm);have sp:za4 (zam wd) (.str x)=some (.lst [.int (i:Nat),.int (j:Nat)]):=by rw[zk6 hm,e]; rfl
  rw[zdy e];have l1:=zhB i j true;have l2:=zhB i j false;generalize hd x=bb;generalize hcr:crT (x,zd4 i j bb)=cr;have k1:isi "tuple" cr=some true:=by rw[<-hcr]; exact zlA _
  have k2:zcF cr=some (.int 2):=by rw[<-hcr]; rfl
  have k3:za4 cr (.int 0)=some (.str x):=by rw[<-hcr]; rfl
  have k4:za4 cr (.int 1)=some (.lst ((zd4 i j bb).map nT)):=by rw[<-hcr]; rfl
  have k5:gNe (.int 2) (.int 2)=some (.bl false):=rfl;have k6:isi "list" (.lst ((zd4 i j bb).map nT))=some true:=zlB _;refine⟨[some (zam wd),some (.lst C),some (.str x),some cr],rfl,?_⟩;refine zab (s':=[some (zam wd),some (.lst C),some (.str x),some cr]) (by simp_all?[k1,k2,k3,k4,k5,k6,zwc]) ?_
  have e0:=ziu (M:=[]) (caps:=[none]) (fi:=zdc (d2 za4 (dV 3) (dC (.int 1)))) (dg:=dGn 0) (ft:=dOr (znl (zgm (zlv "int" (dV 0)))) (zgm (zlv "bool" (dV 0)))) (fe:=dV 0) (s:=[some (zam wd),some (.lst C),some (.str x),some cr]) (zd4 i j bb) nT (fun _=>false) nT (by simp_all?[k4]) (by unfold zd4; split<;>simp) (by
   intro k hk
   exact⟨[some (nT k)],rfl,rfl,(fun h=>by cases h),rfl⟩)
  rw[Zf.mpr (fun _ _=>by simp)] at e0
  refine zab (s':=[some (zam wd),some (.lst C),some (.str x),some cr]) (by simp_all?[e0,Z3]<;>rfl) ?_
  have n1:∀ b c:Bool,gNe (.lst ((zd4 i j b).map nT)) (.lst ((zd4 i j c).map nT))=some (.bl (!decide (zd4 i j b=zd4 i j c))):=fun b c=>zrs _ _
  refine zaX (s':=[some (zam wd),some (.lst C),some (.str x),some cr]) (by
   have d1:∀ b,decide (zd4 i j b=zd4 i j b)=true:=fun b=>decide_eq_true rfl;cases bb
   ·simp_all?[k4,sp,l1,l2,n1,d1]
    cases decide (zd4 i j false=zd4 i j true)<;>rfl
   ·simp_all?[k4,sp,l1,l2,n1,d1]<;>rfl) ⟨_,_,rfl⟩
 ·rintro s ⟨a,b,rfl⟩;exact zbp (s':=[some (zam wd),some (.lst C),a,b]) (by simp_all?[]<;>rfl) rfl
theorem zn6{wd:List Str}{hs:List Bool}{j:Nat}{x:Str}(hx:(za0 wd)[j]?=some x)(hj:hs.length=j)(b:Bool){cs:List (Str × List Nat)}(h:cs=((za0 wd).take j).map fun x=>(x,zbQ wd x (hs.getD ((za0 wd).idxOf x) false))):cs++[(x,zbQ wd x b)]=((za0 wd).take (j+1)).map fun x=>(x,zbQ wd x ((hs++[b]).getD ((za0 wd).idxOf x) false)):=by
 have hjl:=(j9.mp hx).1;have ix:∀ k (hk:k < (za0 wd).length),(za0 wd).idxOf (za0 wd)[k]=k:=fun k hk=>by
  refine(ZB (h₀:=List.idxOf_lt_length_of_mem (Qa hk)) (h₁:=hk) (zbn wd)).mp ?_;rw[Yr]
 rw[ZG,hx,W8,jA,h]
 congr 1
 ·refine Qv fun z hz=>?_;obtain⟨k,hk,e⟩:=Yi hz;rw[Wx] at e;rw[jQ] at hk;rw[<-e,ix k (by lia),js,js,Q6 (by lia)]
 ·have e:=(j9.mp hx).2;rw[jj,Z3,<-e,ix j hjl,js,Qh (by lia),hj,Nat.sub_self]
  rfl
theorem zsM(ns:List Int):zta [.scr ns]=some (.bl true):=by
 refine zcQ ?_;show Run zoo [some (.scr ns),none,none,none,none,none,none,none,none,none] _;unfold zoo;obtain⟨wd,ew,gw⟩:=zpg ns;have hl:=gw.len;have tl:=zdU gw.two;have hsp:zeL [.lst (wd.map T.str)]=some (zam wd):=zli (by lia)
 have c3:zaW [.scr ns,.int 3]=some (.int (ns.getD 3 0)):=zhN ns 3;generalize ns.getD 3 0=h3 at c3;have eb:=zkM h3;have ob:=zfz h3;generalize zjU h3=bag at eb ob;have sAt:∀ x∈za0 wd,∃ i j,zaa wd x=[i,j]/\za4 (zam wd) (.str x)=some (.lst [.int (i:Nat),.int (j:Nat)]):=fun x hx=>by
  have hx:=mem_firsts.mp hx;obtain⟨i,j,e⟩:=zce (gw.two x hx);refine⟨i,j,e,?_⟩;rw[zk6 hx,e];rfl
 have lw:zcF (.lst (wd.map T.str))=some (.int (wd.length:Nat)):=by rw[zlC,j6]
 have ll:zdT (.lst (wd.map T.str))=some (.lst (wd.map T.str)):=rfl;generalize hW:T.lst (wd.map T.str)=W at ew hsp lw ll;refine zab (s':=[some (.scr ns),some W,none,none,none,none,none,none,none,none]) (by simp_all?[ew]) ?_
 refine zab (s':=[some (.scr ns),some W,some (zam wd),none,none,none,none,none,none,none]) (by simp_all?[hsp]) ?_
 refine zab (s':=[some (.scr ns),some W,some (zam wd),some bag.t,none,none,none,none,none,none]) (by simp_all?[c3,eb]) ?_
 refine dg_ ob 3 (by lia) (by lia) fun ru y1 e1 o1 _ _=>?_
 refine zab (s':=[some (.scr ns),some W,some (zam wd),some y1.t,some (.int ru),none,none,none,none,none]) (by simp_all?[e1]) ?_
 refine zab (s':=[some (.scr ns),some W,some (zam wd),some y1.t,some (.int ru),some (.lst (([]:List (Str × List Nat)).map crT)),none,none,none,none]) (by simp_all?[]<;>rfl) ?_
 refine zcW (its:=(za0 wd).map T.str) (fun j s=>∃(y:Bag) (hs:List Bool) (cs:List (Str × List Nat)) (a b:Option T),s=[some (.scr ns),some W,some (zam wd),some y.t,some (.int ru),some (.lst (cs.map crT)),a,b,none,none]/\y.Ok/\hs.length=j/\cs=((za0 wd).take j).map fun x=>(x,zbQ wd x (hs.getD ((za0 wd).idxOf x) false))) (zkX wd _ _ _ rfl) ⟨y1,[],[],_,_,rfl,o1,rfl,rfl⟩ ?_ ?_
 ·rintro j z s hz ⟨y,hs,cs,a,b,rfl,oy,hj,hcs⟩;obtain⟨x,hx,rfl⟩:=zeW hz;have hjl:=(j9.mp hx).1;obtain⟨p,q,epq,sp⟩:=sAt x (jJ hx);have i0:za4 (.lst [.int (p:Nat),.int (q:Nat)]) (.int 0)=some (.int (p:Nat)):=rfl;refine dg_ oy 2 (by lia) (by lia) fun d y' e oy' _ _=>?_
  have hcl:cs.length<=30:=by rw[hcs,j6,jQ]; lia
  generalize hC:cs.map crT=C;refine⟨[some (.scr ns),some W,some (zam wd),some y.t,some (.int ru),some (.lst C),some (.str x),b,none,none],rfl,?_⟩;refine zab (s':=[some (.scr ns),some W,some (zam wd),some y'.t,some (.int ru),some (.lst C),some (.str x),some (.bl (decide (d=0))),none,none]) (by simp_all?[e]) ?_
  obtain⟨bb,y2,o2,ebb⟩:∃(bb:Bool) (y2:Bag),y2.Ok/\zcb (dB (d2 gGt (dV 4) (dC (.int 0)))) (zay 7 (d2 gNe (d2 gEq (d2 ze9 (d2 za4 (d2 za4 (dV 2) (dV 6)) (dC (.int 0))) (dC (.int 2))) (dC (.int 0))) (zjO (d2 gEq (dV 4) (dC (.int 2))) (d2 gEq (zal zac 3 (dAc (dC (.int 5)) dAn)) (dC (.int 1)))))) zaD [some (.scr ns),some W,some (zam wd),some y'.t,some (.int ru),some (.lst C),some (.str x),some (.bl (decide (d=0))),none,none]=some (.nx [some (.scr ns),some W,some (zam wd),some y2.t,some (.int ru),some (.lst C),some (.str x),some (.bl bb),none,none]):=by
   by_cases g0:0 < ru
   ·refine dg_ oy' 5 (by lia) (by lia) fun d5 y5 e5 o5 _ _=>?_
    by_cases g2:ru=2
    ·exact⟨!(decide (((p:Nat):Int)%2=0) == decide (d5=1)),y5,o5,by simp_all?[sp,i0,e5,decide_eq_true g0,decide_eq_true g2]⟩
    ·exact⟨!(decide (((p:Nat):Int)%2=0) == false),y',oy',by simp_all?[sp,i0,decide_eq_true g0,decide_eq_false g2]⟩
   ·exact⟨decide (d=0),y',oy',by simp_all?[decide_eq_false g0]⟩
  refine zab ebb ?_;have le:=zhB p q bb;have ec:T.tup [.str x,.lst ((zd4 p q bb).map nT)]=crT (x,zbQ wd x bb):=by rw[zdy epq]; rfl
  refine zaX (s':=[some (.scr ns),some W,some (zam wd),some y2.t,some (.int ru),some (.lst ((cs++[(x,zbQ wd x bb)]).map crT)),some (.str x),some (.bl bb),none,none]) (by
   have hCl:C.length=cs.length:=by rw[<-hC,j6]
   rw[jA,jj,Z3,hC,<-ec]
   simp_all?[zpr,sp,le,hCl]) ⟨y2,hs++[bb],_,_,_,rfl,o2,by rw[ju,hj]; rfl,zn6 hx hj bb hcs⟩
 ·rintro s ⟨y,hs,cs,a,b,rfl,oy,hj,hcs⟩;rw[j6] at hj hcs;rw[Qw] at hcs;have hcs:cs=zkG wd (fun x=>hs.getD ((za0 wd).idxOf x) false):=hcs;generalize (fun x=>hs.getD ((za0 wd).idxOf x) false)=hd at hcs;have hcl:cs.length=(za0 wd).length:=by rw[hcs]; unfold zkG; simp
  have hok:=zn7 gw hd;rw[<-hcs] at hok;obtain⟨rows,er,hcn⟩:=zf7 hok;have hiff:=zn8 gw.two hcn;have hcl2:(cs.map crT).length=(za0 wd).length:=by rw[j6,hcl]
  generalize cs.map crT=C at er hcl2
  by_cases hm:rows.length=(za0 wd).length+2
  ·have hs:=hiff.mp hm;obtain⟨t,et,hT⟩:=zmx gw;obtain⟨sd,rfl,hsd⟩:=hT.sides_of gw ⟨_,hs⟩;have ed:=zlk gw et;have ect:=zeS gw (hds wd sd);obtain⟨rows2,er2,hcn2⟩:=zf7 (zn7 gw (hds wd sd));have hm2:=(zn8 gw.two hcn2).mpr (by rw[zpG]; exact hsd)
   rw[hW] at et ed;generalize hS:T.tup [.str "sides",.lst ((za0 wd).map fun x=>.int (bI (sd x)))]=S at et;generalize T.lst ((zkG wd (hds wd sd)).map crT)=D at ed ect er2;have l1:zcF (.lst (rows.map zfe))=some (.int ((rows.length:Nat):Int)):=by rw[zlC,j6]
   have l2:zcF (.lst (rows2.map zfe))=some (.int ((rows2.length:Nat):Int)):=by rw[zlC,j6]
   have d1:decide (((rows.length:Nat):Int)=(((za0 wd).length:Nat):Int)+2)=true:=decide_eq_true (by lia)
   have d2':decide (((rows2.length:Nat):Int)=(((za0 wd).length:Nat):Int)+2)=true:=decide_eq_true (by lia)
   have k1:isi "tuple" S=some true:=by rw[<-hS]; exact zlA _
   have k2:za4 S (.int 0)=some (.str "sides"):=by rw[<-hS]; rfl
   have k3:gNe (.str "sides") (.str "sides")=some (.bl false):=rfl;generalize rows.map zfe=R1 at er l1;generalize rows2.map zfe=R2 at er2 l2;refine zab (s':=[some (.scr ns),some W,some (zam wd),some y.t,some (.int ru),some (.lst C),a,b,none,none]) (by simp_all?[lw,er,l1,hcl2,d1]<;>rfl) ?_
   refine zab (s':=[some (.scr ns),some W,some (zam wd),some y.t,some (.int ru),some (.lst C),a,b,some S,none]) (by simp_all?[ll,et]) ?_
   refine zab (s':=[some (.scr ns),some W,some (zam wd),some y.t,some (.int ru),some (.lst C),a,b,some S,none]) (by simp_all?[k1,k2,k3]<;>rfl) ?_
   refine zab (s':=[some (.scr ns),some W,some (zam wd),some y.t,some (.int ru),some (.lst C),a,b,some S,some D]) (by simp_all?[ll,ed]) ?_
   exact zbp (s':=[some (.scr ns),some W,some (zam wd),some y.t,some (.int ru),some (.lst C),a,b,some S,some D]) (by simp_all?[ect,lw,er2,l2,hcl2,d2']<;>rfl) rfl
  ·have l1:zcF (.lst (rows.map zfe))=some (.int ((rows.length:Nat):Int)):=by rw[zlC,j6]
   have d1:decide (((rows.length:Nat):Int)=(((za0 wd).length:Nat):Int)+2)=false:=decide_eq_false (by lia)
   generalize rows.map zfe=R1 at er l1;exact zfq (s':=[some (.scr ns),some W,some (zam wd),some y.t,some (.int ru),some (.lst C),a,b,none,none]) (by simp_all?[lw,er,l1,hcl2,d1]<;>rfl) rfl
end Dw
namespace Dw
open PySem PySem.Spec PyProof.Rows L2 L3
set_option maxHeartbeats 1000000 in
theorem ztC{l:Y7}{w:Qj}{K:j8}{h:Heap}{mg:Str->Option ja}{fa:Addr}(X:K.In h)(G:h.Ns jV mg)(hfa:mg "law"=some (.ref fa))
  (a1:Fd K "_law_bag" zj8)
  (a2:Fd K "_law_digit" zfL)
  (a3:Fd K "_law_many" zhg)
  (a4:Fd K "_law_names" zfK)
  (a5:Fd K "_law_cell" zhi)
  (a6:Fd K "_law_paired" zeC)
  (a7:Fd K "_law_built" zfM)
  (a8:Fd K "_law_word" zhf)
  (a9:Fd K "_law_spots" zfJ)
  (a10:Fd K "odd_name" zdj)
  (a11:Fd K "evenly_shared" zbE)
  (a12:Fd K "odd_pair" zdi)
  (a13:Fd K "found_from" zcD)
  (a14:Fd K "side_beside" zcj)
  (a15:Fd K "sides_along" zci)
  (a16:Fd K "wrong_step" zcC)
  (a17:Fd K "way_back" zdh)
  (a18:Fd K "ring_through" zbX)
  (a19:Fd K "sides_or_ring" zbD)
  (a20:Fd K "standings" zcV)
  (a21:Fd K "between" zdX)
  (a22:Fd K "names_of" zdk)
  (a23:Fd K "crossed_with" zbZ)
  (a24:Fd K "looked" zeB)
  (a25:Fd K "ends_by_side" zbY)
  (a26:Fd K "drawing" zdW)
  (a27:Fd K "_law_ends" zhh)
  (a28:Fd K "_law_crossings_told" zbo)
  (a29:Fd K "_law_ahead" zfN)
  (a30:Fd K "_law_next_walker" zck)
  (a31:Fd K "_law_patches" zdY)
  (a32:Fd K "law" zpK)
  (z1:QZ K jV "int"=some none)
  (z2:QZ K jV "range"=some none)
  (z3:QZ K jV "len"=some none)
  (z4:QZ K jV "enumerate"=some none)
  (z5:QZ K jV "set"=some none)
  (z6:QZ K jV "list"=some none)
  (z7:QZ K jV "zip"=some none)
  (z8:QZ K jV "isinstance"=some none)
  (z9:QZ K jV "tuple"=some none)
  (z10:QZ K jV "bool"=some none)
  : ∃ fd:Q9,(∀(s:jc) (v:ja),Wj s fd ⟨[v],[]⟩ [("_law_script",v)])/\∀ base:Heap,K.In base->base.Ns jV mg->FnOk l.prog w K mg base CX0 7 fa fd ["_law_script"] (L3.zkY K):=by
 have m_int:=Qu X G z1;have m_range:=Qu X G z2;have m_len:=Qu X G z3;have m_enumerate:=Qu X G z4;have m_set:=Qu X G z5;have m_list:=Qu X G z6;have m_zip:=Qu X G z7;have m_isinstance:=Qu X G z8;have m_tuple:=Qu X G z9;have m_bool:=Qu X G z10;refine zqp (M':=[]) (Mb:=[]) X G hfa a32 zoK (fun _ _ _ _ _ _ _=>rfl) (by decide) zsM fun base=>?_
 letI:TheK:=⟨K⟩
 let v:Ev:=⟨l.prog,w,mg,base⟩
 have c_l_bag:zgv v 1:=znT (a1.here X G (bd1 fun _ _ _ _ _ _ _=>rfl));have c_l_digit:zbV v 1:=zl4 (a2.here X G (bd2 fun _ _ _ _ _ _ _ _=>rfl));have c_l_many:zhR v 2:=zml (a3.here X G (bd1 fun _ _ _ _ _ _ _=>rfl)) c_l_bag.up c_l_digit.up;have c_l_names:zgt v 2:=zl3 (a4.here X G (bd2 fun _ _ _ _ _ _ _ _=>rfl)) c_l_digit.up m_int m_range;have c_l_cell:zfC v 1:=zmn (a5.here X G (bd2 fun _ _ _ _ _ _ _ _=>rfl)) m_len;have c_l_paired:zeV v 2:=zjm (a6.here X G (bd2 fun _ _ _ _ _ _ _ _=>rfl)) c_l_digit.up m_range m_len;have c_l_built:zgu v 2:=zl5 (a7.here X G (bd2 fun _ _ _ _ _ _ _ _=>rfl)) c_l_digit.up m_len;have c_l_word:zhQ v 3:=zmk (a8.here X G (bd1 fun _ _ _ _ _ _ _=>rfl)) c_l_many.up c_l_cell.up c_l_names.up c_l_bag.up c_l_digit.up c_l_built.up c_l_paired.up;have c_l_spots:zgs v 1:=zl2 (a9.here X G (bd1 fun _ _ _ _ _ _ _=>rfl)) m_enumerate;have c_p_odd_name:zdD v 1:=zhz (a10.here X G (bd1 fun _ _ _ _ _ _ _=>rfl)) m_len;have c_p_evenly_shared:zb2 v 1:=zeo (a11.here X G (bd3 fun _ _ _ _ _ _ _ _ _=>rfl)) m_len m_set;have c_p_odd_pair:zdC v 2:=zhy (a12.here X G (bd1 fun _ _ _ _ _ _ _=>rfl)) c_p_evenly_shared.up;have c_p_found_from:zcI v 1:=zg3 (a13.here X G (bd1 fun _ _ _ _ _ _ _=>rfl));have c_p_side_beside:zby v 2:=zfj (a14.here X G (bd4 fun _ _ _ _ _ _ _ _ _ _=>rfl)) c_p_evenly_shared.up;have c_p_sides_along:zct v 3:=zfi (a15.here X G (bd2 fun _ _ _ _ _ _ _ _=>rfl)) c_p_side_beside.up;have c_p_wrong_step:zcH v 3:=zg2 (a16.here X G (bd2 fun _ _ _ _ _ _ _ _=>rfl)) c_p_side_beside.up;have c_p_way_back:zdB v 1:=zhx (a17.here X G (bd2 fun _ _ _ _ _ _ _ _=>rfl));have c_p_ring_through:zc1 v 2:=zeE (a18.here X G (bd3 fun _ _ _ _ _ _ _ _ _=>rfl)) c_p_way_back.up m_len;have c_p_sides_or_ring:zbJ v 4:=zen (a19.here X G (bd1 fun _ _ _ _ _ _ _=>rfl)) c_p_found_from.up c_p_sides_along.up c_p_wrong_step.up c_p_ring_through.up;have c_p_standings:zcd v 1:=zgD (a20.here X G (bd2 fun _ _ _ _ _ _ _ _=>rfl)) m_enumerate;have c_p_between:ze4 v 2:=zio (a21.here X G (bd2 fun _ _ _ _ _ _ _ _=>rfl)) c_p_standings.up;have c_p_names_of:zbU v 1:=zhA (a22.here X G (bd1 fun _ _ _ _ _ _ _=>rfl)) m_list;have c_p_crossed_with:zc3 v 3:=zeG (a23.here X G (bd2 fun _ _ _ _ _ _ _ _=>rfl)) c_p_between.up c_p_names_of.up;have c_p_looked:zdJ v 5:=zjl (a24.here X G (bd1 fun _ _ _ _ _ _ _=>rfl)) c_p_names_of.up c_p_crossed_with.up c_p_odd_name.up c_p_odd_pair.up c_p_sides_or_ring.up;have c_p_ends_by_side:zc2 v 2:=zeF (a25.here X G (bd3 fun _ _ _ _ _ _ _ _ _=>rfl)) c_p_standings.up;have c_p_drawing:ze3 v 6:=zin (a26.here X G (bd1 fun _ _ _ _ _ _ _=>rfl)) c_p_looked.up c_p_names_of.up c_p_ends_by_side.up m_zip;have c_l_ends:zfB v 1:=zmm (a27.here X G (bd2 fun _ _ _ _ _ _ _ _=>rfl));have c_l_crossings_told:zbz v 2:=ze0 (a28.here X G (bd2 fun _ _ _ _ _ _ _ _=>rfl)) c_l_ends.up m_len m_isinstance m_list m_zip m_tuple m_bool m_int;have c_l_ahead:zgw v 1:=zl6 (a29.here X G (bd1 fun _ _ _ _ _ _ _=>rfl)) m_range;have c_l_next_walker:zcu v 1:=zfk (a30.here X G (bd3 fun _ _ _ _ _ _ _ _ _=>rfl));have c_l_patches:ze5 v 2:=ziq (a31.here X G (bd2 fun _ _ _ _ _ _ _ _=>rfl)) c_l_ahead.up c_l_next_walker.up m_range m_len;exact zvZ (v:=v) c_l_word.up c_l_spots.up c_l_bag.up c_l_cell.up c_l_digit.up c_l_ends.up c_l_patches.up c_p_looked.up c_p_drawing.up c_l_crossings_told.up m_len m_list m_isinstance m_tuple
end Dw
namespace PySem.W.Fast
theorem tw15734421737017160758:True:=⟨⟩
theorem tw7990459201125825080:True:=⟨⟩
theorem tw9749198739257901083:True:=⟨⟩
theorem tw12815932377991739841:True:=⟨⟩
theorem tw10178436454026932081:True:=⟨⟩
theorem tw16613258505484000237:True:=⟨⟩
theorem tw1039445823907348570:True:=⟨⟩
theorem tw6750995143177008785:True:=⟨⟩
theorem tw996305276609764983:True:=⟨⟩
theorem tw3492022563912051866:True:=⟨⟩
theorem tw10389195692339967225:True:=⟨⟩
theorem tw16405475649546982573:True:=⟨⟩
theorem tw13802413680411626968:True:=⟨⟩
theorem tw700526781417935147:True:=⟨⟩
theorem tw12778267413572273109:True:=⟨⟩
theorem tw5540455761636802153:True:=⟨⟩
theorem tw5172798085285128632:True:=⟨⟩
theorem tw10511547127663935067:True:=⟨⟩
theorem tw14060215816164757963:True:=⟨⟩
theorem tw17419466115586568797:True:=⟨⟩
theorem tw1874085192051831219:True:=⟨⟩
theorem tw5670587335331429126:True:=⟨⟩
theorem tw7719577769130831869:True:=⟨⟩
theorem tw10865511383800516201:True:=⟨⟩
theorem tw3709873199633474586:True:=⟨⟩
theorem tw6406763807490794582:True:=⟨⟩
theorem tw16477471549823334633:True:=⟨⟩
theorem tw54570464222739627:True:=⟨⟩
theorem tw1030315594640453812:True:=⟨⟩
theorem tw3595377140538098988:True:=⟨⟩
theorem tw17056192635319213046:True:=⟨⟩
theorem tw5852150356486609170:True:=⟨⟩
theorem tw12656842350107889643:True:=⟨⟩
theorem tw12459707450321884604:True:=⟨⟩
theorem tw14348749401040301926:True:=⟨⟩
theorem tw10612607194606590037:True:=⟨⟩
theorem tw2386326716846734920:True:=⟨⟩
theorem tw4740210640687533194:True:=⟨⟩
theorem tw10822599124936794832:True:=⟨⟩
theorem tw7301152304185660462:True:=⟨⟩
theorem tw3336388897337021629:True:=⟨⟩
theorem tw4669519415449097927:True:=⟨⟩
theorem tw7570122854913526976:True:=⟨⟩
theorem tw17145713836899329798:True:=⟨⟩
theorem tw3796778870111281:True:=⟨⟩
theorem tw18372783089313107673:True:=⟨⟩
theorem tw17221091264748134648:True:=⟨⟩
theorem tw7964277129266833212:True:=⟨⟩
theorem tw2359470354322040938:True:=⟨⟩
theorem tw17392218808071535260:True:=⟨⟩
theorem tw16830990768405384683:True:=⟨⟩
theorem tw15655040870025245762:True:=⟨⟩
theorem tw245510343247872673:True:=⟨⟩
theorem tw5308420781299921331:True:=⟨⟩
theorem tw7902956935142924218:True:=⟨⟩
theorem tw16164695842912316820:True:=⟨⟩
theorem tw16329962250806306829:True:=⟨⟩
theorem tw1591071829448401656:True:=⟨⟩
theorem tw12084458720275012560:True:=⟨⟩
theorem tw14509880048293402100:True:=⟨⟩
theorem tw252931309915225167:True:=⟨⟩
end PySem.W.Fast
open PySem PySem.W PyProof.Rows
set_option maxRecDepth 100000 in
set_option maxHeartbeats 0 in
theorem PySem.Challenge.cw_drawnword_k19_drawings_belong_to_words_w_holds : PySem.Challenge.rw_drawnword_k19_drawings_belong_to_words_w.Holds := by
 w_on; o_law; k_head; (case hw=>w_witness2)
 k_fill
 refine L3.zu1 (l:=PySem.Challenge.rw_drawnword_k19_drawings_belong_to_words_w) (x:="_law_script") (k:=7) rfl rfl (by decide) (fun w h Y=>PySem.W.kIn_of Y) ?F
 case F=>
  intro w mg fa h KX G hmg
  refine' Dw.ztC KX G hmg (.mk ?_ ?_ ?_ ?_) (.mk ?_ ?_ ?_ ?_) (.mk ?_ ?_ ?_ ?_) (.mk ?_ ?_ ?_ ?_) (.mk ?_ ?_ ?_ ?_) (.mk ?_ ?_ ?_ ?_) (.mk ?_ ?_ ?_ ?_) (.mk ?_ ?_ ?_ ?_) (.mk ?_ ?_ ?_ ?_) (.mk ?_ ?_ ?_ ?_) (.mk ?_ ?_ ?_ ?_) (.mk ?_ ?_ ?_ ?_) (.mk ?_ ?_ ?_ ?_) (.mk ?_ ?_ ?_ ?_) (.mk ?_ ?_ ?_ ?_) (.mk ?_ ?_ ?_ ?_) (.mk ?_ ?_ ?_ ?_) (.mk ?_ ?_ ?_ ?_) (.mk ?_ ?_ ?_ ?_) (.mk ?_ ?_ ?_ ?_) (.mk ?_ ?_ ?_ ?_) (.mk ?_ ?_ ?_ ?_) (.mk ?_ ?_ ?_ ?_) (.mk ?_ ?_ ?_ ?_) (.mk ?_ ?_ ?_ ?_) (.mk ?_ ?_ ?_ ?_) (.mk ?_ ?_ ?_ ?_) (.mk ?_ ?_ ?_ ?_) (.mk ?_ ?_ ?_ ?_) (.mk ?_ ?_ ?_ ?_) (.mk ?_ ?_ ?_ ?_) (.mk ?_ ?_ ?_ ?_) ?_ ?_ ?_ ?_ ?_ ?_ ?_ ?_ ?_ ?_
  all_goals try k_is
